import PyProof.Rows.All
import Wide.All
import OpenK.AllK
import Wide.FinOn
import Lean
import PyProof.EqAt
import PyProof.EqKinds
import PyProof.TupleCall
import PyProof.ExcArgs
import KE.KSortAsk
import PySem.Str
import PyProof.EqLayable
import PyProof.Rows.EqDataRows
import PyProof.StrBlockI
import KE.KSortTup
import KE.KDictSum
import KE.KLam
import PyProof.StrLawsRepr
import PyProof.FString4
import PyProof.ListRange
import PyProof.StrOps2
import PyProof.DictItems
import KE.KPairComp
import KE.KIntText
import PyProof.Rows.StrIntSpec
import PySem.Challenge.RW_riverdue_k05_bad_years
set_option linter.all false
set_option maxRecDepth 100000
set_option maxHeartbeats 4000000
noncomputable section
open List renaming getElem?_cons_succ->aT,getElem?_cons_zero->aS,getElem?_eq_some_iff->bF,getElem?_map->bz,lookup_cons->bK,size_toArray->cf,map_cons->bS,replicate->cr,mem_cons->bW,mem_append_right->dH,mem_singleton->c6,mem_of_getElem?->dF,getElem?_append_left->fq,length_map->cY,mem_cons_of_mem->eY,range->cz,getElem?_set_self->fZ,set_cons_succ->eV,set_cons_zero->fe,mem_map->dl,length_cons->eQ,getElem?_set_ne->gF,map_map->dG,lookup->dB,mem_cons_self->gE,getElem?_eq_none->iD,getElem?_append_right->jw,getD_eq_getElem?_getD->jL,getElem?_range->hG,not_mem_nil->gA,mem_append->fY,map_congr_left->iB,mem_append_left->i7,length_append->iF,replicate_succ->i0,ext_getElem?->iK,nodup_append->iQ,getElem?_eq_none_iff->mQ,nodup_cons->iy,length_nil->iN,getElem?_replicate->mW,filter_cons_of_neg->ma,filter_cons_of_pos->l6,map_append->jc,take_of_length_le->mH,mem_iff_getElem?->my,pairwise_iff_getElem->qC,drop_eq_getElem_cons->rW,getElem?_of_mem->n8,flatten_cons->kZ,take_add_one->kH,all_cons->iR,length_take->kJ,forIn_nil->jN,zip_cons_cons->mj,find?_cons->kY,forIn_cons->lM,cons_lt_cons_iff->sv,mem_range->kQ,filter_eq_self->rE,mem_map_of_mem->qh,map_nil->jS,any_cons->km,foldl_cons->mF,nil_append->nj,eraseIdx_eq_take_drop_succ->AI,filter_cons->pX,drop_length->pG,all_eq_true->rM,cons_append->rg,filterMap_cons->tQ,of_mem_zip->oS,toList_toArray->vI,filter->lO,lookup_nil->sm,forIn_toArray->uZ,foldl_append->uI,length->oi,range'->lU,length_drop->u9,mem_filter->sJ,append_nil->tz,length_set->uq
open PySem.Str renaming ofString->aF
open PySem.Heap renaming get?_push_of_some->bv,lt_size->bc,get?_push_size->cR,get?_update_other->gj,get?_update_self->im,get?_none_of_le->i4,size_update->iI,get?_update_ne->kP,size_push->jr,SameBut->jJ
open Bool renaming false_ne_true->bT,false_eq_true->dh,and_eq_true->d8,not_true->k8,eq_iff_iff->o9
open Nat renaming le_refl->aY,lt_of_lt_of_le->cJ,le_trans->cF,ne_of_lt->cU,ne_of_gt->c9,zero_le->d9,lt_irrefl->g7,lt_succ_of_lt->lf,le_of_not_lt->kg,le_add_right->mV,le_of_lt->lK,lt_succ_self->qp,not_lt_zero->oH,lt_of_le_of_lt->u0,lt_or_gt_of_ne->uw,not_lt_of_le->sS,le_of_eq->qw,beq->jj
open PySem.F renaming excBase_ValueError->f8,plainAttrs_dict->uR,plainAttrs_list->uP,slot_dict_get->tF
open Option renaming isSome_iff_exists->kq,isSome_map->ud,map_some->sI
open Classical renaming propDecidable->mO
open Array renaming getElem?_eq_getElem->oO,length_toList->rA
open Int renaming emod_nonneg->mx,emod_lt_of_pos->vg
open PySem renaming Value->ag,Shared->ai,Addr->ae,Program->bf,World->aU,Around->bh,Expr->av,Stmt->aO,Heap->aG,Obj->az,FuncData->aW,sizeLine->aZ,rawInt->cw,model->aw,eval->aE,wpAny->aq,wpAny_bind->ak,wpAny_pure->aI,wpAny_mono->cn,starEach->aH,Paired->cx,compareOp->dm,mainGlobals->c8,wpAny_field->de
set_option Elab.async false
namespace L2
open PySem PySem.Spec PyProof.Rows
theorem bL{α β γ:Type}{p q r s:α->β->γ->Prop}{t:Prop}(e:∃a b c,p a b c/\q a b c/\r a b c/\s a b c)(f:∀a b c,p a b c->q a b c->r a b c->s a b c->t):t:=e.elim λa e=>e.elim λb e=>e.elim λc e=>f a b c e.1 e.2.1 e.2.2.1 e.2.2.2
theorem bo{α β:Type}{p q r:α->β->Prop}{t:Prop}(e:∃a b,p a b/\q a b/\r a b)(f:∀a b,p a b->q a b->r a b->t):t:=e.elim λa e=>e.elim λb e=>f a b e.1 e.2.1 e.2.2
abbrev Key:=Sum Int Str
def iV:Key->ag->Bool
 |.inl k,v=>Value.isInt k v
 |.inr x,v=>Value.isStrOf x v
def DS(w:aU):Key->Int
 |.inl k=>hashInt k
 |.inr x=>hashStr w x
theorem gM:∀{k:Key}{v:ag},iV k v=true->(∃i t,k=Sum.inl i/\v=Value.int i t)∨(∃x t,k=Sum.inr x/\v=Value.str x t)
 |.inl i,v,h=>by
   obtain⟨t,e⟩:=Value.isInt_shape (k:=i) (v:=v) h;exact .inl ⟨i,t,rfl,e⟩
 |.inr x,v,h=>by
   obtain⟨t,e⟩:=Value.isStrOf_shape (x:=x) (v:=v) h;exact .inr ⟨x,t,rfl,e⟩
theorem GU(i:Int)(t:Tok):iV (.inl i) (.int i t)=true:=by simp[iV,Value.isInt]
theorem F4(x:Str)(t:Tok):iV (.inr x) (.str x t)=true:=by simp[iV,Value.isStrOf]
theorem GP(a b:Int):decide ((Sum.inl a:Key)=Sum.inl b)=(a == b):=by
 by_cases e:a=b
 ·subst e;simp
 ·have h:¬(Sum.inl a:Key)=Sum.inl b:=λq=>e (Sum.inl.inj q);rw[decide_eq_false h];exact(beq_eq_false_iff_ne.mpr e).symm
theorem Hf(a b:Str):decide ((Sum.inr a:Key)=Sum.inr b)=decide (a=b):=by
 by_cases e:a=b
 ·subst e;simp
 ·have h:¬(Sum.inr a:Key)=Sum.inr b:=λq=>e (Sum.inr.inj q);rw[decide_eq_false h,decide_eq_false e]
theorem F6(a:Int)(b:Str):decide ((Sum.inl a:Key)=Sum.inr b)=false:=decide_eq_false (λq=>nomatch q)
theorem A1(a:Str)(b:Int):decide ((Sum.inr a:Key)=Sum.inl b)=false:=decide_eq_false (λq=>nomatch q)
def cg(prog:bf)(w:aU):PySem.KeyKind prog w Key where
 is:=iV
 hash:=DS w
 inj:=λv a b ha hb=>by
  rcases gM ha with⟨i,t,rfl,rfl⟩|⟨x,t,rfl,rfl⟩
  ·rcases gM hb with⟨j,u,rfl,e⟩|⟨y,u,rfl,e⟩
   ·injection e with e1 _;rw[e1]
   ·exact nomatch e
  ·rcases gM hb with⟨j,u,rfl,e⟩|⟨y,u,rfl,e⟩
   ·exact nomatch e
   ·injection e with e1 _;rw[e1]
 byValue:=λk v h=>by
  rcases gM h with⟨i,t,rfl,rfl⟩|⟨x,t,rfl,rfl⟩ <;> rfl
 pyHash:=λhv h=>by
  rcases gM hv with⟨i,t,rfl,rfl⟩|⟨x,t,rfl,rfl⟩
  ·exact wpAny_pyHash_int h
  ·exact wpAny_pyHash_str h
 eqBool:=λhu hv h=>by
  rcases gM hu with⟨i,t,rfl,rfl⟩|⟨x,t,rfl,rfl⟩
  ·rcases gM hv with⟨j,u,rfl,rfl⟩|⟨y,u,rfl,rfl⟩
   ·rw[GP]at h;exact wpAny_eqBool_int h
   ·rw[F6]at h;exact SeqAt.EqAt.int_str i t y u _ _ _ _ h
  ·rcases gM hv with⟨j,u,rfl,rfl⟩|⟨y,u,rfl,rfl⟩
   ·rw[A1]at h;exact SeqAt.EqAt.str_int x t j u _ _ _ _ h
   ·rw[Hf]at h;exact wpAny_eqBool_str h
 «strs»:=λk x t v h=>by
  rcases gM h with⟨i,u,rfl,e⟩|⟨y,u,rfl,e⟩
  ·exact nomatch e
  ·injection e with e1 _;subst e1;cases v <;> rfl
theorem Fk(prog:bf)(w:aU)(i:Int)(t:Tok):(cg prog w).is (.inl i) (.int i t)=true:=GU i t
theorem FH(prog:bf)(w:aU)(x:Str)(t:Tok):(cg prog w).is (.inr x) (.str x t)=true:=F4 x t
inductive V where
 |non|bl (b:Bool)|int (i:Int)|str (x:Str)|byt (b:Array UInt8)|flt (b:UInt64)|ref (a:ae)|ty (n:String)
 deriving DecidableEq
def aP:V->ag->Prop
 |.non,u=>u=Value.none
 |.bl b,u=>u=Value.bool b
 |.int i,u=>∃t,u=Value.int i t
 |.str x,u=>∃t,u=Value.str x t
 |.byt b,u=>∃t,u=Value.bytes b t
 |.flt b,u=>∃t,u=Value.float b t
 |.ref a,u=>u=Value.ref a
 |.ty n,u=>u=Value.type n
abbrev Vals:List V->List ag->Prop:=cx aP
theorem Vals.length{xs:List V}{us:List ag}(r:Vals xs us):xs.length=us.length:=Paired.length r
theorem Vals.get:∀{xs:List V}{us:List ag}{i:Nat}{x:V},Vals xs us->xs[i]?=some x->∃u,us[i]?=some u/\aP x u
 |_,_,_,_,.nil,e=>by simp at e
 |_,_,0,_,.cons r _,e=>by simp at e;subst e;exact⟨_,rfl,r⟩
 |_,_,i+1,x,.cons _ t,e=>by
   obtain⟨u,h1,h2⟩:=Vals.get (i:=i) (x:=x) t (by simpa using e);exact⟨u,by simpa using h1,h2⟩
theorem Vals.set{x:V}{u:ag}(r:aP x u):∀{xs:List V}{us:List ag}(i:Nat),Vals xs us->Vals (xs.set i x) (us.set i u)
 |_,_,_,.nil=>.nil
 |_,_,0,.cons _ t=>.cons r t
 |_,_,i+1,.cons q t=>.cons q (Vals.set r i t)
theorem Vals.append:∀{xs ys:List V}{us ws:List ag},Vals xs us->Vals ys ws->Vals (xs++ys) (us++ws)
 |_,_,_,_,.nil,s=>s
 |_,_,_,_,.cons r t,s=>.cons r (Vals.append t s)
theorem Vals.take:∀{xs:List V}{us:List ag}(n:Nat),Vals xs us->Vals (xs.take n) (us.take n)
 |_,_,0,_=>.nil
 |_,_,_+1,.nil=>.nil
 |_,_,n+1,.cons r t=>.cons r (Vals.take n t)
theorem Vals.drop:∀{xs:List V}{us:List ag}(n:Nat),Vals xs us->Vals (xs.drop n) (us.drop n)
 |_,_,0,r=>r
 |_,_,_+1,.nil=>.nil
 |_,_,n+1,.cons _ t=>Vals.drop n t
def dO:Option V->Option ag->Prop
 |some v,some u=>aP v u
 |none,none=>True
 |_,_=>False
def KV{κ:Type}:List (κ×V)->List (κ×ag)->Prop:=cx λ(p:κ×V) (q:κ×ag)=>p.1=q.1/\aP p.2 q.2
def kV:Key->V
 |.inl i=>.int i
 |.inr x=>.str x
inductive HO where
  |lst (xs:List V)
  |tup (xs:List V)
  |dK (kvs:List (Key×V))|dT (kvs:List (List Key×V))
  |set (S:Int->Bool) (n:Nat)
  |ins (C dx:ae) (fs:List (Str×V))
  |own (x:ae)
  |xd (fs:List (Str×V))
  |met (f x:ae)
  |rng (lo hi:Int)
  |frz (o:az) (u:HO)
  |tbl (ps:Array ag)
  |ext (φ:aG->Prop)
abbrev Hp:=ae->Option HO
def upd(H:Hp)(a:ae)(o:HO):Hp:=λb=>if b=a then some o else H b
theorem cG{H:Hp}{a:ae}{o:HO}:upd H a o a=some o:=by unfold upd;rw[if_pos rfl]
theorem aQ{H:Hp}{a b:ae}{o:HO}(h:b≠a):upd H a o b=H b:=by unfold upd;rw[if_neg h]
theorem EZ{H:Hp}{a b:ae}{o u:HO}(h:H a=some o)(h':H b=some u)(d:o≠u):a≠b:=by
 intro e;subst e;rw[h]at h';exact d (Option.some.inj h')
theorem di{H:Hp}{a b:ae}{o:HO}(h:H a=some o)(h':H b=none):a≠b:=by
 intro e;subst e;rw[h]at h';cases h'
section
variable (P:bf)(w:aU)
def bG(H:Hp)(h:aG)(a:ae):HO->Prop
 |.lst xs=>xs.length≤aZ/\∃(its:List ag) (n:Nat),Vals xs its/\h.get? a=some { cls:=.type "list",data:=.seq its.toArray n }
 |.tup xs=>xs.length≤aZ/\∃its:List ag,Vals xs its/\IsTup h a its.toArray
 |.dK kvs=>kvs.length≤aZ/\(a == sysModules)=false/\∃vs,KV kvs vs/\h.DictOf (cg P w) a vs
 |.dT kvs=>kvs.length≤aZ/\(a == sysModules)=false/\∃xs:List (List Key×ae×ag),
   cx (λ(p:List Key×V) (q:List Key×ae×ag)=>p.1=q.1/\H q.2.1=some (.tup (p.1.map kV))/\aP p.2 q.2.2) kvs xs /\
   ∃o es ep,h.get? a=some o/\o.ExactDict/\o.data=.dict es ep/\es.toList=xs.map (entryOfKey (tupleKind (cg P w)))/\(xs.map (·.1)).Nodup
 |.set S n=>h.SetOf (intKind P w) a S n
 |.ins C dx fs=>H dx=some (.own a)/\fs.length≤1000/\dx≠a/\h.get? a=some (PySem.W.instObj C dx) /\
   ∃mA,h.Ns1 dx mA/\(∀f,dO (fs.lookup f) (mA f))/\PySem.Within mA (fs.map (·.1))
 |.own _=>∃o,h.get? a=some o
 |.xd fs=>∃mA,h.Ns1 a mA/\∀f,dO (fs.lookup f) (mA f)
 |.rng lo hi=>∃t u v,h.get? a=some { cls:=.type "range",data:=.fields #[.int lo t,.int hi u,.int 1 v] }
 |.frz o u=>h.get? a=some o/\bG H h a u
 |.tbl ps=>h.get? a=some { cls:=.none,data:=.fields ps }
 |.met f x=>h.get? a=some (PySem.W.methodObj (.ref f) (.ref x))
 |.ext φ=>φ h/\(∃o,h.get? a=some o)/\∀h1 h2:aG,φ h1->(∀o,h1.get? a=some o->h2.get? a=some o)->φ h2
def HOk(H:Hp)(h:aG):Prop:=∀a o,H a=some o->bG P w H h a o
end
section
variable {P:bf}{w:aU}{H H':Hp}{h h':aG}{a:ae}{o:HO}
theorem bG.lt(x:bG P w H h a o):a<h.objs.size:=by
 cases o with
 |lst xs=>obtain⟨_,_,_,_,e⟩:=x;exact bc e
 |tup xs=>obtain⟨_,_,_,p⟩:=x;exact p.lt
 |dK kvs=>obtain⟨_,_,_,_,o,_,_,e,_⟩:=x;exact bc e
 |dT kvs=>obtain⟨_,_,_,_,o,_,_,e,_⟩:=x;exact bc e
 |set S n=>obtain⟨o,_,_,_,e,_⟩:=x;exact bc e
 |ins C dx fs=>obtain⟨_,_,_,e,_⟩:=x;exact bc e
 |own y=>obtain⟨_,e⟩:=x;exact bc e
 |xd fs=>obtain⟨_,⟨_,_,_,e,_⟩,_⟩:=x;exact bc e
 |rng lo hi=>obtain⟨_,_,_,e⟩:=x;exact bc e
 |frz ob u=>obtain⟨e,_⟩:=x;exact bc e
 |tbl ps=>exact bc (show h.get? a=some _ from x)
 |met f y=>exact bc (show h.get? a=some _ from x)
 |ext φ=>obtain⟨_,⟨_,e⟩,_⟩:=x;exact bc e
theorem Paired.mapP{α β:Type}{F G:α->β->Prop}:∀{l₁:List α}{l₂:List β},cx F l₁ l₂->(∀a b,F a b->G a b)->cx G l₁ l₂
 |_,_,.nil,_=>.nil
 |_,_,.cons r t,f=>.cons (f _ _ r) (Paired.mapP t f)
theorem Paired.imp'{α β:Type}{F G:α->β->Prop}(f:∀a b,F a b->G a b){l₁:List α}{l₂:List β}(r:cx F l₁ l₂):cx G l₁ l₂:=Paired.mapP r f
theorem bG.stay(x:bG P w H h a o)(k:∀b u,(b=a∨H b=some (.own a))->h.get? b=some u->h'.get? b=some u)
  (ho:∀b,H b=some (.own a)->H' b=some (.own a)) (ht:∀b xs,H b=some (.tup xs)->H' b=some (.tup xs)):bG P w H' h' a o:=by
 induction o with
 |lst xs=>obtain⟨z,its,n,r,e⟩:=x;exact⟨z,its,n,r,k _ _ (.inl rfl) e⟩
 |tup xs=>obtain⟨z,its,r,ob,e,c⟩:=x;exact⟨z,its,r,ob,k _ _ (.inl rfl) e,c⟩
 |dK kvs=>obtain⟨z,y,vs,r,ob,es,ep,e,c⟩:=x;exact⟨z,y,vs,r,ob,es,ep,k _ _ (.inl rfl) e,c⟩
 |dT kvs=>
   obtain⟨z,y,xs,r,ob,es,ep,e,c⟩:=x;exact⟨z,y,xs,Paired.mapP r λp q z=>⟨z.1,ht _ _ z.2.1,z.2.2⟩,ob,es,ep,k _ _ (.inl rfl) e,c⟩
 |set S n=>obtain⟨ob,es,ep,t,e,c⟩:=x;exact⟨ob,es,ep,t,k _ _ (.inl rfl) e,c⟩
 |ins C dx fs=>
   obtain⟨d,z,ne,e,mA,⟨od,es,ep,e2,c⟩,r⟩:=x;exact⟨ho _ d,z,ne,k _ _ (.inl rfl) e,mA,⟨od,es,ep,k _ _ (.inr d) e2,c⟩,r⟩
 |own y=>obtain⟨ob,e⟩:=x;exact⟨ob,k _ _ (.inl rfl) e⟩
 |xd fs=>obtain⟨mA,⟨od,es,ep,e,c⟩,r⟩:=x;exact⟨mA,⟨od,es,ep,k _ _ (.inl rfl) e,c⟩,r⟩
 |rng lo hi=>obtain⟨t,u,v,e⟩:=x;exact⟨t,u,v,k _ _ (.inl rfl) e⟩
 |frz ob u ih=>obtain⟨e,q⟩:=x;exact⟨k _ _ (.inl rfl) e,ih q⟩
 |tbl ps=>
   have e:h.get? a=some { cls:=.none,data:=.fields ps }:=x;show h'.get? a=some { cls:=.none,data:=.fields ps };exact k a _ (.inl rfl) e
 |met f y=>
   have e:h.get? a=some (PySem.W.methodObj (.ref f) (.ref y)):=x;show h'.get? a=some (PySem.W.methodObj (.ref f) (.ref y));exact k a _ (.inl rfl) e
 |ext φ=>obtain⟨p,⟨o,e⟩,st⟩:=x;exact⟨st _ _ p λo q=>k _ _ (.inl rfl) q,⟨o,k _ _ (.inl rfl) e⟩,st⟩
theorem HOk.lt(x:HOk P w H h)(e:H a=some o):a<h.objs.size:=(x a o e).lt
theorem HOk.fresh(x:HOk P w H h)(e:h.objs.size≤a):H a=none:=by
 cases q:H a with
 |none=>rfl
 |some u=>exact absurd (cJ (x.lt q) e) (g7 _)
theorem HOk.kept(x:HOk P w H h)(k:∀b u,h.get? b=some u->h'.get? b=some u):HOk P w H h':=λa o e=>
 (x a o e).stay (λb u _ q=>k b u q) (λ_ q=>q) λ_ _ q=>q
theorem HOk.laid(x:HOk P w H h)(k:∀b u,h.get? b=some u->h'.get? b=some u)(hp:h.objs.size≤a)(new:bG P w (upd H a o) h' a o):HOk P w (upd H a o) h':=λb u e=>by
 have hn:=x.fresh hp;by_cases hb:b=a
 ·subst hb;rw[cG]at e;cases e;exact new
 ·rw[aQ hb]at e;exact(x b u e).stay (λc v _ q=>k c v q) (λc q=>by rw[aQ (di q hn)];exact q) λc xs q=>by rw[aQ (di q hn)];exact q
end
def Rd(H:Hp)(a:ae)(u:HO):Prop:=H a=some u∨∃o,H a=some (.frz o u)
theorem Rd.ok{P:bf}{w:aU}{H:Hp}{h:aG}{a:ae}{u:HO}(r:Rd H a u)(x:HOk P w H h):bG P w H h a u:=by
 rcases r with r|⟨o,r⟩
 ·exact x a u r
 ·obtain⟨_,q⟩:=x a _ r;exact q
def Mut:Option HO->Prop
 |some (.lst _)=>True
 |some (.dK _)=>True
 |some (.dT _)=>True
 |some (.set _ _)=>True
 |some (.ins _ _ _)=>True
 |some (.ext _)=>True
 |_=>False
section
variable {P:bf}{w:aU}{H:Hp}{h h':aG}{x e:ae}{o':HO}
theorem HOk.write(ok:HOk P w H h)(mu:Mut (H x))(he:e=x∨H e=some (.own x))(k:∀b u,b≠e->h.get? b=some u->h'.get? b=some u)(heo:∃u,h'.get? e=some u)
  (new:bG P w (upd H x o') h' x o'):HOk P w (upd H x o') h':=λb u q=>by
 have nown:∀c y,H c=some (.own y)->c≠x:=λc y r z=>by subst z;rw[r]at mu;exact mu
 have ntup:∀c xs,H c=some (.tup xs)->c≠x:=λc xs r z=>by subst z;rw[r]at mu;exact mu
 by_cases hb:b=x
 ·subst hb;rw[cG]at q;cases q;exact new
 ·rw[aQ hb]at q;by_cases hbe:b=e
  ·have q':H b=some (.own x):=by
    rcases he with z|z
    ·exact absurd (hbe.trans z) hb
    ·rw[hbe];exact z
   rw[q]at q';cases q';obtain⟨v,hv⟩:=heo;exact⟨v,by rw[hbe];exact hv⟩
  ·refine(ok b u q).stay (λc v hc r=>k c v ?_ r) (λc r=>by rw[aQ (nown c b r)];exact r) λc xs r=>by rw[aQ (ntup c xs r)];exact r
   rcases hc with rfl|hc
   ·exact hbe
   ·rintro rfl;rcases he with z|z
    ·exact nown c b hc z
    ·rw[hc]at z;cases z;exact hb rfl
end
structure Un(fs ex:List ae)(H H':Hp)(h h':aG):Prop where
 keep:∀b o,h.get? b=some o->H b=none->b∉fs->b∉ex->h'.get? b=some o
 slot:∀b o,h.get? b=some o->H b=none->b∈fs->b∉ex->∃sl,h'.get? b=some { o with slots:=sl }
 free:∀b o,h.get? b=some o->H b=none->b∉ex->H' b=none
 there:∀b o,h.get? b=some o->b∉ex->∃o',h'.get? b=some o'
 tups:∀b xs,H b=some (.tup xs)->H' b=some (.tup xs)
 frzs:∀b o u,H b=some (.frz o u)->H' b=some (.frz o u)
 tbls:∀b ps,H b=some (.tbl ps)->∃more,H' b=some (.tbl (ps++more))
section
variable {fs fs' ex ex':List ae}{H H1 H2:Hp}{h h1 h2 h':aG}{a x e:ae}{o:HO}
theorem Un.any(u:Un fs ex H H1 h h1){b:ae}{ob:az}(q:h.get? b=some ob)(n:H b=none)(hx:b∉ex):∃sl,h1.get? b=some { ob with slots:=sl }:=by
 by_cases hb:b∈fs
 ·exact u.slot b ob q n hb hx
 ·exact⟨ob.slots,u.keep b ob q n hb hx⟩
theorem Un.kept(k:∀b u,h.get? b=some u->h'.get? b=some u):Un fs ex H H h h':=
 ⟨λb ob q _ _ _=>k b ob q,λb ob q _ _ _=>⟨ob.slots,k b ob q⟩,λ_ _ _ n _=>n,λb ob q _=>⟨ob,k b ob q⟩,λ_ _ q=>q,λ_ _ _ q=>q,λ_ ps q=>⟨#[],by rw[q];simp⟩⟩
theorem Un.refl:Un fs ex H H h h:=Un.kept λ_ _ q=>q
theorem Un.laid(k:∀b u,h.get? b=some u->h'.get? b=some u)(hp:h.objs.size≤a)(hn:H a=none):Un fs ex H (upd H a o) h h' where
 keep:=λb u q _ _ _=>k b u q
 slot:=λb u q _ _ _=>⟨u.slots,k b u q⟩
 free:=λb u q n _=>by rw[aQ (cU (cJ (bc q) hp))];exact n
 there:=λb u q _=>⟨u,k b u q⟩
 tups:=λb xs q=>by rw[aQ (di q hn)];exact q
 frzs:=λb u xs q=>by rw[aQ (di q hn)];exact q
 tbls:=λb ps q=>⟨#[],by rw[aQ (di q hn),q];simp⟩
theorem Un.write(mu:Mut (H x))(he:e=x∨H e=some (.own x))(k:∀b u,b≠e->h.get? b=some u->h'.get? b=some u)(heo:∃u,h'.get? e=some u):Un fs ex H (upd H x o) h h':=by
 have hx:∀b,H b=none->b≠x:=λb n z=>by subst z;rw[n]at mu;exact mu
 have hb:∀b,H b=none->b≠e:=λb n z=>by
  subst z;rcases he with r|r
  ·exact hx b n r
  ·rw[n]at r;cases r
 have hm:∀b u,H b=some u->¬Mut (some u)->b≠x:=λb u q nm z=>by subst z;rw[q]at mu;exact nm mu
 refine ⟨λb u q n _ _=>k b u (hb b n) q,λb u q n _ _=>⟨u.slots,k b u (hb b n) q⟩,λb u q n _=>by rw [aQ (hx b n)];exact n,λb u q _=>?_,
  λb xs q=>by rw [aQ (hm b _ q λz=>z)];exact q,λb u xs q=>by rw [aQ (hm b _ q λz=>z)];exact q,λb ps q=>⟨#[],by rw [aQ (hm b _ q λz=>z),q];simp⟩⟩
 by_cases hbe:b=e
 ·subst hbe;exact heo
 ·exact⟨u,k b u hbe q⟩
end
def trk(h:aG)(H:Hp):List ae:=(cz h.objs.size).filter λa=>(H a).isSome
def iq(h:aG)(H:Hp):aG:=PySem.W.hideAll h (trk h H)
theorem Dl(h:aG)(H:Hp):(iq h H).objs.size=h.objs.size:=PySem.W.hideAll_size _ _
theorem Ba{h:aG}{H:Hp}{b:ae}{o:az}(e:h.get? b=some o)(n:H b=none):(iq h H).get? b=some o:=
 PySem.W.hideAll_get _ e λhm=>by
  have q:(H b).isSome=true:=(sJ.mp hm).2;rw[n]at q;simp at q
theorem Gs{h:aG}{H:Hp}{b:ae}{o:az}(e:(iq h H).get? b=some o):h.get? b=some o/\H b=none:=by
 have e':h.get? b=some o:=PySem.W.of_hideAll (trk h H) e;refine⟨e',?_⟩;cases q:H b with
 |none=>rfl
 |some x=>
   have hm:b∈trk h H:=sJ.mpr ⟨kQ.mpr (bc e'),by simp[q]⟩;have z:(iq h H).get? b=none:=PySem.W.hideAll_none (trk h H) hm;rw[z]at e;cases e
structure Mod(K:PySem.W.Frag)(mg:Str->Option ag)(base:aG):Prop where
 kin:K.In base
 glob:base.Ns c8 mg
 blt:∃mb,base.Ns builtinsNs mb/\∀x:Str,x≠"__name__"->mb x=bootBuiltins x
 nolimit:base.NoLimit
structure Cx where
 prog:bf
 w:aU
 K:PySem.W.Frag
 mg:Str->Option ag
 base:aG
 A:bh
 N:List Str
 s₀:ai
 H₀:Hp
 env:Env
 outer:List Env
 stack:List Env
 ex:List ae
 fn:Str->Bool
 calm:Bool
 pn:List (ae×az)
 xe:ag->ai->Prop
def frs(l:List Env):List ae:=l.filterMap (·.frame)
abbrev Cx.fs(X:Cx):List ae:=frs X.outer
def Vis(sc:Scope)(x:Str):Prop:=sc.names.lookup x=some .local∨sc.names.lookup x=some .cell∨sc.names.lookup x=some .free
def Loc(sc:Scope)(x:Str):Prop:=sc.names.lookup x=some .local∨sc.names.lookup x=some .cell
def Look(env:Env)(h:aG)(m:Str->Option ag)(x:Str)(u:ag):Prop:=
 (env.kindOf x=some .local/\m x=some u)∨((env.kindOf x=some .cell∨env.kindOf x=some .free)/\∃c,env.cells.lookup x=some c/\h.IsCell c (some u))
structure Cx.Ok(X:Cx):Prop where
 mod:Mod X.K X.mg X.base
 kind:X.env.scope.kind=.function
 glob:X.env.globals=c8
 blt:X.env.builtins=builtinsNs
 above:X.s₀.heap.objs.size≤X.env.locals
 inj:∀x y c,X.env.cells.lookup x=some c->X.env.cells.lookup y=some c->x=y
 has:∀x,(X.env.kindOf x=some .cell∨X.env.kindOf x=some .free)->∃c,X.env.cells.lookup x=some c
 cab:∀x c,X.fn x=true->X.env.cells.lookup x=some c->X.s₀.heap.objs.size≤c
 hd:X.calm=true->X.A.handled=none
 frames:X.A.frames=some X.stack
 stk:X.stack=X.outer∨(X.stack=X.env::X.outer/\X.env.frame=some X.env.locals)
 exf:∀b∈X.ex,b≠X.env.locals/\∀x c,X.env.cells.lookup x=some c->c≠b
 bs:∀b o,X.base.get? b=some o->X.s₀.heap.get? b=some o/\X.H₀ b=none
 bsz:X.base.objs.size≤X.s₀.heap.objs.size
 noex:∀b o,X.base.get? b=some o->b∉X.ex
 exfs:∀b∈X.ex,b∉X.fs
 funs:X.s₀.heap.FunFrames X.base X.outer
 frf:∀b∈X.fs,X.H₀ b=none
structure Inv(X:Cx)(pins:List (ae×az))(σ:List (Option V))(H:Hp)(s:ai):Prop where
 ok:X.Ok
 os:s.os=X.s₀.os
 bare:AllBare s.gens
 base:Un X.fs X.ex X.H₀ H X.s₀.heap s.heap
 loc:∃m,s.heap.Ns X.env.locals m/\∀(i:Nat) (x:Str) (v:V),X.N[i]?=some x->σ[i]?=some (some v)->Vis X.env.scope x->∃u,aP v u/\Look X.env s.heap m x u
 cell:∀x c,X.env.cells.lookup x=some c->∃v,s.heap.IsCell c v
 free:H X.env.locals=none
 freeC:∀x c,X.env.cells.lookup x=some c->H c=none
 pin:∀p∈X.pn++pins,s.heap.get? p.1=some p.2/\H p.1=none/\p.1≠X.env.locals/\p.1∉X.fs/\∀v,p.2.data≠.cell v
 hok:HOk X.prog X.w H s.heap
 len:σ.length=X.N.length
section
variable {X:Cx}{pins:List (ae×az)}{σ:List (Option V)}{H H':Hp}{s:ai}{h':aG}
theorem Cx.Ok.nofr(ok:X.Ok){b:ae}{o:az}(e:X.base.get? b=some o):b∉X.fs:=λhb=>by
 have:=(ok.funs.mem hb).1;rw[e]at this;cases this
theorem Inv.bs(I:Inv X pins σ H s):∀b o,X.base.get? b=some o->s.heap.get? b=some o/\H b=none:=λb o e=>
 ⟨I.base.keep b o (I.ok.bs b o e).1 (I.ok.bs b o e).2 (I.ok.nofr e) (I.ok.noex b o e),I.base.free b o (I.ok.bs b o e).1 (I.ok.bs b o e).2 (I.ok.noex b o e)⟩
theorem Inv.bk(I:Inv X pins σ H s):∀b o,X.base.get? b=some o->s.heap.get? b=some o:=λb o e=>(I.bs b o e).1
theorem Inv.mod(I:Inv X pins σ H s):Mod X.K X.mg X.base:=I.ok.mod
theorem Inv.kIn(I:Inv X pins σ H s):X.K.In s.heap:=I.ok.mod.kin.keeps I.bk
theorem Inv.nolimit(I:Inv X pins σ H s):s.heap.NoLimit:=I.ok.mod.nolimit.keeps I.bk
theorem Inv.lt(I:Inv X pins σ H s):X.env.locals<s.heap.objs.size:=let ⟨_,hn,_⟩:=I.loc;hn.lt
theorem Inv.sz(I:Inv X pins σ H s):X.s₀.heap.objs.size≤s.heap.objs.size:=cF I.ok.above (lK I.lt)
theorem Inv.nofs(I:Inv X pins σ H s){a:ae}(h:s.heap.objs.size≤a):a∉X.fs:=λhb=>by
 obtain⟨_,o,ho,_⟩:=I.ok.funs.mem hb;exact absurd (cJ (bc ho) (cF I.sz h)) (g7 _)
theorem Inv.cne(I:Inv X pins σ H s):∀x c,X.env.cells.lookup x=some c->c≠X.env.locals:=λx c e z=>by
 obtain⟨v,o,ho,hd⟩:=I.cell x c e;obtain⟨m,⟨o',es,ep,ho',hd',_⟩,_⟩:=I.loc;rw[z,ho']at ho;cases ho;rw[hd']at hd;cases hd
theorem Inv.funs(I:Inv X pins σ H s):s.heap.FunFrames X.base X.outer:=by
 have all:∀(l:List Env),(∀b∈frs l,b∈X.fs)->X.s₀.heap.FunFrames X.base l->s.heap.FunFrames X.base l:=by
  intro l
  induction l with
  |nil=>intro _ _;trivial
  |cons env r ih=>
    intro hs hl;obtain⟨hk,⟨L,o,hf,hn,ho,hd⟩,hr⟩:=hl;have hL:L∈X.fs:=hs L (by unfold frs;rw[tQ,hf];exact gE);obtain⟨sl,e⟩:=I.base.slot L o ho (I.ok.frf L hL) hL λz=>I.ok.exfs L z hL;exact⟨hk,⟨L,_,hf,hn,e,hd⟩,ih (λb hb=>hs b (by unfold frs;rw[tQ,hf];exact eY _ hb)) hr⟩
 exact all X.outer (λ_ hb=>hb) I.ok.funs
theorem Inv.stack(I:Inv X pins σ H s):s.heap.FunFrames X.base X.stack:=by
 rcases I.ok.stk with e|⟨e,hf⟩
 ·rw[e];exact I.funs
 ·rw[e];obtain⟨m,hn,_⟩:=I.loc;refine .cons (by rw[I.ok.kind];decide) hf hn ?_ I.funs;exact i4 (cF I.ok.bsz I.ok.above)
theorem Inv.stkSub(I:Inv X pins σ H s):∀b∈frs X.stack,b∈X.env.locals::X.fs:=λb hb=>by
 rcases I.ok.stk with e|⟨e,hf⟩
 ·rw[e]at hb;exact eY _ hb
 ·rw[e]at hb;unfold frs at hb;rw[tQ,hf]at hb;exact hb
theorem Inv.stkFree(I:Inv X pins σ H s):∀b∈frs X.stack,H b=none:=λb hb=>by
 rcases bW.mp (I.stkSub b hb) with e|hb
 ·rw[e];exact I.free
 ·obtain⟨_,o,ho,_⟩:=I.ok.funs.mem hb;exact I.base.free b o ho (I.ok.frf b hb) λz=>I.ok.exfs b z hb
theorem Inv.step{g':Array GenState}{t':Nat}{d':Drawn}{ch:List ae}(I:Inv X pins σ H s)
  (hch:∀b∈ch,(b∈X.ex∨X.s₀.heap.objs.size≤b)/\b≠X.env.locals/\(∀x c,X.env.cells.lookup x=some c->c≠b)/\∀p∈X.pn++pins,p.1≠b)
  (keep:∀b o,b≠X.env.locals->b∉X.fs->b∉ch->s.heap.get? b=some o->H b=none->h'.get? b=some o)
  (slot:∀b o,b≠X.env.locals->b∈X.fs->b∉ch->s.heap.get? b=some o->H b=none->∃sl,h'.get? b=some { o with slots:=sl }) (free:∀b o,b∉ch->s.heap.get? b=some o->H b=none->H' b=none)
  (there:∀b o,b∉ch->s.heap.get? b=some o->∃o',h'.get? b=some o')
  (tups:∀b xs,H b=some (.tup xs)->H' b=some (.tup xs)) (frzs:∀b o u,H b=some (.frz o u)->H' b=some (.frz o u)) (tbls:∀b ps,H b=some (.tbl ps)->∃more,H' b=some (.tbl (ps++more)))
  (ns:∀m,s.heap.Ns X.env.locals m->h'.Ns X.env.locals m) (hok:HOk X.prog X.w H' h') (hg:AllBare g') :
  Inv X pins σ H' { s with heap:=h',gens:=g',drawn:=d',toks:=t' }:=by
 have neL:∀b o,X.s₀.heap.get? b=some o->b≠X.env.locals:=λb o e=>cU (cJ (bc e) I.ok.above);have neC:∀b o,X.s₀.heap.get? b=some o->b∉X.ex->b∉ch:=λb o e hx hb=>by
  rcases(hch b hb).1 with z|z
  ·exact hx z
  ·exact absurd (cJ (bc e) z) (g7 _)
 have cellK:∀x c,X.env.cells.lookup x=some c->∀v,s.heap.IsCell c v->h'.IsCell c v:=λx c e v e0=>e0.elim λo e1=>e1.elim λho hd=>by
  have nch:c∉ch:=λz=>(hch c z).2.2.1 x c e rfl;by_cases hc:c∈X.fs
  ·obtain⟨sl,q⟩:=slot c o (I.cne x c e) hc nch ho (I.freeC x c e);exact⟨_,q,hd⟩
  ·exact⟨o,keep c o (I.cne x c e) hc nch ho (I.freeC x c e),hd⟩
 refine⟨I.ok,I.os,hg,⟨λb o e n hb hx=>?_,λb o e n hb hx=>?_,λb o e n hx=>?_,λb o e hx=>?_,λb xs e=>tups b xs (I.base.tups b xs e),λb o xs e=>frzs b o xs (I.base.frzs b o xs e),λb ps e=>?_⟩,?_,λx c e=>?_,?_,λx c e=>?_,λp hp=>?_,hok,I.len⟩
 ·exact keep b o (neL b o e) hb (neC b o e hx) (I.base.keep b o e n hb hx) (I.base.free b o e n hx)
 ·obtain⟨sl,e1⟩:=I.base.slot b o e n hb hx;obtain⟨sl',e2⟩:=slot b _ (neL b o e) hb (neC b o e hx) e1 (I.base.free b o e n hx);exact⟨sl',e2⟩
 ·obtain⟨o',e1⟩:=I.base.there b o e hx;exact free b o' (neC b o e hx) e1 (I.base.free b o e n hx)
 ·obtain⟨o',e1⟩:=I.base.there b o e hx;exact there b o' (neC b o e hx) e1
 ·obtain⟨m1,e1⟩:=I.base.tbls b ps e;obtain⟨m2,e2⟩:=tbls b _ e1;exact⟨m1++m2,by rw[e2,Array.append_assoc]⟩
 ·obtain⟨m,hn,hl⟩:=I.loc;refine⟨m,ns m hn,λi x v e1 e2 e3=>?_⟩;obtain⟨u,r,l⟩:=hl i x v e1 e2 e3;refine⟨u,r,?_⟩;rcases l with l|⟨k,c,e,z⟩
  ·exact .inl l
  ·exact .inr ⟨k,c,e,cellK x c e _ z⟩
 ·obtain⟨v,z⟩:=I.cell x c e;exact⟨v,cellK x c e v z⟩
 ·obtain⟨m,⟨o,_,_,ho,_⟩,_⟩:=I.loc;exact free _ o (λz=>(hch _ z).2.1 rfl) ho I.free
 ·obtain⟨v,o,ho,hd⟩:=I.cell x c e;exact free c o (λz=>(hch c z).2.2.1 x c e rfl) ho (I.freeC x c e)
 ·obtain⟨e,n,ne,nf,d⟩:=I.pin p hp;have nch:p.1∉ch:=λz=>(hch p.1 z).2.2.2 p hp rfl;exact⟨keep p.1 p.2 ne nf nch e n,free p.1 p.2 nch e n,ne,nf,d⟩
theorem Inv.un{t':Nat}(I:Inv X pins σ H s)(u:Un X.fs [] H H' s.heap h')(hok:HOk X.prog X.w H' h'):Inv X pins σ H' { s with heap:=h',toks:=t' }:=by
 obtain⟨m,⟨o,es,ep,ho,r⟩,_⟩:=id I.loc;obtain⟨sl,hL⟩:=u.any ho I.free (by simp);exact I.step (g':=s.gens) (d':=s.drawn) (ch:=[]) (λ_ z=>nomatch z) (λb o _ hb _ e n=>u.keep b o e n hb (by simp)) (λb o _ hb _ e n=>u.slot b o e n hb (by simp)) (λb o _ e n=>u.free b o e n (by simp)) (λb o _ e=>u.there b o e (by simp)) u.tups u.frzs u.tbls (λm' hm=>by
  obtain ⟨o',es',ep',ho',r'⟩:=hm;rw [ho] at ho';cases ho';exact ⟨_,es',ep',hL,r'⟩) hok I.bare
theorem Inv.call{g':Array GenState}{t':Nat}{d':Drawn}{ch:List ae}(I:Inv X pins σ H s)(u:Un (frs X.stack) ch H H' s.heap h')(hok:HOk X.prog X.w H' h')(hg:AllBare g')
  (hch:∀b∈ch,(b∈X.ex∨X.s₀.heap.objs.size≤b)/\b≠X.env.locals/\(∀x c,X.env.cells.lookup x=some c->c≠b)/\∀p∈X.pn++pins,p.1≠b) :
  Inv X pins σ H' { s with heap:=h',gens:=g',drawn:=d',toks:=t' }:=by
 obtain ⟨m,⟨o,es,ep,ho,r⟩,_⟩:=id I.loc;obtain ⟨sl,hL⟩:=u.any ho I.free λz=>(hch _ z).2.1 rfl;exact I.step (ch:=ch) hch (λb o hL hb hc e n=>u.keep b o e n (λz=>(bW.mp (I.stkSub b z)).elim hL hb) hc) (λb o _ _ hc e n=>u.any e n hc) (λb o hc e n=>u.free b o e n hc) (λb o hc e=>u.there b o e hc) u.tups u.frzs u.tbls (λm' hm=>by
  obtain ⟨o',es',ep',ho',r'⟩:=hm;rw [ho] at ho';cases ho';exact ⟨_,es',ep',hL,r'⟩) hok hg
theorem Inv.turned{t':Nat}{it:ae}(I:Inv X pins σ H s)(k:∀b o,b≠it->s.heap.get? b=some o->h'.get? b=some o)(hn:H it=none)(hL:it≠X.env.locals)
  (h1:it∈X.ex∨X.s₀.heap.objs.size≤it) (h2:∀x c,X.env.cells.lookup x=some c->c≠it) (h3:∀p∈X.pn++pins,p.1≠it):Inv X pins σ H { s with heap:=h',toks:=t' }:=by
 have nit:∀b u,H b=some u->b≠it:=λb u e z=>by rw[z,hn]at e;cases e
 refine I.step (g':=s.gens) (d':=s.drawn) (ch:=[it]) (λb hb=>?_) (λb o _ _ hc e _=>k b o (λz=>hc (by simp[z])) e) (λb o _ _ hc e _=>⟨o.slots,k b o (λz=>hc (by simp[z])) e⟩) (λ_ _ _ _ n=>n)
  (λb o hc e=>⟨o,k b o (λz=>hc (by simp[z])) e⟩) (λ_ _ e=>e) (λ_ _ _ e=>e) (λb ps e=>⟨#[],by rw[e];simp⟩) (λm hm=>?_) (λb u e=>?_) I.bare
 ·have e:b=it:=by simpa using hb
  subst e;exact⟨h1,hL,h2,h3⟩
 ·obtain⟨o,es,ep,ho,r⟩:=hm;exact⟨o,es,ep,k _ o (Ne.symm hL) ho,r⟩
 ·refine(I.hok b u e).stay (λc v hc q=>k c v ?_ q) (λ_ q=>q) λ_ _ q=>q;rcases hc with z|z
  ·rw[z];exact nit b u e
  ·exact nit c _ z
theorem Inv.tok(I:Inv X pins σ H s)(t:Nat):Inv X pins σ H { s with toks:=t }:=I.un (h':=s.heap) (t':=t) Un.refl I.hok
theorem Inv.kept{t':Nat}(I:Inv X pins σ H s)(k:∀b u,s.heap.get? b=some u->h'.get? b=some u):Inv X pins σ H { s with heap:=h',toks:=t' }:=I.un (Un.kept k) (I.hok.kept k)
theorem Inv.laid{a:ae}{o:HO}{t':Nat}(I:Inv X pins σ H s)(k:∀b u,s.heap.get? b=some u->h'.get? b=some u)(hp:s.heap.objs.size≤a)(new:bG X.prog X.w (upd H a o) h' a o) :
  Inv X pins σ (upd H a o) { s with heap:=h',toks:=t' }:=I.un (Un.laid k hp (I.hok.fresh hp)) (I.hok.laid k hp new)
theorem Inv.write{x e:ae}{o:HO}{t':Nat}(I:Inv X pins σ H s)(mu:Mut (H x))(he:e=x∨H e=some (.own x))(k:∀b u,b≠e->s.heap.get? b=some u->h'.get? b=some u)(heo:∃u,h'.get? e=some u)
  (new:bG X.prog X.w (upd H x o) h' x o):Inv X pins σ (upd H x o) { s with heap:=h',toks:=t' }:=I.un (Un.write mu he k heo) (I.hok.write mu he k heo new)
theorem Inv.pins_of{pins':List (ae×az)}(I:Inv X pins σ H s)(h:∀p∈pins',s.heap.get? p.1=some p.2/\H p.1=none/\p.1≠X.env.locals/\p.1∉X.fs/\∀v,p.2.data≠.cell v):Inv X pins' σ H s:=
 ⟨I.ok,I.os,I.bare,I.base,I.loc,I.cell,I.free,I.freeC,λp hp=>(fY.mp hp).elim (λz=>I.pin p (i7 _ z)) (h p),I.hok,I.len⟩
theorem wP{N:List Str}(hN:N.Nodup){i j:Nat}{x:Str}(a:N[i]?=some x)(b:N[j]?=some x):i=j:=by
 obtain⟨h1,e1⟩:=bF.mp a;obtain⟨h2,e2⟩:=bF.mp b;exact(List.getElem_inj hN).mp (e1.trans e2.symm)
theorem CS{M:Model}{A:bh}{E:ag->ai->Prop}{i:Nat}{x:Str}{v:V}{u:ag}{Q:Unit->ai->Prop}(I:Inv X pins σ H s)(hN:X.N.Nodup)(hi:X.N[i]?=some x)(hx:Loc X.env.scope x)(r:aP v u)
  (h:∀s',Inv X pins (σ.set i (some v)) H s'->(∃a,jJ a s.heap s'.heap/\(a=X.env.locals∨X.env.cells.lookup x=some a))->Q () s') (hf:X.fn x=true∨X.env.scope.names.lookup x=some .local:=by first|exact .inl rfl|exact .inr rfl|assumption):aq M A (storeName X.env x u) Q E s:=by
 obtain⟨m,hn,hl⟩:=id I.loc;have hcls:(X.env.scope.kind == .class||(X.env.scope.kind == .module&&X.env.locals != X.env.globals))=false:=by rw[I.ok.kind];rfl
 have hiσ:i<σ.length:=by rw[I.len];exact(bF.mp hi).1
 have cne:=I.cne;have tracked:∀{a:ae}{h':aG},(∃o,s.heap.get? a=some o/\H a=none)->jJ a s.heap h'->HOk X.prog X.w H h':=λ{a h'} ha hs b ob e=>by
  obtain⟨_,_,hfree⟩:=ha;refine(I.hok b ob e).stay (λc w' hc q=>(hs.2 c ?_).trans q) (λ_ q=>q) λ_ _ q=>q;rintro rfl;rcases hc with rfl|hc
  ·rw[hfree]at e;cases e
  ·rw[hfree]at hc;cases hc
 rcases hx with hk|hk
 ·refine wpAny_storeName_local hk hn (λh' hn' hs=>?_) hcls;obtain⟨oL,_,_,hoL,_⟩:=id hn;refine h _ ⟨I.ok,I.os,I.bare,⟨λb o e n hb hx=>?_,λb o e n hb hx=>?_,I.base.free,λb o e hx=>?_,I.base.tups,I.base.frzs,I.base.tbls⟩,⟨_,hn',λj y v' e1 e2 e3=>?_⟩,λy c e=>?_,I.free,I.freeC,λp hp=>?_,tracked ⟨oL,hoL,I.free⟩ hs,by simpa using I.len⟩ ⟨_,hs,.inl rfl⟩
  ·exact(hs.2 b (cU (cJ (bc e) I.ok.above))).trans (I.base.keep b o e n hb hx)
  ·obtain⟨sl,e1⟩:=I.base.slot b o e n hb hx;exact⟨sl,(hs.2 b (cU (cJ (bc e) I.ok.above))).trans e1⟩
  ·obtain⟨o',e1⟩:=I.base.there b o e hx;exact⟨o',(hs.2 b (cU (cJ (bc e) I.ok.above))).trans e1⟩
  ·by_cases hj:j=i
   ·subst hj;rw[hi]at e1;cases e1;rw[fZ hiσ]at e2;cases e2;exact⟨u,r,.inl ⟨hk,by simp⟩⟩
   ·rw[gF (Ne.symm hj)]at e2;obtain⟨u',r',q⟩:=hl j y v' e1 e2 e3;refine⟨u',r',?_⟩;rcases q with⟨k,e⟩|⟨k,c,e,z⟩
    ·refine .inl ⟨k,?_⟩;have:y≠x:=λe=>hj (wP hN e1 (e▸hi));simp[this,e]
    ·exact .inr ⟨k,c,e,z.sameBut hs (cne y c e)⟩
  ·obtain⟨w',z⟩:=I.cell y c e;exact⟨w',z.sameBut hs (cne y c e)⟩
  ·obtain⟨e,n,ne,nf,d⟩:=I.pin p hp;exact⟨(hs.2 p.1 ne).trans e,n,ne,nf,d⟩
 ·have hfn:X.fn x=true:=by
   rcases hf with z|z
   ·exact z
   ·rw[z]at hk;cases hk
  obtain⟨c,hc⟩:=I.ok.has x (.inl hk);obtain⟨w',z⟩:=I.cell x c hc;refine wpAny_storeName_cell I.ok.kind hk hc z (λh' hc' hs=>?_);obtain⟨oc,hoc,hocd⟩:=id z;refine h { s with heap:=h' } ⟨I.ok,I.os,I.bare,⟨λb o e n hb hx=>?_,λb o e n hb hx=>?_,I.base.free,λb o e hx=>?_,I.base.tups,I.base.frzs,I.base.tbls⟩,⟨m,hn.sameBut hs (Ne.symm (cne x c hc)),λj y v' e1 e2 e3=>?_⟩,λy c' e=>?_,I.free,I.freeC,λp hp=>?_,tracked ⟨oc,hoc,I.freeC x c hc⟩ hs,by simpa using I.len⟩ ⟨c,hs,.inr hc⟩
  ·exact(hs.2 b (cU (cJ (bc e) (I.ok.cab x c hfn hc)))).trans (I.base.keep b o e n hb hx)
  ·obtain⟨sl,e1⟩:=I.base.slot b o e n hb hx;exact⟨sl,(hs.2 b (cU (cJ (bc e) (I.ok.cab x c hfn hc)))).trans e1⟩
  ·obtain⟨o',e1⟩:=I.base.there b o e hx;exact⟨o',(hs.2 b (cU (cJ (bc e) (I.ok.cab x c hfn hc)))).trans e1⟩
  ·by_cases hj:j=i
   ·subst hj;rw[hi]at e1;cases e1;rw[fZ hiσ]at e2;cases e2;exact⟨u,r,.inr ⟨.inl hk,c,hc,hc'⟩⟩
   ·rw[gF (Ne.symm hj)]at e2;obtain⟨u',r',q⟩:=hl j y v' e1 e2 e3;refine⟨u',r',?_⟩;rcases q with q|⟨k,c',e,z'⟩
    ·exact .inl q
    ·refine .inr ⟨k,c',e,z'.sameBut hs ?_⟩;rintro rfl;exact hj (wP hN e1 (I.ok.inj _ _ _ e hc▸hi))
  ·by_cases hcc:c'=c
   ·subst hcc;exact⟨_,hc'⟩
   ·obtain⟨w2,z2⟩:=I.cell y c' e;exact⟨w2,z2.sameBut hs hcc⟩
  ·obtain⟨e,n,ne,nf,d⟩:=I.pin p hp;refine⟨(hs.2 p.1 ?_).trans e,n,ne,nf,d⟩;intro q;rw[q,hoc]at e;have q':oc=p.2:=Option.some.inj e;exact d w' (by rw[←q'];exact hocd)
theorem qJ{M:Model}{A:bh}{E:ag->ai->Prop}{i:Nat}{x:Str}{v:V}{u:ag}{Q:Unit->ai->Prop}(I:Inv X pins σ H s)(hN:X.N.Nodup)(hi:X.N[i]?=some x)(hx:Loc X.env.scope x)(r:aP v u)
  (h:∀s',Inv X pins (σ.set i (some v)) H s'->Q () s') (hf:X.fn x=true∨X.env.scope.names.lookup x=some .local:=by first|exact .inl rfl|exact .inr rfl|assumption):aq M A (storeName X.env x u) Q E s:=
 CS I hN hi hx r (λs' I' _=>h s' I') hf
theorem Inv.call'{s':ai}{ch:List ae}(I:Inv X pins σ H s)(ho:s'.os=s.os)(u:Un (frs X.stack) ch H H' s.heap s'.heap)(hok:HOk X.prog X.w H' s'.heap)(hg:AllBare s'.gens)
  (hch:∀b∈ch,(b∈X.ex∨X.s₀.heap.objs.size≤b)/\b≠X.env.locals/\(∀x c,X.env.cells.lookup x=some c->c≠b)/\∀p∈X.pn++pins,p.1≠b):Inv X pins σ H' s':=by
 obtain⟨h',g',d',t',o'⟩:=s';have e:o'=s.os:=ho;subst e;exact I.call (g':=g') (t':=t') (d':=d') u hok hg hch
end
abbrev XK:=ag->Option ae->Hp->Prop
abbrev St:=List (Option V)
abbrev VK:=V->Hp->Prop
abbrev TE:=St->Hp->VK->Prop
abbrev TT:=St->Hp->(Bool->Hp->Prop)->Prop
abbrev TA:=St->Hp->(List V->Hp->Prop)->Prop
structure Ends where
 nx:St->Hp->Prop
 rt:VK
 bk:St->Hp->Prop:=λ_ _=>False
 ct:St->Hp->Prop:=λ_ _=>False
abbrev TS:=Ends->St->Hp->Prop
def EP(X:Cx)(pins:List (ae×az))(σ:St)(Q:VK)(u:ag)(s':ai):Prop:=∃v H',Inv X pins σ H' s'/\aP v u/\Q v H'
def TP(X:Cx)(pins:List (ae×az))(σ:St)(Q:Bool->Hp->Prop)(b:Bool)(s':ai):Prop:=∃H',Inv X pins σ H' s'/\Q b H'
def AP(X:Cx)(pins:List (ae×az))(σ:St)(Q:List V->Hp->Prop)(us:List ag)(s':ai):Prop:=∃vs H',Inv X pins σ H' s'/\Vals vs us/\Q vs H'
def SP(X:Cx)(pins:List (ae×az))(D:Ends)(f:Flow)(s':ai):Prop:=
 match f with
 |.next=>∃σ' H',Inv X pins σ' H' s'/\D.nx σ' H'
 |.brk=>∃σ' H',Inv X pins σ' H' s'/\D.bk σ' H'
 |.cont=>∃σ' H',Inv X pins σ' H' s'/\D.ct σ' H'
 |.ret u=>∃v σ' H',Inv X pins σ' H' s'/\aP v u/\D.rt v H'
def PE(X:Cx)(e:av)(t:TE):Prop:=
 ∀(pins:List (ae×az)) (s:ai) (σ:St) (H:Hp) (Q:VK),Inv X pins σ H s->t σ H Q->aq (aw X.prog X.w) X.A (aE e X.env) (EP X pins σ Q) X.xe s
def PT(X:Cx)(e:av)(t:TT):Prop:=
 ∀(pins:List (ae×az)) (s:ai) (σ:St) (H:Hp) (Q:Bool->Hp->Prop),Inv X pins σ H s->t σ H Q->aq (aw X.prog X.w) X.A (isTrue e X.env (aE e X.env)) (TP X pins σ Q) X.xe s
def PW(X:Cx)(e:av)(t:TT):Prop:=
 ∀(whole:Sem ag) (pins:List (ae×az)) (s:ai) (σ:St) (H:Hp) (Q:Bool->Hp->Prop),Inv X pins σ H s->t σ H Q->aq (aw X.prog X.w) X.A (isTrue e X.env whole) (TP X pins σ Q) X.xe s
theorem PW.pt{X:Cx}{e:av}{t:TT}(h:PW X e t):PT X e t:=h _
def PA(X:Cx)(es:List av)(t:TA):Prop:=
 ∀(pos:Pos) (pins:List (ae×az)) (s:ai) (σ:St) (H:Hp) (Q:List V->Hp->Prop),Inv X pins σ H s->t σ H Q->aq (aw X.prog X.w) X.A (spliced (backTo pos (aH es X.env))) (AP X pins σ Q) X.xe s
def PS(X:Cx)(st:aO)(t:TS):Prop:=
 ∀(pins:List (ae×az)) (s:ai) (σ:St) (H:Hp) (D:Ends),Inv X pins σ H s->t D σ H->aq (aw X.prog X.w) X.A (exec st X.env) (SP X pins D) X.xe s
def PSs(X:Cx)(st:List aO)(t:TS):Prop:=
 ∀(pins:List (ae×az)) (s:ai) (σ:St) (H:Hp) (D:Ends),Inv X pins σ H s->t D σ H->aq (aw X.prog X.w) X.A (execs st X.env) (SP X pins D) X.xe s
theorem thn{α:Type}{t:Sem α}{Q Q':α->ai->Prop}{M:Model}{A:bh}{E:ag->ai->Prop}{s:ai}(h:aq M A t Q E s)(hQ:∀a s,Q a s->Q' a s):aq M A t Q' E s:=cn h hQ λ_ _ x=>x
section
variable {X:Cx}
def DF(i:Nat):TE:=λσ H Q=>∃v,σ[i]?=some (some v)/\Q v H
def tC(v:V):TE:=λ_ H Q=>Q v H
theorem AZ{i:Nat}{x:Str}{pos:Pos}(hN:X.N[i]?=some x)(hv:Vis X.env.scope x)(hd:(x == ("__debug__":Str))=false:=by decide)(hcd:(x == ("__classdict__":Str))=false:=by decide):PE X (.Name x pos) (DF i):=by
 intro pins s σ H Q I h;obtain⟨v,e,h⟩:=h;obtain⟨m,hn,hl⟩:=I.loc;obtain⟨u,r,l⟩:=hl i x v hN e hv;have fin:EP X pins σ Q u s:=⟨v,H,I,r,h⟩;rcases l with⟨hk,hm⟩|⟨hk,c,hc,hcell⟩
 ·exact wpAny_Name (wpAny_loadName_local I.ok.kind hk hn hm fin) hd
 ·rcases hk with hk|hk
  ·exact wpAny_Name (wpAny_loadName_cell I.ok.kind hk hc hcell fin) hd
  ·exact wpAny_Name (wpAny_loadName_free I.ok.kind hk hc hcell fin hcd) hd
theorem yp{i j pos}:PE X (.Constant (.int i) j pos) (tC (.int i)):=λ_ _ _ H _ I h=>wpAny_Constant_int ⟨.int i,H,I.tok _,⟨_,rfl⟩,h⟩
theorem DN{b j pos}:PE X (.Constant (.bool b) j pos) (tC (.bl b)):=λ_ _ _ H _ I h=>Constant_bool ⟨.bl b,H,I,rfl,h⟩
theorem uV{j pos}:PE X (.Constant .none j pos) (tC .non):=λ_ _ _ H _ I h=>Constant_none ⟨.non,H,I,rfl,h⟩
theorem wL{x j pos}:PE X (.Constant (.str x) j pos) (tC (.str x)):=λ_ _ _ H _ I h=>Calls.Constant_str ⟨.str x,H,I.tok _,⟨_,rfl⟩,h⟩
def Gl(X:Cx)(x:Str):Prop:=X.env.kindOf x=some .globalImplicit
theorem kB{E:ag->ai->Prop}{pins:List (ae×az)}{s:ai}{σ:St}{H:Hp}{x:Str}{u:ag}{pos:Pos}{Q:ag->ai->Prop}(I:Inv X pins σ H s)(hg:Gl X x)(hm:X.mg x=some u)(h:Q u s)
  (hd:(x == ("__debug__":Str))=false:=by decide):aq (aw X.prog X.w) X.A (aE (.Name x pos) X.env) Q E s:=
 Calls.Name_function_global I.ok.kind hg (Calls.loadGlobal_global (by rw[I.ok.glob];exact I.mod.glob.keeps I.bk) hm h) hd
theorem hV{E:ag->ai->Prop}{pins:List (ae×az)}{s:ai}{σ:St}{H:Hp}{x:Str}{u:ag}{pos:Pos}{Q:ag->ai->Prop}(I:Inv X pins σ H s)(hg:Gl X x)(hm:X.mg x=none)(hv:bootBuiltins x=some u)(h:Q u s)
  (hn:x≠"__name__":=by decide) (hd:(x == ("__debug__":Str))=false:=by decide):aq (aw X.prog X.w) X.A (aE (.Name x pos) X.env) Q E s:=by
 obtain⟨mb,h1,h2⟩:=I.mod.blt;exact Calls.Name_function_global I.ok.kind hg (Calls.loadGlobal_builtin (by rw[I.ok.glob];exact I.mod.glob.keeps I.bk) hm (by rw[I.ok.blt];exact h1.keeps I.bk) ((h2 x hn).trans hv) h) hd
theorem sP{x:Str}{v:V}{u:ag}{pos:Pos}(hg:Gl X x)(hm:X.mg x=some u)(r:aP v u)(hd:(x == ("__debug__":Str))=false:=by decide):PE X (.Name x pos) (tC v):=
 λ_ _ _ H _ I h=>kB I hg hm ⟨v,H,I,r,h⟩ hd
variable {a b:av}{ta tb:TE}{pos:Pos}
def tB(t:TE):TT:=λσ H Q=>t σ H λx H1=>∃c,x=.bl c/\Q c H1
theorem He{e:av}{t:TE}(h:PE X e t)(he:∀whole,isTrue e X.env whole=(do let v ←whole;standAt e.pos;holding [v] (truthy v)):=by intro _;rfl):PT X e (tB t):=by
 intro pins s σ H Q I hw;refine isTrue_plain (thn (h pins s σ H _ I hw) λv s1 e0=>bo e0 λx H1 I1 r1 q1=>?_) (he _);obtain⟨d,rfl,q⟩:=q1;cases r1;exact wpAny_truthy_bool ⟨H1,I1,q⟩
variable {tA tB':TT}{rest:List av}
def C5(t u:TT):TT:=λσ H Q=>t σ H λc H1=>if c=true then u σ H1 Q else Q false H1
def tOr(t u:TT):TT:=λσ H Q=>t σ H λc H1=>if c=true then Q true H1 else u σ H1 Q
def Ff(t:TT):TT:=λσ H Q=>t σ H λc H1=>Q (!c) H1
theorem Hx(ha:PT X a tA):PW X (.BoolOp .And [a] pos) tA:=by
 intro wh pins s σ H Q I h;refine isTrue_and (thn (ha pins s σ H Q I h) λc s1 e=>?_);cases c with
 |true=>exact isTrue_and_nil e
 |false=>exact e
theorem Eb(ha:PT X a tA):PW X (.BoolOp .Or [a] pos) tA:=by
 intro wh pins s σ H Q I h;refine isTrue_or (thn (ha pins s σ H Q I h) λc s1 e=>?_);cases c with
 |false=>exact isTrue_or_nil e
 |true=>exact e
theorem Ga(ha:PT X a tA)(hb:PW X (.BoolOp .And (b::rest) pos) tB'):PW X (.BoolOp .And (a::b::rest) pos) (C5 tA tB'):=by
 intro wh pins s σ H Q I h;refine isTrue_and (thn (ha pins s σ H _ I h) λc s1 e0=>e0.elim λH1 e1=>e1.elim λI1 q1=>?_);cases c with
 |true=>exact hb wh pins s1 σ H1 Q I1 q1
 |false=>exact⟨H1,I1,q1⟩
theorem CW(ha:PT X a tA)(hb:PW X (.BoolOp .Or (b::rest) pos) tB'):PW X (.BoolOp .Or (a::b::rest) pos) (tOr tA tB'):=by
 intro wh pins s σ H Q I h;refine isTrue_or (thn (ha pins s σ H _ I h) λc s1 e0=>e0.elim λH1 e1=>e1.elim λI1 q1=>?_);cases c with
 |true=>exact⟨H1,I1,q1⟩
 |false=>exact hb wh pins s1 σ H1 Q I1 q1
theorem En(ha:PT X a tA):PT X (.UnaryOp .Not a pos) (Ff tA):=by
 intro pins s σ H Q I h;exact isTrue_not (ha pins s σ H (λc H1=>Q (!c) H1) I h)
def BY(ta tb:TE):TE:=λσ H Q=>ta σ H λx H1=>∃c,x=.bl c/\if c=true then tb σ H1 Q else Q (.bl false) H1
def Cv(ta:TE):TE:=λσ H Q=>ta σ H λx H1=>∃c,x=.bl c/\Q (.bl (!c)) H1
theorem FN{op}{t:TE}(h:PE X a t):PE X (.BoolOp op [a] pos) t:=λpins s σ H Q I hw=>BoolOp_one (h pins s σ H Q I hw)
theorem Go(ha:PE X a ta)(hb:PE X (.BoolOp .And (b::rest) pos) tb):PE X (.BoolOp .And (a::b::rest) pos) (BY ta tb):=by
 intro pins s σ H Q I h;refine BoolOp_and (thn (ha pins s σ H _ I h) λv s1 e0=>bo e0 λx H1 I1 r1 q1=>?_);obtain⟨c,rfl,q1⟩:=q1;cases r1;refine wpAny_truthy_bool ?_;cases c with
 |true=>exact hb pins s1 σ H1 Q I1 q1
 |false=>exact⟨.bl false,H1,I1,rfl,q1⟩
theorem Cg(ha:PE X a ta):PE X (.UnaryOp .Not a pos) (Cv ta):=by
 intro pins s σ H Q I h;refine UnaryOp_ (thn (ha pins s σ H _ I h) λv s1 e0=>bo e0 λx H1 I1 r1 q1=>?_);obtain⟨c,rfl,q1⟩:=q1;cases r1;exact not_of (wpAny_truthy_bool ⟨.bl (!c),H1,I1,rfl,q1⟩)
end
def SqL(K:PySem.W.Frag)(H:Hp)(a:ae)(xs:List V):Prop:=
 Rd H a (.lst xs) ∨
  ∃(o:az) (its:Array ag) (n:Nat),K.lookup a=some o/\o.cls=.type "list"/\o.dict=none/\o.data=.seq its n/\its.size≤aZ/\Vals xs its.toList
def SqT(K:PySem.W.Frag)(H:Hp)(a:ae)(xs:List V):Prop:=
 Rd H a (.tup xs) ∨
  ∃(o:az) (its:Array ag) (n:Nat),K.lookup a=some o/\o.cls=.type "tuple"/\o.data=.seq its n/\its.size≤aZ/\Vals xs its.toList
def EE:ag->Option V
 |.none=>some .non
 |.bool b=>some (.bl b)
 |.int i _=>some (.int i)
 |.str x _=>some (.str x)
 |.bytes b _=>some (.byt b)
 |.float b _=>some (.flt b)
 |.ref a=>some (.ref a)
 |.type n=>some (.ty n)
 |_=>none
theorem aP.abs{x:V}{u:ag}(r:aP x u):EE u=some x:=by
 cases x with
 |non=>cases r;rfl
 |bl _=>cases r;rfl
 |int _=>obtain⟨t,rfl⟩:=r;rfl
 |str _=>obtain⟨t,rfl⟩:=r;rfl
 |byt _=>obtain⟨t,rfl⟩:=r;rfl
 |flt _=>obtain⟨t,rfl⟩:=r;rfl
 |ref _=>cases r;rfl
 |ty _=>cases r;rfl
theorem aP.inj{x y:V}{u:ag}(r:aP x u)(q:aP y u):x=y:=Option.some.inj (r.abs.symm.trans q.abs)
theorem Vals.inj:∀{xs ys:List V}{us:List ag},Vals xs us->Vals ys us->xs=ys
 |_,_,_,.nil,.nil=>rfl
 |_,_,_,.cons r t,.cons r' t'=>by rw[r.inj r',Vals.inj t t']
section
variable {X:Cx}{pins:List (ae×az)}{σ:St}{H:Hp}{s:ai}{a:ae}{xs ys:List V}
theorem SqL.of{K:PySem.W.Frag}(h:H a=some (.lst xs)):SqL K H a xs:=.inl (.inl h)
theorem SqT.of{K:PySem.W.Frag}(h:H a=some (.tup xs)):SqT K H a xs:=.inl (.inl h)
theorem Inv.list(I:Inv X pins σ H s)(h:SqL X.K H a xs):∃its:List ag,Vals xs its/\PlainL s.heap a its.toArray/\xs.length≤aZ:=by
 rcases h with h|⟨o,its,n,hk,hc,hd,hs,hz,r⟩
 ·obtain⟨z,its,n,r,e⟩:=h.ok I.hok;exact⟨its,r,⟨_,n,e,rfl,rfl,rfl⟩,z⟩
 ·refine⟨its.toList,r,⟨o,n,I.kIn a o hk,hc,hd,by simpa using hs⟩,?_⟩;have e:=r.length;simp only[rA]at e;lia
theorem Inv.tuple(I:Inv X pins σ H s)(h:SqT X.K H a xs):∃its:List ag,Vals xs its/\IsTup s.heap a its.toArray/\xs.length≤aZ:=by
 rcases h with h|⟨o,its,n,hk,hc,hs,hz,r⟩
 ·obtain⟨z,its,r,p⟩:=h.ok I.hok;exact⟨its,r,p,z⟩
 ·refine⟨its.toList,r,⟨o,I.kIn a o hk,hc,n,by simpa using hs⟩,?_⟩;have e:=r.length;simp only[rA]at e;lia
theorem Inv.list_inj(I:Inv X pins σ H s)(h:SqL X.K H a xs)(h':SqL X.K H a ys):xs=ys:=by
 obtain⟨its,r,⟨o,n,e,_,_,d⟩,_⟩:=I.list h;obtain⟨its',r',⟨o',n',e',_,_,d'⟩,_⟩:=I.list h';rw[e]at e';cases e';rw[d]at d';injection d' with d1 _;have:its=its':=by simpa using congrArg Array.toList d1
 subst this;exact r.inj r'
end
abbrev Cx.wish(X:Cx)(E:ag->ai->Prop):Cx:={ X with xe:=E }
theorem Cx.Ok.wish{X:Cx}(ok:X.Ok)(E:ag->ai->Prop):(X.wish E).Ok:=
 ⟨ok.mod,ok.kind,ok.glob,ok.blt,ok.above,ok.inj,ok.has,ok.cab,ok.hd,ok.frames,ok.stk,ok.exf,ok.bs,ok.bsz,ok.noex,ok.exfs,ok.funs,ok.frf⟩
theorem Cx.Ok.unwish{X:Cx}{E:ag->ai->Prop}(ok:(X.wish E).Ok):X.Ok:=
 ⟨ok.mod,ok.kind,ok.glob,ok.blt,ok.above,ok.inj,ok.has,ok.cab,ok.hd,ok.frames,ok.stk,ok.exf,ok.bs,ok.bsz,ok.noex,ok.exfs,ok.funs,ok.frf⟩
section
variable {X:Cx}{pins:List (ae×az)}{σ:St}{H:Hp}{s:ai}{E:ag->ai->Prop}
theorem Inv.wish(I:Inv X pins σ H s)(E:ag->ai->Prop):Inv (X.wish E) pins σ H s:=⟨I.ok.wish E,I.os,I.bare,I.base,I.loc,I.cell,I.free,I.freeC,I.pin,I.hok,I.len⟩
theorem Inv.unwish(I:Inv (X.wish E) pins σ H s):Inv X pins σ H s:=⟨I.ok.unwish,I.os,I.bare,I.base,I.loc,I.cell,I.free,I.freeC,I.pin,I.hok,I.len⟩
theorem SP.unwish{D:Ends}{f:Flow}{s':ai}(h:SP (X.wish E) pins D f s'):SP X pins D f s':=by
 cases f with
 |next=>obtain⟨σ',H',I,q⟩:=h;exact⟨σ',H',I.unwish,q⟩
 |brk=>obtain⟨σ',H',I,q⟩:=h;exact⟨σ',H',I.unwish,q⟩
 |cont=>obtain⟨σ',H',I,q⟩:=h;exact⟨σ',H',I.unwish,q⟩
 |ret u=>obtain⟨v,σ',H',I,r,q⟩:=h;exact⟨v,σ',H',I.unwish,r,q⟩
end
section
variable {X:Cx}{st:aO}{rest:List aO}{t u:TS}{e:av}{te:TE}{pos:Pos}
def B8:TS:=λD σ H=>D.nx σ H
def Cu(t u:TS):TS:=λD σ H=>t { D with nx:=u D } σ H
theorem FC:PSs X [] B8:=λ_ _ σ H _ I h=>wpAny_execs_nil ⟨σ,H,I,h⟩
theorem B9(h1:PS X st t)(h2:PSs X rest u):PSs X (st::rest) (Cu t u):=by
 intro pins s σ H D I h;refine wpAny_execs_cons (thn (h1 pins s σ H { D with nx:=u D } I h) λf s1 q=>?_);cases f with
 |next=>
   obtain⟨σ',H',I',q⟩:=q;exact h2 pins s1 σ' H' D I' q
 |ret v=>exact q
 |brk=>exact q
 |cont=>exact q
theorem Ei(h1:PS X st t):PSs X [st] t:=by
 intro pins s σ H D I h;refine wpAny_execs_cons (thn (h1 pins s σ H D I h) λf s1 q=>?_);cases f with
 |next=>exact wpAny_execs_nil q
 |ret v=>exact q
 |brk=>exact q
 |cont=>exact q
theorem Inv.quiet{pins:List (ae×az)}{σ:St}{H:Hp}{s:ai}(I:Inv X pins σ H s):interactive X.env=false:=by simp[interactive,I.ok.kind]
def Df(te:TE):TS:=λD σ H=>te σ H λ_ H1=>D.nx σ H1
theorem Ez(he:PE X e te)(hs:swapsWith e none pos.line X.env=pure false:=by rfl):PS X (.Expr e pos) (Df te):=by
 intro pins s σ H D I h;exact wpAny_Expr_any (thn (he pins s σ H _ I h) λv s1 e0=>bo e0 λx H1 I1 r1 q1=>⟨σ,H1,I1,q1⟩) I.quiet hs
def DM(te:TE):TS:=λD σ H=>te σ H D.rt
theorem Hq(he:PE X e te):PS X (.Return (some e) pos) (DM te):=by
 intro pins s σ H D I h;exact wpAny_Return_some (thn (he pins s σ H _ I h) λv s1 e0=>bo e0 λx H1 I1 r1 q1=>⟨x,σ,H1,I1,r1,q1⟩)
def BW(c:TT)(t u:TS):TS:=λD σ H=>c σ H λb H1=>if b=true then t D σ H1 else u D σ H1
theorem Bs{c:av}{a b:List aO}{tc:TT}(hc:PT X c tc)(ha:PSs X a t)(hb:PSs X b u):PS X (.If c a b pos) (BW tc t u):=by
 intro pins s σ H D I h;refine wpAny_If (thn (hc pins s σ H _ I h) λd s1 e0=>e0.elim λH1 e1=>e1.elim λI1 q1=>?_);cases d with
 |true=>exact ha pins s1 σ H1 D I1 q1
 |false=>exact hb pins s1 σ H1 D I1 q1
end
abbrev TG:=V->St->Hp->(St->Hp->Prop)->Prop
abbrev TGs:=List V->St->Hp->(St->Hp->Prop)->Prop
def PG(X:Cx)(target:av)(t:TG):Prop:=
 ∀(pins:List (ae×az)) (s:ai) (σ:St) (H:Hp) (v:V) (u:ag) (Q:St->Hp->Prop),Inv X pins σ H s->aP v u->t v σ H Q ->
  aq (aw X.prog X.w) X.A (assign target X.env u) (λ_ s'=>∃σ' H',Inv X pins σ' H' s'/\Q σ' H') X.xe s
def PGs(X:Cx)(ts:List av)(t:TGs):Prop:=
 ∀(pins:List (ae×az)) (s:ai) (σ:St) (H:Hp) (vs:List V) (us:List ag) (Q:St->Hp->Prop),Inv X pins σ H s->Vals vs us->t vs σ H Q ->
  aq (aw X.prog X.w) X.A (assignInOrder ((assignEach ts X.env).map (·.2)) us) (λ_ s'=>∃σ' H',Inv X pins σ' H' s'/\Q σ' H') X.xe s
abbrev TSet:=V->V->V->Hp->(Hp->Prop)->Prop
def PSet(X:Cx)(t:TSet):Prop:=
 ∀(pins:List (ae×az)) (s:ai) (σ:St) (H:Hp) (o i v:V) (ov iv u:ag) (Q:Hp->Prop),Inv X pins σ H s->aP o ov->aP i iv->aP v u->t o i v H Q ->
  aq (aw X.prog X.w) X.A (setItem ov iv u) (λ_ s'=>∃H',Inv X pins σ H' s'/\Q H') X.xe s
abbrev TIp:=V->V->Hp->VK->Prop
def PIp(X:Cx)(op:Operator)(t:TIp):Prop:=
 ∀(pins:List (ae×az)) (s:ai) (σ:St) (H:Hp) (x y:V) (v u:ag) (Q:VK),Inv X pins σ H s->aP x v->aP y u->t x y H Q ->
  aq (aw X.prog X.w) X.A (inplaceOp op v u) (EP X pins σ Q) X.xe s
section
variable {X:Cx}{pos:Pos}
def qF(i:Nat):TG:=λv σ H Q=>Q (σ.set i (some v)) H
theorem wn{i:Nat}{x:Str}(hN:X.N.Nodup)(hi:X.N[i]?=some x)(hx:Loc X.env.scope x)(hf:X.fn x=true∨X.env.scope.names.lookup x=some .local:=by first|exact .inl rfl|exact .inr rfl|assumption):PG X (.Name x pos) (qF i):=by
 intro pins s σ H v u Q I r h;exact wpAny_assign_Name (qJ I hN hi hx r (λs' I'=>⟨_,H,I',h⟩) hf)
def yV:TGs:=λvs σ H Q=>vs=[]/\Q σ H
def AU(t:TG)(u:TGs):TGs:=λvs σ H Q=>∃v r,vs=v::r/\t v σ H λσ' H'=>u r σ' H' Q
theorem Dj:PGs X [] yV:=by
 intro pins s σ H vs us Q I r h;obtain⟨e,h⟩:=h;subst e;cases r;exact assignInOrder_nil ⟨σ,H,I,h⟩
theorem Cp{e:av}{es:List av}{t:TG}{u:TGs}(h1:PG X e t)(h2:PGs X es u)
  (hs:(assignEach (e::es) X.env).map (·.2)=assign e X.env::(assignEach es X.env).map (·.2):=by rfl):PGs X (e::es) (AU t u):=by
 intro pins s σ H vs us Q I r h;obtain⟨v,vr,e1,h⟩:=h;subst e1;cases r with
 |cons r rr=>
   rw[hs];refine assignInOrder_cons (thn (h1 pins s σ H _ _ _ I r h) λ_ s1 e0=>e0.elim λσ1 e1=>e1.elim λH1 e2=>e2.elim λI1 q1=>?_);exact h2 pins s1 σ1 H1 _ _ Q I1 rr q1
def xo(K:PySem.W.Frag)(n:Nat)(t:TGs):TG:=λv σ H Q=>∃a xs,v=.ref a/\SqT K H a xs/\xs.length=n/\t xs σ H Q
theorem D0{es:List av}{k:Nat}{t:TGs}{n:Nat}(hc:X.calm=true)(h:PGs X es t)
  (hn:(assignEach es X.env).length=n:=by rfl) (hst:(assignEach es X.env).findIdx? (·.1)=none:=by rfl):PG X (.Tuple es k pos) (xo X.K n t):=by
 intro pins s σ H v u Q I r hw;obtain⟨a,xs,e1,hq,hl,hw⟩:=hw;subst e1;cases r;obtain⟨its,rv,ht,hz⟩:=I.tuple hq;refine assign_Tuple_tuple (I.ok.hd hc) ht (by simp[hn,←hl,rv.length]) hst λh' hx=>?_
 have I1:Inv X pins σ H { s with heap:=h' }:=I.kept (t':=s.toks) λb o e=>hx b o (cU (bc e)) e;exact h pins _ σ H xs _ Q I1 (by simpa using rv) hw
def wk(to ti:TE)(t:TSet):TG:=λv σ H Q=>to σ H λo H1=>ti σ H1 λi H2=>t o i v H2 λH3=>Q σ H3
theorem iA{o i:av}{to ti:TE}{t:TSet}(ho:PE X o to)(hi:PE X i ti)(hs:PSet X t)
  (ha:∀v,assign (.Subscript o i pos) X.env v=(do
   let ov ←holding [v] (aE o X.env)
   let iv ←holding [v,ov] (aE i X.env)
   standAt pos
   holding [v,ov,iv] (setItem ov iv v)
   release [v,ov,iv] []):=by intro _;rfl):PG X (.Subscript o i pos) (wk to ti t):=by
 intro pins s σ H v u Q I r h;rw[ha];refine ak (wpAny_holding (thn (ho pins s σ H _ I h) λov s1 e0=>bo e0 λx H1 I1 r1 q1=>?_));refine ak (wpAny_holding (thn (hi pins s1 σ H1 _ I1 q1) λiv s2 e0=>bo e0 λy H2 I2 r2 q2=>?_));refine ak (wpAny_standAt (ak (wpAny_holding (thn (hs pins s2 σ H2 x y v ov iv u _ I2 r1 r2 r q2) λ_ s3 e0=>e0.elim λH3 e1=>e1.elim λI3 q3=>?_))));exact wpAny_release ⟨σ,H3,I3,q3⟩
def AV(te:TE)(g:TG):TS:=λD σ H=>te σ H λx H1=>g x σ H1 D.nx
theorem BA{tg e:av}{te:TE}{g:TG}(he:PE X e te)(hg:PG X tg g)(hs:swapsWithSole [tg] e pos.line X.env=pure false:=by rfl)(hw:swappedStores [tg] e X.env=pure none:=by rfl)
  (h1:(assignEach [tg] X.env).map (·.2)=[assign tg X.env]:=by rfl):PS X (.Assign [tg] e pos) (AV te g):=by
 intro pins s σ H D I h;refine wpAny_Assign_stores (thn (he pins s σ H _ I h) λv s1 e0=>bo e0 λx H1 I1 r1 q1=>?_) hs hw;rw[h1];exact thn (hg pins s1 σ H1 x v _ I1 r1 q1) λ_ s2 q=>q
theorem GZ{i:Nat}{x:Str}{e:av}{te:TE}{pos':Pos}(hN:X.N.Nodup)(hi:X.N[i]?=some x)(hx:Loc X.env.scope x)(he:PE X e te)(hs:swapsWith e (some (.Name x pos')) pos.line X.env=pure false:=by rfl)(hf:X.fn x=true∨X.env.scope.names.lookup x=some .local:=by first|exact .inl rfl|exact .inr rfl|assumption) :
  PS X (.Assign [.Name x pos'] e pos) (AV te (qF i)):=by
 intro pins s σ H D I h;refine wpAny_Assign_Name (thn (he pins s σ H _ I h) λv s1 e0=>bo e0 λy H1 I1 r1 q1=>?_) hs;exact qJ I1 hN hi hx r1 (λs2 I2=>⟨_,H1,I2,q1⟩) hf
def HU(to ti te:TE)(tget:V->V->Hp->VK->Prop)(tip:TIp)(tset:TSet):TS:=λD σ H=>to σ H λo H1=>ti σ H1 λi H2=>tget o i H2 λx H3=>te σ H3 λy H4=>tip x y H4 λz H5=>tset o i z H5 λH6=>D.nx σ H6
def PGet(X:Cx)(t:V->V->Hp->VK->Prop):Prop:=
 ∀(pins:List (ae×az)) (s:ai) (σ:St) (H:Hp) (o i:V) (ov iv:ag) (Q:VK),Inv X pins σ H s->aP o ov->aP i iv->t o i H Q ->
  aq (aw X.prog X.w) X.A (getItem ov iv) (EP X pins σ Q) X.xe s
theorem Fm{o i e:av}{to ti te:TE}{tget:V->V->Hp->VK->Prop}{tip:TIp}{tset:TSet}{op:Operator}{tpos:Pos}(ho:PE X o to)(hi:PE X i ti)(hg:PGet X tget)(he:PE X e te)(hp:PIp X op tip)(hs:PSet X tset)
  (ha:∀ov iv new,augStore i ov iv new=(do holding [new,ov,iv] (setItem ov iv new);release [new,ov,iv] [];pure .next):=by intros;rfl):PS X (.AugAssign (.Subscript o i tpos) op e pos) (HU to ti te tget tip tset):=by
 intro pins s σ H D I h;refine wpAny_AugAssign_SubscriptAny (thn (ho pins s σ H _ I h) λov s1 e0=>bo e0 λx1 H1 I1 r1 q1=>?_) ha;refine thn (hi pins s1 σ H1 _ I1 q1) λiv s2 e0=>bo e0 λx2 H2 I2 r2 q2=>?_;refine thn (hg pins s2 σ H2 x1 x2 ov iv _ I2 r1 r2 q2) λold s3 e0=>bo e0 λx3 H3 I3 r3 q3=>?_;refine thn (he pins s3 σ H3 _ I3 q3) λv s4 e0=>bo e0 λx4 H4 I4 r4 q4=>?_;refine thn (hp pins s4 σ H4 x3 x4 old v _ I4 r3 r4 q4) λnew s5 e0=>bo e0 λx5 H5 I5 r5 q5=>?_;exact thn (hs pins s5 σ H5 x1 x2 x5 ov iv new _ I5 r1 r2 r5 q5) λ_ s6 e0=>e0.elim λH6 e1=>e1.elim λI6 q6=>⟨σ,H6,I6,q6⟩
def ipI(f:Int->Int->Int):TIp:=λx y H Q=>∃i j,x=.int i/\y=.int j/\Q (.int (f i j)) H
theorem BN:PIp X .Add (ipI λi j=>i+j):=by
 intro pins s σ H x y v u Q I r1 r2 h;obtain⟨i,j,e1,e2,q⟩:=h;subst e1;subst e2;obtain⟨t,rfl⟩:=r1;obtain⟨t',rfl⟩:=r2;exact iadd_int ⟨.int _,H,I.tok _,⟨_,rfl⟩,q⟩
theorem BO:PIp X .Sub (ipI λi j=>i-j):=by
 intro pins s σ H x y v u Q I r1 r2 h;obtain⟨i,j,e1,e2,q⟩:=h;subst e1;subst e2;obtain⟨t,rfl⟩:=r1;obtain⟨t',rfl⟩:=r2;exact isub_int ⟨.int _,H,I.tok _,⟨_,rfl⟩,q⟩
end
section
variable {X:Cx}{pos:Pos}
def A0(c:TT)(tb:TS):TS:=λD σ H=>∃W:Nat->St->Hp->Prop,(∃m,W m σ H)/\∀m σ H,W m σ H ->
 c σ H λb H1=>if b=true then ∃N:St->Hp->Prop,(∀σ' H',N σ' H'->∃m',m'<m/\W m' σ' H')/\tb { D with nx:=N,ct:=N,bk:=D.nx } σ H1 else D.nx σ H1
theorem B0{c:av}{body:List aO}{tc:TT}{tb:TS}(hp:PassesOwn (aw X.prog X.w) X.A X.env X.xe)(hc:PT X c tc)(hb:PSs X body tb):PS X (.While c body [] pos) (A0 tc tb):=by
 intro pins s σ H D I h;obtain⟨W,⟨m0,w0⟩,turn⟩:=h;refine wpAny_While (codeAny_whileLoop (λn s'=>∃σ' H',Inv X pins σ' H' s'/\W n σ' H') ?_ m0 ⟨σ,H,I,w0⟩);rintro n s1 ⟨σ1,H1,I1,w1⟩;refine wpAny_passesOwn hp (thn (hc pins s1 σ1 H1 _ I1 (turn n σ1 H1 w1)) λb s2 e0=>e0.elim λH2 e1=>e1.elim λI2 q2=>?_);cases b with
 |true=>
   obtain⟨N,hN,q2⟩:=q2;rw[if_pos rfl];refine wpAny_passesOwn hp (thn (hb pins s2 σ1 H2 _ I2 q2) λf s3 q3=>?_);cases f with
   |next=>
     obtain⟨σ3,H3,I3,n3⟩:=q3;obtain⟨m',hm,w3⟩:=hN σ3 H3 n3;exact⟨m',hm,σ3,H3,I3,w3⟩
   |cont=>
     obtain⟨σ3,H3,I3,n3⟩:=q3;obtain⟨m',hm,w3⟩:=hN σ3 H3 n3;exact⟨m',hm,σ3,H3,I3,w3⟩
   |brk=>exact q3
   |ret v=>exact q3
 |false=>
   rw[if_neg bT];exact wpAny_execs_nil ⟨σ1,H2,I2,q2⟩
end
structure It where
 go:Nat->Hp->Prop
 yld:Nat->Hp->V->Hp->Prop
 stop:Nat->Hp->Prop
def gv(X:Cx)(pins:List (ae×az))(H:Hp)(b:ae):Prop:=
 H b=none/\b≠X.env.locals/\b∉X.fs/\(b∈X.ex∨X.s₀.heap.objs.size≤b)/\(∀x c,X.env.cells.lookup x=some c->c≠b)/\∀p∈X.pn++pins,p.1≠b
theorem Inv.fpOk{X:Cx}{pins:List (ae×az)}{σ:St}{H H':Hp}{s:ai}{b:ae}(I:Inv X pins σ H s)(hb:s.heap.objs.size≤b)(hn:H' b=none):gv X pins H' b:=by
 refine⟨hn,c9 (cJ I.lt hb),I.nofs hb,.inr (cF I.sz hb),λx c e z=>?_,λp hp z=>?_⟩
 ·obtain⟨v,q⟩:=I.cell x c e;exact absurd (cJ q.lt (by rw[z];exact hb)) (g7 _)
 ·exact absurd (cJ (bc (I.pin p hp).1) (by rw[z];exact hb)) (g7 _)
structure Turn(P:bf)(w:aU)(K:PySem.W.Frag)(tg:av)(J:It)(fp:List ae)(it:ae)(tn:Nat->aG->Prop):Prop where
 mem:it∈fp
 obj:∀i h,tn i h->∀b∈fp,∃o,h.get? b=some o/\∀v,o.data≠.cell v
 keep:∀i h h',tn i h->(∀b∈fp,∀o,h.get? b=some o->h'.get? b=some o)->tn i h'
 item:∀(X:Cx),X.prog=P->X.w=w->X.K=K->X.calm=true->∀(i:Nat) (pins:List (ae×az)) (s:ai) (σ:St) (H:Hp) (E:ag->ai->Prop),Inv X pins σ H s->(∀b∈fp,gv X pins H b)->tn i s.heap->J.go i H ->
  aq (aw P w) X.A (pyNext (.ref it)) (λr s1=>∃u,r=some u /\
   aq (aw P w) X.A (letOwnedTupleGo tg (.ref it) u) (λ_ s2=>∃x H',Inv X pins σ H' s2/\aP x u/\J.yld i H x H'/\tn (i + 1) s2.heap/\∀b∈fp,H' b=none) E s1) E s
 done:∀(X:Cx),X.prog=P->X.w=w->X.K=K->X.calm=true->∀(i:Nat) (pins:List (ae×az)) (s:ai) (σ:St) (H:Hp) (E:ag->ai->Prop),Inv X pins σ H s->(∀b∈fp,gv X pins H b)->tn i s.heap->J.stop i H ->
  aq (aw P w) X.A (pyNext (.ref it)) (λr s1=>r=none/\Inv X pins σ H s1) E s
 self:∀(A:bh) (i:Nat) (s:ai) (Q:ag->ai->Prop) (E:ag->ai->Prop),tn i s.heap->Q (.ref it) s->aq (aw P w) A (pyIter (.ref it)) Q E s
abbrev TI:=St->Hp->(It->Hp->Prop)->Prop
def PIE(X:Cx)(pins:List (ae×az))(σ:St)(tg:av)(R:It->Hp->Prop)(itv:ag)(s2:ai):Prop:=
 ∃(it:ae) (fp:List ae) (tn:Nat->aG->Prop) (J:It) (H':Hp),itv=.ref it/\Inv X pins σ H' s2/\Turn X.prog X.w X.K tg J fp it tn/\tn 0 s2.heap/\(∀b∈fp,gv X pins H' b)/\R J H'
def PI(X:Cx)(tg iter:av)(wi:TI):Prop:=
 ∀(pins:List (ae×az)) (s:ai) (σ:St) (H:Hp) (R:It->Hp->Prop),Inv X pins σ H s->wi σ H R ->
  aq (aw X.prog X.w) X.A (aE iter X.env) (λv s1=>aq (aw X.prog X.w) X.A (pyIter v) (PIE X pins σ tg R) X.xe s1) X.xe s
theorem tD{M:Model}{A:bh}{E:ag->ai->Prop}{s:ai}{tg:av}{it:ae}{u:ag}{o:az}{n:String}{vs:Array ag}{Q:Unit->ai->Prop}(ho:s.heap.get? it=some o)(hc:o.cls=.type n)(hd:o.data=.fields vs)
  (hn:["enumerate","zip","dict_itemiterator","dict_reverseitemiterator","odict_iterator","itertools.zip_longest","itertools.pairwise"].contains n=false) (hQ:Q () s):aq M A (letOwnedTupleGo tg (.ref it) u) Q E s:=by
 unfold letOwnedTupleGo;cases tg <;> first
  |exact aI hQ
  | (cases u <;> first
    |exact aI hQ
    | (refine ak (wpAny_load ho ?_)
       rw[hc,hd];show aq M A (if(["enumerate","zip","dict_itemiterator","dict_reverseitemiterator","odict_iterator","itertools.zip_longest","itertools.pairwise"].contains n&&vs[0]? == some (cw _))=true then _ else _) Q E s;rw[if_neg (by intro h;rw[hn,Bool.false_and]at h;cases h)];exact aI hQ))
def Itl(K:PySem.W.Frag)(a:ae):It:=
 ⟨λi H=>∃xs x,SqL K H a xs/\xs[i]?=some x,λi H x H'=>H'=H/\∀xs,SqL K H a xs->xs[i]?=some x,λi H=>∃xs,SqL K H a xs/\xs.length≤i⟩
def Itr(lo:Int)(n:Nat):It:=⟨λi _=>i<n,λi H x H'=>H'=H/\x=.int (lo+i),λi _=>n≤i⟩
theorem DI{P:bf}{w:aU}{K:PySem.W.Frag}{tg:av}(a it:ae):Turn P w K tg (Itl K a) [it] it (λi h=>h.IsListIter it a i) where
 mem:=by simp
 obj:=λi h st b hb=>by
  have e:b=it:=by simpa using hb
  subst e;obtain⟨o,e,c,d⟩:=st;exact⟨o,e,λv z=>by rw[d]at z;cases z⟩
 keep:=λi h h' st k=>st.at λo e=>k it (by simp) o e
 item:=by
  intro X hP hw hK hc i pins s σ H E I hf st hg;subst hP hw hK;obtain⟨xs,x,hq,hx⟩:=hg;obtain⟨its,rv,p,hz⟩:=I.list hq;obtain⟨u,hu,ru⟩:=rv.get hx;obtain⟨f0,f1,f2,f3,f4,f5⟩:=hf it (by simp);refine wpAny_pyNext_list_item st p.isList (x:=u) (by simpa using hu) λh' st' sb=>?_;have I1:Inv X pins σ H { s with heap:=h' }:=I.turned (t':=s.toks) (λb o hb e=>(sb.2 b hb).trans e) f0 f1 f3 f4 f5;obtain⟨o,e,c,d⟩:=id st';exact⟨u,rfl,tD (s:={ s with heap:=h' }) e c d (by decide) ⟨x,H,I1,ru,⟨rfl,λys hy=>by rw[I.list_inj hy hq];exact hx⟩,st',λb hb=>(hf b hb).1⟩⟩
 done:=by
  intro X hP hw hK hc i pins s σ H E I hf st hg;subst hP hw hK;obtain⟨xs,hq,hx⟩:=hg;obtain⟨its,rv,p,hz⟩:=I.list hq;obtain⟨f0,f1,f2,f3,f4,f5⟩:=hf it (by simp);have hl:=rv.length;exact wpAny_pyNext_list_end (I.ok.hd hc) st p.isList (by simp;lia) λh' eb=>⟨rfl,I.turned (t':=s.toks) (λb o hb e=>eb b o hb e) f0 f1 f3 f4 f5⟩
 self:=λ_ _ _ _ _ st h=>wpAny_pyIter_listiter st h
theorem FG{P:bf}{w:aU}{K:PySem.W.Frag}{tg:av}(it:ae)(lo:Int)(n:Nat):Turn P w K tg (Itr lo n) [it] it (λi h=>IsRangeIter h it (lo+(i:Nat)*1) ((n:Int)-(i:Nat)) 1) where
 mem:=by simp
 obj:=λi h st b hb=>by
  have e:b=it:=by simpa using hb
  subst e;exact ⟨_,st,λv z=>by
   have z':Data.fields _=Data.cell v:=z;cases z'⟩
 keep:=λi h h' st k=>k it (by simp) _ st
 item:=by
  intro X hP hw hK hc i pins s σ H E I hf st hg;subst hP hw hK;obtain⟨f0,f1,f2,f3,f4,f5⟩:=hf it (by simp);have W:=Walks.range (prog:=X.prog) (w:=X.w) (I.ok.hd hc) it lo 1 n;refine W.item i s _ _ hg st λv h' tk hv st' kk=>?_;obtain⟨t,rfl⟩:=hv;have I1:Inv X pins σ H { s with heap:=h',toks:=tk }:=I.turned (λb o hb e=>kk b o (by simpa using hb) e) f0 f1 f3 f4 f5;refine⟨_,rfl,tD (s:={ s with heap:=h',toks:=tk }) (n:="range_iterator") st' rfl rfl (by decide) ⟨.int (lo+i),H,I1,⟨t,?_⟩,⟨rfl,rfl⟩,st',λb hb=>(hf b hb).1⟩⟩;rw[Int.mul_one]
 done:=by
  intro X hP hw hK hc i pins s σ H E I hf st hg;subst hP hw hK;obtain⟨f0,f1,f2,f3,f4,f5⟩:=hf it (by simp);exact wpAny_pyNext_range_end (I.ok.hd hc) st (by have:n≤i:=hg;lia) λh' eb=>⟨rfl,I.turned (t':=s.toks) (λb o hb e=>eb b o hb e) f0 f1 f3 f4 f5⟩
 self:=λ_ _ _ _ _ st h=>wpAny_pyIter_rangeiter st h
section
variable {X:Cx}{tg:av}
def dY(K:PySem.W.Frag)(tl:TE):TI:=λσ H R=>tl σ H λx H1=>∃a,x=.ref a/\(∃xs,SqL K H1 a xs)/\R (Itl K a) H1
theorem vT{l:av}{tl:TE}(hl:PE X l tl):PI X tg l (dY X.K tl):=by
 intro pins s σ H R I h;refine thn (hl pins s σ H _ I h) λv s1 e0=>bo e0 λx H1 I1 r1 q1=>?_;obtain⟨a,e,⟨xs,hq⟩,q⟩:=q1;subst e;cases r1;obtain⟨its,rv,p,hz⟩:=I1.list hq;refine wpAny_pyIter_list p.isList ?_;refine⟨s1.heap.objs.size,[s1.heap.objs.size],_,_,H1,rfl,I1.kept (t':=s1.toks) λb o e=>bv _ e,DI a _,⟨_,cR _ rfl,rfl,rfl⟩,λb hb=>?_,q⟩;have e:b=s1.heap.objs.size:=by simpa using hb
 subst e;exact I1.fpOk (aY _) (I1.hok.fresh (aY _))
theorem zv{pins:List (ae×az)}{σ:St}{H:Hp}{s:ai}{R:It->Hp->Prop}{E:ag->ai->Prop}{lo hi:Int}{t u v:Tok}{tk:Nat}(I:Inv X pins σ H s)(h1:-(2 ^ 62)≤lo)(h2:lo<2 ^ 62)(h3:-(2 ^ 62)≤hi)(h4:hi<2 ^ 62)
  (q:R (Itr lo (hi-lo).toNat) H):aq (aw X.prog X.w) X.A (pyIter (.ref s.heap.objs.size)) (PIE X pins σ tg R) E { s with heap:=s.heap.push { cls:=.type "range",data:=.fields #[.int lo t,.int hi u,.int 1 v] },toks:=tk }:=by
 refine wpAny_pyIter_range (IsRange.new ..) (small_one h1 h2 h3 h4) ?_;have I1:Inv X pins σ H { s with heap:=s.heap.push { cls:=.type "range",data:=.fields #[.int lo t,.int hi u,.int 1 v] },toks:=tk }:=I.kept λb o e=>bv _ e;refine ⟨(s.heap.push { cls:=.type "range",data:=.fields #[.int lo t,.int hi u,.int 1 v] }).objs.size,[(s.heap.push { cls:=.type "range",data:=.fields #[.int lo t,.int hi u,.int 1 v] }).objs.size],_,_,H,rfl,
  I1.kept (t':=tk) λb o e=>bv _ e,FG _ lo (hi - lo).toNat,?_,λb hb=>?_,q⟩
 ·have e1:lo+((0:Nat):Int)*1=lo:=by simp
  have e2:(((hi-lo).toNat:Nat):Int)-((0:Nat):Int)=Builtin.Range.rangeSize lo hi 1:=by rw[rangeSize_one];split <;> lia
  show IsRangeIter _ _ (lo+((0:Nat):Int)*1) ((((hi-lo).toNat:Nat):Int)-((0:Nat):Int)) 1;rw[e1,e2];exact cR _ rfl
 ·have e:b=(s.heap.push { cls:=.type "range",data:=.fields #[.int lo t,.int hi u,.int 1 v] }).objs.size:=by simpa using hb
  subst e;exact I1.fpOk (aY _) (I1.hok.fresh (aY _))
def fF(ta:TA):TI:=λσ H R=>ta σ H λvs H1=>∃j:Int,vs=[.int j]/\-(2 ^ 62)≤j/\j<2 ^ 62/\R (Itr 0 j.toNat) H1
def ig(ta:TA):TI:=λσ H R=>ta σ H λvs H1=>∃i j:Int,vs=[.int i,.int j]/\(-(2 ^ 62)≤i/\i<2 ^ 62/\-(2 ^ 62)≤j/\j<2 ^ 62)/\R (Itr i (j-i).toNat) H1
theorem DL{a:av}{ta:TA}{p pos:Pos}(hg:Gl X "range")(hm:X.mg "range"=none)(ha:PA X [a] ta)(hs:aH [a] X.env=[(false,aE a X.env)]:=by rfl):PI X tg (.Call (.Name "range" p) [a] [] pos) (fF ta):=by
 intro pins s σ H R I h;refine Call_ (hV I hg hm boot_range (PyProof.Rows.callWith_type1 (thn (ha pos pins s σ H _ I h) λus s1 e0=>bo e0 λvs H1 I1 r1 q1=>?_) hs rfl));obtain⟨j,e,q1,q2,q⟩:=q1;subst e;cases r1 with
 |cons r rr=>
   cases rr;obtain⟨t,rfl⟩:=r;exact call_range_1 (zv I1 (by lia) (by lia) q1 q2 (by simpa using q))
theorem Be{a b:av}{ta:TA}{p pos:Pos}(hg:Gl X "range")(hm:X.mg "range"=none)(ha:PA X [a,b] ta)(hs:aH [a,b] X.env=[(false,aE a X.env),(false,aE b X.env)]:=by rfl)(hs2:aH [b] X.env=[(false,aE b X.env)]:=by rfl) :
  PI X tg (.Call (.Name "range" p) [a,b] [] pos) (ig ta):=by
 intro pins s σ H R I h;refine Call_ (hV I hg hm boot_range (PyProof.Rows.callWith_type1 (thn (ha pos pins s σ H _ I h) λus s1 e0=>bo e0 λvs H1 I1 r1 q1=>?_) (by rw[hs,hs2]) (by rw[hs2];rfl)));obtain⟨i,j,e,⟨q1,q2,q3,q4⟩,q⟩:=q1;subst e;cases r1 with
 |cons r rr=>
   cases rr with
   |cons r' rr=>
     cases rr;obtain⟨t,rfl⟩:=r;obtain⟨t',rfl⟩:=r';exact call_range_2 (zv I1 q1 q2 q3 q4 q)
def EM(wi:TI)(g:TG)(tb:TS):TS:=λD σ H=>wi σ H λJ H1=>∃W:Nat->Nat->St->Hp->Prop,(∃m,W 0 m σ H1)/\∀i m σ H,W i m σ H ->
 (J.stop i H/\D.nx σ H)∨(J.go i H/\∃N:St->Hp->Prop,(∀σ' H',N σ' H'->∃m',m'<m/\W (i+1) m' σ' H')/\∀x H',J.yld i H x H'->g x σ H' λσ2 H2=>tb { D with nx:=N,ct:=N,bk:=D.nx } σ2 H2)
def j4(fp:List ae)(h:aG):List (ae×az):=fp.filterMap λb=>(h.get? b).map λo=>(b,o)
theorem tY{fp:List ae}{h:aG}{b:ae}{o:az}(hb:b∈fp)(e:h.get? b=some o):(b,o)∈j4 fp h:=List.mem_filterMap.mpr ⟨b,hb,by rw[e];rfl⟩
theorem GJ{fp:List ae}{h:aG}{p:ae×az}(hp:p∈j4 fp h):p.1∈fp/\h.get? p.1=some p.2:=by
 obtain⟨b,hb,e⟩:=List.mem_filterMap.mp hp;cases q:h.get? b with
 |none=>rw[q]at e;cases e
 |some o=>
   rw[q]at e;have e':(b,o)=p:=Option.some.inj e;subst e';exact⟨hb,q⟩
theorem Inv.pinned{pins:List (ae×az)}{σ:St}{H:Hp}{s:ai}{fp:List ae}(I:Inv X pins σ H s)(hf:∀b∈fp,gv X pins H b)(ho:∀b∈fp,∃o,s.heap.get? b=some o/\∀v,o.data≠.cell v):Inv X (pins++j4 fp s.heap) σ H s:=
 I.pins_of λp hp=>(fY.mp hp).elim (λz=>I.pin p (dH _ z)) λz=>by
  obtain⟨hb,e⟩:=GJ z;obtain⟨f0,f1,f2,_⟩:=hf p.1 hb;obtain⟨o,e',d⟩:=ho p.1 hb;rw[e]at e';cases e';exact⟨e,f0,f1,f2,d⟩
theorem Inv.unpinned{pins pl:List (ae×az)}{σ:St}{H:Hp}{s:ai}(I:Inv X (pins++pl) σ H s):Inv X pins σ H s:=I.pins_of λp hp=>I.pin p (dH _ (i7 _ hp))
theorem xa{iter:av}{body:List aO}{wi:TI}{g:TG}{tb:TS}{pos:Pos}(hp:PassesOwn (aw X.prog X.w) X.A X.env X.xe)(hc:X.calm=true)(hi:PI X tg iter wi)(hg:PG X tg g)(hb:PSs X body tb)
  (hs:∀x,foldedSetIterable iter X.env x=pure x:=by intro _;rfl):PS X (.For tg iter body [] pos) (EM wi g tb):=by
 intro pins s σ H D I h;refine wpAny_For (thn (hi pins s σ H _ I h) λv s1 h1=>thn h1 λitv s2 h2=>?_) hs;obtain⟨it,fp,tn,J,H2,e,I2,T,st2,f2,W,⟨m0,w0⟩,turn⟩:=h2;subst e;have stat:∀{H':Hp},(∀b∈fp,H' b=none)->∀b∈fp,gv X pins H' b:=λhn b hb=>⟨hn b hb,(f2 b hb).2⟩;refine codeAny_forLoop_any (λn s'=>∃i σ' H',Inv X pins σ' H' s'/\tn i s'.heap/\(∀b∈fp,H' b=none)/\W i n σ' H') ?_ m0 ⟨0,σ,H2,I2,st2,λb hb=>(f2 b hb).1,w0⟩;rintro n s3 ⟨i,σ3,H3,I3,st3,fr3,w3⟩;rcases turn i n σ3 H3 w3 with⟨stop,qn⟩|⟨go,N,hN,step⟩
 ·refine wpAny_passesOwn hp (thn (T.done X rfl rfl rfl hc i pins s3 σ3 H3 X.xe I3 (stat fr3) st3 stop) λr s4 e0=>e0.elim λhr I4=>?_);subst hr;exact wpAny_execs_nil ⟨σ3,H3,I4,qn⟩
 ·refine wpAny_passesOwn hp (thn (T.item X rfl rfl rfl hc i pins s3 σ3 H3 X.xe I3 (stat fr3) st3 go) λr s4 e0=>e0.elim λu e1=>e1.elim λhr h4=>?_);subst hr;refine wpAny_passesOwn hp (thn h4 λ_ s5 e0=>bo e0 λx H5 I5 r5 e4=>e4.elim λy5 e5=>e5.elim λst5 fr5=>?_);have I5':=I5.pinned (stat fr5) (T.obj _ _ st5);refine wpAny_passesOwn hp (thn (hg _ s5 σ3 H5 x u _ I5' r5 (step x H5 y5)) λ_ s6 e0=>e0.elim λσ6 e1=>e1.elim λH6 e2=>e2.elim λI6 q6=>?_);refine wpAny_passesOwn hp (thn (hb _ s6 σ6 H6 _ I6 q6) λf s7 q7=>?_);have again:∀{σ7:St}{H7:Hp},Inv X (pins++j4 fp s5.heap) σ7 H7 s7->N σ7 H7->∃m,m<n/\∃i σ' H',Inv X pins σ' H' s7/\tn i s7.heap/\(∀b∈fp,H' b=none)/\W i m σ' H':=λ{σ7 H7} I7 n7=>by
   obtain⟨m',hm,w7⟩:=hN σ7 H7 n7;refine⟨m',hm,i+1,σ7,H7,I7.unpinned,T.keep _ _ _ st5 λb hb o e=>(I7.pin (b,o) (dH _ (dH _ (tY hb e)))).1,λb hb=>?_,w7⟩;obtain⟨o,e,d⟩:=T.obj _ _ st5 b hb;exact(I7.pin (b,o) (dH _ (dH _ (tY hb e)))).2.1
  cases f with
  |next=>obtain⟨σ7,H7,I7,n7⟩:=q7;exact again I7 n7
  |cont=>obtain⟨σ7,H7,I7,n7⟩:=q7;exact again I7 n7
  |brk=>obtain⟨σ7,H7,I7,q7⟩:=q7;exact⟨σ7,H7,I7.unpinned,q7⟩
  |ret v=>obtain⟨x7,σ7,H7,I7,r7,q7⟩:=q7;exact⟨x7,σ7,H7,I7.unpinned,r7,q7⟩
end
abbrev R2:=V->V->Hp->VK->Prop
def OpR(X:Cx)(f:ag->ag->Sem ag)(r:R2):Prop:=
 ∀(pins:List (ae×az)) (s:ai) (σ:St) (H:Hp) (x y:V) (v u:ag) (Q:VK),Inv X pins σ H s->aP x v->aP y u->r x y H Q ->
  aq (aw X.prog X.w) X.A (f v u) (EP X pins σ Q) X.xe s
def UnR(X:Cx)(f:ag->Sem ag)(r:V->Hp->VK->Prop):Prop:=
 ∀(pins:List (ae×az)) (s:ai) (σ:St) (H:Hp) (x:V) (v:ag) (Q:VK),Inv X pins σ H s->aP x v->r x H Q ->
  aq (aw X.prog X.w) X.A (f v) (EP X pins σ Q) X.xe s
def d4(X:Cx)(f:ag)(r:List V->Hp->VK->Prop):Prop:=
 ∀(pins:List (ae×az)) (s:ai) (σ:St) (H:Hp) (xs:List V) (us:List ag) (Q:VK),Inv X pins σ H s->Vals xs us->r xs H Q ->
  aq (aw X.prog X.w) X.A (call f us) (EP X pins σ Q) X.xe s
def tOp(r:R2)(ta tb:TE):TE:=λσ H Q=>ta σ H λx H1=>tb σ H1 λy H2=>r x y H2 Q
def tUn(r:V->Hp->VK->Prop)(ta:TE):TE:=λσ H Q=>ta σ H λx H1=>r x H1 Q
def rI(C:Int->Int->Prop)(g:Int->Int->V):R2:=λx y H Q=>∃i j,x=.int i/\y=.int j/\C i j/\Q (g i j) H
def rI0(g:Int->Int->V):R2:=λx y H Q=>∃i j,x=.int i/\y=.int j/\Q (g i j) H
def rU(g:Int->V):V->Hp->VK->Prop:=λx H Q=>∃i,x=.int i/\Q (g i) H
section
variable {X:Cx}{a b c:av}{ta tb tc:TE}{pos:Pos}
theorem ul(ha:PE X a ta)(hb:PE X b tb){pins:List (ae×az)}{s:ai}{σ:St}{H:Hp}{R:V->V->Hp->Prop}(I:Inv X pins σ H s)
  (h:ta σ H λx H1=>tb σ H1 λy H2=>R x y H2) {Q:ag->ai->Prop} {f:ag->ag->Sem ag}
  (hf:∀v u s2 x y H2,Inv X pins σ H2 s2->aP x v->aP y u->R x y H2->aq (aw X.prog X.w) X.A (f v u) Q X.xe s2) :
  aq (aw X.prog X.w) X.A (aE a X.env) (λv s₁=>aq (aw X.prog X.w) X.A (aE b X.env) (λu s₂=>aq (aw X.prog X.w) X.A (f v u) Q X.xe s₂) X.xe s₁) X.xe s:=by
 refine thn (ha pins s σ H _ I h) λv s1 e0=>bo e0 λx H1 I1 r1 q1=>?_;refine thn (hb pins s1 σ H1 _ I1 q1) λu s2 e0=>bo e0 λy H2 I2 r2 q2=>?_;exact hf v u s2 x y H2 I2 r1 r2 q2
theorem G4{op:Operator}{r:R2}(ho:OpR X (binaryOp op) r)(ha:PE X a ta)(hb:PE X b tb):PE X (.BinOp a op b pos) (tOp r ta tb):=by
 intro pins s σ H Q I h;exact wpAny_BinOp (ul ha hb I h λv u s2 x y H2 I2 rx ry q=>ho pins s2 σ H2 x y v u Q I2 rx ry q)
theorem xX{op:UnaryOp}{r:V->Hp->VK->Prop}(ho:UnR X (unaryOp op) r)(ha:PE X a ta):PE X (.UnaryOp op a pos) (tUn r ta):=by
 intro pins s σ H Q I h;exact UnaryOp_ (thn (ha pins s σ H _ I h) λv s1 e0=>bo e0 λx H1 I1 r1 q1=>ho pins s1 σ H1 x v Q I1 r1 q1)
theorem opI{f:ag->ag->Sem ag}{C:Int->Int->Prop}{g:Int->Int->Int}
  (rule:∀(i j:Int) (t u:Tok) (s:ai) (Q:ag->ai->Prop) (E:ag->ai->Prop),C i j->Q (.int (g i j) s.toks) { s with toks:=s.toks+1 }->aq (aw X.prog X.w) X.A (f (.int i t) (.int j u)) Q E s) :
  OpR X f (rI C λi j=>.int (g i j)):=by
 intro pins s σ H x y v u Q I rx ry h;obtain⟨i,j,rfl,rfl,hc,q⟩:=h;obtain⟨t,rfl⟩:=rx;obtain⟨t',rfl⟩:=ry;exact rule i j t t' s _ _ hc ⟨.int (g i j),H,I.tok _,⟨_,rfl⟩,q⟩
theorem Aq{f:ag->ag->Sem ag}{g:Int->Int->Int}
  (rule:∀(i j:Int) (t u:Tok) (s:ai) (Q:ag->ai->Prop) (E:ag->ai->Prop),Q (.int (g i j) s.toks) { s with toks:=s.toks+1 }->aq (aw X.prog X.w) X.A (f (.int i t) (.int j u)) Q E s) :
  OpR X f (rI0 λi j=>.int (g i j)):=by
 intro pins s σ H x y v u Q I rx ry h;obtain⟨i,j,rfl,rfl,q⟩:=h;obtain⟨t,rfl⟩:=rx;obtain⟨t',rfl⟩:=ry;exact rule i j t t' s _ _ ⟨.int (g i j),H,I.tok _,⟨_,rfl⟩,q⟩
theorem uf{f:ag->ag->Sem ag}{g:Int->Int->Bool}
  (rule:∀(i j:Int) (t u:Tok) (s:ai) (Q:ag->ai->Prop) (E:ag->ai->Prop),Q (.bool (g i j)) s->aq (aw X.prog X.w) X.A (f (.int i t) (.int j u)) Q E s) :
  OpR X f (rI0 λi j=>.bl (g i j)):=by
 intro pins s σ H x y v u Q I rx ry h;obtain⟨i,j,rfl,rfl,q⟩:=h;obtain⟨t,rfl⟩:=rx;obtain⟨t',rfl⟩:=ry;exact rule i j t t' s _ _ ⟨.bl (g i j),H,I,rfl,q⟩
def CDiv(i j:Int):Prop:=0<j/\j<1073741824
def CPow(i j:Int):Prop:=0≤j/\j≤1000000/\i.natAbs<2 ^ 64
def CMul(i j:Int):Prop:=(-(2 ^ 64)<i/\i<2 ^ 64)∨(-(2 ^ 64)<j/\j<2 ^ 64)
theorem CMul.ok{i j:Int}(h:CMul i j):IntMulOk i j:=by
 rcases h with⟨h1,h2⟩|⟨h1,h2⟩
 ·exact .of_left (intBits_le_64 h1 h2)
 ·exact .of_right (intBits_le_64 h1 h2)
theorem Cr:OpR X (binaryOp .Add) (rI0 λi j=>.int (i+j)):=Aq λ_ _ _ _ _ _ _ q=>add_int q
theorem sd:OpR X (binaryOp .Sub) (rI0 λi j=>.int (i-j)):=Aq λ_ _ _ _ _ _ _ q=>sub_int q
theorem DD:OpR X (binaryOp .Mult) (rI CMul λi j=>.int (i*j)):=opI λ_ _ _ _ _ _ _ hc q=>mul_int q hc.ok
theorem xB:OpR X (binaryOp .FloorDiv) (rI CDiv λi j=>.int (i/j)):=opI λi j _ _ _ _ _ hc q=>by
 have h1:(0:Int)<j:=hc.1;have h2:j<1073741824:=hc.2;exact floordiv_int (by lia) (by rw[Int.fdiv_eq_ediv_of_nonneg i (by lia)];exact q) (.inl (PyProof.noPylong_small (by lia)))
theorem fN:OpR X (binaryOp .Mod) (rI (λ_ j=>0<j) λi j=>.int (i%j)):=opI λi j _ _ _ _ _ hc q=>by
 have h1:(0:Int)<j:=hc;exact mod_int' (by lia) (by rw[Int.fmod_eq_emod_of_nonneg i (by lia)];exact q)
theorem zl:OpR X (binaryOp .Pow) (rI CPow λi j=>.int (i ^ j.toNat)):=opI λ_ _ _ _ _ _ _ hc q=>pow_int_small hc.1 hc.2.1 hc.2.2 q
theorem unI{f:ag->Sem ag}{g:Int->Int}
  (rule:∀(i:Int) (t:Tok) (s:ai) (Q:ag->ai->Prop) (E:ag->ai->Prop),Q (.int (g i) s.toks) { s with toks:=s.toks+1 }->aq (aw X.prog X.w) X.A (f (.int i t)) Q E s) :
  UnR X f (rU λi=>.int (g i)):=by
 intro pins s σ H x v Q I rx h;obtain⟨i,rfl,q⟩:=h;obtain⟨t,rfl⟩:=rx;exact rule i t s _ _ ⟨.int (g i),H,I.tok _,⟨_,rfl⟩,q⟩
theorem yA:UnR X (unaryOp .USub) (rU λi=>.int (-i)):=unI λ_ _ _ _ _ q=>neg_int q
end
def scal:V->V->Bool
 |.non,.non=>true|.non,.int _=>true|.int _,.non=>true|.non,.bl _=>true|.bl _,.non=>true|.non,.str _=>true|.str _,.non=>true
 |.int _,.int _=>true|.bl _,.bl _=>true|.str _,.str _=>true|.byt _,.byt _=>true
 |.int _,.str _=>true|.str _,.int _=>true|.bl _,.str _=>true|.str _,.bl _=>true
 |_,_=>false
def rEq:R2:=λx y H Q=>scal x y=true/\Q (.bl (decide (x=y))) H
def rNe:R2:=λx y H Q=>scal x y=true/\Q (.bl (!decide (x=y))) H
theorem wK{i j:Int}:decide (V.int i=V.int j)=(i == j):=by
 rw[o9];simp
theorem AN{i j:Bool}:decide (V.bl i=V.bl j)=(i == j):=by
 rw[o9];simp
theorem AR{i j:Str}:decide (V.str i=V.str j)=(i == j):=by
 rw[o9];simp
theorem yQ{i j:Array UInt8}:decide (V.byt i=V.byt j)=(i.toList == j.toList):=by
 rw[o9];cases i;cases j;simp
section
variable {X:Cx}{a b c:av}{ta tb tc:TE}{pos:Pos}
theorem cE{pins:List (ae×az)}{σ:St}{H:Hp}{s:ai}{Q:VK}{k k':Bool}(I:Inv X pins σ H s)(q:Q (.bl k) H)(e:k=k'):EP X pins σ Q (.bool k') s:=by
 subst e;exact⟨.bl k,H,I,rfl,q⟩
theorem CN:OpR X (dm .Eq) rEq:=by
 intro pins s σ H x y v u Q I rx ry h;obtain⟨hs,q⟩:=h;cases x with
 |non=>
   cases rx;cases y with
   |non=>cases ry;exact PySem.EqNone.eq_none_none (cE I q (by simp))
   |bl j=>cases ry;exact PySem.EqNone.eq_none_bool (cE I q (by simp))
   |int j=>obtain⟨t',rfl⟩:=ry;exact PySem.EqNone.eq_none_int (cE I q (by simp))
   |str j=>obtain⟨t',rfl⟩:=ry;exact PySem.EqNone.eq_none_str (cE I q (by simp))
   |_=>exact absurd (show false=true from hs) bT
 |bl i=>
   cases rx;cases y with
   |non=>cases ry;exact PySem.EqNone.eq_bool_none (cE I q (by simp))
   |bl j=>cases ry;exact eq_bool (cE I q AN)
   |str j=>obtain⟨t',rfl⟩:=ry;exact PySem.EqMixed.eq_bool_str (cE I q (by simp))
   |_=>exact absurd (show false=true from hs) bT
 |int i=>
   obtain⟨t,rfl⟩:=rx;cases y with
   |non=>cases ry;exact PySem.EqNone.eq_int_none (cE I q (by simp))
   |int j=>obtain⟨t',rfl⟩:=ry;exact eq_int (cE I q wK)
   |str j=>obtain⟨t',rfl⟩:=ry;exact PySem.EqMixed.eq_int_str (cE I q (by simp))
   |_=>exact absurd (show false=true from hs) bT
 |str i=>
   obtain⟨t,rfl⟩:=rx;cases y with
   |non=>cases ry;exact PySem.EqNone.eq_str_none (cE I q (by simp))
   |bl j=>cases ry;exact PySem.EqMixed.eq_str_bool (cE I q (by simp))
   |int j=>obtain⟨t',rfl⟩:=ry;exact PySem.EqMixed.eq_str_int (cE I q (by simp))
   |str j=>obtain⟨t',rfl⟩:=ry;exact eq_str (cE I q AR)
   |_=>exact absurd (show false=true from hs) bT
 |byt i=>
   obtain⟨t,rfl⟩:=rx;cases y with
   |byt j=>obtain⟨t',rfl⟩:=ry;exact PySem.W.eq_bytes (cE I q yQ)
   |_=>exact absurd (show false=true from hs) bT
 |_=>cases y <;> exact absurd (show false=true from hs) bT
theorem Bm:OpR X (dm .NotEq) rNe:=by
 intro pins s σ H x y v u Q I rx ry h;obtain⟨hs,q⟩:=h;cases x with
 |non=>
   cases rx;cases y with
   |non=>cases ry;exact PySem.EqNone.ne_none_none (cE I q (by simp))
   |bl j=>cases ry;exact PySem.EqNone.ne_none_bool (cE I q (by simp))
   |int j=>obtain⟨t',rfl⟩:=ry;exact PySem.EqNone.ne_none_int (cE I q (by simp))
   |str j=>obtain⟨t',rfl⟩:=ry;exact PySem.EqNone.ne_none_str (cE I q (by simp))
   |_=>exact absurd (show false=true from hs) bT
 |bl i=>
   cases rx;cases y with
   |non=>cases ry;exact PySem.EqNone.ne_bool_none (cE I q (by simp))
   |bl j=>cases ry;exact ne_bool (cE I q (congrArg not AN))
   |str j=>obtain⟨t',rfl⟩:=ry;exact PySem.EqMixed.ne_bool_str (cE I q (by simp))
   |_=>exact absurd (show false=true from hs) bT
 |int i=>
   obtain⟨t,rfl⟩:=rx;cases y with
   |non=>cases ry;exact PySem.EqNone.ne_int_none (cE I q (by simp))
   |int j=>obtain⟨t',rfl⟩:=ry;exact ne_int (cE I q (congrArg not wK))
   |str j=>obtain⟨t',rfl⟩:=ry;exact PySem.EqMixed.ne_int_str (cE I q (by simp))
   |_=>exact absurd (show false=true from hs) bT
 |str i=>
   obtain⟨t,rfl⟩:=rx;cases y with
   |non=>cases ry;exact PySem.EqNone.ne_str_none (cE I q (by simp))
   |bl j=>cases ry;exact PySem.EqMixed.ne_str_bool (cE I q (by simp))
   |int j=>obtain⟨t',rfl⟩:=ry;exact PySem.EqMixed.ne_str_int (cE I q (by simp))
   |str j=>obtain⟨t',rfl⟩:=ry;exact ne_str (cE I q (congrArg not AR))
   |_=>exact absurd (show false=true from hs) bT
 |byt i=>
   obtain⟨t,rfl⟩:=rx;cases y with
   |byt j=>obtain⟨t',rfl⟩:=ry;exact PySem.W.ne_bytes (cE I q (congrArg not yQ))
   |_=>exact absurd (show false=true from hs) bT
 |_=>cases y <;> exact absurd (show false=true from hs) bT
theorem jX:OpR X (dm .Lt) (rI0 λi j=>.bl (decide (i<j))):=uf λ_ _ _ _ _ _ _ q=>lt_int q
theorem nE:OpR X (dm .Gt) (rI0 λi j=>.bl (decide (j<i))):=uf λ_ _ _ _ _ _ _ q=>gt_int q
theorem Ap:OpR X (dm .GtE) (rI0 λi j=>.bl (decide (j≤i))):=uf λ_ _ _ _ _ _ _ q=>ge_int q
theorem Eg:OpR X (dm .Is) (λx y H Q=>y=.non/\Q (.bl (decide (x=.non))) H):=by
 intro pins s σ H x y v u Q I rx ry h;obtain⟨rfl,q⟩:=h;cases ry;refine is_none_gen (cE I q ?_);cases x <;> first
  |(cases rx;rfl)
  |(obtain⟨t,rfl⟩:=rx;rfl)
theorem Fa:OpR X (dm .IsNot) (λx y H Q=>y=.non/\Q (.bl (!decide (x=.non))) H):=by
 intro pins s σ H x y v u Q I rx ry h;obtain⟨rfl,q⟩:=h;cases ry;refine isnot_none_gen (cE I q ?_);cases x <;> first
  |(cases rx;rfl)
  |(obtain⟨t,rfl⟩:=rx;rfl)
theorem OpR.or{f:ag->ag->Sem ag}{r r':R2}(h:OpR X f r)(h':OpR X f r'):OpR X f (λx y H Q=>r x y H Q∨r' x y H Q):=by
 intro pins s σ H x y v u Q I rx ry q;rcases q with q|q
 ·exact h pins s σ H x y v u Q I rx ry q
 ·exact h' pins s σ H x y v u Q I rx ry q
theorem bV(b:av){op:CmpOp}(h:op≠.In:=by decide)(h2:op≠.NotIn:=by decide):behindInMarks op b=false:=by
 have e1:(op == CmpOp.In)=false:=by cases op <;> first|rfl|exact absurd rfl h
 have e2:(op == CmpOp.NotIn)=false:=by cases op <;> first|rfl|exact absurd rfl h2
 cases b <;> simp[behindInMarks,e1,e2]
theorem Gz{op:CmpOp}{r:R2}(ho:OpR X (dm op) r)(ha:PE X a ta)(hb:PE X b tb)(hm:behindInMarks op b=false):PE X (.Compare a [op] [b] pos) (tOp r ta tb):=by
 intro pins s σ H Q I h;exact wpAny_Compare1 (ul ha hb I h λv u s2 x y H2 I2 rx ry q=>ho pins s2 σ H2 x y v u Q I2 rx ry q) hm
def C1(t:TE):TT:=λσ H Q=>t σ H λx H'=>∃k,x=.bl k/\Q k H'
theorem sW{op:CmpOp}{r:R2}(ho:OpR X (dm op) r)(ha:PE X a ta)(hb:PE X b tb)(hm:behindInMarks op b=false):PT X (.Compare a [op] [b] pos) (C1 (tOp r ta tb)):=by
 intro pins s σ H Q I h;refine wpAny_isTrue_Compare1 (thn (ha pins s σ H _ I h) λv s1 e0=>bo e0 λx H1 I1 r1 q1=>thn (hb pins s1 σ H1 _ I1 q1) λu s2 e0=>bo e0 λy H2 I2 r2 q2=>
  thn (ho pins s2 σ H2 x y v u _ I2 r1 r2 q2) λc s3 e0=>bo e0 λz H3 I3 r3 e4=>e4.elim λk e5=>e5.elim λe q3=>?_) hm
 subst e;cases r3;exact wpAny_truthy_bool ⟨H3,I3,q3⟩
theorem j9:(aZ:Nat)<2 ^ 63:=by rw[sizeLine_eq];decide
theorem Fo:OpR X (binaryOp .Add) (λx y H Q=>∃i j,x=.str i/\y=.str j/\i.length+j.length≤aZ/\Q (.str (i++j)) H):=by
 intro pins s σ H x y v u Q I rx ry h;obtain⟨i,j,rfl,rfl,hz,q⟩:=h;obtain⟨t,rfl⟩:=rx;obtain⟨t',rfl⟩:=ry;exact add_str (λt' tk=>⟨.str (i++j),H,I.tok _,⟨_,rfl⟩,q⟩) hz
theorem vals1{x:V}{us:List ag}(r:Vals [x] us):∃u,us=[u]/\aP x u:=by
 cases r with
 |cons r1 r2=>cases r2;exact⟨_,rfl,r1⟩
theorem vals2{x y:V}{us:List ag}(r:Vals [x,y] us):∃u w',us=[u,w']/\aP x u/\aP y w':=by
 cases r with
 |cons r1 r2=>
   cases r2 with
   |cons r3 r4=>cases r4;exact⟨_,_,rfl,r1,r3⟩
def zN(K:PySem.W.Frag)(x:V)(H:Hp)(n:Nat):Prop:=
 match x with
 |.str y=>y.length≤aZ/\n=y.length
 |.byt y=>y.size≤aZ/\n=y.size
 |.ref p=>(∃xs,SqL K H p xs/\n=xs.length)∨∃xs,SqT K H p xs/\n=xs.length
 |_=>False
theorem Hr:d4 X (.builtin "len") (λxs H Q=>∃x n,xs=[x]/\zN X.K x H n/\Q (.int n) H):=by
 intro pins s σ H xs us Q I r h;obtain⟨x,n,rfl,e,q⟩:=h;obtain⟨u,rfl,rx⟩:=vals1 r;have hl:=j9;have hs:aZ=16777216:=sizeLine_eq;cases x with
 |str y=>
   obtain⟨t,rfl⟩:=rx;obtain⟨hy,e'⟩:y.length≤aZ/\n=y.length:=e;subst e';exact len_str (by lia) ⟨.int _,H,I.tok _,⟨_,rfl⟩,q⟩
 |byt y=>
   obtain⟨t,rfl⟩:=rx;obtain⟨hy,e'⟩:y.size≤aZ/\n=y.size:=e;subst e';exact PySem.W.len_bytes (by lia) ⟨.int _,H,I.tok _,⟨_,rfl⟩,q⟩
 |ref p=>
   cases rx;have e':(∃xs,SqL X.K H p xs/\n=xs.length)∨∃xs,SqT X.K H p xs/\n=xs.length:=e;rcases e' with⟨xs,hx,e'⟩|⟨xs,hx,e'⟩
   ·subst e';obtain⟨its,r',pl,hz⟩:=I.list hx;have hlen:=r'.length;exact Calls.call_len_list pl.isList (by simp only[cf];lia) ⟨.int xs.length,H,I.tok _,⟨_,by simp only[cf];rw[hlen]⟩,q⟩
   ·subst e';obtain⟨its,r',pl,hz⟩:=I.tuple hx;have hlen:=r'.length;exact len_tuple pl (by simp only[cf];lia) ⟨.int xs.length,H,I.tok _,⟨_,by simp only[cf];rw[hlen]⟩,q⟩
 |_=>exact(show False from e).elim
end
structure jT(h:aG)(x dx C:ae)(mA:Str->Option ag):Prop where
 obj:h.get? x=some (PySem.W.instObj C dx)
 ns:h.Ns1 dx mA
 ne:dx≠x
theorem DA{h:aG}{dx:ae}{mA:Str->Option ag}(n:h.Ns1 dx mA):∃od,h.get? dx=some od/\∀name,PySem.W.lookIn name od=some (mA name):=by
 obtain⟨o,es,ep,ho,hd,hk,_,hm⟩:=n;refine⟨o,ho,λname=>?_⟩;have e:=hm name;unfold nsFind findBy at e;rw[←Array.find?_toList]at e;unfold PySem.W.lookIn;rw[hd];dsimp only;split
 ·rename_i y q;rw[q]at e;exact congrArg some e
 ·rename_i q;rw[q]at e;have a:es.toList.any (·.refKey)=false:=by
   rw[List.any_eq_false];intro y hy;obtain⟨z,t,hkey⟩:=hk y (Array.mem_toList_iff.mp hy);simp[DictEntry.refKey,hkey]
  have a':¬es.toList.any (·.refKey)=true:=by rw[a];exact bT
  rw[if_neg a'];exact congrArg some e
theorem jT.look{h:aG}{x dx C:ae}{mA:Str->Option ag}(I:jT h x dx C mA):∃od,PySem.W.InstAt h x (PySem.W.instObj C dx) C (some od)/\∀name,PySem.W.lookIn name od=some (mA name):=
 let ⟨od,ho,hl⟩:=DA I.ns
 ⟨od,⟨I.obj,rfl,rfl,ho⟩,hl⟩
section
variable {prog:bf}{w:aU}{A:bh}{E:ag->ai->Prop}{s:ai}{K:PySem.W.Frag}{x dx C f:ae}{mA:Str->Option ag}{name:Str}{v:ag}
theorem DU{expr:Bool}{Q:ag->ai->Prop}(X:K.In s.heap)(I:jT s.heap x dx C mA)(hg:PySem.W.plainGet K C name=true)(hh:PySem.W.hasDictIn K C=true)
  (ha:PySem.W.findIn K (.ref C) name=some none) (hv:mA name=some v) (hv':PySem.W.handedIn v=true) (h:Q v { s with toks:=s.toks+1 }) :
  aq (aw prog w) A (getAttr (.ref x) name expr) Q E s:=by
 obtain⟨od,J,hl⟩:=I.look;exact PySem.W.get_value X J (PySem.W.plainGet_of hg).1 (PySem.W.findObj_own hh ha rfl (by rw[hl,hv])) hv' h
theorem HB{pl:Sem Bool}{Q:ag×List ag->ai->Prop}(X:K.In s.heap)(I:jT s.heap x dx C mA)(hg:PySem.W.plainGet K C name=true)
  (hf:PySem.W.findIn K (.ref C) name=some (some (.ref f))) (ht:PySem.W.isFn K (.ref f)=true) (hv:mA name=none) (h:Q (.ref f,[.ref x]) s) :
  aq (aw prog w) A (getMethod (.ref x) name pl) Q E s:=by
 obtain⟨od,J,hl⟩:=I.look;exact PySem.W.method_fn X J (PySem.W.plainGet_of hg).1 (PySem.W.plainGet_of hg).2 hf (beq_iff_eq.mp ht) (by show(PySem.W.lookIn name od).map (·.isSome)=some false;rw[hl,hv];rfl) h
theorem FZ{ns:List Str}{Q:Unit->ai->Prop}(X:K.In s.heap)(I:jT s.heap x dx C mA)
  (hs:PySem.W.findIn K (.ref C) "__setattr__"=some (some (.builtin "object.__setattr__"))) (hp:PySem.W.plainOver K C=true) (ht:PySem.W.takerIn K C name=some none) (hh:PySem.W.hasDictIn K C=true)
  (hw:PySem.Within mA ns) (hsz:ns.length≤aZ)
  (h:∀h',jT h' x dx C (λy=>if y=name then some v else mA y)->jJ dx s.heap h'->Q () { s with heap:=h',toks:=s.toks+2 }) :
  aq (aw prog w) A (setAttr (.ref x) name v) Q E s:=by
 obtain⟨od,J,hl⟩:=I.look;refine PySem.W.set_plain X J hs (PySem.W.osa_open (s:={ s with toks:=s.toks+1 }) (r:=none) X J hp ht λb=>?_);obtain⟨cd,hc,hd'⟩:=PySem.W.any_some hh;have hx:s.heap.get? x=some ⟨.ref C,some dx,.plain,#[]⟩:=I.obj;refine ak (aI (ak (ak (wpAny_loadPart hx (ak (PySem.W.Looks.here (s:={ s with toks:=s.toks+1 }) (PySem.W.looks_clsIn X hc) ?_))))));rw[hd'];refine aI (a:=some dx) (ak (aI (ak ?_)));refine wpAny_nsSet1 (s:={ s with toks:=s.toks+1 }) I.ns λh' hn2 hs2=>?_;obtain⟨oD,esD,epD,hoD,hdD,hcD⟩:=hn2.count (PySem.Within.cons name v hw);refine ak (wpAny_lookBehind hoD (by rw[hdD];exact pastItsLine_dict (cF hcD (by rw[eQ];lia))) ?_);exact aI (h _ ⟨(hs2.2 _ (Ne.symm I.ne)).trans I.obj,hn2,I.ne⟩ hs2)
theorem CH{R:Result->ai->Prop}{vs:List ag}{kw:List (Str×ag)}(X:K.In s.heap)(hm:PySem.W.makesIn K C=true)
  (hi:PySem.W.findIn K (.ref C) "__init__"=some (some (.ref f))) (hf:PySem.W.typeIn K (.ref f)=some (.type "function"))
  (h:codeAny (aw prog w) (A.under (.builtin "type.__call__" ⟨.ref C::vs,kw⟩)) (.call (.ref f) ⟨.ref (s.heap.objs.size + 1)::vs,kw⟩) (PySem.W.InitBack (s.heap.objs.size + 1) R)
   { s with heap:=(s.heap.push PySem.W.emptyDict).push (PySem.W.instObj C s.heap.objs.size) }) :
  codeAny (aw prog w) A (.call (.ref C) ⟨vs,kw⟩) R s:=by
 obtain⟨hh,g,d,t,os⟩:=s;exact PySem.W.make_core (PySem.W.makes_of X hm) (PySem.W.looks_findIn X hi) (λself=>PySem.W.bind_fn X self hf) (.inl rfl) h
end
def putF(f:Str)(v:V):List (Str×V)->List (Str×V)
 |[]=>[(f,v)]
 |(g,x)::r=>if g=f then(g,v)::r else(g,x)::putF f v r
theorem xF(f g:Str)(v:V):∀fs:List (Str×V),(putF f v fs).lookup g=if g=f then some v else fs.lookup g
 |[]=>by
   show dB g [(f,v)]=_;by_cases h:g=f
   ·have hb:(g == f)=true:=beq_iff_eq.mpr h;simp only[dB,hb,if_pos h]
   ·have hb:(g == f)=false:=beq_eq_false_iff_ne.mpr h;simp only[dB,hb,if_neg h]
 |(k,x)::r=>by
   have ih:=xF f g v r;rw[show putF f v ((k,x)::r)=(if k=f then(k,v)::r else(k,x)::putF f v r) from rfl];by_cases hk:k=f
   ·rw[if_pos hk];by_cases h:g=k
    ·have hb:(g == k)=true:=beq_iff_eq.mpr h;simp only[dB,hb,if_pos (h.trans hk)]
    ·have hb:(g == k)=false:=beq_eq_false_iff_ne.mpr h;simp only[dB,hb,if_neg (λe:g=f=>h (e.trans hk.symm))]
   ·rw[if_neg hk];by_cases h:g=k
    ·have hb:(g == k)=true:=beq_iff_eq.mpr h;simp only[dB,hb,if_neg (λe:g=f=>hk (h.symm.trans e))]
    ·have hb:(g == k)=false:=beq_eq_false_iff_ne.mpr h;simp only[dB,hb];exact ih
theorem tm(f:Str)(v:V):∀fs:List (Str×V),f∈(putF f v fs).map (·.1)/\∀g,g∈fs.map (·.1)->g∈(putF f v fs).map (·.1)
 |[]=>⟨by simp[putF],λg h=>by simp at h⟩
 |(k,x)::r=>by
   obtain⟨i1,i2⟩:=tm f v r;rw[show putF f v ((k,x)::r)=(if k=f then(k,v)::r else(k,x)::putF f v r) from rfl];by_cases hk:k=f
   ·rw[if_pos hk];subst hk;exact⟨by simp,λg h=>by simpa using h⟩
   ·rw[if_neg hk];refine⟨?_,λg h=>?_⟩
    ·rw[bS];exact eY _ i1
    ·rw[bS]at h ⊢;rcases bW.mp h with e|e
     ·exact bW.mpr (.inl e)
     ·exact eY _ (i2 g e)
theorem wu(f:Str)(v:V):∀fs:List (Str×V),(putF f v fs).length≤fs.length+1
 |[]=>by simp[putF]
 |(k,x)::r=>by
   have ih:=wu f v r;rw[show putF f v ((k,x)::r)=(if k=f then(k,v)::r else(k,x)::putF f v r) from rfl];by_cases hk:k=f
   ·rw[if_pos hk,eQ,eQ];lia
   ·rw[if_neg hk,eQ,eQ];lia
theorem dO.some_of{v:V}{o:Option ag}(r:dO (some v) o):∃u,o=some u/\aP v u:=by
 cases o with
 |none=>exact(show False from r).elim
 |some u=>exact⟨u,rfl,r⟩
theorem dO.none_of{o:Option ag}(r:dO none o):o=none:=by
 cases o with
 |none=>rfl
 |some u=>exact(show False from r).elim
theorem Cz{v:V}{u:ag}(r:aP v u):PySem.W.handedIn u=true:=by
 cases v with
 |non=>cases(show u=Value.none from r);rfl
 |bl b=>cases(show u=Value.bool b from r);rfl
 |int i=>obtain⟨t,e⟩:=(show ∃t,u=Value.int i t from r);cases e;rfl
 |str x=>obtain⟨t,e⟩:=(show ∃t,u=Value.str x t from r);cases e;rfl
 |byt b=>obtain⟨t,e⟩:=(show ∃t,u=Value.bytes b t from r);cases e;rfl
 |flt b=>obtain⟨t,e⟩:=(show ∃t,u=Value.float b t from r);cases e;rfl
 |ref a=>cases(show u=Value.ref a from r);rfl
 |ty n=>cases(show u=Value.type n from r);rfl
section
variable {P:bf}{w:aU}{H H':Hp}{h h':aG}{a C dx:ae}{fs fs':List (Str×V)}
theorem pW(hok:HOk P w H h)(e:H a=some (.ins C dx fs)):∃mA,jT h a dx C mA/\(∀f,dO (fs.lookup f) (mA f))/\PySem.Within mA (fs.map (·.1))/\fs.length≤1000/\H dx=some (.own a):=by
 obtain⟨d,z,ne,ob,mA,n,r,q⟩:=(show bG P w H h a (.ins C dx fs) from hok a _ e);exact⟨mA,⟨ob,n,ne⟩,r,q,z,d⟩
end
structure Cls(K:PySem.W.Frag)(C:ae):Prop where
 pg:PySem.W.plainGet K C Str.empty=true
 hd:PySem.W.hasDictIn K C=true
 po:PySem.W.plainOver K C=true
 sa:PySem.W.findIn K (.ref C) "__setattr__"=some (some (.builtin "object.__setattr__"))
theorem Cls.get{K:PySem.W.Frag}{C:ae}(c:Cls K C)(f:Str):PySem.W.plainGet K C f=true:=c.pg
def cQ(K:PySem.W.Frag)(C:ae)(f:Str):Prop:=PySem.W.findIn K (.ref C) f=some none
theorem cQ.taker{K:PySem.W.Frag}{C:ae}{f:Str}(n:cQ K C f):PySem.W.takerIn K C f=some none:=by
 unfold PySem.W.takerIn;rw[show PySem.W.findIn K (.ref C) f=some none from n];rfl
structure Meth(K:PySem.W.Frag)(C:ae)(m:Str)(f:ae):Prop where
 at_:PySem.W.findIn K (.ref C) m=some (some (.ref f))
 fn:PySem.W.isFn K (.ref f)=true
 kp:PySem.W.keepIn K (.ref f)=true
section
variable {X:Cx}{pins:List (ae×az)}{σ:St}{H:Hp}{s:ai}{a C dx:ae}{fs:List (Str×V)}{f:Str}{v:V}{A:bh}{E:ag->ai->Prop}
theorem z8{b:Bool}{Q:ag->ai->Prop}(I:Inv X pins σ H s)(e:H a=some (.ins C dx fs))(c:Cls X.K C)(n:cQ X.K C f)(l:fs.lookup f=some v)
  (h:∀u s',Inv X pins σ H s'->aP v u->Q u s'):aq (aw X.prog X.w) A (getAttr (.ref a) f b) Q E s:=by
 obtain⟨mA,O,r,_,_,_⟩:=pW I.hok e;obtain⟨u,hu,ru⟩:=dO.some_of (v:=v) (o:=mA f) (by rw[←l];exact r f);exact DU I.kIn O (c.get f) c.hd n hu (Cz ru) (h u _ (I.tok _) ru)
theorem zu{m:Str}{g:ae}{pl:Sem Bool}{Q:ag×List ag->ai->Prop}(I:Inv X pins σ H s)(e:H a=some (.ins C dx fs))(c:Cls X.K C)(k:Meth X.K C m g)(l:fs.lookup m=none)
  (h:Q (.ref g,[.ref a]) s):aq (aw X.prog X.w) A (getMethod (.ref a) m pl) Q E s:=by
 obtain⟨mA,O,r,_,_,_⟩:=pW I.hok e;have hn:mA m=none:=dO.none_of (by rw[←l];exact r m);exact HB I.kIn O (c.get m) k.at_ k.fn hn h
theorem AY{y:V}{u:ag}{Q:Unit->ai->Prop}(I:Inv X pins σ H s)(e:H a=some (.ins C dx fs))(c:Cls X.K C)(n:cQ X.K C f)(hl:fs.length<1000)(ry:aP y u)
  (h:∀s',Inv X pins σ (upd H a (.ins C dx (putF f y fs))) s'->Q () s'):aq (aw X.prog X.w) A (setAttr (.ref a) f u) Q E s:=by
 obtain⟨mA,O,r,wi,_,ho⟩:=pW I.hok e;have hz:(fs.map (·.1)).length≤aZ:=by rw[cY,sizeLine_eq];lia
 refine FZ I.kIn O c.sa c.po n.taker c.hd wi hz λh' O' sb=>h _ ?_;have hd:∃o,h'.get? dx=some o:=let ⟨o,_,_,e',_⟩:=O'.ns;⟨o,e'⟩;refine I.write (x:=a) (e:=dx) (by rw[e];exact True.intro) (.inr ho) (λb q hb z=>(sb.2 b hb).trans z) hd ?_;refine⟨by rw[aQ O.ne];exact ho,?_,O.ne,O'.obj,_,O'.ns,λg=>?_,λg hg=>?_⟩
 ·have:=wu f y fs;lia
 ·show dO ((putF f y fs).lookup g) (if g=f then some u else mA g);rw[xF];by_cases q:g=f
  ·rw[if_pos q,if_pos q];exact ry
  ·rw[if_neg q,if_neg q];exact r g
 ·by_cases q:g=f
  ·rw[q];exact(tm f y fs).1
  ·refine(tm f y fs).2 g (wi g λz=>hg ?_);show(if g=f then some u else mA g)=none;rw[if_neg q];exact z
theorem Inv.made(I:Inv X pins σ H s):Inv X pins σ (upd (upd H s.heap.objs.size (.own (s.heap.objs.size+1))) (s.heap.objs.size+1) (.ins C s.heap.objs.size []))
  { s with heap:=(s.heap.push PySem.W.emptyDict).push (PySem.W.instObj C s.heap.objs.size) }:=by
 have e1:(s.heap.push PySem.W.emptyDict).get? s.heap.objs.size=some PySem.W.emptyDict:=cR s.heap rfl;have e2:((s.heap.push PySem.W.emptyDict).push (PySem.W.instObj C s.heap.objs.size)).get? (s.heap.objs.size+1)=some (PySem.W.instObj C s.heap.objs.size):=by
  have:=cR (s.heap.push PySem.W.emptyDict) (o:=PySem.W.instObj C s.heap.objs.size) rfl
  rwa [jr]at this
 have e3:(s.heap.push PySem.W.emptyDict).Ns s.heap.objs.size (λ_=>none):=⟨PySem.W.emptyDict,#[],_,e1,rfl,(λe he=>absurd he (by simp)),λ_=>rfl⟩
 have I1:=I.laid (a:=s.heap.objs.size) (o:=.own (s.heap.objs.size+1)) (h':=s.heap.push PySem.W.emptyDict) (t':=s.toks) (λb u q=>bv _ q) (aY _) ⟨_,e1⟩;refine I1.laid (a:=s.heap.objs.size+1) (o:=.ins C s.heap.objs.size []) (t':=s.toks) (λb u q=>bv _ q) (qw (jr _ _)) ?_;have ne:s.heap.objs.size≠s.heap.objs.size+1:=cU (qp _);refine⟨by rw[aQ ne,cG],d9 _,ne,e2,λ_=>none,(Heap.Ns1.of_empty e3).at λo q=>bv _ q,λ_=>True.intro,λy hy=>absurd rfl hy⟩
theorem EV{prog:bf}{w:aU}{env:Env}{e:av}{f:Str}{pos:Pos}{s:ai}{Q:ag->ai->Prop}(hb:attributeBase e f env (aE e env)=aE e env)
  (h:aq (aw prog w) A (aE e env) (λo s₁=>aq (aw prog w) A (getAttr o f true) Q E s₁) E s):aq (aw prog w) A (aE (.Attribute e f pos) env) Q E s:=
 Attribute_any_ h (by rw[arm_eval_Attribute,hb])
end
def BH(K:PySem.W.Frag)(ta:TE)(f:Str):TE:=λσ H Q=>ta σ H λx H1=>∃a C dx fs v,x=.ref a/\H1 a=some (.ins C dx fs)/\Cls K C/\cQ K C f/\fs.lookup f=some v/\Q v H1
def dq(K:PySem.W.Frag)(ta tv:TE)(f:Str):TS:=λD σ H=>tv σ H λy H1=>ta σ H1 λx H2=>∃a C dx fs,x=.ref a/\H2 a=some (.ins C dx fs)/\Cls K C/\cQ K C f/\fs.length<1000 /\
 D.nx σ (upd H2 a (.ins C dx (putF f y fs)))
def uA(X:Cx)(op:Operator)(rd:V->V->Hp->VK->Prop):Prop:=
 ∀(pins:List (ae×az)) (s:ai) (σ:St) (H:Hp) (x y:V) (u v:ag) (Q:VK),Inv X pins σ H s->aP x u->aP y v->rd x y H Q->aq (aw X.prog X.w) X.A (inplaceOp op u v) (EP X pins σ Q) X.xe s
def G9(K:PySem.W.Frag)(ta tv:TE)(rd:V->V->Hp->VK->Prop)(f:Str):TS:=λD σ H=>ta σ H λx H1=>∃a C dx fs v,x=.ref a/\H1 a=some (.ins C dx fs)/\Cls K C/\cQ K C f/\fs.lookup f=some v /\
 tv σ H1 λy H2=>rd v y H2 λz H3=>∃dx' fs',H3 a=some (.ins C dx' fs')/\fs'.length<1000/\D.nx σ (upd H3 a (.ins C dx' (putF f z fs')))
section
variable {X:Cx}{o e value:av}{f:Str}{pos pos' tpos:Pos}{ta tv:TE}
theorem D6(he:PE X e ta)(hb:attributeBase e f X.env (aE e X.env)=aE e X.env):PE X (.Attribute e f pos) (BH X.K ta f):=by
 intro pins s σ H Q I h;refine EV hb (thn (he pins s σ H _ I h) λu s1 e0=>bo e0 λx H1 I1 rx e4=>e4.elim λa e5=>e5.elim λC e6=>e6.elim λdx e7=>e7.elim λfs e8=>e8.elim λv e9=>e9.elim λex e10=>e10.elim λea e11=>e11.elim λc e12=>e12.elim λn e13=>e13.elim λl q=>?_);subst ex;obtain rfl:u=Value.ref a:=rx;exact z8 I1 ea c n l λu' s2 I2 ru=>⟨v,H1,I2,ru,q⟩
theorem Ft(ha:PE X o ta)(hv:PE X value tv)(hs:swapsWith value (some (.Attribute o f pos')) pos.line X.env=pure false):PS X (.Assign [.Attribute o f pos'] value pos) (dq X.K ta tv f):=by
 intro pins s σ H D I h;refine plainObj_wpAny_Assign_Attribute (thn (hv pins s σ H _ I h) λu s1 e0=>bo e0 λy H1 I1 ry q=>thn (ha pins s1 σ H1 _ I1 q) λov s2 e0=>bo e0 λx H2 I2 rx e4=>e4.elim λa e5=>e5.elim λC e6=>e6.elim λdx e7=>e7.elim λfs e8=>e8.elim λex e9=>e9.elim λea e10=>e10.elim λc e11=>e11.elim λn e12=>e12.elim λl q2=>?_) hs;subst ex;obtain rfl:ov=Value.ref a:=rx;exact AY I2 ea c n l ry λs3 I3=>⟨σ,_,I3,q2⟩
theorem Bl{op:Operator}{rd:V->V->Hp->VK->Prop}(ha:PE X o ta)(hv:PE X value tv)(hop:uA X op rd):PS X (.AugAssign (.Attribute o f tpos) op value pos) (G9 X.K ta tv rd f):=by
 intro pins s σ H D I h;refine wpAny_AugAssign_AttributeAny (thn (ha pins s σ H _ I h) λov s1 e0=>bo e0 λx H1 I1 rx e4=>e4.elim λa e5=>e5.elim λC e6=>e6.elim λdx e7=>e7.elim λfs e8=>e8.elim λv e9=>e9.elim λex e10=>e10.elim λea e11=>e11.elim λc e12=>e12.elim λn e13=>e13.elim λl q=>?_);subst ex;obtain rfl:ov=Value.ref a:=rx;refine z8 I1 ea c n l λu s2 I2 ru=>thn (hv pins s2 σ H1 _ I2 q) λw3 s3 e0=>bo e0 λy H2 I3 ry q3=>thn (hop pins s3 σ H2 v y u w3 _ I3 ru ry q3) λw4 s4 e0=>bo e0 λz H3 I4 rz e4=>e4.elim λdx' e5=>e5.elim λfs' e6=>e6.elim λea' e7=>e7.elim λl' q4=>?_;exact AY I4 ea' c n l' rz λs5 I5=>⟨σ,_,I5,q4⟩
def qk:V->V->Hp->VK->Prop:=λx y H Q=>∃i j,x=.int i/\y=.int j/\Q (.int (i+j)) H
theorem wO:uA X .Add qk:=by
 rintro pins s σ H x y u v Q I rx ry ⟨i,j,rfl,rfl,q⟩;obtain⟨t,rfl⟩:=(show ∃t,u=Value.int i t from rx);obtain⟨t',rfl⟩:=(show ∃t',v=Value.int j t' from ry);exact PyProof.Rows.iadd_int ⟨.int (i+j),H,I.tok _,⟨_,rfl⟩,q⟩
end
section
variable {X:Cx}{pins:List (ae×az)}{σ:St}{H:Hp}{s:ai}{A:bh}{E:ag->ai->Prop}{Q:ag->ai->Prop}{c:ag}{b:Bool}
inductive fI(K:PySem.W.Frag)(H:Hp):V->ag->Prop where
 |non:fI K H .non (.type "NoneType")
 |bl (x:Bool):fI K H (.bl x) (.type "bool")
 |int (i:Int):fI K H (.int i) (.type "int")
 |str (x:Str):fI K H (.str x) (.type "str")
 |flt (x:UInt64):fI K H (.flt x) (.type "float")
 |lst {a:ae} {xs:List V} (e:H a=some (.lst xs)):fI K H (.ref a) (.type "list")
 |frz {a:ae} {o:az} {xs:List V} (e:H a=some (.frz o (.lst xs))):fI K H (.ref a) (.type "list")
 |tup {a:ae} {xs:List V} (e:H a=some (.tup xs)):fI K H (.ref a) (.type "tuple")
 |dK {a:ae} {kvs:List (Key×V)} (e:H a=some (.dK kvs)):fI K H (.ref a) (.type "dict")
 |dT {a:ae} {kvs:List (List Key×V)} (e:H a=some (.dT kvs)):fI K H (.ref a) (.type "dict")
 |ins {a C dx:ae} {fs:List (Str×V)} (e:H a=some (.ins C dx fs)) (cl:Cls K C) (ha:PySem.W.findIn K (.ref C) "__class__"=some (some (.builtin "object.__class__")))
   (hn:PySem.W.specialIn K (.builtin "object.__class__") "__get__"=some (some (.builtin "getset_descriptor.__get__"))) (htk:PySem.W.takesIn K (.builtin "object.__class__")=some true)
   (hm:PySem.W.mroIn K C (.type "object")=some true):fI K H (.ref a) (.ref C)
theorem HG{x:V}{u t:ag}(I:Inv X pins σ H s)(rx:aP x u)(ty:fI X.K H x t)(e:PySem.W.kitOne X.K t c=some b)(h:∀tk,Q (.bool b) { s with toks:=tk }) :
  aq (aw X.prog X.w) A (call (.builtin "isinstance") [u,c]) Q E s:=by
 cases ty with
 |non=>cases(show u=Value.none from rx);exact PySem.W.kia_one PySem.W.kitx_none I.kIn True.intro e (λz=>nomatch z) h
 |bl y=>cases(show u=Value.bool y from rx);exact PySem.W.kia_one PySem.W.kitx_bool I.kIn True.intro e (λz=>nomatch z) h
 |int i=>obtain⟨t,q⟩:=(show ∃t,u=Value.int i t from rx);cases q;exact PySem.W.kia_one PySem.W.kitx_int I.kIn True.intro e (λz=>nomatch z) h
 |str y=>obtain⟨t,q⟩:=(show ∃t,u=Value.str y t from rx);cases q;exact PySem.W.kia_one PySem.W.kitx_str I.kIn True.intro e (λz=>nomatch z) h
 |flt y=>obtain⟨t,q⟩:=(show ∃t,u=Value.float y t from rx);cases q;exact PySem.W.kia_one PySem.W.kitx_float I.kIn True.intro e (λz=>nomatch z) h
 |@lst a xs ea=>
   cases(show u=Value.ref a from rx);obtain⟨_,_,n,_,h1⟩:=(show bG X.prog X.w H s.heap a (.lst xs) from I.hok a _ ea);exact PySem.W.kia_one PySem.W.kitx_list I.kIn ⟨_,h1,rfl⟩ e (λz=>nomatch z) h
 |@frz a ob xs ea=>
   cases(show u=Value.ref a from rx);obtain⟨_,_,_,n,_,h1⟩:=(show bG X.prog X.w H s.heap a (.frz ob (.lst xs)) from I.hok a _ ea);exact PySem.W.kia_one PySem.W.kitx_list I.kIn ⟨_,h1,rfl⟩ e (λz=>nomatch z) h
 |@tup a xs ea=>
   cases(show u=Value.ref a from rx);obtain⟨_,_,_,p⟩:=(show bG X.prog X.w H s.heap a (.tup xs) from I.hok a _ ea);obtain⟨o,h1,h2,_⟩:=p;exact PySem.W.kia_one PySem.W.kitx_tuple I.kIn ⟨o,h1,h2⟩ e (λz=>nomatch z) h
 |@dK a kvs ea=>
   cases(show u=Value.ref a from rx);obtain⟨_,_,vs,_,p⟩:=(show bG X.prog X.w H s.heap a (.dK kvs) from I.hok a _ ea);obtain⟨o,es,ep,h1,h2,_⟩:=p;exact PySem.W.kia_one PySem.W.kitx_dict I.kIn ⟨o,h1,h2.1⟩ e (λz=>nomatch z) h
 |@dT a kvs ea=>
   cases(show u=Value.ref a from rx);obtain⟨_,_,xs,_,o,es,ep,h1,h2,_⟩:=(show bG X.prog X.w H s.heap a (.dT kvs) from I.hok a _ ea);exact PySem.W.kia_one PySem.W.kitx_dict I.kIn ⟨o,h1,h2.1⟩ e (λz=>nomatch z) h
 |@ins a C dx fs ea cl ha hn htk hm=>
   cases(show u=Value.ref a from rx);obtain⟨mA,O,_⟩:=pW I.hok ea;obtain⟨od,J,_⟩:=O.look;exact PySem.W.kia_one (PySem.W.kitx_own (cl.get _) cl.hd ha hn htk hm) I.kIn J e (λz=>nomatch z) h
end
structure Room(k:Nat)(A:bh):Prop where
 hd:A.handled=none
 dp:A.depth+3*k+5<recursionLimit
 un:A.units+16*k+200<cLine
theorem Room.mono{j k:Nat}{A:bh}(r:Room k A)(h:j≤k):Room j A:=⟨r.hd,by have:=r.dp;lia,by have:=r.un;lia⟩
theorem Room.deeper{k:Nat}{A:bh}(r:Room (k+1) A)(env:Env):Room k (A.deeper env):=
 ⟨r.hd,by have:=r.dp;show A.depth+1+3*k+5<_;lia,by have:=r.un;show A.units+3+16*k+200<_;lia⟩
theorem DV{A:bh}{C:ae}{us:List ag}{kw:List (Str×ag)}:(A.under (.builtin "type.__call__" ⟨.ref C::us,kw⟩)).depth=A.depth+1:=by
 first|rfl|simp[Around.under,Code.weight,Code.isCreation,Code.isGuard,Code.isCaller,Code.frames,Code.isFrame,guardIds]
theorem Es{A:bh}{C:ae}{us:List ag}{kw:List (Str×ag)}:(A.under (.builtin "type.__call__" ⟨.ref C::us,kw⟩)).units=A.units+1:=by
 first|rfl|simp[Around.under,Code.cUnits,Code.frames,Code.isFrame]
theorem Room.make{k:Nat}{A:bh}(r:Room (k+1) A)(C:ae)(us:List ag)(kw:List (Str×ag)):Room k (A.under (.builtin "type.__call__" ⟨.ref C::us,kw⟩)):=
 ⟨r.hd,by have:=r.dp;rw[DV];lia,by have:=r.un;rw[Es];lia⟩
theorem Room.depth{k:Nat}{A:bh}(r:Room k A):A.depth<recursionLimit:=by have:=r.dp;lia
theorem Room.units{k:Nat}{A:bh}(r:Room k A):A.units+64<cLine:=by have:=r.un;lia
def oW:TA:=λ_ H Q=>Q [] H
def me(ta:TE)(tr:TA):TA:=λσ H Q=>ta σ H λx H1=>tr σ H1 λxs H2=>Q (x::xs) H2
section
variable {X:Cx}{e:av}{es:List av}{te:TE}{t:TA}{pos:Pos}
theorem pU:PA X [] oW:=λ_ _ _ _ H Q I h=>Calls.spliced_nil ⟨[],H,I,.nil,h⟩
theorem fg(ha:PE X e te)(hr:PA X es t)(hs:aH (e::es) X.env=(false,aE e X.env)::aH es X.env:=by rfl):PA X (e::es) (me te t):=by
 intro pos pins s σ H Q I h;rw[hs];show aq _ _ (spliced ((false,aE e X.env)::backTo pos (aH es X.env))) _ _ s;refine Calls.spliced_cons (thn (ha pins s σ H _ I h) λu s1 e0=>bo e0 λx H1 I1 r1 q1=>?_);exact thn (hr pos pins s1 σ H1 _ I1 q1) λus s2 e0=>bo e0 λxs H2 I2 r2 q2=>⟨x::xs,H2,I2,.cons r1 r2,q2⟩
def Gg(t:TA):TE:=λσ H Q=>t σ H λxs H1=>xs.length≤aZ/\∀p,H1 p=none->Q (.ref p) (upd H1 p (.tup xs))
def EY(t:TA):TE:=λσ H Q=>t σ H λxs H1=>xs.length≤aZ/\∀p,H1 p=none->Q (.ref p) (upd H1 p (.lst xs))
theorem Hj{x1}(h:PA X es t):PE X (.Tuple es x1 pos) (Gg t):=by
 intro pins s σ H Q I hq;refine wpAny_Tuple_spliced (thn (h pos pins s σ H _ I hq) λus s1 e0=>bo e0 λxs H1 I1 r e4=>e4.elim λz q=>⟨by rw[←r.length];exact z,?_⟩);have hf:H1 s1.heap.objs.size=none:=I1.hok.fresh (aY _);refine⟨.ref s1.heap.objs.size,upd H1 s1.heap.objs.size (.tup xs),I1.laid (t':=s1.toks) (λb u e=>bv _ e) (aY _) ?_,rfl,q _ hf⟩;exact⟨z,us,r,⟨_,cR _ rfl,rfl,_,rfl⟩⟩
theorem G1(h:PA X es t):PE X (.List es pos) (EY t):=by
 intro pins s σ H Q I hq;refine wpAny_List_spliced (thn (h pos pins s σ H _ I hq) λus s1 e0=>bo e0 λxs H1 I1 r e4=>e4.elim λz q=>⟨by rw[←r.length];exact z,?_⟩);have hf:H1 s1.heap.objs.size=none:=I1.hok.fresh (aY _);refine⟨.ref s1.heap.objs.size,upd H1 s1.heap.objs.size (.lst xs),I1.laid (t':=s1.toks) (λb u e=>bv _ e) (aY _) ?_,rfl,q _ hf⟩;exact⟨z,us,0,r,cR _ rfl⟩
end
abbrev Sp:=List V->Hp->VK->XK->Prop
abbrev CXT:=List Env->Hp->ai->XK->ag->ai->Prop
structure Env0(P:bf)(w:aU)(K:PySem.W.Frag)(mg:Str->Option ag)(base:aG)(A:bh)(outer:List Env)(s:ai)(H:Hp):Prop where
 frames:A.frames=some outer
 mod:Mod K mg base
 bs:∀b o,base.get? b=some o->s.heap.get? b=some o/\H b=none
 bsz:base.objs.size≤s.heap.objs.size
 funs:s.heap.FunFrames base outer
 frf:∀b∈frs outer,H b=none
 hok:HOk P w H s.heap
 bare:AllBare s.gens
def CE(outer:List Env)(P:bf)(w:aU)(H:Hp)(s:ai)(Q:VK)(u:ag)(s':ai):Prop:=
 ∃v H',s'.os=s.os/\AllBare s'.gens/\Un (frs outer) [] H H' s.heap s'.heap/\HOk P w H' s'.heap/\aP v u/\Q v H'
def CR(CX:CXT)(outer:List Env)(P:bf)(w:aU)(H:Hp)(s:ai)(Q:VK)(E:XK)(r:Result)(s':ai):Prop:=
 match r with
 |.ok (.ret u)=>CE outer P w H s Q u s'
 |.ok _=>False
 |.error e=>CX outer H s E e s'
structure ip(P:bf)(w:aU)(K:PySem.W.Frag)(mg:Str->Option ag)(base:aG)(CX:CXT)(k:Nat)(f:ae)(fd:aW)(ps:List Str)(sp:Sp):Prop where
 len:∀vs H Q E,sp vs H Q E->vs.length=ps.length
 run:∀(A:bh) (outer:List Env) (s:ai) (H:Hp) (args:Args) (us:List ag) (vs:List V) (Q:VK) (E:XK),Room k A->Env0 P w K mg base A outer s H->BindsTo s fd args (ps.zip us)->Vals vs us->sp vs H Q E ->
  codeAny (aw P w) A (.call (.ref f) args) (CR CX outer P w H s Q E) s
theorem ip.imp{P:bf}{w:aU}{K:PySem.W.Frag}{mg:Str->Option ag}{base:aG}{CX:CXT}{k:Nat}{f:ae}{fd:aW}{ps:List Str}{sp sp':Sp}(F:ip P w K mg base CX k f fd ps sp)
  (h:∀vs H Q E,sp' vs H Q E->sp vs H Q E):ip P w K mg base CX k f fd ps sp':=
 ⟨λvs H Q E q=>F.len vs H Q E (h _ _ _ _ q),λA outer s H args us vs Q E hr he hb hv hs=>F.run A outer s H args us vs Q E hr he hb hv (h _ _ _ _ hs)⟩
theorem Env0.make{P:bf}{w:aU}{K:PySem.W.Frag}{mg:Str->Option ag}{base:aG}{A:bh}{outer:List Env}{s:ai}{H:Hp}(e:Env0 P w K mg base A outer s H)(C:ae)(us:List ag)(kw:List (Str×ag)) :
  Env0 P w K mg base (A.under (.builtin "type.__call__" ⟨.ref C::us,kw⟩)) outer s H:=⟨by first|exact e.frames|(simpa[Around.under,Code.envs,Code.isFrame,pushEnvs] using e.frames),e.mod,e.bs,e.bsz,e.funs,e.frf,e.hok,e.bare⟩
section
variable {X:Cx}{pins:List (ae×az)}{σ:St}{H:Hp}{s s':ai}
theorem Inv.env0(I:Inv X pins σ H s):Env0 X.prog X.w X.K X.mg X.base X.A X.stack s H:=
 ⟨I.ok.frames,I.ok.mod,I.bs,cF I.ok.bsz I.sz,I.stack,I.stkFree,I.hok,I.bare⟩
theorem Inv.after{Q:VK}{u:ag}(I:Inv X pins σ H s)(h:CE X.stack X.prog X.w H s Q u s'):EP X pins σ Q u s':=by
 obtain⟨v,H',os,bare,un,hok,r,q⟩:=h;obtain⟨hh,g,d,t,os'⟩:=s';obtain rfl:os'=s.os:=os;exact⟨v,H',I.call (h':=hh) (g':=g) (d':=d) (t':=t) (ch:=[]) un hok bare (λb z=>absurd z (by simp)),r,q⟩
end
def Binds(K:PySem.W.Frag)(fd:aW)(ps:List Str)(ds:List ag):Prop:=
 ∀(s:ai) (us:List ag),K.In s.heap->(us++ds).length=ps.length->BindsTo s fd ⟨us,[]⟩ (ps.zip (us++ds))
theorem Binds.all{K:PySem.W.Frag}{fd:aW}{ps:List Str}(h:∀us:List ag,us.length=ps.length->bindArgs fd ⟨us,[]⟩=pure (ps.zip us)):Binds K fd ps []:=λs us _ hl=>by
 rw[tz]at hl ⊢;exact .of_eq (h us hl)
section
variable {X:Cx}{CX:CXT}{k:Nat}{f C:ae}{fd:aW}{ps:List Str}{sp:Sp}{dvs:List V}{ds:List ag}{E:XK}{x m:Str}{p pos apos:Pos}{e o:av}{es:List av}{ta:TE}{t:TA}
structure Mk(K:PySem.W.Frag)(C f:ae):Prop where
 makes:PySem.W.makesIn K C=true
 init:PySem.W.findIn K (.ref C) "__init__"=some (some (.ref f))
 fn:PySem.W.isFn K (.ref f)=true
 kp:PySem.W.keepIn K (.ref C)=true
end
section
variable {X:Cx}{CX:CXT}{k:Nat}{f C:ae}{fd:aW}{ps ks:List Str}{sp:Sp}{E:XK}{x m:Str}{p pos apos kpos:Pos}{e o:av}{es:List av}{kws:List Keyword}{te ta:TE}{t tk:TA}{nm:Option Str}
variable {g:List ag->List ag->List ag}{gV:List V->List V->List V}
end
structure br(N P:List Str)(sc:Scope):Prop where
 kind:sc.kind=.function
 co:sc.isCoroutine=false
 gen:sc.isGenerator=false
 nd:N.Nodup
 pre:N.take P.length=P
 par:∀x∈P,sc.names.lookup x=some .local∨sc.names.lookup x=some .cell
 nofree:∀y∈sc.names,y.2≠.free
theorem AX{kindOf:Str->Option NameKind}{x:Str}:∀{binds:List (Str×ag)}{m:Str->Option ag},(∀v,(x,v)∉binds)->bindL kindOf binds m x=m x
 |[],_,_=>rfl
 |(n,v)::r,m,h=>by
   unfold bindL;rw[AX λw hw=>h w (eY _ hw)];split
   ·have:x≠n:=by rintro rfl;exact h v gE
    simp[this]
   ·rfl
theorem v5{kindOf:Str->Option NameKind}{x:Str}:∀{binds:List (Str×ag)}{m:Str->Option ag},(∀v,(x,v)∉binds)->bindC kindOf binds m x=m x
 |[],_,_=>rfl
 |(n,v)::r,m,h=>by
   unfold bindC;rw[v5 λw hw=>h w (eY _ hw)];split
   ·rfl
   ·have:x≠n:=by rintro rfl;exact h v gE
    simp[this]
theorem AA{kindOf:Str->Option NameKind}{x:Str}{v:ag}:∀{P:List Str}{vs:List ag}{i:Nat}{m:Str->Option ag},P.Nodup->P[i]?=some x->vs[i]?=some v->kindOf x=some .local ->
  bindL kindOf (P.zip vs) m x=some v
 |[],_,_,_,_,h,_,_=>by simp at h
 |_::_,[],_,_,_,_,h,_=>by simp at h
 |p::P,w::vs,0,m,nd,h1,h2,hk=>by
   simp at h1 h2;subst h1;subst h2;show bindL kindOf ((p,w)::P.zip vs) m p=_;unfold bindL;rw[AX λv hv=>(iy.mp nd).1 (oS hv).1,if_pos hk];simp
 |p::P,w::vs,i+1,m,nd,h1,h2,hk=>by
   show bindL kindOf ((p,w)::P.zip vs) m x=_;unfold bindL;exact AA (i:=i) (iy.mp nd).2 (by simpa using h1) (by simpa using h2) hk
theorem xI{kindOf:Str->Option NameKind}{x:Str}{v:ag}:∀{P:List Str}{vs:List ag}{i:Nat}{m:Str->Option ag},P.Nodup->P[i]?=some x->vs[i]?=some v->kindOf x≠some .local ->
  bindC kindOf (P.zip vs) m x=some v
 |[],_,_,_,_,h,_,_=>by simp at h
 |_::_,[],_,_,_,_,h,_=>by simp at h
 |p::P,w::vs,0,m,nd,h1,h2,hk=>by
   simp at h1 h2;subst h1;subst h2;show bindC kindOf ((p,w)::P.zip vs) m p=_;unfold bindC;rw[v5 λv hv=>(iy.mp nd).1 (oS hv).1,if_neg hk];simp
 |p::P,w::vs,i+1,m,nd,h1,h2,hk=>by
   show bindC kindOf ((p,w)::P.zip vs) m x=_;unfold bindC;exact xI (i:=i) (iy.mp nd).2 (by simpa using h1) (by simpa using h2) hk
def start(N:List Str)(vs:List V):St:=vs.map some++cr (N.length-vs.length) none
def jg(CX:CXT)(P:bf)(w:aU)(K:PySem.W.Frag)(mg:Str->Option ag)(base:aG)(N:List Str)(qual:Str)(scope:Scope)(f:ae)(cd:ag)(A:bh)(outer:List Env)(s:ai)(H:Hp)(E:XK):Cx where
 prog:=P
 w:=w
 K:=K
 mg:=mg
 base:=base
 A:=A.deeper (envOfC qual scope s.heap.objs.size f cd)
 N:=N
 s₀:=s
 H₀:=H
 env:=envOfC qual scope s.heap.objs.size f cd
 outer:=outer
 stack:=envOfC qual scope s.heap.objs.size f cd::outer
 ex:=[]
 calm:=true
 fn:=λ_=>true
 pn:=[]
 xe:=λe s'=>aq (aw P w) (A.deeper (envOfC qual scope s.heap.objs.size f cd)) (leaving (envOfC qual scope s.heap.objs.size f cd) e) (λ_ s''=>CX outer H s E e s'') (λe' s''=>CX outer H s E e' s'') s'
theorem At{sc:Scope}{n:Nat}{x:Str}(h:sc.names.lookup x=some .cell):∃c,(cellsFrom n sc.names []).lookup x=some c:=by
 have q:=PySem.W.cellsFrom_some sc.names n [] (.inl h);exact kq.mp q
theorem Hw{CX:CXT}{P:bf}{w:aU}{K:PySem.W.Frag}{mg:Str->Option ag}{base:aG}{N ps:List Str}{qual:Str}{scope:Scope}{f:ae}{cd:ag}{A:bh}{outer:List Env}{s s1:ai}{H:Hp}{E:XK}{us:List ag}{vs:List V}
  (S:br N ps scope) (hd:A.handled=none) (e0:Env0 P w K mg base A outer s H) (hl:vs.length=ps.length) (r:Vals vs us)
  (x:InCallC s s.heap.objs.size (bindL (envOfC qual scope s.heap.objs.size f cd).kindOf (ps.zip us) λ_=>none) (cellsFrom (s.heap.objs.size+1) scope.names []) (bindC (envOfC qual scope s.heap.objs.size f cd).kindOf (ps.zip us) λ_=>none) s1) :
  Inv (jg CX P w K mg base N qual scope f cd A outer s H E) [] (start N vs) H s1:=by
 have hpl:ps.length≤N.length:=by have:=congrArg oi S.pre;rw[kJ]at this;lia
 obtain⟨h1,tk,rfl,hk⟩:=x.done;have noA:∀b:ae,b∉(jg CX P w K mg base N qual scope f cd A outer s H E).ex:=λb z=>absurd (show b∈([]:List ae) from z) (by simp);refine ⟨⟨e0.mod,S.kind,rfl,rfl,aY _,λy z c h1 h2=>?_,λy hy=>?_,λy c _ h=>?_,λ_=>hd,Around.frames_deeper e0.frames,.inr ⟨rfl,rfl⟩,λb z=>absurd z (noA b),e0.bs,e0.bsz,λb _ _=>noA b,λb z=>absurd z (noA b),e0.funs,e0.frf⟩,
  rfl,e0.bare,Un.kept hk,⟨_,x.toInCall.ns,λi y v h1 h2 h3=>?_⟩,λy c h=>⟨_,x.cell y c h⟩,e0.hok.fresh (aY _),λy c h=>?_,λp hp=>absurd (show p∈([]:List (ae × az)) from hp) (by simp),e0.hok.kept hk,?_⟩
 ·exact name_of_addr x.apart (PySem.mem_of_lookup h1) (PySem.mem_of_lookup h2)
 ·have hy:scope.names.lookup y=some .cell∨scope.names.lookup y=some .free:=hy;rcases hy with hy|hy
  ·exact At hy
  ·exact absurd rfl (S.nofree _ (PySem.mem_of_lookup hy))
 ·exact lK (x.above y c (PySem.mem_of_lookup h))
 ·have hi:i<vs.length:=by
   unfold start at h2;by_cases hi:i<vs.length
   ·exact hi
   ·rw[jw (by simpa using hi)]at h2;rw[mW]at h2;split at h2 <;> cases h2
  have ha:vs[i]?=some v:=by
   unfold start at h2;rw[fq (by simpa using hi),bz]at h2;cases e:vs[i]? with
   |none=>rw[e]at h2;cases h2
   |some a=>rw[e]at h2;cases h2;rfl
  obtain⟨u,hu,rv⟩:=r.get ha;have hp:ps[i]?=some y:=by
   rw[←S.pre,List.getElem?_take_of_lt (by lia)];exact h1
  have ndP:ps.Nodup:=by rw[←S.pre];exact S.nd.sublist (List.take_sublist _ _)
  refine⟨u,rv,?_⟩;rcases S.par y (dF hp) with k|k
  ·exact .inl ⟨k,AA ndP hp hu k⟩
  ·obtain⟨c,e⟩:=At (n:=s.heap.objs.size+1) k;refine .inr ⟨.inl k,c,e,?_⟩;have q:=x.cell y c e;rw[xI ndP hp hu (by show scope.names.lookup y≠_;rw[k];decide)]at q;exact q
 ·exact e0.hok.fresh (lK (x.above y c (PySem.mem_of_lookup h)))
 ·unfold start;show _=N.length;rw[iF,cY,List.length_replicate];lia
theorem Gi{CX:CXT}{P:bf}{w:aU}{K:PySem.W.Frag}{mg:Str->Option ag}{base:aG}{k:Nat}{f:ae}{name qual:Str}{params:Arguments}{body:List aO}{scope:Scope}{dV kV doc pm cdv ct oc:ag}{an od:Option ae}
  {osl:Array (Option ag)} {N ps:List Str} {sp:Sp} (lk:K.lookup f=some ⟨oc,od,.func (PySem.W.fnOf name qual params body scope dV kV doc pm an cdv ct),osl⟩) (hcd:PySem.W.codeIn K cdv qual=true) (S:br N ps scope)
  (len:∀vs H Q E,sp vs H Q E->vs.length=ps.length)
  (hbody:∀(A:bh) (outer:List Env) (s:ai) (H:Hp) (vs:List V) (Q:VK) (E:XK),Room k (A.deeper (envOfC qual scope s.heap.objs.size f cdv))->sp vs H Q E ->
   ∃t,PSs (jg CX P w K mg base N qual scope f cdv A outer s H E) body t/\t { nx:=λ_ H'=>Q .non H',rt:=Q } (start N vs) H) :
  ip P w K mg base CX (k+1) f (PySem.W.fnOf name qual params body scope dV kV doc pm an cdv ct) ps sp:=by
 refine⟨len,λA outer s H args us vs Q E hr e0 hb r hsp=>?_⟩;have hl:=len _ _ _ _ hsp;have KX:K.In s.heap:=e0.mod.kin.keeps λb o e=>(e0.bs b o e).1;have lim:s.heap.NoLimit:=e0.mod.nolimit.keeps λb o e=>(e0.bs b o e).1;have hkind:∀y∈ps.zip us,scope.names.lookup y.1=some .local∨(scope.names.lookup y.1=some .cell/\((cellsFrom (s.heap.objs.size+1) scope.names []).lookup y.1).isSome=true):=λ⟨n,v⟩ hy=>by
  rcases S.par n (oS hy).1 with q|q
  ·exact .inl q
  ·exact .inr ⟨q,PySem.W.cellsFrom_some _ _ _ (.inl q)⟩
 refine codeAny_call_function hr.depth (KX _ _ lk) rfl S.co S.gen rfl (PySem.W.codeRec_of KX hcd) (hb _ _ _ _ ?_);refine wpAny_newFunctionEnv_cells S.kind hkind λenv he s1 x=>?_;subst he;refine⟨lim.keeps x.toInCall.keep,codeAny_func ?_⟩;obtain⟨t,ht,hq⟩:=hbody A outer s H vs Q E (hr.deeper _) hsp;have I:Inv (jg CX P w K mg base N qual scope f cdv A outer s H E) [] (start N vs) H s1:=Hw S hr.hd e0 hl r x;refine cn (ht [] s1 (start N vs) H _ I hq) (λfl s' hs=>?_) λe s' hs=>hs;have fin:∀{σ':St}{H':Hp}{v:V}{u:ag},Inv (jg CX P w K mg base N qual scope f cdv A outer s H E) [] σ' H' s'->aP v u->Q v H'->CE outer P w H s Q u s':=
  λ{σ' H' v u} J rv q=>⟨v,H',J.os,J.bare,J.base,J.hok,rv,q⟩
 cases fl with
 |ret u=>
   obtain⟨v,σ',H',J,rv,q⟩:=hs;exact fin J rv q
 |next=>
   obtain⟨σ',H',J,q⟩:=hs;exact fin (v:=V.non) (u:=Value.none) J rfl q
 |brk=>
   obtain⟨_,_,_,q⟩:=hs;exact False.elim q
 |cont=>
   obtain⟨_,_,_,q⟩:=hs;exact False.elim q
section
variable {X:Cx}{x:Str}{p pos:Pos}{e:av}{es:List av}{t:TA}{id T:String}{r:List V->Hp->VK->Prop}
def tCB(r:List V->Hp->VK->Prop)(t:TA):TE:=λσ H Q=>t σ H λvs H1=>r vs H1 Q
theorem uT(hc:d4 X (.builtin id) r)(hg:Gl X x)(hm:X.mg x=none)(hv:bootBuiltins x=some (.builtin id))(ha:PA X (e::es) t)(hn:x≠"__name__":=by decide)(hdb:(x == ("__debug__":Str))=false:=by decide)
  (he:aH (e::es) X.env=(false,aE e X.env)::aH es X.env:=by rfl) (hpl:(backTo pos (aH es X.env)).any (·.1)=false:=by rfl):PE X (.Call (.Name x p) (e::es) [] pos) (tCB r t):=by
 intro pins s σ H Q I h;refine wpAny_Call_Name_kw (hV I hg hm hv ?_ hn hdb);exact PyProof.Rows.callWith_builtin1 (thn (ha pos pins s σ H _ I h) λus s1 e0=>bo e0 λvs H1 I1 r1 q1=>hc pins s1 σ H1 vs us Q I1 r1 q1) he hpl
theorem BE(hc:d4 X (.type T) r)(hg:Gl X x)(hm:X.mg x=none)(hv:bootBuiltins x=some (.type T))(ha:PA X (e::es) t)(hn:x≠"__name__":=by decide)(hdb:(x == ("__debug__":Str))=false:=by decide)
  (he:aH (e::es) X.env=(false,aE e X.env)::aH es X.env:=by rfl) (hpl:(backTo pos (aH es X.env)).any (·.1)=false:=by rfl):PE X (.Call (.Name x p) (e::es) [] pos) (tCB r t):=by
 intro pins s σ H Q I h;refine wpAny_Call_Name_kw (hV I hg hm hv ?_ hn hdb);exact PyProof.Rows.callWith_type1 (thn (ha pos pins s σ H _ I h) λus s1 e0=>bo e0 λvs H1 I1 r1 q1=>hc pins s1 σ H1 vs us Q I1 r1 q1) he hpl
end
end L2
namespace HT
open PySem PyProof.Rows
section
open PySem.SeqAt
open PySem.AutoSeq1 (wpAny_loadPart')
open PySem.MeetsSeq PySem.MeetsSeq2 PySem.MeetsSeq3
end
section
variable {prog:bf}{w:aU}{A:bh}{E:ag->ai->Prop}{s:ai}
def sIx(n d:Nat):Option Int->Nat
 |none=>d
 |some v=>if v<0 then(v+(n:Int)).toNat else min v.toNat n
theorem ER(n d:Nat)(hd:d≤n)(o:Option Int):sIx n d o≤n:=by
 cases o with
 |none=>exact hd
 |some v=>
   show(if v<0 then(v+(n:Int)).toNat else min v.toNat n)≤n;by_cases hv:v<0
   ·rw[if_pos hv];lia
   ·rw[if_neg hv];exact Nat.min_le_right _ _
theorem xT(v:Int)(n d:Nat):(if v<0 then max (v+(n:Int)) 0 else min v (n:Int))=((sIx n d (some v):Nat):Int):=by
 show(if v<0 then max (v+(n:Int)) 0 else min v (n:Int))=(((if v<0 then(v+(n:Int)).toNat else min v.toNat n):Nat):Int);by_cases hv:v<0
 ·simp only[if_pos hv];lia
 ·simp only[if_neg hv];lia
theorem Ca(lo hi:Option Int)(n:Nat):Builtin.Slice.sliceAdjust lo hi 1 (n:Int)=(((sIx n 0 lo:Nat):Int),((sIx n n hi:Nat):Int)):=by
 have h1:¬((1:Int)<0):=by lia
 unfold Builtin.Slice.sliceAdjust;simp only[h1,if_false];refine Prod.ext ?_ ?_
 ·cases lo with
  |none=>rfl
  |some v=>exact xT v n 0
 ·cases hi with
  |none=>rfl
  |some v=>exact xT v n n
theorem Ek(i j:Nat):Builtin.Slice.slicePlaces (i:Int) (j:Int) 1=j-i:=by
 unfold Builtin.Slice.slicePlaces;have h1:(1:Int)>0:=by lia
 simp only[h1,if_true,Int.ediv_one];split <;> lia
theorem Av{v:ag}{o:Option Int}{Q:Option Int->ai->Prop}(p:IsPart v o)(h:Q o s):aq (aw prog w) A (Builtin.Slice.slicePartIndex v) Q E s:=by
 cases p with
 |none=>exact slicePart_none h
 |int i t=>exact slicePart_int h
theorem Cq{sl:ae}{vl vu:ag}{lo hi:Option Int}{n:Nat}{Q:Int×Int×Nat->ai->Prop}(hs:s.heap.IsSliceOf sl vl vu .none)(pl:IsPart vl lo)(pu:IsPart vu hi)
  (h:Q (((sIx n 0 lo:Nat):Int),1,sIx n n hi-sIx n 0 lo) s):aq (aw prog w) A (Builtin.Slice.sliceApplied (.ref sl) (pure (n:Int))) Q E s:=by
 obtain⟨os,hos,hcs,hds⟩:=id hs;unfold Builtin.Slice.sliceApplied Builtin.Slice.sliceFields;refine ak (ak (de hos hds (x:=vl) rfl (ak (de hos hds (x:=vu) rfl (ak (de hos hds (x:=.none) rfl (aI ?_)))))));refine ak (slicePart_none ?_);show aq _ _ (if((1:Int) == 0)=true then _ else _) _ _ s;rw[if_neg (by decide)];refine ak (Av pl (ak (Av pu (ak (aI ?_)))));show aq _ _ (match Builtin.Slice.sliceAdjust lo hi 1 (n:Int) with|(lo,hi)=>pure (lo,(1:Int),Builtin.Slice.slicePlaces lo hi 1)) _ _ s;rw[Ca lo hi n];show aq _ _ (pure (((sIx n 0 lo:Nat):Int),(1:Int),Builtin.Slice.slicePlaces ((sIx n 0 lo:Nat):Int) ((sIx n n hi:Nat):Int) 1)) _ _ s;rw[Ek];exact aI h
theorem Gj(xs:Array ag)(i k:Nat):((cz k).filterMap λ(m:Nat)=>xs[((i:Int)+(m:Int)*1).toNat]?).toArray=((xs.toList.drop i).take k).toArray:=by
 have e:(λ(m:Nat)=>xs[((i:Int)+(m:Int)*1).toNat]?)=λm=>xs[i+m]?:=by
  funext m;have:((i:Int)+(m:Int)*1).toNat=i+m:=by lia
  rw[this]
 rw[e];have:=pick_run xs i k;rw[List.filterMap_map]at this;have e2:((λx=>xs[x]?)∘λx=>i+x)=λm=>xs[i+m]?:=rfl;rw[e2]at this;rw[this]
theorem getItem_tuple_cut{t sl:ae}{items:Array ag}{vl vu:ag}{lo hi:Option Int}{Q:ag->ai->Prop}(ht:IsTup s.heap t items)(hs:s.heap.IsSliceOf sl vl vu .none)(pl:IsPart vl lo)(pu:IsPart vu hi)
  (hw:¬(sIx items.size 0 lo=0/\sIx items.size items.size hi=items.size))
  (h:Q (.ref s.heap.objs.size) { s with heap:=s.heap.push { cls:=.type "tuple",data:=.seq ((items.toList.drop (sIx items.size 0 lo)).take (sIx items.size items.size hi-sIx items.size 0 lo)).toArray } })
  (hsz:items.size≤aZ):aq (aw prog w) A (getItem (.ref t) (.ref sl)) Q E s:=by
 have htake:sizeOk (.seq ((items.toList.drop (sIx items.size 0 lo)).take (sIx items.size items.size hi-sIx items.size 0 lo)).toArray):=by
  show((items.toList.drop (sIx items.size 0 lo)).take (sIx items.size items.size hi-sIx items.size 0 lo)).toArray.size≤aZ;rw[cf,kJ,u9,rA];lia
 have hj:sIx items.size items.size hi≤items.size:=ER _ _ (aY _) hi;obtain⟨os,hos,hcs,hds⟩:=id hs;have hTs:s.TypeIs (.ref sl) "slice":=⟨os,hos,hcs⟩
 unfold getItem
 try with_reducible refine wpAny_holding ?_
 first|refine ak (aI ?_)|skip
 refine ak (wpAny_sequenceKey ht.typeIs (by decide) ?_);refine ak (wpAny_callSpecial?_slot (name:=aF "__getitem__") ht.typeIs PyProof.Rows.slot_tuple_getitem
  (wpAny_call_entry PyProof.Rows.slot_tuple_getitem ht.typeIs entry_tuple_getitem ?_ (args_tuple_getitem _ _)))
 show aq _ _ (Builtin.Tuple.tupleItemsOf (.ref t) >>= _) _ _ s;refine ak (tupleItemsOf_ ht ?_);refine ak (wpAny_typeOf hTs ?_);rw[if_pos (by decide)];refine ak (Cq hs pl pu ?_);have hno:¬((((sIx items.size 0 lo:Nat):Int) == 0&&(1:Int) == 1&&(sIx items.size items.size hi-sIx items.size 0 lo) == items.size)=true):=by
  intro q;rw[d8,d8]at q;have q1:((sIx items.size 0 lo:Nat):Int)=0:=eq_of_beq q.1.1;have q2:sIx items.size items.size hi-sIx items.size 0 lo=items.size:=eq_of_beq q.2;exact hw ⟨by lia,by lia⟩
 show aq _ _ (if(((sIx items.size 0 lo:Nat):Int) == 0&&(1:Int) == 1&&(sIx items.size items.size hi-sIx items.size 0 lo) == items.size)=true then _ else _) _ _ s;rw[if_neg hno,Gj]
 first
  |exact ak (m:=Builtin.Tuple.tupleExact _) (wpAny_newObj_type (aI ⟨_,rfl,aI h⟩) htake)
  |exact ak (m:=Builtin.Tuple.tupleExact _) (wpAny_newObj_type (ak (aI (aI ⟨_,rfl,aI h⟩))) htake)
  |exact ak (ak (m:=Builtin.Tuple.tupleExact _) (wpAny_newObj_type (aI (aI ⟨_,rfl,aI h⟩)) htake))
  |exact ak (ak (m:=Builtin.Tuple.tupleExact _) (wpAny_newObj_type (aI ⟨_,rfl,aI h⟩) htake))
end
end HT
namespace L2
open PySem PySem.Spec PyProof.Rows
abbrev TO:=St->Hp->(Option Int->Hp->Prop)->Prop
def PO(X:Cx)(e:Option av)(t:TO):Prop:=
 ∀(pins:List (ae×az)) (s:ai) (σ:St) (H:Hp) (Q:Option Int->Hp->Prop),Inv X pins σ H s->t σ H Q ->
  aq (aw X.prog X.w) X.A (evalPart e X.env) (λu s'=>∃o H',Inv X pins σ H' s'/\IsPart u o/\Q o H') X.xe s
def yu:TO:=λ_ H Q=>Q none H
def zn(t:TE):TO:=λσ H Q=>t σ H λx H1=>∃i,x=.int i/\Q (some i) H1
section
variable {X:Cx}{e:av}{te:TE}{lo hi:Option av}{tl th:TO}{pos p2:Pos}
theorem BV:PO X none yu:=by
 intro pins s σ H Q I h;rw[evalPart_none];exact aI ⟨none,H,I,.none,h⟩
theorem DY(h:PE X e te):PO X (some e) (zn te):=by
 intro pins s σ H Q I hw;rw[evalPart_some];refine thn (h pins s σ H _ I hw) λu s1 e0=>bo e0 λx H1 I1 r1 q1=>?_;obtain⟨i,rfl,q⟩:=q1;obtain⟨t,rfl⟩:=r1;exact⟨some i,H1,I1,.int i t,q⟩
def SlR(X:Cx)(r:V->Option Int->Option Int->Hp->VK->Prop):Prop:=
 ∀(pins:List (ae×az)) (s:ai) (σ:St) (H:Hp) (x:V) (v vl vu:ag) (lo hi:Option Int) (sl:ae) (Q:VK),Inv X pins σ H s->aP x v->s.heap.IsSliceOf sl vl vu .none->IsPart vl lo->IsPart vu hi->r x lo hi H Q ->
  ∃T id,typeLookup (.type T) "__getitem__"=pure (some (.builtin id))/\s.TypeIs v T/\aq (aw X.prog X.w) X.A (getItem v (.ref sl)) (EP X pins σ Q) X.xe s
theorem SlR.or{r r':V->Option Int->Option Int->Hp->VK->Prop}(h:SlR X r)(h':SlR X r'):SlR X (λx lo hi H Q=>r x lo hi H Q∨r' x lo hi H Q):=by
 intro pins s σ H x v vl vu lo hi sl Q I rx hs pl pu q;rcases q with q|q
 ·exact h pins s σ H x v vl vu lo hi sl Q I rx hs pl pu q
 ·exact h' pins s σ H x v vl vu lo hi sl Q I rx hs pl pu q
def tSl(r:V->Option Int->Option Int->Hp->VK->Prop)(te:TE)(tl th:TO):TE:=λσ H Q=>te σ H λx H1=>tl σ H1 λl H2=>th σ H2 λu H3=>r x l u H3 Q
theorem HA{r:V->Option Int->Option Int->Hp->VK->Prop}(hr:SlR X r)(he:PE X e te)(hl:PO X lo tl)(hu:PO X hi th):PE X (.Subscript e (.Slice lo hi none p2) pos) (tSl r te tl th):=by
 intro pins s σ H Q I h;refine Subscript_ (thn (he pins s σ H _ I h) λv s1 e0=>bo e0 λx H1 I1 r1 q1=>?_);refine wpAny_Slice (thn (hl pins s1 σ H1 _ I1 q1) λvl s2 e0=>bo e0 λl H2 I2 pl q2=>thn (hu pins s2 σ H2 _ I2 q2) λvu s3 e0=>bo e0 λu H3 I3 pu q3=>?_);rw[evalPart_none];refine aI ?_;have I4:Inv X pins σ H3 { s3 with heap:=s3.heap.push { cls:=.type "slice",data:=.fields #[vl,vu,.none] } }:=I3.kept (t':=s3.toks) λb ob q=>bv _ q;obtain⟨T,id,hT,ht,hg⟩:=hr pins { s3 with heap:=s3.heap.push { cls:=.type "slice",data:=.fields #[vl,vu,.none] } } σ H3 x v vl vu l u s3.heap.objs.size Q I4 r1 (Heap.IsSliceOf.new ..) pl pu q3;show aq (aw X.prog X.w) X.A (subscriptTail e (.Slice lo hi none p2) v (.ref s3.heap.objs.size)) (EP X pins σ Q) X.xe { s3 with heap:=s3.heap.push { cls:=.type "slice",data:=.fields #[vl,vu,.none] } };exact tail_any (ops:=[.ref s3.heap.objs.size,v]) ht hT hg (by with_unfolding_all rfl)
def jn(xs:List V)(lo hi:Option Int):List V:=(xs.drop (HT.sIx xs.length 0 lo)).take (HT.sIx xs.length xs.length hi-HT.sIx xs.length 0 lo)
theorem yE(xs:List V)(lo hi:Option Int):(jn xs lo hi).length≤xs.length:=by
 unfold jn;rw[kJ,u9];lia
def zt(K:PySem.W.Frag):V->Option Int->Option Int->Hp->VK->Prop:=λx lo hi H Q=>∃a xs,x=.ref a/\SqT K H a xs /\
 ¬(HT.sIx xs.length 0 lo=0/\HT.sIx xs.length xs.length hi=xs.length)/\∀p,H p=none->Q (.ref p) (upd H p (.tup (jn xs lo hi)))
theorem Hm:SlR X (zt X.K):=by
 intro pins s σ H x v vl vu lo hi sl Q I rx hs pl pu h;obtain⟨a,xs,rfl,hx,hw,q⟩:=h;cases rx;obtain⟨its,r,ht,hz⟩:=I.tuple hx;have hlen:its.toArray.size=xs.length:=by rw[cf];exact r.length.symm
 refine⟨"tuple",_,PyProof.Rows.slot_tuple_getitem.lookup,ht.typeIs,?_⟩;refine HT.getItem_tuple_cut ht hs pl pu (by rw[hlen];exact hw) ?_ (by rw[hlen];exact hz);rw[hlen];refine⟨.ref s.heap.objs.size,_,I.laid (t':=s.toks) (o:=.tup (jn xs lo hi)) (λb ob q=>bv _ q) (aY _) ?_,rfl,q _ (I.hok.fresh (aY _))⟩;exact⟨cF (yE xs lo hi) hz,_,(r.drop (HT.sIx xs.length 0 lo)).take (HT.sIx xs.length xs.length hi-HT.sIx xs.length 0 lo),IsTup.new _ _⟩
end
def ixN(n:Nat)(i:Int):Option Nat:=if 0≤i then(if i<n then some i.toNat else none) else if -(n:Int)≤i then some (i+n).toNat else none
def atI{α:Type}(xs:List α)(i:Int):Option α:=(ixN xs.length i).bind λj=>xs[j]?
theorem yn{n:Nat}{i:Int}{j:Nat}(h:ixN n i=some j):seqIndex? i n=some j/\j<n/\-(n:Int)≤i/\i<n:=by
 unfold ixN at h;by_cases h0:0≤i
 ·rw[if_pos h0]at h;by_cases h1:i<n
  ·rw[if_pos h1]at h;have e:i.toNat=j:=Option.some.inj h;exact⟨by rw[seqIndex_of h0 h1,e],by lia,by lia,h1⟩
  ·rw[if_neg h1]at h;cases h
 ·rw[if_neg h0]at h;by_cases h1:-(n:Int)≤i
  ·rw[if_pos h1]at h;have e:(i+n).toNat=j:=Option.some.inj h;exact⟨by rw[seqIndex_neg (by lia) h1,e],by lia,h1,by lia⟩
  ·rw[if_neg h1]at h;cases h
theorem o0{α:Type}{xs:List α}{i:Int}{v:α}(h:atI xs i=some v):∃j,seqIndex? i xs.length=some j/\xs[j]?=some v/\j<xs.length/\-(xs.length:Int)≤i/\i<xs.length:=by
 unfold atI at h;cases e:ixN xs.length i with
 |none=>rw[e]at h;cases h
 |some j=>
   rw[e]at h;obtain⟨h1,h2,h3,h4⟩:=yn e;exact⟨j,h1,h,h2,h3,h4⟩
def yR(b:av):Prop:=∀o i,subscripted b false o i=operate [o,i] (getItem o i)
def IxR(X:Cx)(r:R2):Prop:=
 ∀(value slice:av) (pins:List (ae×az)) (s:ai) (σ:St) (H:Hp) (x y:V) (v u:ag) (Q:VK),Inv X pins σ H s->aP x v->aP y u->r x y H Q ->
  subscripted slice false v u=operate [v,u] (getItem v u)->aq (aw X.prog X.w) X.A (subscriptTail value slice v u) (EP X pins σ Q) X.xe s
def MtR(X:Cx)(id:String)(r:V->List V->Hp->VK->Prop):Prop:=
 ∀(pins:List (ae×az)) (s:ai) (σ:St) (H:Hp) (x:V) (xs:List V) (v:ag) (us:List ag) (Q:VK),Inv X pins σ H s->aP x v->Vals xs us->r x xs H Q ->
  aq (aw X.prog X.w) X.A (call (.builtin id) (v::us)) (EP X pins σ Q) X.xe s
section
variable {X:Cx}{a b:av}{ta tb:TE}{pos:Pos}
theorem IxR.or{r r':R2}(h:IxR X r)(h':IxR X r'):IxR X (λx y H Q=>r x y H Q∨r' x y H Q):=by
 intro value slice pins s σ H x y v u Q I rx ry q hs;rcases q with q|q
 ·exact h value slice pins s σ H x y v u Q I rx ry q hs
 ·exact h' value slice pins s σ H x y v u Q I rx ry q hs
theorem Di{r:R2}(hr:IxR X r)(ha:PE X a ta)(hb:PE X b tb)(hs:yR b):PE X (.Subscript a b pos) (tOp r ta tb):=by
 intro pins s σ H Q I h;exact Subscript_ (ul ha hb I h λv u s2 x y H2 I2 rx ry q=>hr a b pins s2 σ H2 x y v u Q I2 rx ry q (hs _ _))
def sU(K:PySem.W.Frag):R2:=λx y H Q=>∃p xs i v,x=.ref p/\y=.int i/\SqL K H p xs/\atI xs i=some v/\Q v H
def xm(K:PySem.W.Frag):R2:=λx y H Q=>∃p xs i v,x=.ref p/\y=.int i/\SqT K H p xs/\atI xs i=some v/\Q v H
def Aw:R2:=λx y H Q=>∃z i c,x=.str z/\y=.int i/\z.length≤aZ/\atI z.cps.toList i=some c/\Q (.str ⟨#[c]⟩) H
theorem E0:IxR X (sU X.K):=by
 intro value slice pins s σ H x y v u Q I rx ry h hs;obtain⟨p,xs,i,z,rfl,rfl,hq,he,q⟩:=h;cases rx;obtain⟨t,rfl⟩:=ry;obtain⟨its,r,pl,hz⟩:=I.list hq;obtain⟨j,h1,h2,h3,h4,h5⟩:=o0 he;obtain⟨w,ew,rw'⟩:=r.get h2;have hl:=r.length;have hn:=j9;have fin:EP X pins σ Q w s:=⟨z,H,I,rw',q⟩
 by_cases h0:0≤i
 ·have hj:i.toNat=j:=by
   rw[seqIndex_of h0 h5]at h1;exact Option.some.inj h1
  exact item_listR pl.isList h0 (by lia) (by rw[hj];simpa using ew) fin hs
 ·have hj:(i+(its.toArray.size:Int)).toNat=j:=by
   rw[seqIndex_neg (by lia) h4]at h1;rw[cf,←hl];exact Option.some.inj h1
  exact subscriptTail_builtinR (x:=w) pl.isList.typeIs slot_list_getitem.lookup
   (wpAny_getItem_list_neg (Q:=λr s'=>r=w/\EP X pins σ Q r s') pl.isList (by lia) (by rw[cf] <;> lia) (by lia) (by rw[hj];simpa using ew) ⟨rfl,fin⟩) hs
theorem BK:IxR X (xm X.K):=by
 intro value slice pins s σ H x y v u Q I rx ry h hs;obtain⟨p,xs,i,z,rfl,rfl,hq,he,q⟩:=h;cases rx;obtain⟨t,rfl⟩:=ry;obtain⟨its,r,pl,hz⟩:=I.tuple hq;obtain⟨j,h1,h2,h3,h4,h5⟩:=o0 he;obtain⟨w,ew,rw'⟩:=r.get h2;have hl:=r.length;have hn:=j9;have fin:EP X pins σ Q w s:=⟨z,H,I,rw',q⟩;exact subscriptTail_builtinR (x:=w) pl.typeIs slot_tuple_getitem.lookup
  (getItem_tuple (j:=j) (Q:=λr s'=>r=w/\EP X pins σ Q r s') pl (by lia) (by lia) (by rw[cf,←hl];exact h1) (by simpa using ew) ⟨rfl,fin⟩) hs
theorem FV:IxR X Aw:=by
 intro value slice pins s σ H x y v u Q I rx ry h hs;obtain⟨z,i,c,rfl,rfl,hz,he,q⟩:=h;obtain⟨t,rfl⟩:=rx;obtain⟨t',rfl⟩:=ry;obtain⟨j,h1,h2,h3,h4,h5⟩:=o0 he;have hl:z.cps.toList.length=z.length:=by simp[Str.length]
 rw [hl] at h1 h4 h5;have hn:=j9;exact tail_any (typeIs_str s z t) slot_str_getitem.lookup (getItem_str (c:=c) (by
  have e1:decide (i < -(2 ^ 63:Int))=false:=decide_eq_false (by lia);have e2:decide (i≥2 ^ 63)=false:=decide_eq_false (by lia);rw [e1,e2,Bool.or_false]) (by rw [h1];simpa using h2) ⟨.str ⟨#[c]⟩,H,I.tok _,⟨_,rfl⟩,q⟩) hs
def rIx(K:PySem.W.Frag):R2:=λx y H Q=>sU K x y H Q∨xm K x y H Q∨Aw x y H Q
theorem tu:IxR X (rIx X.K):=E0.or (BK.or FV)
theorem Gm(its:List ag)(n j:Nat)(u:ag):Obj.mapSeq (·.setIfInBounds j u) { cls:=.type "list",data:=.seq its.toArray n }={ cls:=.type "list",data:=.seq (its.set j u).toArray n }:=by
 simp[Obj.mapSeq]
theorem Inv.lst{pins:List (ae×az)}{σ:St}{H:Hp}{s:ai}{p:ae}{xs:List V}(I:Inv X pins σ H s)(h:H p=some (.lst xs)) :
  ∃(its:List ag) (n:Nat),Vals xs its/\s.heap.get? p=some { cls:=.type "list",data:=.seq its.toArray n }/\xs.length≤aZ:=by
 obtain⟨z,its,n,r,e⟩:=I.hok p _ h;exact⟨its,n,r,e,z⟩
theorem Inv.lstUpd{pins:List (ae×az)}{σ:St}{H:Hp}{s:ai}{p:ae}{xs ys:List V}{its its':List ag}{n n':Nat}{f:az->az}(I:Inv X pins σ H s)(h:H p=some (.lst xs))
  (ho:s.heap.get? p=some { cls:=.type "list",data:=.seq its.toArray n }) (hf:f { cls:=.type "list",data:=.seq its.toArray n }={ cls:=.type "list",data:=.seq its'.toArray n' }) (r:Vals ys its') (hz:ys.length≤aZ) (t:Nat) :
  Inv X pins σ (upd H p (.lst ys)) { s with heap:=s.heap.update p f,toks:=t }:=by
 have e:(s.heap.update p f).get? p=some { cls:=.type "list",data:=.seq its'.toArray n' }:=by
  rw[im f ho (by rw[hf] <;> rfl),hf]
 refine I.write (x:=p) (e:=p) (by rw[h];trivial) (.inl rfl) (λb u hb q=>(gj _ _ (Ne.symm hb)).trans q) ⟨_,e⟩ ?_;exact⟨hz,its',n',r,e⟩
def vW:V->V->V->Hp->(Hp->Prop)->Prop:=λo i v H Q=>∃p xs k j,o=.ref p/\i=.int k/\H p=some (.lst xs)/\ixN xs.length k=some j/\Q (upd H p (.lst (xs.set j v)))
theorem A9:PSet X vW:=by
 intro pins s σ H o i v ov iv u Q I ro ri rv h;obtain⟨p,xs,k,j,rfl,rfl,hp,hj,q⟩:=h;cases ro;obtain⟨t,rfl⟩:=ri;obtain⟨its,n,r,ho,hz⟩:=I.lst hp;obtain⟨h1,h2,h3,h4⟩:=yn hj;have hl:=r.length;have hn:=j9;have I':Inv X pins σ (upd H p (.lst (xs.set j v))) { s with heap:=s.heap.update p (Obj.mapSeq (·.setIfInBounds j u)) }:=
  I.lstUpd hp ho (Gm its n j u) (r.set rv j) (by rw[uq];exact hz) s.toks
 by_cases h0:0≤k
 ·have hk:k.toNat=j:=by
   rw[seqIndex_of h0 h4]at h1;exact Option.some.inj h1
  exact PySem.W.ki_setAt ho h0 (by lia) (by rw[cf,←hl];exact h4) (by rw[hk];exact⟨_,I',q⟩)
 ·have hk:(k+(its.toArray.size:Int)).toNat=j:=by
   rw[seqIndex_neg (by lia) h3]at h1;rw[cf,←hl];exact Option.some.inj h1
  exact PySem.W.ki_setBack ho (by lia) (by rw[cf,←hl];exact h3) (by lia) (by rw[hk];exact⟨_,I',q⟩)
theorem Da(lo hi:Option Int)(n:Nat):(sliceBounds lo hi none n).1=((HT.sIx n 0 lo:Nat):Int)/\(sliceBounds lo hi none n).2.1=((HT.sIx n n hi:Nat):Int)/\(sliceBounds lo hi none n).2.2=1:=by
 refine⟨?_,?_,rfl⟩
 ·cases lo with
  |none=>simp[sliceBounds,HT.sIx]
  |some i=>
    simp only[sliceBounds,HT.sIx,Option.getD_none,show(1:Int)>0 by decide,if_true];by_cases h:i<0
    ·simp only[h,if_true] <;> lia
    ·simp only[h,if_false] <;> lia
 ·cases hi with
  |none=>simp[sliceBounds,HT.sIx]
  |some i=>
    simp only[sliceBounds,HT.sIx,Option.getD_none,show(1:Int)>0 by decide,if_true];by_cases h:i<0
    ·simp only[h,if_true] <;> lia
    ·simp only[h,if_false] <;> lia
theorem GM(its:List ag)(lo hi:Option Int):slicePick its.toArray lo hi none=((its.drop (HT.sIx its.length 0 lo)).take (HT.sIx its.length its.length hi-HT.sIx its.length 0 lo)).toArray:=by
 obtain⟨h1,h2,h3⟩:=Da lo hi its.toArray.size;unfold slicePick;rw[h1,h2,h3];simp only[sliceRange_one,pick_run,cf] <;> rfl
def wm(K:PySem.W.Frag):V->Option Int->Option Int->Hp->VK->Prop:=λx lo hi H Q=>∃a xs,x=.ref a/\SqL K H a xs/\∀p,H p=none->Q (.ref p) (upd H p (.lst (jn xs lo hi)))
theorem Dx:SlR X (wm X.K):=by
 intro pins s σ H x v vl vu lo hi sl Q I rx hs pl pu h;obtain⟨a,xs,rfl,hx,q⟩:=h;cases rx;obtain⟨its,r,ht,hz⟩:=I.list hx;have hlen:=r.length;refine⟨"list",_,slot_list_getitem.lookup,ht.isList.typeIs,?_⟩
 refine wpAny_getItem_list_slice ht.isList hs pl pu .none (by simp) ?_ (by rw[cf] <;> lia);rw[GM,←hlen];refine⟨.ref s.heap.objs.size,_,I.laid (t':=s.toks) (o:=.lst (jn xs lo hi)) (λb ob q=>bv _ q) (aY _) ?_,rfl,q _ (I.hok.fresh (aY _))⟩;exact⟨cF (yE xs lo hi) hz,_,0,(r.drop (HT.sIx xs.length 0 lo)).take (HT.sIx xs.length xs.length hi-HT.sIx xs.length 0 lo),cR _ rfl⟩
def gZ:V->Bool
 |.non=>true
 |.bl _=>true
 |.int _=>true
 |.str _=>true
 |_=>false
def eqV:V->V->Bool
 |.non,.non=>true
 |.bl a,.bl b=>a == b
 |.bl a,.int b=>(if a then 1 else 0) == b
 |.int a,.bl b=>a == (if b then 1 else 0)
 |.int a,.int b=>a == b
 |.str a,.str b=>a == b
 |_,_=>false
theorem HP{A:bh}{s:ai}{y x:V}{u v:ag}(ry:aP y u)(rx:aP x v)(fy:gZ y=true)(fx:gZ x=true):SeqAt.EqAt A s u v (eqV y x):=by
 cases y with
 |non=>
   cases ry;cases x with
   |non=>cases rx;exact SeqAt.EqAt.same _
   |bl b=>cases rx;exact SeqAt.EqAt.none_bool b
   |int b=>obtain⟨t,rfl⟩:=rx;exact SeqAt.EqAt.none_int b t
   |str b=>obtain⟨t,rfl⟩:=rx;exact SeqAt.EqAt.none_str b t
   |_=>exact absurd (show false=true from fx) bT
 |bl a=>
   cases ry;cases x with
   |non=>cases rx;exact SeqAt.EqAt.bool_none a
   |bl b=>cases rx;exact SeqAt.EqAt.bool_bool a b
   |int b=>obtain⟨t,rfl⟩:=rx;exact SeqAt.EqAt.bool_int a b t
   |str b=>obtain⟨t,rfl⟩:=rx;exact SeqAt.EqAt.bool_str a b t
   |_=>exact absurd (show false=true from fx) bT
 |int a=>
   obtain⟨t',rfl⟩:=ry;cases x with
   |non=>cases rx;exact SeqAt.EqAt.int_none a t'
   |bl b=>cases rx;exact SeqAt.EqAt.int_bool a t' b
   |int b=>obtain⟨t,rfl⟩:=rx;exact SeqAt.EqAt.int_int a t' b t
   |str b=>obtain⟨t,rfl⟩:=rx;exact SeqAt.EqAt.int_str a t' b t
   |_=>exact absurd (show false=true from fx) bT
 |str a=>
   obtain⟨t',rfl⟩:=ry;cases x with
   |non=>cases rx;exact SeqAt.EqAt.str_none a t'
   |bl b=>cases rx;exact SeqAt.EqAt.str_bool a t' b
   |int b=>obtain⟨t,rfl⟩:=rx;exact SeqAt.EqAt.str_int a t' b t
   |str b=>obtain⟨t,rfl⟩:=rx;exact SeqAt.EqAt.str_str a t' b t
   |_=>exact absurd (show false=true from fx) bT
 |_=>exact absurd (show false=true from fy) bT
def eqU(x:V)(u:ag):Bool:=match u with
 |.none=>eqV .non x
 |.bool b=>eqV (.bl b) x
 |.int i _=>eqV (.int i) x
 |.str z _=>eqV (.str z) x
 |_=>false
theorem v9{x y:V}{u:ag}(r:aP y u)(f:gZ y=true):eqU x u=eqV y x:=by
 cases y with
 |non=>cases r;rfl
 |bl b=>cases r;rfl
 |int i=>obtain⟨t,rfl⟩:=r;rfl
 |str z=>obtain⟨t,rfl⟩:=r;rfl
 |_=>exact absurd (show false=true from f) bT
theorem nu{x:V}:∀{xs:List V}{us:List ag},Vals xs us->xs.all gZ=true->us.any (eqU x)=xs.any λy=>eqV y x
 |_,_,.nil,_=>rfl
 |y::xs,u::us,.cons r t,f=>by
   rw[iR,d8]at f;rw[km,km,v9 r f.1,nu t f.2]
theorem nV{A:bh}{s:ai}{x:V}{v:ag}(rx:aP x v)(fx:gZ x=true):∀{xs:List V}{us:List ag},Vals xs us->xs.all gZ=true->∀u∈us,SeqAt.EqAt A s u v (eqU x u)
 |_,_,.nil,_=>λu hu=>by cases hu
 |y::xs,u::us,.cons r t,f=>λu' hu=>by
   rw[iR,d8]at f;rcases bW.mp hu with rfl|hu
   ·rw[v9 r f.1];exact HP r rx f.1 fx
   ·exact nV rx fx t f.2 u' hu
def inV(x:V)(xs:List V):Bool:=xs.any λy=>eqV y x
def rIn(K:PySem.W.Frag)(neg:Bool):R2:=λx y H Q=>∃p xs,y=.ref p/\(SqL K H p xs∨SqT K H p xs)/\gZ x=true/\xs.all gZ=true/\Q (.bl (if neg then !inV x xs else inV x xs)) H
theorem Ck:OpR X (dm .In) (rIn X.K false):=by
 intro pins s σ H x y v u Q I rx ry h;obtain⟨p,xs,rfl,hq,fx,fs,q⟩:=h;cases ry;rcases hq with hq|hq
 ·obtain⟨its,r,pl,hz⟩:=I.list hq;refine SeqAt.in_listAt (eqU x) pl.isList (λw hw=>nV rx fx r fs w (by simpa using hw)) ⟨.bl _,H,I,rfl,?_⟩;rw[show its.toArray.any (eqU x)=its.any (eqU x) by simp,nu r fs];exact q
 ·obtain⟨its,r,pl,hz⟩:=I.tuple hq;refine SeqAt.in_tupleAt (eqU x) pl (λw hw=>nV rx fx r fs w (by simpa using hw)) ⟨.bl _,H,I,rfl,?_⟩;rw[show its.toArray.any (eqU x)=its.any (eqU x) by simp,nu r fs];exact q
theorem GN:OpR X (dm .NotIn) (rIn X.K true):=by
 intro pins s σ H x y v u Q I rx ry h;obtain⟨p,xs,rfl,hq,fx,fs,q⟩:=h;cases ry;rcases hq with hq|hq
 ·obtain⟨its,r,pl,hz⟩:=I.list hq;refine SeqAt.notIn_listAt (eqU x) pl.isList (λw hw=>nV rx fx r fs w (by simpa using hw)) ⟨.bl _,H,I,rfl,?_⟩;rw[show its.toArray.any (eqU x)=its.any (eqU x) by simp,nu r fs];exact q
 ·obtain⟨its,r,pl,hz⟩:=I.tuple hq;refine SeqAt.notIn_tupleAt (eqU x) pl (λw hw=>nV rx fx r fs w (by simpa using hw)) ⟨.bl _,H,I,rfl,?_⟩;rw[show its.toArray.any (eqU x)=its.any (eqU x) by simp,nu r fs];exact q
theorem d4.or{f:ag}{r r':List V->Hp->VK->Prop}(h:d4 X f r)(h':d4 X f r'):d4 X f (λxs H Q=>r xs H Q∨r' xs H Q):=by
 intro pins s σ H xs us Q I rs q;rcases q with q|q
 ·exact h pins s σ H xs us Q I rs q
 ·exact h' pins s σ H xs us Q I rs q
theorem oE:d4 X (.type "list") (λxs H Q=>∃p ys,xs=[.ref p]/\(SqL X.K H p ys∨SqT X.K H p ys)/\∀l,H l=none->Q (.ref l) (upd H l (.lst ys))):=by
 intro pins s σ H xs us Q I r h;obtain⟨p,ys,rfl,hq,q⟩:=h;obtain⟨u,rfl,rx⟩:=vals1 r;cases rx;have fin:∀(its:List ag),Vals ys its->ys.length≤aZ->∀(h':aG) (c':Nat),(∀b o',s.heap.get? b=some o'->h'.get? b=some o') ->
   h'.get? s.heap.objs.size=some { cls:=.type "list",dict:=none,data:=.seq its.toArray c',slots:=#[] }->EP X pins σ Q (.ref s.heap.objs.size) { s with heap:=h' }:=λits r' hz h' c' kp e=>
  ⟨.ref s.heap.objs.size,_,I.laid (t':=s.toks) kp (aY _) (show bG X.prog X.w _ h' _ (.lst ys) from⟨hz,its,c',r',e⟩),rfl,q _ (I.hok.fresh (aY _))⟩
 rcases hq with hq|hq
 ·obtain⟨its,r',pl,hz⟩:=I.list hq;have hlen:=r'.length;obtain⟨o,ho,hc,n,hd⟩:=pl.isList;exact call_list_seq p (.inl rfl) ho hc hd (λh' c' kp e=>fin its r' hz h' c' kp e) (by simp only[cf] <;> lia)
 ·obtain⟨its,r',pl,hz⟩:=I.tuple hq;have hlen:=r'.length;obtain⟨o,ho,hc,n,hd⟩:=pl;exact call_list_seq p (.inr rfl) ho hc hd (λh' c' kp e=>fin its r' hz h' c' kp e) (by simp only[cf] <;> lia)
def tyV(K:PySem.W.Frag)(T:String)(x:V)(H:Hp):Prop:=match x with
 |.str _=>T="str"
 |.int _=>T="int"
 |.ref p=>(T="list"/\∃xs,SqL K H p xs)∨(T="tuple"/\∃o,K.lookup p=some o/\o.cls=.type "tuple"/\o.dict=none) ∨
   (T="dict"/\((∃kvs,H p=some (.dK kvs))∨∃kvs,H p=some (.dT kvs)))∨(T="set"/\∃S n,H p=some (.set S n))
 |_=>False
theorem Bk{pins:List (ae×az)}{σ:St}{H:Hp}{s:ai}{T:String}{x:V}{v:ag}(I:Inv X pins σ H s)(r:aP x v)(ty:tyV X.K T x H) :
  s.TypeIs v T/\∀a,v=.ref a->∃ob,s.heap.get? a=some ob/\ob.dict=none:=by
 cases x with
 |str z=>
   obtain⟨t,rfl⟩:=r;cases(show T="str" from ty)
   exact⟨typeIs_str s z t,λ_ e=>nomatch e⟩
 |int i=>
   obtain⟨t,rfl⟩:=r;cases(show T="int" from ty)
   exact⟨typeIs_int s i t,λ_ e=>nomatch e⟩
 |ref p=>
   cases r;rcases ty with⟨rfl,xs,hq⟩|⟨rfl,o,hk,hc,hd⟩|⟨rfl,hk⟩|⟨rfl,S,n,hk⟩
   ·obtain⟨its,_,pl,_⟩:=I.list hq;refine⟨pl.isList.typeIs,λa e=>?_⟩;cases e;obtain⟨o,n,e,c,hd,_⟩:=pl;exact⟨o,e,hd⟩
   ·refine⟨⟨o,I.kIn p o hk,hc⟩,λa e=>?_⟩;cases e;exact⟨o,I.kIn _ o hk,hd⟩
   ·have z:∃o,s.heap.get? p=some o/\o.ExactDict:=by
     rcases hk with⟨kvs,hk⟩|⟨kvs,hk⟩
     ·obtain⟨_,_,_,_,o,_,_,e,ex,_⟩:=I.hok p _ hk;exact⟨o,e,ex⟩
     ·obtain⟨_,_,_,_,o,_,_,e,ex,_⟩:=I.hok p _ hk;exact⟨o,e,ex⟩
    obtain⟨o,e,ex⟩:=z;refine⟨⟨o,e,ex.1⟩,λa e2=>?_⟩;cases e2;exact⟨o,e,ex.2.1⟩
   ·obtain⟨o,_,_,_,e,ex,_⟩:=I.hok p _ hk;refine⟨⟨o,e,ex.1⟩,λa e2=>?_⟩;cases e2;exact⟨o,e,ex.2.1⟩
 |_=>exact False.elim ty
def tBM(K:PySem.W.Frag)(T:String)(r:V->List V->Hp->VK->Prop)(to:TE)(t:TA):TE:=λσ H Q=>to σ H λx H1=>tyV K T x H1/\t σ H1 λxs H2=>r x xs H2 Q
variable {o e:av}{es:List av}{to:TE}{t:TA}{name:Str}{apos cpos:Pos}{T id:String}{r:V->List V->Hp->VK->Prop}
theorem tH(pa:PlainAttrs T)(slot:Slot T name id)(hty:typeOf (.builtin id)=pure (.type "method_descriptor"))(hm:MtR X id r)(ho:PE X o to)(ha:PA X (e::es) t)
  (hbase:attributeBase o name X.env (aE o X.env)=aE o X.env:=by rfl)
  (hfew:((backTo cpos (aH (e::es) X.env)).all (λx=>!x.1) && (backToKw cpos (keywordEach [] X.env)).all (λx=>x.1.isSome)
   && decide ((e::es).length + ([]:List Keyword).length + (if ([]:List Keyword).isEmpty then 0 else 1) < 30))=true:=by rfl)
  (hline:(apos.endLine == cpos.line)=true:=by rfl) (hs:aH (e::es) X.env=(false,aE e X.env)::aH es X.env:=by rfl) (hplain:(backTo cpos (aH es X.env)).any (·.1)=false:=by rfl) :
  PE X (.Call (.Attribute o name apos) (e::es) [] cpos) (tBM X.K T r to t):=by
 intro pins s σ H Q I h;refine wpAny_Call_method_late hbase hfew hline rfl (thn (ho pins s σ H _ I h) λv s1 e0=>bo e0 λx H1 I1 r1 e4=>e4.elim λty q1=>?_);obtain⟨h1,h2⟩:=Bk I1 r1 ty;refine⟨T,id,pa,slot,hty,h1,h2,?_⟩;have hA:=ha cpos pins s1 σ H1 _ I1 q1;rw[hs]at hA ⊢;refine Calls.callWith_builtin (by show(false||(backTo cpos (aH es X.env)).any (·.1))=false;rw[hplain] <;> rfl) (Calls.evalArgs_plain ?_);exact thn hA λus s2 e0=>bo e0 λvs H2 I2 r2 q2=>hm pins s2 σ H2 x vs v us Q I2 r1 r2 q2
/- xs.append(e),list.index on a module's tuple .. are MtR facts of 06m -/
end
def MtM(X:Cx)(id:String)(r:V->List V->Hp->VK->Prop):Prop:=
 ∀(pins:List (ae×az)) (s:ai) (σ:St) (H:Hp) (x:V) (xs:List V) (v:ag) (us:List ag) (Q:VK),Inv X pins σ H s->aP x v->Vals xs us->r x xs H Q ->
  aq (aw X.prog X.w) X.A (call (.builtin id) (v::us)) (EP X pins σ Q) X.xe s
theorem Vals.one:∀{x:V}{us:List ag},Vals [x] us->∃u,us=[u]/\aP x u
 |_,_,.cons r .nil=>⟨_,rfl,r⟩
theorem Vals.eraseIdx:∀{xs:List V}{us:List ag}(i:Nat),Vals xs us->Vals (xs.eraseIdx i) (us.eraseIdx i)
 |_,_,_,.nil=>.nil
 |_,_,0,.cons _ t=>t
 |_,_,i+1,.cons r t=>.cons r (Vals.eraseIdx i t)
theorem Vals.rep{xs:List V}{us:List ag}(h:Vals xs us):∀k:Nat,Vals (cr k xs).flatten (cr k us).flatten
 |0=>.nil
 |k+1=>by
   rw[i0,i0,kZ,kZ];exact Vals.append h (Vals.rep h k)
theorem ww{α:Type}:∀(l:List α) (i:Nat),(l.eraseIdx i).length≤l.length
 |[],_=>aY _
 |_::_,0=>Nat.le_succ _
 |_::r,i+1=>Nat.succ_le_succ (ww r i)
theorem v8(its:List ag):∀(k:Nat) (acc:List ag),
  List.foldl (λx1 x2=>x1++x2) acc.toArray (cr k its.toArray)=(acc++(cr k its).flatten).toArray
 |0,acc=>by simp
 |k+1,acc=>by
   have e:acc.toArray++its.toArray=(acc++its).toArray:=by simp
   have e2:(acc++its)++(cr k its).flatten=acc++(cr (k+1) its).flatten:=by
    rw[i0,kZ,List.append_assoc]
   rw[←e2,←v8 its k (acc++its),←e,i0,mF]
section
variable {X:Cx}{pins:List (ae×az)}{σ:St}{H:Hp}{s:ai}{l b:ae}{xs ys zs:List V}
theorem Inv.lset{its its':List ag}{n:Nat}{f:Array ag->Array ag}{t':Nat}(I:Inv X pins σ H s)(hH:H l=some (.lst xs))
  (e:s.heap.get? l=some { cls:=.type "list",data:=.seq its.toArray n }) (hf:f its.toArray=its'.toArray) (hv:Vals ys its') (hz:ys.length≤aZ) :
  Inv X pins σ (upd H l (.lst ys)) { s with heap:=s.heap.update l (Obj.mapSeq f),toks:=t' }:=by
 have q:=PySem.IsL.update e f;rw[hf]at q;refine I.write (x:=l) (e:=l) (by rw[hH];exact trivial) (.inl rfl) (λb' u hb hu=>(gj s.heap (Obj.mapSeq f) (Ne.symm hb)).trans hu) ⟨_,q⟩ ?_;exact⟨hz,its',_,hv,q⟩
theorem Inv.lnew{its:List ag}{t':Nat}(I:Inv X pins σ H s)(hv:Vals ys its)(hz:ys.length≤aZ) :
  Inv X pins σ (upd H s.heap.objs.size (.lst ys)) { s with heap:=s.heap.push { cls:=.type "list",data:=.seq its.toArray },toks:=t' }:=
 I.laid (λ_ _ q=>bv _ q) (aY _) ⟨hz,its,0,hv,cR _ rfl⟩
theorem Inv.fresh(I:Inv X pins σ H s):H s.heap.objs.size=none:=I.hok.fresh (aY _)
theorem Inv.lstM(I:Inv X pins σ H s)(hH:H l=some (.lst xs)):xs.length≤aZ/\∃(its:List ag) (n:Nat),Vals xs its/\xs.length=its.length/\s.heap.get? l=some { cls:=.type "list",data:=.seq its.toArray n }:=by
 obtain⟨z,its,n,r,e⟩:=I.hok l _ hH;exact⟨z,its,n,r,r.length,e⟩
theorem Ee{n:Nat}(h:n≤aZ):Builtin.List.listTooLong n=false:=by
 unfold Builtin.List.listTooLong;exact decide_eq_false (by lia)
end
section
variable {X:Cx}
def Ey:V->List V->Hp->VK->Prop:=λx vs H Q=>∃l xs y,x=.ref l/\vs=[y]/\H l=some (.lst xs)/\xs.length<aZ/\Q .non (upd H l (.lst (xs++[y])))
theorem Ao:MtM X "list.append" Ey:=by
 intro pins s σ H x vs v us Q I rx rv h;obtain⟨l,xs,y,rfl,rfl,hH,hz,q⟩:=h;cases rx;obtain⟨u,rfl,ru⟩:=rv.one;obtain⟨z,its,n,r,hl,e⟩:=I.lstM hH;refine call_meets F.slot_list_append ⟨_,e,rfl⟩ F.entry_list_append (F.args_list_append_2 _ _) (PySem.list_append l its.toArray n u (by rw[cf];lia)) ⟨e,?_⟩
 refine⟨.non,_,I.lset (its':=its++[u]) hH e (by simp) (r.append (.cons ru .nil)) ?_,rfl,q⟩;rw[iF,List.length_singleton];lia
def xZ:V->List V->Hp->VK->Prop:=λx vs H Q=>∃l xs i k y,x=.ref l/\vs=[.int i]/\H l=some (.lst xs)/\-(2 ^ 63)≤i/\i<2 ^ 63/\seqIndex? i xs.length=some k/\xs[k]?=some y/\Q y (upd H l (.lst (xs.eraseIdx k)))
theorem EJ:MtM X "list.pop" xZ:=by
 intro pins s σ H x vs v us Q I rx rv h;obtain⟨l,xs,i,k,y,rfl,rfl,hH,h1,h2,hk,hy,q⟩:=h;cases rx;obtain⟨u,rfl,ru⟩:=rv.one;obtain⟨t,rfl⟩:=ru;obtain⟨z,its,n,r,hl,e⟩:=I.lstM hH;obtain⟨w,hw,rw'⟩:=r.get hy;refine call_meets F.slot_list_pop ⟨_,e,rfl⟩ F.entry_list_pop (F.args_list_pop_2 _ _)
  (MeetsSeq.list_pop_at l its.toArray n i t k w (fitsIndex_both h1 h2) (by rw[cf,←hl];exact hk) (by rw[←Array.getElem?_toList];exact hw) (by rw[cf];lia)) ⟨e,?_⟩
 refine⟨y,_,I.lset (its':=its.eraseIdx k) hH e ?_ (r.eraseIdx k) ?_,rw',q⟩
 ·show its.toArray.eraseIdxIfInBounds k=(its.eraseIdx k).toArray;rw[List.eraseIdxIfInBounds_toArray]
 ·have:=ww xs k;lia
def y8:R2:=λx y H Q=>∃l b xs zs,x=.ref l/\y=.ref b/\H l=some (.lst xs)/\H b=some (.lst zs)/\xs.length+zs.length≤aZ/\∀p,H p=none->Q (.ref p) (upd H p (.lst (xs++zs)))
theorem Cs:OpR X (binaryOp .Add) y8:=by
 intro pins s σ H x y v u Q I rx ry h;obtain⟨l,b,xs,zs,rfl,rfl,hH,hB,hz,q⟩:=h;cases rx;cases ry;obtain⟨z,its,n,r,hl,e⟩:=I.lstM hH;obtain⟨z2,its2,n2,r2,hl2,e2⟩:=I.lstM hB;refine PySem.P.add_list e e2 ?_ (by rw[cf,cf];lia)
 have ea:its.toArray++its2.toArray=(its++its2).toArray:=by simp
 rw[ea];exact⟨.ref _,_,I.lnew (t':=s.toks) (r.append r2) (by rw[iF];lia),rfl,q _ I.fresh⟩
def v4:R2:=λx y H Q=>∃l k xs,x=.ref l/\y=.int k/\H l=some (.lst xs)/\-(2 ^ 63)≤k/\k<2 ^ 63/\xs.length*k.toNat≤aZ /\
 ∀p,H p=none->Q (.ref p) (upd H p (.lst (cr k.toNat xs).flatten))
theorem Cd{α:Type}(xs:List α)(k:Nat):(cr k xs).flatten.length=k*xs.length:=by
 induction k with
 |zero=>simp
 |succ k ih=>rw[i0,kZ,iF,ih,Nat.succ_mul,Nat.add_comm]
theorem E1:OpR X (binaryOp .Mult) v4:=by
 intro pins s σ H x y v u Q I rx ry h;obtain⟨l,k,xs,rfl,rfl,hH,h1,h2,hz,q⟩:=h;cases rx;obtain⟨t,rfl⟩:=ry;obtain⟨z,its,n,r,hl,e⟩:=I.lstM hH;have hlen:its.toArray.size*k.toNat≤aZ:=by rw[cf,←hl];exact hz
 have hcap:¬its.toArray.size*k.toNat>(2 ^ 63-1)/8:=by
  have:(aZ:Nat)≤(2 ^ 63-1)/8:=by decide
  lia
 have hfit:¬(!Builtin.List.listFitsIndex k)=true:=by
  rw[fitsIndex_both h1 h2];exact bT
 have hlong:¬Builtin.List.listTooLong (its.toArray.size*k.toNat)=true:=by
  rw[Ee hlen];exact bT
 have hnew:List.foldl (λx1 x2=>x1++x2) #[] (cr (if its.toArray.isEmpty=true then 0 else k.toNat) its.toArray)=(cr k.toNat its).flatten.toArray:=by
  have f0:∀m:Nat,List.foldl (λx1 x2=>x1++x2) #[] (cr m its.toArray)=(cr m its).flatten.toArray:=λm=>by
   have:=v8 its m [];rw[nj]at this;exact this
  rw[f0];cases its with
  |nil=>simp
  |cons a r'=>rw[if_neg (by simp)]
 refine wpAny_binaryOp_repeat_ref (T:="list") (U:="int") (by decide) ⟨_,e,rfl⟩ (λs'=>typeIs_int s' k t) noFill_list_mul F.fills_int_mul F.slot_int_rmul repeat_list F.slot_int_index.lookup
  (call_meets F.slot_int_rmul (typeIs_int s k t) F.entry_int_rmul (F.args_int_rmul_2 _ _) (int___rmul___int_list k t l its.toArray n)
   ⟨e,rfl,⟨_,e,rfl⟩,call_meets F.slot_list_mul ⟨_,e,rfl⟩ F.entry_list_mul (F.args_list_mul_2 _ _) (AutoListH.list___mul___list_int_3 l its.toArray n k t hfit hcap hlong) ⟨e,?_⟩⟩)
 rw[hnew];exact⟨.ref _,_,I.lnew (t':=s.toks) (r.rep k.toNat) (by rw[Cd,Nat.mul_comm];exact hz),rfl,q _ I.fresh⟩
end
section
variable {prog:bf}{w:aU}{A:bh}{E:ag->ai->Prop}{s:ai}
end
section
variable {X:Cx}
end
section
variable {κ:Type}[DecidableEq κ]
def eA(kvs:List (κ×V))(k:κ):Option V:=(kvs.find? λkv=>decide (kv.1=k)).map (·.2)
def eS(kvs:List (κ×V))(k:κ)(v:V):List (κ×V):=
 if(kvs.any λkv=>decide (kv.1=k))=true then kvs.map (λkv=>if kv.1=k then(kv.1,v) else kv) else kvs++[(k,v)]
def jb(kvs:List (κ×V))(k:κ):List (κ×V):=kvs.filter λkv=>decide (kv.1≠k)
theorem pH{p:κ×V}{r:List (κ×V)}{k:κ}(e:p.1=k):eA (p::r) k=some p.2:=by simp[eA,kY,e]
theorem oV{p:κ×V}{r:List (κ×V)}{k:κ}(e:¬p.1=k):eA (p::r) k=eA r k:=by simp[eA,kY,e]
theorem pN(k:κ):∀kvs:List (κ×V),(kvs.any λkv=>decide (kv.1=k))=(eA kvs k).isSome
 |[]=>rfl
 |p::r=>by
   rw[km];by_cases e:p.1=k
   ·simp only[pH e,decide_eq_true e,Bool.true_or,Option.isSome_some]
   ·rw[oV e,decide_eq_false e,Bool.false_or];exact pN k r
theorem AF(kvs:List (κ×V))(k:κ)(v:V):(eS kvs k v).length≤kvs.length+1:=by
 unfold eS;split
 ·rw[cY];lia
 ·rw[iF,eQ,iN];lia
theorem dO.isSome_eq{o:Option V}{u:Option ag}(r:dO o u):o.isSome=u.isSome:=by
 cases o with
 |none=>cases u with
   |none=>rfl
   |some _=>exact(show False from r).elim
 |some _=>cases u with
   |none=>exact(show False from r).elim
   |some _=>rfl
theorem dO.getD{o:Option V}{u:Option ag}{d:V}{d':ag}(r:dO o u)(rd:aP d d'):aP (o.getD d) (u.getD d'):=by
 cases o with
 |none=>cases u with
   |none=>exact rd
   |some _=>exact(show False from r).elim
 |some _=>cases u with
   |none=>exact(show False from r).elim
   |some _=>exact r
theorem KV.val{kvs:List (κ×V)}{vs:List (κ×ag)}(r:KV kvs vs)(k:κ):dO (eA kvs k) (valueAt vs k):=by
 unfold KV at r
 induction r with
 |nil=>exact True.intro
 |@cons p q ps qs h t ih=>
   obtain⟨h1,h2⟩:=h;by_cases e:p.1=k
   ·have e':q.1=k:=h1.symm.trans e;have b:valueAt (q::qs) k=some q.2:=by simp[valueAt,kY,e']
    rw[pH e,b];exact h2
   ·have e':¬q.1=k:=λz=>e (h1.trans z);have b:valueAt (q::qs) k=valueAt qs k:=by simp[valueAt,kY,e']
    rw[oV e,b];exact ih
theorem KV.any{kvs:List (κ×V)}{vs:List (κ×ag)}(r:KV kvs vs)(k:κ):(kvs.any λkv=>decide (kv.1=k))=vs.any λkv=>decide (kv.1=k):=by
 unfold KV at r
 induction r with
 |nil=>rfl
 |cons h t ih=>rw[km,km,ih,h.1]
theorem KV.repl{kvs:List (κ×V)}{vs:List (κ×ag)}(r:KV kvs vs)(k:κ){y:V}{u:ag}(ry:aP y u) :
  KV (kvs.map λkv=>if kv.1=k then(kv.1,y) else kv) (vs.map λkv=>if kv.1=k then(kv.1,u) else kv):=by
 unfold KV at r ⊢
 induction r with
 |nil=>exact .nil
 |@cons p q ps qs h t ih=>
   rw[bS,bS];refine .cons ?_ ih;obtain⟨h1,h2⟩:=h;by_cases e:p.1=k
   ·rw[if_pos e,if_pos (h1.symm.trans e)];exact⟨h1,ry⟩
   ·rw[if_neg e,if_neg (λz=>e (h1.trans z))];exact⟨h1,h2⟩
theorem KV.put{kvs:List (κ×V)}{vs:List (κ×ag)}(r:KV kvs vs)(k:κ){y:V}{u:ag}(ry:aP y u):KV (eS kvs k y) (stored vs k u):=by
 unfold eS stored;rw[r.any k];by_cases e:(vs.any λkv=>decide (kv.1=k))=true
 ·rw[if_pos e,if_pos e];exact r.repl k ry
 ·rw[if_neg e,if_neg e];exact Paired.snoc r ⟨rfl,ry⟩
theorem KV.drop{kvs:List (κ×V)}{vs:List (κ×ag)}(r:KV kvs vs)(k:κ):KV (jb kvs k) (without vs k):=by
 unfold KV at r ⊢;unfold jb without
 induction r with
 |nil=>exact .nil
 |@cons p q ps qs h t ih=>
   obtain⟨h1,h2⟩:=h;rw[pX,pX];by_cases e:p.1=k
   ·have a:¬decide (p.1≠k)=true:=by simp[e]
    have b:¬decide (q.1≠k)=true:=by simp[h1.symm.trans e]
    rw[if_neg a,if_neg b];exact ih
   ·have e':¬q.1=k:=λz=>e (h1.trans z);have a:decide (p.1≠k)=true:=by simp[e]
    have b:decide (q.1≠k)=true:=by simp[e']
    rw[if_pos a,if_pos b];exact .cons ⟨h1,h2⟩ ih
theorem KV.length{kvs:List (κ×V)}{vs:List (κ×ag)}(r:KV kvs vs):kvs.length=vs.length:=Paired.length r
theorem Gd(kvs:List (κ×V))(k:κ):(jb kvs k).length≤kvs.length:=List.length_filter_le _ _
end
theorem jW{P:bf}{w:aU}{k:Key}{u:ag}(r:aP (kV k) u):(cg P w).is k u=true:=by
 cases k with
 |inl i=>obtain⟨t,e⟩:=(show ∃t,u=Value.int i t from r);subst e;exact Fk P w i t
 |inr x=>obtain⟨t,e⟩:=(show ∃t,u=Value.str x t from r);subst e;exact FH P w x t
theorem AG{P:bf}{w:aU}:∀{ks:List Key}{us:List ag},Vals (ks.map kV) us->ItemsAre (cg P w) ks us
 |[],_,r=>by rw[jS]at r;cases r;exact .nil
 |k::ks,_,r=>by
   rw[bS]at r;cases r with
   |cons h t=>exact .cons (jW h) (AG t)
abbrev KT(H:Hp):List (List Key×V)->List (List Key×ae×ag)->Prop:=cx λp q=>p.1=q.1/\H q.2.1=some (.tup (p.1.map kV))/\aP p.2 q.2.2
theorem KT.val{H:Hp}{kvs:List (List Key×V)}{xs:List (List Key×ae×ag)}(r:KT H kvs xs)(k:List Key):dO (eA kvs k) ((atKey xs k).map (·.2)):=by
 induction r with
 |nil=>exact True.intro
 |@cons p q ps qs h t ih=>
   obtain⟨h1,_,h2⟩:=h;by_cases e:p.1=k
   ·have e':q.1=k:=h1.symm.trans e;have b:atKey (q::qs) k=some q.2:=by simp[atKey,kY,e']
    rw[pH e,b];exact h2
   ·have e':¬q.1=k:=λz=>e (h1.trans z);have b:atKey (q::qs) k=atKey qs k:=by simp[atKey,kY,e']
    rw[oV e,b];exact ih
theorem KT.repl{H:Hp}{kvs:List (List Key×V)}{xs:List (List Key×ae×ag)}(r:KT H kvs xs)(k:List Key){y:V}{u:ag}(ry:aP y u) :
  KT H (kvs.map λkv=>if kv.1=k then(kv.1,y) else kv) (xs.map (putAt k u)):=by
 induction r with
 |nil=>exact .nil
 |@cons p q ps qs h t ih=>
   rw[bS,bS];refine .cons ?_ ih;obtain⟨h1,h2,h3⟩:=h;unfold putAt;by_cases e:p.1=k
   ·rw[if_pos e,if_pos (h1.symm.trans e)];exact⟨h1,h2,ry⟩
   ·rw[if_neg e,if_neg (λz=>e (h1.trans z))];exact⟨h1,h2,h3⟩
theorem KT.put{H:Hp}{kvs:List (List Key×V)}{xs:List (List Key×ae×ag)}(r:KT H kvs xs)(k:List Key){b:ae}{y:V}{u:ag}(hb:H b=some (.tup (k.map kV)))(ry:aP y u) :
  KT H (eS kvs k y) (storedH xs k b u):=by
 have e:(kvs.any λkv=>decide (kv.1=k))=(atKey xs k).isSome:=by
  rw[pN,(r.val k).isSome_eq,ud]
 unfold eS storedH;rw[e];by_cases q:(atKey xs k).isSome=true
 ·rw[if_pos q,if_pos q];exact r.repl k ry
 ·rw[if_neg q,if_neg q];exact Paired.snoc r ⟨rfl,hb,ry⟩
theorem KT.keeps{H H':Hp}{kvs:List (List Key×V)}{xs:List (List Key×ae×ag)}(r:KT H kvs xs)(ht:∀b ys,H b=some (.tup ys)->H' b=some (.tup ys)):KT H' kvs xs:=
 Paired.mapP r λ_ _ z=>⟨z.1,ht _ _ z.2.1,z.2.2⟩
section
variable {P:bf}{w:aU}{H:Hp}{h:aG}{a:ae}
theorem w6{u:HO}(ok:HOk P w H h)(e:Rd H a u):bG P w H h a u:=e.ok ok
theorem i6{kvs:List (Key×V)}(ok:HOk P w H h)(e:Rd H a (.dK kvs)):kvs.length≤aZ/\(a == sysModules)=false/\∃vs,KV kvs vs/\h.DictOf (cg P w) a vs:=
 show bG P w H h a (.dK kvs) from w6 ok e
theorem oY{kvs:List (Key×V)}(ok:HOk P w H h)(e:H a=some (.dK kvs)):kvs.length≤aZ/\(a == sysModules)=false/\∃vs,KV kvs vs/\h.DictOf (cg P w) a vs:=i6 ok (.inl e)
theorem hI{ks:List Key}(ok:HOk P w H h)(e:H a=some (.tup (ks.map kV))):(tupleKind (cg P w)).is h ks a:=by
 obtain⟨_,its,r,o,h1,h2,n,h3⟩:=(show bG P w H h a (.tup (ks.map kV)) from ok a _ e);exact⟨o,its.toArray,n,h1,h2,h3,by simpa using AG r⟩
theorem jU{kvs:List (List Key×V)}(ok:HOk P w H h)(e:Rd H a (.dT kvs)):kvs.length≤aZ/\(a == sysModules)=false /\
  ∃xs,KT H kvs xs/\h.DictOfH (tupleKind (cg P w)) a xs:=by
 obtain⟨z,y,xs,r,o,es,ep,h1,h2,h3,h4,h5⟩:=(show bG P w H h a (.dT kvs) from w6 ok e);refine⟨z,y,xs,r,o,es,ep,h1,h2,h3,h4,λx hx=>?_,h5⟩;have all:∀{l:List (List Key×V)}{m:List (List Key×ae×ag)},KT H l m->∀x∈m,(tupleKind (cg P w)).is h x.1 x.2.1:=by
  intro l m q
  induction q with
  |nil=>intro x hx;exact nomatch hx
  |@cons p q ps qs hq t ih=>
    intro x hx;rcases bW.mp hx with e|hx
    ·subst e;exact hI ok (by rw[←hq.1];exact hq.2.1)
    ·exact ih x hx
 exact all r x hx
theorem Bv{kvs:List (List Key×V)}(ok:HOk P w H h)(e:H a=some (.dT kvs)):kvs.length≤aZ/\(a == sysModules)=false /\
  ∃xs,KT H kvs xs/\h.DictOfH (tupleKind (cg P w)) a xs:=jU ok (.inl e)
end
def DGet(H:Hp)(a:ae)(y:V)(r:Option V):Prop:=
 (∃kvs k,Rd H a (.dK kvs)/\y=kV k/\r=eA kvs k)∨∃kvs k b,Rd H a (.dT kvs)/\y=.ref b/\H b=some (.tup (k.map kV))/\r=eA kvs k
def DPut(H:Hp)(a:ae)(y v:V)(H':Hp):Prop:=
 (∃kvs k,H a=some (.dK kvs)/\y=kV k/\kvs.length<aZ/\H'=upd H a (.dK (eS kvs k v))) ∨
 ∃kvs k b,H a=some (.dT kvs)/\y=.ref b/\H b=some (.tup (k.map kV))/\kvs.length<aZ/\H'=upd H a (.dT (eS kvs k v))
theorem DGet.k{H:Hp}{a:ae}{kvs:List (Key×V)}{k:Key}(e:H a=some (.dK kvs)):DGet H a (kV k) (eA kvs k):=.inl ⟨kvs,k,.inl e,rfl,rfl⟩
theorem DPut.k{H:Hp}{a:ae}{kvs:List (Key×V)}{k:Key}{v:V}(e:H a=some (.dK kvs))(hl:kvs.length<aZ):DPut H a (kV k) v (upd H a (.dK (eS kvs k v))):=.inl ⟨kvs,k,e,rfl,hl,rfl⟩
section
variable {X:Cx}{pins:List (ae×az)}{σ:St}{H:Hp}{s:ai}{a:ae}{y v:V}{u r:ag}{o:Option V}{A:bh}{E:ag->ai->Prop}
theorem Inv.big(I:Inv X pins σ H s):sysModules<s.heap.objs.size:=by
 have h:c8<s.heap.objs.size:=(I.mod.glob.keeps I.bk).lt;exact Nat.lt_trans (by decide) h
theorem vR{Q:ag->ai->Prop}(hu:A.units+1<cLine)(I:Inv X pins σ H s)(g:DGet H a y (some v))(ry:aP y u)(h:∀w' s',Inv X pins σ H s'->aP v w'->Q w' s') :
  aq (aw X.prog X.w) A (getItem (.ref a) u) Q E s:=by
 rcases g with⟨kvs,k,e,ey,l⟩|⟨kvs,k,b,e,ey,eb,l⟩
 ·subst ey;obtain⟨z,hd,vs,rel,dd⟩:=i6 I.hok e;obtain⟨w',hw,rw'⟩:=dO.some_of (v:=v) (o:=valueAt vs k) (by rw[l];exact rel.val k);exact wpAny_getItem_of (jW ry) dd.mapOf hw (h w' _ (I.tok _) rw')
 ·subst ey;cases(show u=Value.ref b from ry);obtain⟨z,hd,xs,rel,dd⟩:=jU I.hok e;obtain⟨w',hw,rw'⟩:=dO.some_of (v:=v) (o:=(atKey xs k).map (·.2)) (by rw[l];exact rel.val k)
  obtain⟨p,hp,hp2⟩:=Option.map_eq_some_iff.mp hw;refine wpAny_getItem_heap (tupleKind_room_in1 hu) (hI I.hok eb) dd hp ?_;rw[hp2];exact h w' _ (I.tok _) rw'
theorem Dc{Q:ag->ai->Prop}(hu:A.units+1<cLine)(I:Inv X pins σ H s)(g:DGet H a y o)(ry:aP y u)(h:∀s',Inv X pins σ H s'->Q (.bool o.isSome) s') :
  aq (aw X.prog X.w) A (dm .In u (.ref a)) Q E s:=by
 rcases g with⟨kvs,k,e,ey,l⟩|⟨kvs,k,b,e,ey,eb,l⟩
 ·subst ey;obtain⟨z,hd,vs,rel,dd⟩:=i6 I.hok e;refine wpAny_in_of (jW ry) hd dd.mapOf ?_;rw[←(rel.val k).isSome_eq,←l];exact h _ (I.tok _)
 ·subst ey;cases(show u=Value.ref b from ry);obtain⟨z,hd,xs,rel,dd⟩:=jU I.hok e;refine wpAny_in_heap (tupleKind_room_in1 hu) (hI I.hok eb) hd dd ?_;have q:=(rel.val k).isSome_eq;rw[ud]at q;rw[←q,←l];exact h _ (I.tok _)
theorem CD{Q:ag->ai->Prop}(hu:A.units+1<cLine)(I:Inv X pins σ H s)(g:DGet H a y o)(ry:aP y u)(h:∀s',Inv X pins σ H s'->Q (.bool (!o.isSome)) s') :
  aq (aw X.prog X.w) A (dm .NotIn u (.ref a)) Q E s:=by
 rcases g with⟨kvs,k,e,ey,l⟩|⟨kvs,k,b,e,ey,eb,l⟩
 ·subst ey;obtain⟨z,hd,vs,rel,dd⟩:=i6 I.hok e;refine wpAny_notIn_of (jW ry) hd dd.mapOf ?_;rw[←(rel.val k).isSome_eq,←l];exact h _ (I.tok _)
 ·subst ey;cases(show u=Value.ref b from ry);obtain⟨z,hd,xs,rel,dd⟩:=jU I.hok e;refine wpAny_notIn_heap (tupleKind_room_in1 hu) (hI I.hok eb) hd dd ?_;have q:=(rel.val k).isSome_eq;rw[ud]at q;rw[←q,←l];exact h _ (I.tok _)
theorem tM{h':aG}{t':Nat}{ob:HO}(I:Inv X pins σ H s)(mu:Mut (H a))(hs:jJ a s.heap h')(he:∃q,h'.get? a=some q)(new:bG X.prog X.w (upd H a ob) h' a ob) :
  Inv X pins σ (upd H a ob) { s with heap:=h',toks:=t' }:=
 I.write (x:=a) (e:=a) mu (.inl rfl) (λb q hb z=>(hs.2 b hb).trans z) he new
theorem AJ{P:bf}{w:aU}{H':Hp}{h':aG}{kvs:List (Key×V)}{vs:List (Key×ag)}(z:kvs.length≤aZ)(hd:(a == sysModules)=false)(rel:KV kvs vs)(dd:h'.DictOf (cg P w) a vs) :
  bG P w H' h' a (.dK kvs):=⟨z,hd,vs,rel,dd⟩
theorem Fd{H':Hp}{Q:Unit->ai->Prop}(hu:A.units+1<cLine)(I:Inv X pins σ H s)(g:DPut H a y v H')(ry:aP y u)(rv:aP v r)(h:∀s',Inv X pins σ H' s'->Q () s') :
  aq (aw X.prog X.w) A (setItem (.ref a) u r) Q E s:=by
 rcases g with⟨kvs,k,e,ey,l,eH⟩|⟨kvs,k,b,e,ey,eb,l,eH⟩
 ·subst ey eH;obtain⟨z,hd,vs,rel,dd⟩:=oY I.hok e;have hz:vs.length≤aZ:=by rw[←rel.length];exact z
  have hl:(eS kvs k v).length≤aZ:=by have:=AF kvs k v;lia
  refine wpAny_setItem_pairs (hsz:=hz) (jW ry) dd λh' dd' hs=>h _ ?_;have he:∃q,h'.get? a=some q:=let ⟨q,_,_,hq,_⟩:=dd';⟨q,hq⟩;exact tM I (by rw[e];exact True.intro) hs he (AJ hl hd (rel.put k rv) dd')
 ·subst ey eH;cases(show u=Value.ref b from ry);obtain⟨z,hd,xs,rel,dd⟩:=Bv I.hok e;have hz:xs.length≤aZ:=by rw[←Paired.length rel];exact z
  have hl:(eS kvs k v).length≤aZ:=by have:=AF kvs k v;lia
  refine wpAny_setItem_heap (hsz:=hz) (tupleKind_room_in1 hu) (hI I.hok eb) dd λh' dd' hs=>h _ ?_;obtain⟨q,es,ep,hq,h2,h3,h4,_,h5⟩:=dd';refine tM I (by rw[e];exact True.intro) hs ⟨q,hq⟩ ⟨hl,hd,_,(rel.put k eb rv).keeps λc ys ec=>?_,q,es,ep,hq,h2,h3,h4,h5⟩;rw[aQ (EZ ec e (λz=>nomatch z))];exact ec
end
section
variable {X:Cx}{pins:List (ae×az)}{σ:St}{H:Hp}{s:ai}{a:ae}{kvs:List (Key×V)}{k:Key}{u:ag}{A:bh}{E:ag->ai->Prop}
theorem FO{v:V}{more:List ag}{Q:ag->ai->Prop}(I:Inv X pins σ H s)(e:H a=some (.dK kvs))(ry:aP (kV k) u)(l:eA kvs k=some v)(hm:more=[]∨∃x,more=[x])
  (h:∀w' s',Inv X pins σ (upd H a (.dK (jb kvs k))) s'->aP v w'->Q w' s'):aq (aw X.prog X.w) A (call (.builtin "dict.pop") (.ref a::u::more)) Q E s:=by
 obtain⟨z,hd,vs,rel,dd⟩:=oY I.hok e;obtain⟨w',hw,rw'⟩:=dO.some_of (v:=v) (o:=valueAt vs k) (by rw[←l];exact rel.val k);have hp:(keyPart u).isSome=true:=by
  cases k with
  |inl i=>obtain⟨t,q⟩:=(show ∃t,u=Value.int i t from ry);subst q;rfl
  |inr x=>obtain⟨t,q⟩:=(show ∃t,u=Value.str x t from ry);subst q;rfl
 have ha:argsOk "dict.pop" ⟨.ref a::u::more,[]⟩:=by
  rcases hm with q|⟨x,q⟩
  ·subst q;exact PySem.F.args_dict_pop_2 _ _
  ·subst q;exact PySem.F.args_dict_pop_3 _ _ _
 refine call_meetsIn PySem.F.slot_dict_pop dd.typeIs PySem.F.entry_dict_pop ha (meets_dict_pop_there (cg X.prog X.w) a (jW ry) more hm hp)
  ⟨vs,w',dd,by rw[←rel.length];exact z,hw,λh' dd' hs=>h w' _ ?_ rw'⟩
 have he:∃q,h'.get? a=some q:=let ⟨q,_,_,hq,_⟩:=dd';⟨q,hq⟩;exact tM I (by rw[e];exact True.intro) hs he (AJ (cF (Gd kvs k) z) hd (rel.drop k) dd')
theorem Ex{Q:ag->ai->Prop}(I:Inv X pins σ H s)(e:Rd H a (.dK kvs))(h:∀t s',Inv X pins σ H s'->Q (.int kvs.length t) s'):aq (aw X.prog X.w) A (call (.builtin "len") [.ref a]) Q E s:=by
 obtain⟨z,hd,vs,rel,dd⟩:=i6 I.hok e;refine call_len_dict hd dd (by rw[←rel.length];rw[sizeLine_eq]at z;lia) ?_;rw[←rel.length];exact h _ _ (I.tok _)
end
theorem CM{X:Cx}{pins:List (ae×az)}{σ:St}{H:Hp}{s:ai}{a:ae}{y:V}{o:Option V}(I:Inv X pins σ H s)(g:DGet H a y o):s.TypeIs (.ref a) "dict":=by
 rcases g with⟨kvs,k,e,_,_⟩|⟨kvs,k,b,e,_,_,_⟩
 ·obtain⟨_,_,vs,_,dd⟩:=i6 I.hok e;exact dd.typeIs
 ·obtain⟨_,_,xs,_,dd⟩:=jU I.hok e;exact dd.typeIs
section
variable {X:Cx}{o i e value:av}{pos pos' tpos:Pos}{td ty tv:TE}
end
theorem Id{P:bf}{w:aU}{H:Hp}(h:aG)(hb:sysModules<h.objs.size):bG P w H (h.push { cls:=.type "dict",data:=.dict #[] }) h.objs.size (.dK []):=
 ⟨d9 _,beq_eq_false_iff_ne.mpr (Ne.symm (cU hb)),[],.nil,Heap.DictOf.new h⟩
def Hg:TE:=λ_ H Q=>∀p,H p=none->Q (.ref p) (upd H p (.dK []))
section
variable {X:Cx}{pos:Pos}
theorem Bi:PE X (.Dict [] [] pos) Hg:=λpins s σ H Q I h=>
 wpAny_Dict_empty ⟨.ref s.heap.objs.size,_,I.laid (a:=s.heap.objs.size) (o:=.dK []) (t':=s.toks) (λ_ _ q=>bv _ q) (aY _) (Id s.heap I.big),rfl,h _ (I.hok.fresh (aY _))⟩
end
structure M1(X:Cx)(o:av)(m:Str)(apos:Pos)(e:av)(cpos:Pos):Prop where
 base:attributeBase o m X.env (aE o X.env)=aE o X.env
 few:((backTo cpos (aH [e] X.env)).all (λx=>!x.1) && (backToKw cpos (keywordEach [] X.env)).all (λx=>x.1.isSome)
  && decide (([e]:List av).length + ([]:List Keyword).length + (if ([]:List Keyword).isEmpty then 0 else 1) < 30))=true
 line:(apos.endLine == cpos.line)=true
 trees:backTo cpos (aH [e] X.env)=[(false,aE e X.env)]
structure M2(X:Cx)(o:av)(m:Str)(apos:Pos)(e f:av)(cpos:Pos):Prop where
 base:attributeBase o m X.env (aE o X.env)=aE o X.env
 few:((backTo cpos (aH [e,f] X.env)).all (λx=>!x.1) && (backToKw cpos (keywordEach [] X.env)).all (λx=>x.1.isSome)
  && decide (([e,f]:List av).length + ([]:List Keyword).length + (if ([]:List Keyword).isEmpty then 0 else 1) < 30))=true
 line:(apos.endLine == cpos.line)=true
 trees:backTo cpos (aH [e,f] X.env)=[(false,aE e X.env),(false,aE f X.env)]
def IsD(H:Hp)(a:ae):Prop:=(∃kvs,Rd H a (.dK kvs))∨∃kvs,Rd H a (.dT kvs)
theorem vJ{X:Cx}{pins:List (ae×az)}{σ:St}{H:Hp}{s:ai}{a:ae}(I:Inv X pins σ H s)(d:IsD H a) :
  s.TypeIs (.ref a) "dict"/\(∀b,Value.ref a=.ref b->∃ob,s.heap.get? b=some ob/\ob.dict=none)/\(a == sysModules)=false:=by
 rcases d with⟨kvs,e⟩|⟨kvs,e⟩
 ·obtain⟨_,hd,vs,_,dd⟩:=i6 I.hok e;refine⟨dd.typeIs,λb q=>?_,hd⟩;cases q;obtain⟨ob,_,_,h1,h2,_⟩:=dd;exact⟨ob,h1,h2.2.1⟩
 ·obtain⟨_,hd,xs,_,dd⟩:=jU I.hok e;refine⟨dd.typeIs,λb q=>?_,hd⟩;cases q;obtain⟨ob,_,_,h1,h2,_⟩:=dd;exact⟨ob,h1,h2.2.1⟩
section
variable {X:Cx}{pins:List (ae×az)}{σ:St}{H:Hp}{s:ai}{a:ae}{y d:V}{u r:ag}{o:Option V}{A:bh}{E:ag->ai->Prop}
theorem CL{Q:ag->ai->Prop}(hu:A.units+1<cLine)(I:Inv X pins σ H s)(g:DGet H a y o)(ry:aP y u)(rd:aP d r)(h:∀w' s',Inv X pins σ H s'->aP (o.getD d) w'->Q w' s') :
  aq (aw X.prog X.w) A (call (.builtin "dict.get") [.ref a,u,r]) Q E s:=by
 rcases g with⟨kvs,k,e,ey,l⟩|⟨kvs,k,b,e,ey,eb,l⟩
 ·subst ey;obtain⟨z,hd,vs,rel,dd⟩:=i6 I.hok e;refine call_meetsIn tF dd.typeIs PySem.F.entry_dict_get (PySem.F.args_dict_get_3 _ _ _) (meets_dict_get_default (cg X.prog X.w) a (jW ry) hd r) ⟨_,dd.mapOf,h _ _ (I.tok _) ?_⟩;rw[l];exact(rel.val k).getD rd
 ·subst ey;cases(show u=Value.ref b from ry);obtain⟨z,hd,xs,rel,dd⟩:=jU I.hok e;refine call_meetsIn tF dd.typeIs PySem.F.entry_dict_get (PySem.F.args_dict_get_3 _ _ _) (meetsH_dict_get_default (tupleKind (cg X.prog X.w)) a b hd r) ⟨tupleKind_room_in1 hu,k,xs,hI I.hok eb,dd,h _ _ (I.tok _) ?_⟩;rw[l];exact(rel.val k).getD rd
end
def HF(td ty tx:TE):TE:=λσ H Q=>td σ H λx H1=>∃a,x=.ref a/\IsD H1 a/\ty σ H1 λy H2=>tx σ H2 λz H3=>∃o,DGet H3 a y o/\Q (o.getD z) H3
def DW(td ty:TE):TE:=λσ H Q=>td σ H λx H1=>∃a,x=.ref a/\IsD H1 a/\ty σ H1 λy H2=>∃kvs k v,H2 a=some (.dK kvs)/\y=kV k/\eA kvs k=some v/\Q v (upd H2 a (.dK (jb kvs k)))
section
variable {X:Cx}{o e f:av}{apos cpos:Pos}{td ty tx:TE}
theorem Fw(hu:X.A.units+1<cLine)(ho:PE X o td)(he:PE X e ty)(hf:PE X f tx)(m:M2 X o "get" apos e f cpos):PE X (.Call (.Attribute o "get" apos) [e,f] [] cpos) (HF td ty tx):=by
 intro pins s σ H Q I h;refine wpAny_Call_method m.base m.few m.line uR tF PySem.F.type_dict_get (thn (ho pins s σ H _ I h) λu s1 e0=>bo e0 λx H1 I1 rx e4=>e4.elim λa e5=>e5.elim λex e6=>e6.elim λd q1=>?_);subst ex;obtain rfl:u=Value.ref a:=rx;obtain ⟨t1,t2,_⟩:=vJ I1 d;refine ⟨t1,t2,?_⟩;rw [m.trees];refine Calls.callWith_builtin rfl (Calls.evalArgs_plain (Calls.spliced_cons (thn (he pins s1 σ H1 _ I1 q1) λiv s2 e0=>bo e0 λy H2 I2 ry q2=>
  Calls.spliced_cons (thn (hf pins s2 σ H2 _ I2 q2) λfv s3 e0=>bo e0 λz H3 I3 rz e4=>e4.elim λov e5=>e5.elim λg q3=>Calls.spliced_nil ?_))))
 exact CL hu I3 g ry rz λw' s4 I4 rw'=>⟨_,H3,I4,rw',q3⟩
theorem Dg(ho:PE X o td)(he:PE X e ty)(m:M1 X o "pop" apos e cpos):PE X (.Call (.Attribute o "pop" apos) [e] [] cpos) (DW td ty):=by
 intro pins s σ H Q I h;refine wpAny_Call_method m.base m.few m.line uR PySem.F.slot_dict_pop PySem.F.type_dict_pop (thn (ho pins s σ H _ I h) λu s1 e0=>bo e0 λx H1 I1 rx e4=>e4.elim λa e5=>e5.elim λex e6=>e6.elim λd q1=>?_);subst ex;obtain rfl:u=Value.ref a:=rx;obtain⟨t1,t2,_⟩:=vJ I1 d;refine⟨t1,t2,?_⟩;rw[m.trees];refine Calls.callWith_builtin rfl (Calls.evalArgs_plain (Calls.spliced_cons (thn (he pins s1 σ H1 _ I1 q1) λiv s2 e0=>bo e0 λy H2 I2 ry e4=>e4.elim λkvs e5=>e5.elim λk e6=>e6.elim λv e7=>e7.elim λea e8=>e8.elim λey e9=>e9.elim λl q2=>Calls.spliced_nil ?_)));subst ey;exact FO I2 ea ry l (.inl rfl) λw' s3 I3 rw'=>⟨v,_,I3,rw',q2⟩
end
section
variable {X:Cx}{pins:List (ae×az)}{σ:St}{H:Hp}{s:ai}{a:ae}{kvs:List (Key×V)}{A:bh}{E:ag->ai->Prop}
end
section
variable {X:Cx}{pins:List (ae×az)}{σ:St}{H:Hp}{s:ai}{a:ae}{y:V}{u:ag}{A:bh}{E:ag->ai->Prop}
end
end L2
namespace Att
open PySem PySem.W PySem.Calls PyProof.Rows
theorem Ea{P:Params}{h:aG}:∀(ns:List Int) (vs:List ag),WellAll P h vs (ns.map WData.int)->IntsAre vs ns:=by
 intro ns
 induction ns with
 |nil=>
   intro vs w;rw[jS]at w;cases w;exact .nil
 |cons n ns ih=>
   intro vs w;rw[bS]at w;cases w with
   |cons a b=>
     cases a;exact .cons _ _ (ih _ b)
theorem Bq{l:OpenLaw}{n:Nat}(hn:l.most=some n){P:Params}{h:aG}{args:List WData}{vals:List ag}
  (hpre:l.row.toRowW.claim.pre args=true) (hwl:WellAll P h vals args) :
  ∃a vs ns,vals=[Value.ref a]/\args=[WData.list (ns.map WData.int)]/\h.get? a=some { cls:=.type "list",data:=.seq vs.toArray }/\IntsAre vs ns/\ns.length≤n:=by
 have hsh:WShape.hasAll [] args [.list .int]=true:=(pre_splitW hpre).1;have hc:l.pre.holds [] { args:=args }=true:=(pre_splitW hpre).2;obtain⟨d,r,rfl,h1,h2⟩:=hasAllW_cons hsh;obtain rfl:=hasAllW_nil h2;obtain⟨xs,rfl,h3⟩:=hasW_list h1;obtain⟨ns,rfl⟩:=items_int h3;have hlen:ns.length≤n:=by
  unfold OpenLaw.pre at hc;have h4:(WTm.not (.lt (.lit (.int (n:Int))) (.len (.arg 0)))).holds [] { args:=[.list (ns.map .int)] }=true:=by
   have h4:=(holds_andW hc).1;rw[hn]at h4;exact h4
  have h5:=condW_of h4 (w_not (w_lt w_lit (w_len_list (w_arg rfl))));rw[cY]at h5;refine kg λq=>?_;have q':(n:Int)<((ns.length:Nat):Int):=by lia
  first
   |(rw[decide_eq_true q']at h5;exact absurd h5 (by decide))
   |(simp at h5;lia)
 cases hwl with
 |cons w1 w2=>
   cases w2;cases w1 with
   |list ho hall=>exact⟨_,_,ns,rfl,rfl,ho,Ea ns _ hall,hlen⟩
theorem Ho(l:OpenLaw)(args:List WData):l.row.toRowW.claim.post args (.bool true) args=true:=
 postW_of (r:=l.row.toRowW) (X:=(true == true))
  (show WShape.has [] (.bool true) .bool=true by first|rfl|decide|simp[WShape.has,WShape.arms,WShape.armsAll])
  (show(WTm.eq .res (.lit (.bool true))).value [] { args:=args,res:=some (.bool true),after:=args }=some (.bool (true == true)) from w_eq_bool (w_res rfl) w_lit) rfl
theorem attach_call{l:OpenLaw}{n:Nat}{q:bf}{loose:List Str}{XP:(Str->Option ag)->aG->Prop}{YP:aU->aG->Prop}{d:DefRec}
  (hn:l.most=some n) (hdf:d.params.defaults=[])
  (call:∀(w:aU) (s₀ s₁:ai) (mg mb:Str->Option ag) (fa:ae) (o:az) (pm cd doc:ag) (a:ae) (vs:List ag) (ns:List Int),
   Ground q loose [] XP w s₀ mg mb s₁.heap->YP w s₁.heap ->
   s₁.heap.get? fa=some o->o.data=.func (docDef d.name d.params d.body d.scope pm cd doc)->s₁.heap.CodeRec cd d.name->mg d.name=some (.ref fa) ->
   s₁.heap.get? a=some { cls:=.type "list",data:=.seq vs.toArray }->IntsAre vs ns->ns.length≤n->s₁.gens=#[] ->
   codeAny (aw l.prog w) callerA (.call (.ref fa) ⟨[.ref a],[]⟩) (λr s'=>r=.ok (.ret (.bool true))/\OldK s₁.heap s'.heap/\s'.os=s₁.os/\AllBare s'.gens) s₁) :
  WalkO q loose XP YP l.row.toRowW d [] (λf vs=>PySem.call f vs):=by
 intro w s₀ s₁ mg mb G Y fa o pm cd doc dV kV ho hd hcd hD hmg hg args vals as hpre hlay hrd hwl hlo;obtain rfl:dV=.none:=Dflts.none hD hdf;obtain rfl:kV=.none:=Dflts.noKw hD;obtain⟨a,vs,ns,rfl,rfl,hobj,hints,hlen⟩:=Bq hn hpre hwl;refine enter_call (codeAny_mono (call w s₀ s₁ mg mb fa o pm cd doc a vs ns G Y ho (fd_plain hd) hcd hmg hobj hints hlen hg) λr s' hq=>?_);obtain⟨rfl,h2,h3,h4⟩:=hq;exact⟨.inl ⟨.bool true,.bool true,[],rfl,λ_=>rfl,.bool true,Ho l _,λ_=>⟨List.Pairwise.nil,λ_ hm=>(nomatch hm)⟩⟩,h2,h3,h4⟩
section
variable {prog:bf}{w:aU}{A:bh}{E:ag->ai->Prop}{s:ai}{K:Frag}
end
end Att
namespace L2
open PySem PySem.Spec PyProof.Rows
theorem xR:∀{vs:List ag}{ns:List Int},IntsAre vs ns->Vals (ns.map V.int) vs
 |_,_,.nil=>.nil
 |_,_,.cons n t h=>.cons ⟨t,rfl⟩ (xR h)
end L2
/- THE LAST THEOREM (shape;LID,My.* are yours):
  My.Adr: a structure of the addresses that your layer names (classes,functions);My.Txt K t: a structure (Prop) of the equations over K;
  My.txt_mk:{K} {implicit addresses ..} (e1:nsIn K c8 "law"=some (some (.ref f))) (e2:K.lookup f=some ⟨oc,od,.func (fnOf "law" "law" params body scope dV kV doc pm an cdv ct),sl⟩) (e3:codeIn K cdv "law"=true) ..:∃t,My.Txt K t
set_option maxRecDepth 100000 in
set_option maxHeartbeats 0 in
theorem PySem.Challenge.cw_LID_holds:PySem.Challenge.rw_LID.Holds:=by
 w_on;o_law;k_head;(case hw=>w_witness2)
 k_fill
 refine L2.walk_of (l:=PySem.Challenge.rw_LID) (n:=63) (k:=40) (x:="script") (CX:=λw=>..) (sp:=λ_=>My.sp_law) rfl (by decide) rfl ⟨rfl,by decide,by decide⟩ (λw h Y=>PySem.W.kIn_of Y) ?F ?S ?C
 case F=>
  intro w mg fa h KX G hmg;have T:∃t,My.Txt (L2.KOf KX) t:=by
   dsimp only[L2.KOf]                          -- K must stand as «<heap const> w.params» for k_is;refine' My.txt_mk ?e1 ?e2 ?e3 ..
   (case e1=>PySem.W.k_is)                    -- in the order: a name -> its address -> its object -> its parts
   (case e2=>PySem.W.k_is)
   ..
  obtain⟨t,T⟩:=T;have e0:=hmg.symm.trans (PySem.W.mg_of KX G T.law);cases e0                                       -- fa is the law's own address;exact⟨_,λs u=>.of_eq rfl,λbase kb nb=>My.law_fn T kb nb⟩     -- if «.of_eq rfl» comes too early: refine' ⟨_,?b,λbase kb nb=>My.law_fn T kb nb⟩;exact λs u=>.of_eq rfl
 case S=>exact λw H a ns hl hO hS=>..
 case C=>exact ..
(the tactic k_is has no namespace: write k_is) -/
namespace L2
open PySem PySem.Spec PyProof.Rows
def cI(s:aO)(j:Nat):aO:=match s with
 |.ClassDef _ _ _ body _ _ _ _ _ _ _=>body.getD j (.Pass ⟨0,0,0,0⟩)
 |_=>.Pass ⟨0,0,0,0⟩
def l9(s:aO):Arguments:=match s with
 |.FunctionDef _ a _ _ _ _ _ _ _ _=>a
 |_=>{ posonlyargs:=[],args:=[],vararg:=none,kwonlyargs:=[],kw_defaults:=[],kwarg:=none,defaults:=[] }
def jI(s:aO):List aO:=match s with
 |.FunctionDef _ _ b _ _ _ _ _ _ _=>b
 |_=>[]
def bi(s:aO):Scope:=match s with
 |.FunctionDef _ _ _ _ _ _ sc _ _ _=>sc
 |_=>{ kind:=.function,names:=[],isGenerator:=false,isCoroutine:=false }
structure Fun(K:PySem.W.Frag)(x qual:Str)(st:aO)(f:ae)(fd:aW):Prop where
 ex:∃(oc:ag) (od:Option ae) (kV doc pm:ag) (an:Option ae) (cdv ct:ag) (osl:Array (Option ag)),
  fd=PySem.W.fnOf x qual (l9 st) (jI st) (bi st) .none kV doc pm an cdv ct/\K.lookup f=some ⟨oc,od,.func fd,osl⟩/\PySem.W.codeIn K cdv qual=true
 kp:PySem.W.keepIn K (.ref f)=true
section
variable {P:bf}{w:aU}{K:PySem.W.Frag}{mg:Str->Option ag}{base:aG}
theorem G2{x qual:Str}{st:aO}{f:ae}{oc:ag}{od an:Option ae}{osl:Array (Option ag)}{kV doc pm cdv ct:ag}(l:K.lookup f=some ⟨oc,od,.func (PySem.W.fnOf x qual (l9 st) (jI st) (bi st) .none kV doc pm an cdv ct),osl⟩)
  (c:PySem.W.codeIn K cdv qual=true) (k:PySem.W.keepIn K (.ref f)=true):Fun K x qual st f (PySem.W.fnOf x qual (l9 st) (jI st) (bi st) .none kV doc pm an cdv ct):=⟨⟨oc,od,kV,doc,pm,an,cdv,ct,osl,rfl,l,c⟩,k⟩
end
theorem bg{A:bh}{k:Nat}(hr:Room k A):A.units+1<cLine:=u0 (Nat.add_le_add_left (by decide:1≤64) _) hr.units
theorem Fg{n:Nat}(h:n≤1000):n<aZ:=u0 h (by decide)
section
variable {X:Cx}
end
section
variable {X:Cx}
theorem Gn:d4 X (.builtin "len") (λxs H Q=>∃a kvs,xs=[V.ref a]/\H a=some (.dK kvs)/\Q (.int kvs.length) H):=by
 intro pins s σ H xs us Q I r h;obtain⟨a,kvs,rfl,ha,q⟩:=h;obtain⟨u,rfl,ru⟩:=vals1 r;cases ru;exact Ex I (.inl ha) λt s' I'=>⟨.int kvs.length,H,I',⟨t,rfl⟩,q⟩
end
section
variable {κ:Type}[DecidableEq κ]
end
end L2
namespace L2.Rv
open PySem PySem.Spec PySem.W PyProof.Rows
section
variable {prog:bf}{w:aU}{A:bh}{E:ag->ai->Prop}{s:ai}{K:Frag}{x C:ae}{ox:az}
theorem D8{M:Model}{v:ag}{Q:Unit->ai->Prop}(kx:K.In s.heap)(I:InstAt s.heap x ox C none)(hsub:subIn K (.ref C) (.type "BaseException")=some true)(hQ:Q () s) :
  aq M A (checkBuiltinCall "BaseException.__getattribute__" ⟨[.ref x,v],[]⟩) Q E s:=by
 have hsplit:splitId "BaseException.__getattribute__"=some ("BaseException","__getattribute__"):=by decide +kernel
 have hk:builtinKind "BaseException.__getattribute__"=some .slot:=by decide +kernel
 have ha:=F.args_bexc_ga (.ref x) v;obtain⟨hh,g,d,t,os⟩:=s;have L0:=I.type (M:=M);have L1:=looks_subIn (M:=M) kx hsub;simp only[checkBuiltinCall,hk,hsplit];unfold isInstance;refine ak (ak (L0.at (L1.at ?_)));simp only[k8,dh,if_false];cases hsig:Manifest.signature? "BaseException.__getattribute__" with
 |none=>exact aI hQ
 |some sig=>
   simp only[argsOk,hsig]at ha;exact wpAny_of_eq ha hQ
theorem CO{tk:Tok}{P:ag->ai->Prop}(kx:K.In s.heap)(I:InstAt s.heap x ox C none)(hf:findObj K C none "__class__"=some (.bind (.builtin "getset_descriptor.__get__") (.builtin "object.__class__")))
  (hm:mroIn K C (.type "object")=some true) (h:P (.ref C) s) :
  aq (aw prog w) A (Builtin.«object.__getattribute__» ⟨[.ref x,.str "__class__" tk],[]⟩) (λfin s'=>match fin with|.done (.ret v)=>P v s'|_=>False) E s:=by
 obtain⟨hh,g,d,t,os⟩:=s;have L0:=I.type (M:=aw prog w);have L1:=looks_find (M:=aw prog w) kx I hf;unfold Builtin.«object.__getattribute__»;refine ak (aI (ak (aI (ak (L0.at (ak (L1.at ?_)))))));show aq _ _ (holding [Value.builtin "object.__class__"] (call (.builtin "getset_descriptor.__get__") [.builtin "object.__class__",.ref x,.ref C]) >>= ret) _ _ _;exact ak (wpAny_holding (wpAny_call (class_get (s:=⟨hh,g,d,t,os⟩) kx I hm (aI h))))
theorem FI{Q:Option ag->ai->Prop}(kx:K.In s.heap)(I:InstAt s.heap x ox C none)(hga:findIn K (.ref C) "__getattribute__"=some (some (.builtin "BaseException.__getattribute__")))(hk:findIn K (.ref C) "__getattr__"=some none)
  (hsub:subIn K (.ref C) (.type "BaseException")=some true) (hf:findObj K C none "__class__"=some (.bind (.builtin "getset_descriptor.__get__") (.builtin "object.__class__"))) (hm:mroIn K C (.type "object")=some true)
  (h:Q (some (.ref C)) { s with toks:=s.toks+1 }):aq (aw prog w) A (getAttr? (.ref x) "__class__") Q E s:=by
 obtain⟨hh,g,d,t,os⟩:=s;have L0:=I.type (M:=aw prog w);have L1:=looks_findIn (M:=aw prog w) kx hga;have L2:=looks_findIn (M:=aw prog w) kx hk;have hb:bindSpecial (.builtin "BaseException.__getattribute__") (.ref x)=pure (.builtin "BaseException.__getattribute__",[.ref x]):=F.excAttr_ValueError.ga.bind _;unfold getAttr? getAttrBy? getAttrBy;refine ak (wpAny_mkText (ak (wpAny_attempt (wpAny_holding (ak (L0.at (ak (L1.at ?_))))))));dsimp only;rw[if_neg (show ¬((onTheHeap (Value.ref C)&&(Value.builtin "BaseException.__getattribute__" == Value.builtin "object.__getattribute__"))=true) from by simp)];unfold getAttrByItsOwn hookBefore;rw[if_pos (show onTheHeap (.ref C)=true from rfl)];refine ak (L2.at (ak (wpAny_attempt (wpAny_holding ?_))));unfold callGetattribute boundAndCalled;rw[if_neg (by decide)];refine ak (wpAny_of_eq hb ?_);refine wpAny_call (codeAny_call_builtin F.excAttr_ValueError.ga.plain F.entry_bexc_ga (D8 (s:=⟨hh,g,d,t+1,os⟩) kx I hsub ?_));refine cn (CO (s:=⟨hh,g,d,t+1,os⟩) (P:=λv s'=>aq (aw prog w) A (handedOut v) (λv s''=>Q (some v) s'') (λ_ _=>False) s') kx I hf hm (handed_on rfl h)) (λfin s' z=>?_) λ_ _ z=>z;cases fin with
 |done fl=>
   cases fl with
   |ret v=>exact cn z (λ_ _ y=>aI y) (λ_ _ y=>absurd y id)
   |_=>exact z.elim
 |_=>exact z.elim
theorem FJ{a:ae}(hga:findIn K (.ref C) "__getattribute__"=some (some (.builtin "BaseException.__getattribute__")))(hk:findIn K (.ref C) "__getattr__"=some none)(hsub:subIn K (.ref C) (.type "BaseException")=some true)
  (hf:findObj K C none "__class__"=some (.bind (.builtin "getset_descriptor.__get__") (.builtin "object.__class__"))) (hm:mroIn K C (.type "object")=some true) (hc:(clsIn K C).isSome=true) :
  KitX K (.ref a) (.ref C) (λhp=>∃o vs,hp.get? a=some o/\o.cls=.ref C/\o.dict=none/\o.data=.fields vs) where
 ty:=λM hp kx e0=>e0.elim λo e1=>e1.elim λvs e2=>e2.elim λe1 e3=>e3.elim λe2 e4=>e4.elim λe3 e4=>(show InstAt hp a o C none from⟨e1,e2,by unfold notCls;rw[e4],by rw[e3];trivial⟩).type
 it:=λM hp kx _=>by
  obtain⟨cd,hcd⟩:=kq.mp hc;unfold clsIn at hcd;split at hcd
  ·rename_i z1 z2 z3 z4 ho;intro A' Q' E' s' kk q;unfold isType loadHead;exact ak (wpAny_loadPart (kk _ _ (kx _ _ ho)) (aI q))
  ·cases hcd
 ne:=λhp tp dd its n sl kx htp=>by
  obtain⟨cd,hcd⟩:=kq.mp hc;refine Bool.eq_false_iff.mpr λq=>?_;cases Value.ref.inj (beq_iff_eq.mp q);unfold clsIn at hcd
  split at hcd
  ·rename_i z1 z2 z3 z4 ho;have z:=(kx _ _ ho).symm.trans htp;cases z
  ·cases hcd
 ca:=λ{prog w A E Q s} kx ⟨o,vs,e1,e2,e3,e4⟩ k=>FI kx (show InstAt s.heap a o C none from⟨e1,e2,by unfold notCls;rw[e4],by rw[e3];trivial⟩) hga hk hsub hf hm k
theorem G8:isSubtype (.type "type") (.type "tuple")=pure false:=by rw[isSubtype_type];kernel_rfl
theorem y6{M:Model}{a C':ae}{oe:az}{b:Bool}{Q:Bool->ai->Prop}(kx:K.In s.heap)(he:s.heap.get? a=some oe)(hc:oe.cls=.ref C)(hty:typeIn K (.ref C')=some (.type "type"))(hcl:(clsIn K C').isSome=true)
  (hex:subIn K (.ref C') (.type "BaseException")=some true) (hsub:subIn K (.ref C) (.ref C')=some b) (h:Q b s):aq M A (excMatches (.ref a) (.ref C')) Q E s:=by
 obtain⟨hh,g,d,t,os⟩:=s;have L0:=looks_typeIn (M:=M) kx hty;have L1:=looks_subIn (M:=M) kx hex;have L2:=looks_subIn (M:=M) kx hsub;have L3:Looks M hh (isType (.ref C')) true:=by
  obtain⟨cd,hcd⟩:=kq.mp hcl;unfold clsIn at hcd;split at hcd
  ·rename_i z1 z2 z3 z4 ho;intro A' Q' E' s' kk q;unfold isType loadHead;exact ak (wpAny_loadPart (kk _ _ (kx _ _ ho)) (aI q))
  ·cases hcd
 have L4:Looks M hh (typeOf (.ref a)) (.ref C):=hc▸(Looks.ld he).andThen .now;unfold excMatches isInstance isExcClass;refine ak (ak (L0.at (wpAny_of_eq G8 ?_)));simp only[dh,if_false];refine ak (aI ?_);simp only[lM,jN];refine ak (ak (ak (ak (L3.at ?_))));rw[if_pos rfl];refine L1.at ?_;simp only[k8,dh,if_false];refine aI (aI (ak (L4.at (ak (ak (ak (L2.at ?_)))))));cases b with
 |true=>exact aI (aI (aI h))
 |false=>exact aI (aI (aI h))
end
end L2.Rv
namespace L2.Rv
open PySem.W PyProof.Rows
def cT{α:Type}(ask:Nat->Nat->Option Bool):KasT α->Option α
 |.ret a=>some a
 |.ask i j k=>match ask i j with
   |some b=>cT ask (k b)
   |none=>none
theorem lG{α β:Type}{ask:Nat->Nat->Option Bool}{f:α->KasT β}:∀(t:KasT α),cT ask (t.bind f)=(cT ask t).bind λa=>cT ask (f a)
 |.ret a=>rfl
 |.ask i j k=>by
   simp only[KasT.bind,cT];cases ask i j with
   |none=>rfl
   |some b=>exact lG (k b)
structure SOrd(ask:Nat->Nat->Option Bool)(lt:Nat->Nat->Bool)(n:Nat):Prop where
 an:∀i j,i<n->j<n->i≠j->ask i j=some (lt i j)
 tot:∀i j,i<n->j<n->i≠j->lt i j=false->lt j i=true
 asy:∀i j,i<n->j<n->lt i j=true->lt j i=false
 tr:∀i j k,i<n->j<n->k<n->lt i j=true->lt j k=true->lt i k=true
structure SPm(n:Nat)(p:Array Nat):Prop where
 pm:p.Perm (cz n).toArray
section
variable {ask:Nat->Nat->Option Bool}{lt:Nat->Nat->Bool}{n:Nat}{p:Array Nat}
theorem SPm.size(P:SPm n p):p.size=n:=by have:=P.pm.size_eq;simpa using this
theorem SPm.list(P:SPm n p):p.toList.Perm (cz n):=by have:=Array.perm_iff_toList_perm.mp P.pm;simpa using this
theorem SPm.lo(P:SPm n p){i:Nat}(hi:i<n):p.getD i 0<n:=by
 have hs:=P.size;have hi':i<p.size:=by lia
 have e:p.getD i 0=p[i]:=by simp[Array.getD,hi']
 rw[e];have:p[i]∈p.toList:=by simp
 have:=P.list.mem_iff.mp this;simpa using this
theorem SPm.inj(P:SPm n p){i j:Nat}(hi:i<n)(hj:j<n)(hne:i≠j):p.getD i 0≠p.getD j 0:=by
 have hs:=P.size;have hi':i<p.size:=by lia
 have hj':j<p.size:=by lia
 have nd:p.toList.Nodup:=P.list.nodup_iff.mpr List.nodup_range;have ei:p.getD i 0=p.toList[i]'(by simpa using hi'):=by simp[Array.getD,hi']
 have ej:p.getD j 0=p.toList[j]'(by simpa using hj'):=by simp[Array.getD,hj']
 rw[ei,ej];intro z;have pw:=qC.mp nd;rcases uw hne with q|q
 ·exact pw i j _ _ q z
 ·exact pw j i _ _ q z.symm
abbrev SUp(lt:Nat->Nat->Bool)(p:Array Nat)(k:Nat):Prop:=∀i j,i<j->j<k->lt (p.getD i 0) (p.getD j 0)=true
abbrev SDn(lt:Nat->Nat->Bool)(p:Array Nat)(k:Nat):Prop:=∀i j,i<j->j<k->lt (p.getD j 0) (p.getD i 0)=true
theorem uL(O:SOrd ask lt n)(P:SPm n p):∀(f a:Nat),1≤a->a+f≤n->SUp lt p a->∃m,cT ask (kas_asc p f a)=some m/\a≤m/\m≤a+f/\SUp lt p m/\(m<a+f->lt (p.getD m 0) (p.getD (m-1) 0)=true)
 |0,a,_,_,u=>⟨a,rfl,aY _,aY _,u,λz=>absurd z (g7 _)⟩
 |f+1,a,h1,h2,u=>by
   have b1:a<n:=by lia
   have b2:a-1<n:=by lia
   have e:=O.an _ _ (P.lo b1) (P.lo b2) (P.inj b1 b2 (by lia));unfold kas_asc;simp only[cT,e];cases c:lt (p.getD a 0) (p.getD (a-1) 0) with
   |true=>exact⟨a,rfl,aY _,by lia,u,λ_=>c⟩
   |false=>
     have t:=O.tot _ _ (P.lo b1) (P.lo b2) (P.inj b1 b2 (by lia)) c;have u':SUp lt p (a+1):=λi j hij hj=>by
      by_cases hja:j<a
      ·exact u i j hij hja
      ·have ej:j=a:=by lia
       subst ej;by_cases hi:i=j-1
       ·subst hi;exact t
       ·exact O.tr _ _ _ (P.lo (by lia)) (P.lo b2) (P.lo b1) (u i (j-1) (by lia) (by lia)) t
     obtain⟨m,q1,q2,q3,q4,q5⟩:=uL O P f (a+1) (by lia) (by lia) u';exact⟨m,by simpa using q1,by lia,by lia,q4,λz=>q5 (by lia)⟩
theorem yK(O:SOrd ask lt n)(P:SPm n p):∀(f a:Nat),1≤a->a+f≤n->SDn lt p a->∃m,cT ask (kas_desc f p a 0)=some (p,m,0)/\a≤m/\m≤a+f/\SDn lt p m
 |0,a,_,_,u=>⟨a,rfl,aY _,aY _,u⟩
 |f+1,a,h1,h2,u=>by
   have b1:a<n:=by lia
   have b2:a-1<n:=by lia
   have e:=O.an _ _ (P.lo b1) (P.lo b2) (P.inj b1 b2 (by lia));have e':=O.an _ _ (P.lo b2) (P.lo b1) (P.inj b2 b1 (by lia));unfold kas_desc;simp only[cT,e];cases c:lt (p.getD a 0) (p.getD (a-1) 0) with
   |true=>
     have u':SDn lt p (a+1):=λi j hij hj=>by
      by_cases hja:j<a
      ·exact u i j hij hja
      ·have ej:j=a:=by lia
       subst ej;by_cases hi:i=j-1
       ·subst hi;exact c
       ·exact O.tr _ _ _ (P.lo b1) (P.lo b2) (P.lo (by lia)) c (u i (j-1) (by lia) (by lia))
     obtain⟨m,q1,q2,q3,q4⟩:=yK O P f (a+1) (by lia) (by lia) u';exact⟨m,by simpa using q1,by lia,by lia,q4⟩
   |false=>
     have t:=O.tot _ _ (P.lo b1) (P.lo b2) (P.inj b1 b2 (by lia)) c;refine⟨a,?_,aY _,by lia,u⟩;simp only[dh,if_false,cT,e',t,if_true]
theorem xq{j k:Nat}(hj:j≤p.size)(hk:k<p.size):(kas_rev p 0 j).getD k 0=if k<j then p.getD (j-1-k) 0 else p.getD k 0:=by
 have e:=getElem?_mirror_all (xs:=p) (i:=0) hj k;have h1:(kas_rev p 0 j).getD k 0=((kas_rev p 0 j)[k]?).getD 0:=by simp
 rw[h1];unfold kas_rev;rw[e];by_cases c:k<j
 ·rw[if_pos ⟨d9 _,c⟩,if_pos c];simp
 ·rw[if_neg (by lia),if_neg c];simp
theorem Dv(P:SPm n p){k:Nat}(hk:k≤n)(d:SDn lt p k):SPm n (kas_rev p 0 k)/\SUp lt (kas_rev p 0 k) k:=by
 have hs:=P.size;refine⟨⟨(mirror_perm _ _ _ _).trans P.pm⟩,λi j hij hj=>?_⟩;rw[xq (by lia) (by lia),xq (by lia) (by lia),if_pos (by lia),if_pos (by lia)];exact d _ _ (by lia) (by lia)
theorem BZ(O:SOrd ask lt n)(P:SPm n p)(hn:1≤n):∃m p',cT ask (kas_count n p)=some (m,p')/\SPm n p'/\1≤m/\m≤n/\SUp lt p' m:=by
 obtain⟨m,q1,q2,q3,q4,q5⟩:=uL O P (n-1) 1 (aY _) (by lia) (λi j hij hj=>by lia);unfold kas_count;rw[lG,q1];show ∃m' p',cT ask (if(m == n)=true then _ else _)=_/\_;by_cases hm:m=n
 ·rw[if_pos (by simpa using hm)];exact⟨m,p,rfl,P,q2,by lia,q4⟩
 ·rw[if_neg (by simpa using hm)];by_cases h1:m>1
  ·rw[if_pos h1];have e:=O.an _ _ (P.lo (i:=0) (by lia)) (P.lo (i:=m-1) (by lia)) (P.inj (by lia) (by lia) (by lia));have t:=q4 0 (m-1) (by lia) (by lia);simp only[cT,e,t,if_true];exact⟨m,p,rfl,P,q2,by lia,q4⟩
  ·rw[if_neg h1];have em:m=1:=by lia
   subst em;have d2:SDn lt p 2:=λi j hij hj=>by
    have:i=0:=by lia
    have:j=1:=by lia
    subst i;subst j;exact q5 (by lia)
   obtain⟨k,w1,w2,w3,w4⟩:=yK O P (n-2) 2 (by lia) (by lia) d2;unfold kas_descPart;rw[lG,w1];show ∃m' p',cT ask (if 0>0 then _ else kas_tail3 k n p)=_/\_;rw[if_neg (by lia)];obtain⟨P2,U2⟩:=Dv P (k:=k) (by lia) w4;obtain⟨m,r1,r2,r3,r4,r5⟩:=uL O P2 (n-k) k (by lia) (by lia) U2;unfold kas_tail3;rw[lG,r1];exact⟨m,_,rfl,P2,by lia,by lia,r4⟩
theorem uW(O:SOrd ask lt n)(P:SPm n p){k:Nat}(hk:k<n):∀(f l r:Nat),l≤r->r≤k->r-l≤f->(∀i,i<l->lt (p.getD i 0) (p.getD k 0)=true)->(∀i,r≤i->i<k->lt (p.getD k 0) (p.getD i 0)=true)->SUp lt p k ->
  ∃l',cT ask (kas_place p k f l r)=some l'/\l'≤k/\(∀i,i<l'->lt (p.getD i 0) (p.getD k 0)=true)/\(∀i,l'≤i->i<k->lt (p.getD k 0) (p.getD i 0)=true)
 |0,l,r,h1,h2,h3,a,b,u=>⟨l,rfl,by lia,a,λi x y=>b i (by lia) y⟩
 |f+1,l,r,h1,h2,h3,a,b,u=>by
   unfold kas_place;by_cases c:l≥r
   ·rw[if_pos c];exact⟨l,rfl,by lia,a,λi x y=>b i (by lia) y⟩
   ·rw[if_neg c];have hm:(l+r)/2<k:=by lia
    have e:=O.an _ _ (P.lo hk) (P.lo (i:=(l+r)/2) (by lia)) (P.inj hk (by lia) (by lia));simp only[cT,e];cases t:lt (p.getD k 0) (p.getD ((l+r)/2) 0) with
    |true=>
      simp only[if_true];refine uW O P hk f l ((l+r)/2) (by lia) (by lia) (by lia) a (λi x y=>?_) u;by_cases z:i=(l+r)/2
      ·subst z;exact t
      ·exact O.tr _ _ _ (P.lo hk) (P.lo (by lia)) (P.lo (by lia)) t (u _ _ (by lia) y)
    |false=>
      have t':=O.tot _ _ (P.lo hk) (P.lo (i:=(l+r)/2) (by lia)) (P.inj hk (by lia) (by lia)) t;simp only[dh,if_false];refine uW O P hk f ((l+r)/2+1) r (by lia) (by lia) (by lia) (λi x=>?_) b u;by_cases z:i=(l+r)/2
      ·subst z;exact t'
      ·exact O.tr _ _ _ (P.lo (by lia)) (P.lo (i:=(l+r)/2) (by lia)) (P.lo hk) (u _ _ (by lia) hm) t'
theorem xr{k d i:Nat}(hk:k<p.size)(hd:d≤k):(bubble p k d).getD i 0=if i=k-d then p.getD k 0 else if k-d<i/\i≤k then p.getD (i-1) 0 else p.getD i 0:=by
 have e:=getElem?_bubble hk d hd i;have h1:(bubble p k d).getD i 0=((bubble p k d)[i]?).getD 0:=by simp
 rw[h1,e];have g:∀q:Nat,(p[q]?).getD 0=p.getD q 0:=λq=>by simp
 by_cases c1:i=k-d
 ·rw[if_pos c1,if_pos c1];exact g _
 ·rw[if_neg c1,if_neg c1];by_cases c2:k-d<i/\i≤k
  ·rw[if_pos c2,if_pos c2];exact g _
  ·rw[if_neg c2,if_neg c2];exact g _
theorem zj(O:SOrd ask lt n):∀(f k:Nat) (p:Array Nat),SPm n p->k+f≤n->SUp lt p k->∃p',cT ask (kas_bin f p k)=some p'/\SPm n p'/\SUp lt p' (k+f)
 |0,k,p,P,_,u=>⟨p,rfl,P,u⟩
 |f+1,k,p,P,h,u=>by
   have hs:=P.size;obtain⟨l,q1,q2,q3,q4⟩:=uW O P (k:=k) (by lia) k 0 k (by lia) (aY _) (by lia) (λi z=>by lia) (λi x y=>by lia) u;unfold kas_bin;rw[lG,q1];have P2:SPm n (bubble p k (k-l)):=⟨(bubble_perm _ _ _).trans P.pm⟩;have U2:SUp lt (bubble p k (k-l)) (k+1):=λi j hij hj=>by
    rw[xr (by lia) (by lia),xr (by lia) (by lia)];have e:k-(k-l)=l:=by lia
    rw[e];by_cases a1:i=l
    ·rw[if_pos a1,if_neg (by lia),if_pos (by lia)];exact q4 (j-1) (by lia) (by lia)
    ·rw[if_neg a1];by_cases a2:j=l
     ·rw[if_pos a2,if_neg (by lia)];exact q3 i (by lia)
     ·rw[if_neg a2];by_cases b1:l<i/\i≤k
      ·rw[if_pos b1,if_pos (by lia)];exact u _ _ (by lia) (by lia)
      ·rw[if_neg b1];by_cases b2:l<j/\j≤k
       ·rw[if_pos b2];exact u _ _ (by lia) (by lia)
       ·rw[if_neg b2];exact u _ _ (by lia) (by lia)
   obtain⟨p',r1,r2,r3⟩:=zj O f (k+1) _ P2 (by lia) U2;exact⟨p',r1,r2,(show k+1+f=k+(f+1) by lia)▸r3⟩
theorem wJ(O:SOrd ask lt n)(hn:1≤n):∃p,cT ask (kas_sort n)=some p/\SPm n p/\SUp lt p n:=by
 obtain⟨m,p',q1,q2,q3,q4,q5⟩:=BZ O (p:=(cz n).toArray) ⟨Array.Perm.refl _⟩ hn;unfold kas_sort;rw[lG,q1];show ∃p,cT ask (if m<n then kas_bin (n-max m 1) p' (max m 1) else .ret p')=some p/\_;have em:max m 1=m:=by lia
 rw[em];by_cases h:m<n
 ·rw[if_pos h];obtain⟨p2,r1,r2,r3⟩:=zj O (n-m) m p' q2 (by lia) q5;exact⟨p2,r1,r2,(show m+(n-m)=n by lia)▸r3⟩
 ·rw[if_neg h];have:m=n:=by lia
  subst this;exact⟨p',rfl,q2,q5⟩
end
end L2.Rv
namespace L2.Rv
noncomputable section
open PySem (Str)
inductive MV where
 |non|bl (b:Bool)|int (i:Int)|str (s:Str)|ref (n:Nat)|scr (ns:List Int)|tup (xs:List MV)|any
instance:DecidableEq MV:=λ_ _=>mO _
inductive MO where
 |lst (xs:List MV)|dct (kvs:List (Str×MV))|ins (c:Nat) (fs:List (String×MV))|exn (c:Nat)
  |frz (kvs:List (Str×MV))
instance:DecidableEq MO:=λ_ _=>mO _
abbrev MH:=List MO
inductive Res(α:Type) where
 |ok (a:α) (h:MH)|exc (c:Nat) (h:MH)|stuck
abbrev M(α:Type):=MH->Res α
def bnd{α β:Type}(m:M α)(f:α->M β):M β:=λh=>match m h with
 |.ok a h'=>f a h'
 |.exc c h'=>.exc c h'
 |.stuck=>.stuck
def ret{α:Type}(a:α):M α:=λh=>.ok a h
def stk{α:Type}:M α:=λ_=>.stuck
def rse{α:Type}(c:Nat):M α:=λh=>.exc c h
def new(o:MO):M MV:=λh=>.ok (.ref h.length) (h++[o])
def look(n:Nat):M MO:=λh=>match h[n]? with
 |some o=>.ok o h
 |none=>.stuck
def put(n:Nat)(o:MO):M Unit:=λh=>if n<h.length then .ok () (h.set n o) else .stuck
abbrev MSt:=List (Option MV)
abbrev ME:=MSt->M MV
inductive MF where
 |next (σ:MSt)|brk (σ:MSt)|cnt (σ:MSt)|ret (v:MV)
abbrev MS:=MSt->M MF
def af(i:Nat):ME:=λσ=>match σ[i]? with
 |some (some v)=>ret v
 |_=>stk
def eC(v:MV):ME:=λ_=>ret v
abbrev Op2:=MV->MV->M MV
abbrev Op1:=MV->M MV
def aA(f:Op2)(a b:ME):ME:=λσ=>bnd (a σ) λx=>bnd (b σ) λy=>f x y
def eUn(f:Op1)(a:ME):ME:=λσ=>bnd (a σ) f
def asB:MV->M Bool
 |.bl b=>ret b
 |_=>stk
def tst(g:ME)(σ:MSt):M Bool:=bnd (g σ) asB
def jP(a:ME):ME:=λσ=>bnd (tst a σ) λb=>ret (.bl (!b))
def iW(a b:ME):ME:=λσ=>bnd (tst a σ) λc=>if c=true then b σ else ret (.bl false)
def eOr(a b:ME):ME:=λσ=>bnd (tst a σ) λc=>if c=true then ret (.bl true) else b σ
abbrev MA:=MSt->M (List MV)
def au:MA:=λ_=>ret []
def aj(e:ME)(r:MA):MA:=λσ=>bnd (e σ) λx=>bnd (r σ) λxs=>ret (x::xs)
def eE(a:MA):ME:=λσ=>bnd (a σ) λxs=>if xs.length≤1000 then new (.lst xs) else stk
def eG(a:MA):ME:=λσ=>bnd (a σ) λxs=>if xs.length≤1000 then ret (.tup xs) else stk
abbrev Fn:=List MV->M MV
def bE(f:Fn)(a:MA):ME:=λσ=>bnd (a σ) f
def iS(c:Nat)(f:Fn)(a:MA):ME:=λσ=>bnd (a σ) λxs=>bnd (new (.ins c [])) λo=>bnd (f (o::xs)) λv=>match v with
 |.non=>ret o
 |_=>stk
def aL(c:Nat)(mth:String)(f:Fn)(o:ME)(a:MA):ME:=λσ=>bnd (o σ) λx=>match x with
 |.ref n=>bnd (look n) λob=>match ob with
   |.ins c' fs=>if c'=c/\fs.lookup mth=none then bnd (a σ) λxs=>f (x::xs) else stk
   |_=>stk
 |_=>stk
def aV(o:ME)(cs:List Nat)(f:String):ME:=λσ=>bnd (o σ) λx=>match x with
 |.ref n=>bnd (look n) λob=>match ob with
   | .ins c fs=>if cs.contains c=true then (match fs.lookup f with
     |some v=>ret v
     | none=>stk) else stk
   |_=>stk
 |_=>stk
def fH:Op2:=λx y=>match x,y with
 |.int i,.int j=>ret (.int (i+j))
 |.str i,.str j=>if i.length+j.length≤100000 then ret (.str (i++j)) else stk
 |.ref a,.ref b=>bnd (look a) λoa=>bnd (look b) λob=>match oa,ob with
   |.lst xs,.lst ys=>if xs.length+ys.length≤100000 then new (.lst (xs++ys)) else stk
   |_,_=>stk
 |_,_=>stk
def iJ:Op2:=λx y=>match x,y with
 |.int i,.int j=>ret (.int (i-j))
 |_,_=>stk
def j8:Op2:=λx y=>match x,y with
 |.int i,.int j=>if(-(2 ^ 64)<i/\i<2 ^ 64)∨(-(2 ^ 64)<j/\j<2 ^ 64) then ret (.int (i*j)) else stk
 |.ref a,.int k=>bnd (look a) λo=>match o with
   |.lst xs=>if -1000000≤k/\k≤1000000/\xs.length*k.toNat≤100000 then new (.lst (cr k.toNat xs).flatten) else stk
   |_=>stk
 |_,_=>stk
def d0:Op2:=λx y=>match x,y with
 |.int i,.int j=>if 0<j then ret (.int (i%j)) else stk
 |_,_=>stk
def lJ:Op2:=λx y=>match x,y with
 |.int i,.int j=>if 0<j/\j<1073741824 then ret (.int (i/j)) else stk
 |_,_=>stk
def j5:Op2:=λx y=>match x,y with
 |.int i,.int j=>if 0≤j/\j≤1000000/\i.natAbs<2 ^ 64 then ret (.int (i ^ j.toNat)) else stk
 |_,_=>stk
def r8:Op1:=λx=>match x with
 |.int i=>ret (.int (-i))
 |_=>stk
def oLt:Op2:=λx y=>match x,y with
 |.int i,.int j=>ret (.bl (decide (i<j)))
 |_,_=>stk
def oGt:Op2:=λx y=>match x,y with
 |.int i,.int j=>ret (.bl (decide (j<i)))
 |_,_=>stk
def oGe:Op2:=λx y=>match x,y with
 |.int i,.int j=>ret (.bl (decide (j≤i)))
 |_,_=>stk
def gR:MV->Bool
 |.non=>true
 |_=>false
def qI:Op1:=λx=>match x with
 |.any=>stk
 |x=>ret (.bl (gR x))
def lN:Op1:=λx=>match x with
 |.any=>stk
 |x=>ret (.bl (!gR x))
def dget(k:Str):List (Str×MV)->Option MV
 |[]=>none
 |(a,v)::r=>if a=k then some v else dget k r
def dput(k:Str)(v:MV)(kvs:List (Str×MV)):List (Str×MV):=if(dget k kvs).isSome=true then kvs.map (λkv=>if kv.1=k then(kv.1,v) else kv) else kvs++[(k,v)]
def vA(k:Str)(kvs:List (Str×MV)):List (Str×MV):=kvs.filter λkv=>decide (kv.1≠k)
def atN{α:Type}(xs:List α)(i:Int):Option α:=
 if 0≤i then xs[i.toNat]? else if -(xs.length:Int)≤i then xs[(i+xs.length).toNat]? else none
def oIx:Op2:=λx y=>match x,y with
 |.ref a,.int i=>bnd (look a) λo=>match o with
   | .lst xs=>(match atN xs i with
     |some v=>ret v
     | none=>stk)
   |_=>stk
 | .tup xs,.int i=>(match atN xs i with
   |some v=>ret v
   | none=>stk)
 | .scr ns,.int i=>(match atN ns i with
   |some v=>ret (.int v)
   | none=>stk)
 | .str s,.int i=>if s.length≤100000 then (match atN s.cps.toList i with
   |some c=>ret (.str ⟨#[c]⟩)
   | none=>stk) else stk
 |.ref a,.str k=>bnd (look a) λo=>match o with
   | .dct kvs=>(match dget k kvs with
     |some v=>ret v
     | none=>stk)
   |_=>stk
 |_,_=>stk
def dz:Op1:=λx=>match x with
 |.ref a=>bnd (look a) λo=>match o with
   |.lst xs=>ret (.int xs.length)
   |.dct xs=>ret (.int xs.length)
   |_=>stk
 |.str s=>if s.length≤100000 then ret (.int s.length) else stk
 |.scr ns=>ret (.int ns.length)
 |.tup xs=>ret (.int xs.length)
 |_=>stk
def jK:Op1:=λx=>match x with
 |.ref a=>bnd (look a) λo=>match o with
   |.lst xs=>new (.lst xs)
   |_=>stk
 |_=>stk
def flat:MV->Bool
 |.ref _=>false
 |.scr _=>false
 |.tup _=>false
 |.any=>false
 |_=>true
def nZ:MV->MV->Bool
 |.int _,.int _=>true
 |.bl _,.bl _=>true
 |.str _,.str _=>true
 |_,_=>false
def gB(f:MV->Option PySem.PyData):List MV->Option (List PySem.PyData)
 |[]=>some []
 |x::r=>match f x,gB f r with
   |some d,some ds=>some (d::ds)
   |_,_=>none
def dat(h:MH):Nat->MV->Option PySem.PyData
 |_,.non=>some .none
 |_,.bl b=>some (.bool b)
 |_,.int i=>some (.int i)
 |_,.str s=>some (.str s)
 | n + 1,.tup xs=>(match gB (dat h n) xs with
   |some ds=>some (.tuple ds)
   | none=>none)
 | n + 1,.ref a=>(match h[a]? with
   | some (.lst xs)=>(match gB (dat h n) xs with
     |some ds=>some (.list ds)
     | none=>none)
   | _=>none)
 |_,_=>none
def kn(x y:MV):M Bool:=λh=>match dat h 6 x,dat h 6 y with
 |some d,some e=>if PySem.SeqAt.shaped d=true/\PySem.SeqAt.shaped e=true then .ok (PySem.PyData.eqv d e) h else .stuck
 |_,_=>.stuck
def oEq:Op2:=λx y=>if nZ x y=true then ret (.bl (decide (x=y))) else bnd (kn x y) λb=>ret (.bl b)
def oNe:Op2:=λx y=>if nZ x y=true then ret (.bl (!decide (x=y))) else bnd (kn x y) λb=>ret (.bl (!b))
def eqM:MV->MV->Bool
 |.non,.non=>true
 |.bl a,.bl b=>a == b
 |.bl a,.int b=>(if a then 1 else 0) == b
 |.int a,.bl b=>a == (if b then 1 else 0)
 |.int a,.int b=>a == b
 |.str a,.str b=>a == b
 |_,_=>false
def inM(x:MV)(xs:List MV):Bool:=xs.any λy=>eqM y x
def oIn(neg:Bool):Op2:=λx y=>match y with
 |.ref a=>bnd (look a) λo=>match o with
   |.lst xs=>if flat x=true/\xs.all flat=true then ret (.bl (if neg then !inM x xs else inM x xs)) else stk
   | .dct kvs=>(match x with
     |.str k=>ret (.bl (if neg then !(dget k kvs).isSome else(dget k kvs).isSome))
     | _=>stk)
   |_=>stk
 |.tup xs=>if flat x=true/\xs.all flat=true then ret (.bl (if neg then !inM x xs else inM x xs)) else stk
 |_=>stk
def vf:Op2:=λx y=>match x,y with
 |.int i,.int j=>ret (.int (if j<i then j else i))
 |_,_=>stk
abbrev MKey:=Sum Int Str
def pF:MV->Option MKey
 |.int i=>some (.inl i)
 |.str s=>some (.inr s)
 |_=>none
def jy:List MV->Option (List MKey)
 |[]=>some []
 |x::r=>match pF x,jy r with
   |some k,some ks=>some (k::ks)
   |_,_=>none
def fL:MV->Option (List MKey)
 |.tup xs=>jy xs
 |_=>none
def uk:MV->Option (List MKey)
 |.tup (x::_)=>fL x
 |_=>none
def eJ(f:MV->Option (List MKey)):List MV->Option (List (List MKey))
 |[]=>some []
 |x::r=>match f x,eJ f r with
   |some k,some ks=>some (k::ks)
   |_,_=>none
def ltK:List MKey->List MKey->Option Bool
 |[],[]=>some false
 |[],_::_=>some true
 |_::_,[]=>some false
 |x::xs,y::ys=>if x=y then ltK xs ys else match x,y with
   |.inl i,.inl j=>some (decide (i<j))
   |.inr a,.inr b=>some (decide (a.cps.toList<b.cps.toList))
   |_,_=>none
def ie(rows:List (List MKey))(i j:Nat):Option Bool:=match rows[i]?,rows[j]? with
 |some x,some y=>if x=y then none else ltK x y
 |_,_=>none
def cW(rows:List (List MKey)):Option (List Nat):=
 if rows.length < 2 then some (cz rows.length) else if rows.length < 64 then (match cT (ie rows) (PySem.W.kas_sort rows.length) with
  |some p=>some p.toList
  | none=>none) else none
def gr:List MKey->Bool
 |.inl _::_=>true
 |_=>false
def pick(xs:List MV)(ix:List Nat):List MV:=ix.map λi=>xs.getD i .non
def lX:Op1:=λx=>match x with
 |.ref a=>bnd (look a) λo=>match o with
   | .lst xs=>(match eJ fL xs with
     | some rows=>if rows.all gr=true then (match cW rows with
       |some ix=>new (.lst (pick xs ix))
       | none=>stk) else stk
     | none=>(match eJ uk xs with
       | some rows=>(match cW rows with
         |some ix=>new (.lst (pick xs ix))
         | none=>stk)
       | none=>stk))
   |_=>stk
 |_=>stk
def dQ(ke:ME)(fr:MSt):List Str->M (List MV)
 |[]=>ret []
 |k::r=>λh=>match ke (some (.str k)::fr) h with
   |.ok v h'=>if h'=h then bnd (dQ ke fr r) (λvs=>ret (v::vs)) h else .stuck
   |_=>.stuck
def rY(o:ME)(i:Nat)(ke:ME):ME:=λσ=>bnd (o σ) λd=>match d with
 |.ref n=>bnd (look n) λob=>match ob with
   | .dct kvs=>if kvs.length < 64 then bnd (dQ ke [(σ[i]?).getD none] (kvs.map (·.1))) λks=>(match eJ fL ks with
     | some rows=>if rows.all gr=true then (match cW rows with
       |some ix=>new (.lst (pick (kvs.map λkv=>.str kv.1) ix))
       | none=>stk) else stk
     | none=>stk) else stk
   |_=>stk
 |_=>stk
inductive FP where
 |lit (s:Str)|pl (e:ME)|rp (e:ME)
def kh(s:Str):Bool:=decide (s.length≤1000)&&s.cps.toList.all λc=>decide (c<16 ^ 8)
def iM:FP->MSt->M (Option Str)
 |.lit s,_=>if s.length≤1000 then ret (some s) else stk
 |.pl e,σ=>bnd (e σ) λv=>match v with
   |.str s=>if s.length≤10000 then ret (some s) else stk
   |.int i=>if i.natAbs.log2<100 then ret (some (aF (toString i))) else stk
   |_=>stk
 |.rp e,σ=>bnd (e σ) λv=>match v with
   |.str s=>if kh s=true then ret none else stk
   |_=>stk
def fX:List FP->MSt->M (List (Option Str))
 |[],_=>ret []
 |p::r,σ=>bnd (iM p σ) λx=>bnd (fX r σ) λxs=>ret (x::xs)
def jm:Str->List (Option Str)->Option Str
 |acc,[]=>some acc
 |acc,some y::r=>jm (acc++y) r
 |_,none::_=>none
def iC(ps:List FP):ME:=λσ=>if ps.length≤100 then bnd (fX ps σ) λxs=>ret (match jm PySem.Str.empty xs with
 |some s=>.str s
 | none=>.any) else stk
def ik:List MV->Option (List Int)
 |[]=>some []
 | .int i::r=>(match ik r with
   |some is=>some (i::is)
   | none=>none)
 |_=>none
def fi:Int->List Int->Int
 |a,[]=>a
 |a,b::r=>fi (if b<a then b else a) r
def qZ:Op1:=λx=>match x with
 |.ref a=>bnd (look a) λo=>match o with
   | .lst xs=>(match ik xs with
     |some (i::is)=>if is.length≤10000 then ret (.int (fi i is)) else stk
     | _=>stk)
   |_=>stk
 |_=>stk
def oj:List Int->Int
 |[]=>0
 |a::r=>a+oj r
def mL:List MV->List MV->List MV
 |x::xs,y::ys=>.tup [x,y]::mL xs ys
 |_,_=>[]
def xJ:Op2:=λx y=>match x,y with
 |.ref a,.ref b=>bnd (look a) λo=>bnd (look b) λo'=>match o,o' with
   |.lst xs,.lst ys=>if xs.length≤10000/\ys.length≤10000 then new (.lst (mL xs ys)) else stk
   |_,_=>stk
 |_,_=>stk
inductive Ty where
 |int|bool|str|list|tuple|exn (al cs:List Nat)
def kR(t:Ty):Op1:=λx=>match x with
 | .non=>(match t with
   |.exn _ _=>stk
   | _=>ret (.bl false))
 | .bl _=>(match t with
   |.bool=>ret (.bl true)
   |.int=>ret (.bl true)
   |.exn _ _=>stk
   | _=>ret (.bl false))
 | .int _=>(match t with
   |.int=>ret (.bl true)
   |.exn _ _=>stk
   | _=>ret (.bl false))
 | .str _=>(match t with
   |.str=>ret (.bl true)
   |.exn _ _=>stk
   | _=>ret (.bl false))
 |.ref n=>bnd (look n) λo=>match o,t with
   |.lst _,.list=>ret (.bl true)
   |.lst _,.exn _ _=>stk
   |.lst _,_=>ret (.bl false)
   |.exn c,.exn al cs=>if al.contains c=true then ret (.bl (cs.contains c)) else stk
   |_,_=>stk
 | .tup _=>(match t with
   |.tuple=>ret (.bl true)
   |.exn _ _=>stk
   | _=>ret (.bl false))
 |.scr _=>stk
 |.any=>stk
def bH:MS:=λσ=>ret (.next σ)
def aB(a b:MS):MS:=λσ=>bnd (a σ) λf=>match f with
 |.next σ'=>b σ'
 |f=>ret f
def bQ(e:ME):MS:=λσ=>bnd (e σ) λ_=>ret (.next σ)
def bp(i:Nat)(e:ME):MS:=λσ=>bnd (e σ) λv=>ret (.next (σ.set i (some v)))
def bq(e:ME):MS:=λσ=>bnd (e σ) λv=>ret (.ret v)
def sIf(c:ME)(a b:MS):MS:=λσ=>bnd (tst c σ) λk=>if k=true then a σ else b σ
def eZ(c:Nat)(a:MA):MS:=λσ=>bnd (a σ) λxs=>if xs.length≤1000 then rse c else stk
def putF(f:String)(v:MV):List (String×MV)->List (String×MV)
 |[]=>[(f,v)]
 |(g,u)::r=>if g=f then(g,v)::r else(g,u)::putF f v r
def dq(o:ME)(cs:List Nat)(f:String)(e:ME):MS:=λσ=>bnd (e σ) λv=>bnd (o σ) λx=>match x with
 |.ref n=>bnd (look n) λob=>match ob with
   |.ins c fs=>if cs.contains c=true/\fs.length<1000 then bnd (put n (.ins c (putF f v fs))) λ_=>ret (.next σ) else stk
   |_=>stk
 |_=>stk
def ixN(n:Nat)(i:Int):Option Nat:=if 0≤i then(if i<n then some i.toNat else none) else if -(n:Int)≤i then some (i+n).toNat else none
def ib(o i v:MV):M Unit:=match o,i with
 |.ref n,.int k=>bnd (look n) λob=>match ob with
   | .lst xs=>(match ixN xs.length k with
     |some j=>put n (.lst (xs.set j v))
     | none=>stk)
   |_=>stk
 |.ref n,.str k=>bnd (look n) λob=>match ob with
   |.dct kvs=>if kvs.length<1000 then put n (.dct (dput k v kvs)) else stk
   |_=>stk
 |_,_=>stk
def fU(o i e:ME):MS:=λσ=>bnd (e σ) λv=>bnd (o σ) λx=>bnd (i σ) λy=>bnd (ib x y v) λ_=>ret (.next σ)
def oJ:Op2:=λx y=>match x with
 |.ref _=>oIx x y
 |_=>stk
def l0:Op2:=λx y=>match x,y with
 |.int i,.int j=>ret (.int (i+j))
 |_,_=>stk
def l7(f:Op2)(o i e:ME):MS:=λσ=>bnd (o σ) λx=>bnd (i σ) λy=>bnd (oJ x y) λu=>bnd (e σ) λv=>bnd (f u v) λz=>bnd (ib x y z) λ_=>ret (.next σ)
def lY(f2:Op2)(o:ME)(cs:List Nat)(f:String)(e:ME):MS:=λσ=>bnd (o σ) λx=>match x with
 |.ref n=>bnd (look n) λob=>match ob with
   | .ins c fs=>if cs.contains c=true then (match fs.lookup f with
     | some u=>bnd (e σ) λv=>bnd (f2 u v) λz=>bnd (look n) λob'=>(match ob' with
       |.ins c' fs'=>if c'=c/\fs'.length<1000 then bnd (put n (.ins c' (putF f z fs'))) λ_=>ret (.next σ) else stk
       | _=>stk)
     | none=>stk) else stk
   |_=>stk
 |_=>stk
def iX:ME:=λ_=>new (.dct [])
def jZ(o k x:ME):ME:=λσ=>bnd (o σ) λd=>match d with
 |.ref n=>bnd (look n) λob=>match ob with
   |.dct _=>bnd (k σ) λy=>bnd (x σ) λz=>match y with
     | .str s=>bnd (look n) λob'=>(match ob' with
       |.dct kvs=>ret ((dget s kvs).getD z)
       | _=>stk)
     |_=>stk
   |_=>stk
 |_=>stk
def xL(o k:ME):ME:=λσ=>bnd (o σ) λd=>match d with
 |.ref n=>bnd (look n) λob=>match ob with
   |.dct _=>bnd (k σ) λy=>match y with
     | .str s=>bnd (look n) λob'=>(match ob' with
       | .dct kvs=>(match dget s kvs with
         |some v=>bnd (put n (.dct (vA s kvs))) λ_=>ret v
         | none=>stk)
       | _=>stk)
     |_=>stk
   |_=>stk
 |_=>stk
def dM(n d:Nat):Option Int->Nat
 |none=>d
 |some v=>if v<0 then(v+(n:Int)).toNat else min v.toNat n
def kW{α:Type}(xs:List α)(lo hi:Option Int):List α:=(xs.drop (dM xs.length 0 lo)).take (dM xs.length xs.length hi-dM xs.length 0 lo)
def part(e:Option ME)(σ:MSt):M (Option Int):=match e with
 |none=>ret none
 |some g=>bnd (g σ) λv=>match v with
   |.int i=>ret (some i)
   |_=>stk
def j6(x:MV)(lo hi:Option Int):M MV:=match x with
 |.ref a=>bnd (look a) λo=>match o with
   |.lst xs=>new (.lst (kW xs lo hi))
   |_=>stk
 |.tup xs=>if dM xs.length 0 lo=0/\dM xs.length xs.length hi=xs.length then stk else ret (.tup (kW xs lo hi))
 |.str s=>if s.length≤100000 then ret (.str (PySem.Txt.slice s lo hi)) else stk
 |_=>stk
def eSl(a:ME)(lo hi:Option ME):ME:=λσ=>bnd (a σ) λx=>bnd (part lo σ) λl=>bnd (part hi σ) λu=>j6 x l u
def xy(x v:MV):M MV:=match x with
 |.ref n=>bnd (look n) λob=>match ob with
   |.lst xs=>if xs.length<100000 then bnd (put n (.lst (xs++[v]))) λ_=>ret .non else stk
   |_=>stk
 |_=>stk
def ja(o e:ME):ME:=λσ=>bnd (o σ) λx=>match x with
 |.ref n=>bnd (look n) λob=>match ob with
   |.lst _=>bnd (e σ) λv=>xy x v
   |_=>stk
 |_=>stk
inductive Stay where
 |l (p:Nat×List MV)|d (n:Nat) (kvs:List (Str×MV))
instance:Coe (Nat×List MV) Stay:=⟨Stay.l⟩
structure Src where
 items:List (List MV)
 stays:List Stay
def gH(h:MH):List Stay->Bool
 |[]=>true
 |.l (n,xs)::r=>decide (h[n]?=some (.lst xs))&&gH h r
 |.d n kvs::r=>decide (h[n]?=some (.frz kvs))&&gH h r
def Src.okIn(s:Src)(h:MH):Bool:=gH h s.stays
abbrev MI:=MSt->M Src
def dY(e:ME):MI:=λσ=>bnd (e σ) λx=>match x with
 |.ref n=>bnd (look n) λo=>match o with
   |.lst xs=>ret ⟨xs.map λv=>[v],[(n,xs)]⟩
   |_=>stk
 |_=>stk
def eX(k:Nat):List MV->Option (List (List MV))
 |[]=>some []
 | .tup ys::r=>if ys.length=k then (match eX k r with
   |some rs=>some (ys::rs)
   | none=>none) else none
 |_::_=>none
def jo(k:Nat)(e:ME):MI:=λσ=>bnd (e σ) λx=>match x with
 |.ref n=>bnd (look n) λo=>match o with
   | .lst xs=>(match eX k xs with
     |some rs=>ret ⟨rs,[(n,xs)]⟩
     | none=>stk)
   |_=>stk
 |_=>stk
def dC:List MV->List MV->List (List MV)
 |x::xs,y::ys=>[x,y]::dC xs ys
 |_,_=>[]
def ng(e e':ME):MI:=λσ=>bnd (e σ) λx=>bnd (e' σ) λy=>match x,y with
 |.ref n,.ref k=>bnd (look n) λo=>bnd (look k) λo'=>match o,o' with
   |.lst xs,.lst ys=>ret ⟨dC xs ys,[(n,xs),(k,ys)]⟩
   |_,_=>stk
 |_,_=>stk
def hX(lo:Int)(n:Nat):List (List MV):=(cz n).map λk=>[.int (lo-(k:Nat))]
def pD(e e':ME):MI:=λσ=>bnd (e σ) λx=>bnd (e' σ) λy=>match x,y with
 |.int i,.int j=>if -1000000≤i/\i<1000000/\-1000000≤j/\j<1000000 then ret ⟨hX i (i-j).toNat,[]⟩ else stk
 |_,_=>stk
def dk(lo:Int)(n:Nat):List (List MV):=(cz n).map λk=>[.int (lo+(k:Nat))]
def fF(e:ME):MI:=λσ=>bnd (e σ) λx=>match x with
 |.int j=>if -(2 ^ 62)≤j/\j<2 ^ 62 then ret ⟨dk 0 j.toNat,[]⟩ else stk
 |_=>stk
def ig(e e':ME):MI:=λσ=>bnd (e σ) λx=>bnd (e' σ) λy=>match x,y with
 |.int i,.int j=>if -(2 ^ 62)≤i/\i<2 ^ 62/\-(2 ^ 62)≤j/\j<2 ^ 62 then ret ⟨dk i (j-i).toNat,[]⟩ else stk
 |_,_=>stk
def cL:List Nat->List MV->MSt->MSt
 |i::is,v::vs,σ=>cL is vs (σ.set i (some v))
 |_,_,σ=>σ
def dj(s:Src)(is:List Nat)(body:MS):List (List MV)->MSt->M MF
 |[],σ=>λh=>if s.okIn h=true then .ok (.next σ) h else .stuck
 | vs::r,σ=>λh=>if s.okIn h=true then bnd (body (cL is vs σ)) (λf=>match f with
   |.next σ'=>dj s is body r σ'
   |.cnt σ'=>dj s is body r σ'
   |.brk σ'=>ret (.next σ')
   | .ret v=>ret (.ret v)) h else .stuck
def eP(is:List Nat)(src:MI)(body:MS):MS:=λσ=>bnd (src σ) λs=>dj s is body s.items σ
def jD(t:ME)(body:MS):Nat->MSt->M MF
 |0,_=>stk
 |n+1,σ=>bnd (tst t σ) λk=>if k=true then bnd (body σ) λf=>match f with
   |.next σ'=>jD t body n σ'
   |.cnt σ'=>jD t body n σ'
   |.brk σ'=>ret (.next σ')
   |.ret v=>ret (.ret v)
  else ret (.next σ)
def tR(t:ME)(body:MS):MS:=jD t body 1000
def cM(s:Src)(cond:Option ME)(elt:ME)(σ:MSt):List (List MV)->M (List MV)
 |[]=>λh=>if s.okIn h=true then .ok [] h else .stuck
 | vs::r=>λh=>if s.okIn h=true then bnd (match cond with
   |none=>ret true
   | some c=>tst c (σ++vs.map some)) (λk=>if k=true then bnd (elt (σ++vs.map some)) λv=>bnd (cM s cond elt σ r) λws=>ret (v::ws) else cM s cond elt σ r) h else .stuck
def noExc{α:Type}(m:M α):M α:=λh=>match m h with
 |.exc _ _=>.stuck
 |r=>r
def dD(src:MI)(cond:Option ME)(elt:ME):ME:=λσ=>bnd (src σ) λs=>if s.items.length≤100000 then bnd (noExc (cM s cond elt σ s.items)) λvs=>new (.lst vs) else stk
structure Hd where
 cs:List Nat
 nm:Option Nat
 body:MS
def vL(i:Nat):MF->MF
 |.next σ=>.next (σ.set i none)
 |.brk σ=>.brk (σ.set i none)
 |.cnt σ=>.cnt (σ.set i none)
 |.ret v=>.ret v
def il(c:Nat)(σ:MSt):List Hd->M MF
 |[]=>stk
 | d::r=>if d.cs.contains c=true then (match d.nm with
   |none=>noExc (d.body σ)
   | some i=>bnd (new (.exn c)) λe=>bnd (noExc (d.body (σ.set i (some e)))) λf=>ret (vL i f))
  else il c σ r
def lR(al:List Nat)(body:MS)(hs:List Hd):MS:=λσ h=>match body σ h with
 |.ok f h'=>.ok f h'
 |.exc c h'=>if al.contains c=true then il c σ hs h' else .stuck
 |.stuck=>.stuck
def fnOf(p n:Nat)(body:MS):Fn:=λvs=>if vs.length=p then bnd (body (vs.map some++cr (n-vs.length) none)) λf=>match f with
 |.next _=>ret .non
 |.ret v=>ret v
 |_=>stk
 else stk
end
end L2.Rv
namespace L2.Rv
open PySem PySem.Spec PyProof.Rows
structure Gb where
 cl:Nat->ae
 K:PySem.W.Frag
 sa:ae
 ns:List Int
variable {G:Gb}{m m' m1 m2:List ae}{h h' h1 h2:MH}{H H' H1 H2:Hp}
mutual
def VR(G:Gb)(m:List ae)(H:Hp):MV->V->Prop
 |.non,v=>v=.non
 |.bl b,v=>v=.bl b
 |.int i,v=>v=.int i
 |.str s,v=>v=.str s
 |.ref n,v=>∃a,m[n]?=some a/\v=.ref a
 |.scr ns,v=>ns=G.ns/\v=.ref G.sa
 |.tup xs,v=>∃a vs,v=.ref a/\a∉m/\H a=some (.tup vs)/\VRl G m H xs vs
 |.any,_=>True
def VRl(G:Gb)(m:List ae)(H:Hp):List MV->List V->Prop
 |[],vs=>vs=[]
 |x::xs,vs=>∃y ys,vs=y::ys/\VR G m H x y/\VRl G m H xs ys
end
abbrev VRs(G:Gb)(m:List ae)(H:Hp):List MV->List V->Prop:=cx (VR G m H)
theorem VRl.to:∀{xs:List MV}{vs:List V},VRl G m H xs vs->VRs G m H xs vs
 |[],vs,r=>by cases(show vs=[] from r);exact .nil
 |x::xs,vs,r=>by
   obtain⟨y,ys,e,q,t⟩:=(show ∃y ys,vs=y::ys/\VR G m H x y/\VRl G m H xs ys from r);subst e;exact .cons q (VRl.to t)
theorem VRl.of:∀{xs:List MV}{vs:List V},VRs G m H xs vs->VRl G m H xs vs
 |_,_,.nil=>rfl
 |_,_,.cons q t=>⟨_,_,rfl,q,VRl.of t⟩
def FR(G:Gb)(m:List ae)(H:Hp):List (String×MV)->List (Str×V)->Prop:=cx λp q=>q.1=aF p.1/\VR G m H p.2 q.2
def DR(G:Gb)(m:List ae)(H:Hp):List (Str×MV)->List (Key×V)->Prop:=cx λp q=>q.1=Sum.inr p.1/\VR G m H p.2 q.2
def ExcΦ(a C:ae)(hp:aG):Prop:=∃o vs,hp.get? a=some o/\o.cls=.ref C/\o.dict=none/\o.data=.fields vs
def OR(G:Gb)(m:List ae)(H:Hp)(a:ae):MO->Prop
 |.lst xs=>∃vs,VRs G m H xs vs/\H a=some (.lst vs)
 |.dct kvs=>∃ws,DR G m H kvs ws/\H a=some (.dK ws)
 |.ins c fs=>∃dx ws,FR G m H fs ws/\H a=some (.ins (G.cl c) dx ws)
 |.exn c=>H a=some (.ext (ExcΦ a (G.cl c)))
 |.frz kvs=>∃ws o,DR G m H kvs ws/\H a=some (.frz o (.dK ws))
def gY:Str:="Book.names.<locals>.<lambda>"
def LamΦ(c:ae)(hp:aG):Prop:=∃oc vs t,hp.get? c=some oc/\oc.data=.fields vs/\vs[1]?=some (.str gY t)
def rN(G:Gb)(m:List ae)(H:Hp):Prop:=G.cl 996=0∨(G.cl 999∉m/\(H (G.cl 999)=some (.tbl #[]) ∨
 ∃c,c∉m/\H c=some (.ext (LamΦ c))/\H (G.cl 999)=some (.tbl #[cw (G.cl 998),cw (G.cl 997),.ref c])))
def TbX:HO->Prop
 |.tbl _=>True
 |.ext _=>True
 |_=>False
theorem rN.keep(t:rN G m H)(k:∀a u,H a=some u->a∉m->TbX u->H' a=some u/\a∉m'):rN G m' H':=by
 rcases t with t|⟨n,t⟩
 ·exact .inl t
 ·rcases t with t|⟨c,nc,ec,t⟩
  ·obtain⟨e,n'⟩:=k _ _ t n trivial;exact .inr ⟨n',.inl e⟩
  ·obtain⟨e,n'⟩:=k _ _ t n trivial;obtain⟨e2,n2⟩:=k _ _ ec nc trivial;exact .inr ⟨n',.inr ⟨c,n2,e2,e⟩⟩
structure HR(G:Gb)(m:List ae)(h:MH)(H:Hp):Prop where
 len:m.length=h.length
 nd:m.Nodup
 ob:∀(n:Nat) (a:ae) (o:MO),m[n]?=some a->h[n]?=some o->OR G m H a o
 scr:(∃o,H G.sa=some (.frz o (.lst (G.ns.map V.int))))∨∀H0:Hp,SqL G.K H0 G.sa (G.ns.map V.int)
 tab:rN G m H
structure Ext(m:List ae)(H:Hp)(m':List ae)(H':Hp):Prop where
 pre:∃e,m'=m++e
 fr:∀a o,H a=some o->a∉m->(∀ps,o≠.tbl ps)->H' a=some o/\a∉m'
 fz:∀a o u,H a=some (.frz o u)->H' a=some (.frz o u)
theorem Ext.refl:Ext m H m H:=⟨⟨[],by simp⟩,λ_ _ e n _=>⟨e,n⟩,λ_ _ _ e=>e⟩
theorem Ext.trans(x:Ext m H m1 H1)(y:Ext m1 H1 m2 H2):Ext m H m2 H2:=by
 obtain⟨e,rfl⟩:=x.pre;obtain⟨f,rfl⟩:=y.pre;exact⟨⟨e++f,by simp⟩,λa o q n nt=>let ⟨q1,n1⟩:=x.fr a o q n nt;y.fr a o q1 n1 nt,λa o u q=>y.fz a o u (x.fz a o u q)⟩
theorem Ext.get(x:Ext m H m' H'){n:Nat}{a:ae}(e:m[n]?=some a):m'[n]?=some a:=by
 obtain⟨f,rfl⟩:=x.pre;have hn:n<m.length:=(bF.mp e).1;rw[fq hn];exact e
structure Mn(m:List ae)(H:Hp)(m':List ae)(H':Hp):Prop where
 get:∀(n:Nat) (a:ae),m[n]?=some a->m'[n]?=some a
 tup:∀a vs,H a=some (.tup vs)->a∉m->H' a=some (.tup vs)/\a∉m'
theorem Ext.mn(x:Ext m H m' H'):Mn m H m' H':=⟨λ_ _=>x.get,λa vs e n=>x.fr a _ e n λ_ z=>nomatch z⟩
mutual
theorem VR.mono(x:Mn m H m' H'):∀{v:MV}{v':V},VR G m H v v'->VR G m' H' v v'
 |.ref n,v',r=>by
   obtain⟨a,e,q⟩:=(show ∃a,m[n]?=some a/\v'=.ref a from r);exact⟨a,x.get n a e,q⟩
 |.tup xs,v',r=>by
   obtain⟨a,vs,q,e,z,t⟩:=(show ∃a vs,v'=.ref a/\a∉m/\H a=some (.tup vs)/\VRl G m H xs vs from r);obtain⟨z',e'⟩:=x.tup a vs z e;exact⟨a,vs,q,e',z',VRl.mono x t⟩
 |.non,_,r=>r
 |.bl _,_,r=>r
 |.int _,_,r=>r
 |.str _,_,r=>r
 |.scr _,_,r=>r
 |.any,_,r=>trivial
theorem VRl.mono(x:Mn m H m' H'):∀{xs:List MV}{vs:List V},VRl G m H xs vs->VRl G m' H' xs vs
 |[],_,r=>r
 |y::ys,vs,r=>by
   obtain⟨z,zs,e,q,t⟩:=(show ∃z zs,vs=z::zs/\VR G m H y z/\VRl G m H ys zs from r);exact⟨z,zs,e,VR.mono x q,VRl.mono x t⟩
end
theorem Ext.vr{v:MV}{v':V}(x:Ext m H m' H')(r:VR G m H v v'):VR G m' H' v v':=VR.mono x.mn r
theorem VRs.mono{xs:List MV}{vs:List V}(x:Mn m H m' H')(r:VRs G m H xs vs):VRs G m' H' xs vs:=Paired.imp' (λ_ _ q=>VR.mono x q) r
theorem Ext.vrs{xs:List MV}{vs:List V}(x:Ext m H m' H')(r:VRs G m H xs vs):VRs G m' H' xs vs:=VRs.mono x.mn r
theorem OR.mono{a:ae}{o:MO}(x:Mn m H m' H')(e:H' a=H a)(r:OR G m H a o):OR G m' H' a o:=by
 cases o with
 |lst xs=>obtain⟨vs,q,z⟩:=r;exact⟨vs,VRs.mono x q,e.trans z⟩
 |dct kvs=>obtain⟨ws,q,z⟩:=r;exact⟨ws,Paired.imp' (λ_ _ p=>⟨p.1,VR.mono x p.2⟩) q,e.trans z⟩
 |ins c fs=>obtain⟨dx,ws,q,z⟩:=r;exact⟨dx,ws,Paired.imp' (λ_ _ p=>⟨p.1,VR.mono x p.2⟩) q,e.trans z⟩
 |exn c=>exact e.trans r
 |frz kvs=>obtain⟨ws,o,q,z⟩:=r;exact⟨ws,o,Paired.imp' (λ_ _ p=>⟨p.1,VR.mono x p.2⟩) q,e.trans z⟩
theorem OR.some{a:ae}{o:MO}(r:OR G m H a o):∃u,H a=some u:=by
 cases o with
 |lst xs=>obtain⟨vs,q,z⟩:=r;exact⟨_,z⟩
 |dct kvs=>obtain⟨ws,q,z⟩:=r;exact⟨_,z⟩
 |ins c fs=>obtain⟨dx,ws,q,z⟩:=r;exact⟨_,z⟩
 |exn c=>exact⟨_,r⟩
 |frz kvs=>obtain⟨_,_,_,z⟩:=r;exact⟨_,z⟩
theorem HR.get(R:HR G m h H){n:Nat}{a:ae}(e:m[n]?=some a):∃o,h[n]?=some o/\OR G m H a o:=by
 have hn:n<m.length:=(bF.mp e).1;have hn':n<h.length:=by rw[←R.len];exact hn
 exact⟨h[n],by simp[hn'],R.ob n a _ e (by simp[hn'])⟩
theorem HR.mem(R:HR G m h H){a:ae}(e:a∈m):∃u,H a=some u:=by
 obtain⟨n,hn⟩:=my.mp e;obtain⟨o,_,q⟩:=R.get hn;exact OR.some q
theorem HR.fresh(R:HR G m h H){p:ae}(e:H p=none):p∉m:=λz=>by
 obtain⟨u,q⟩:=R.mem z;rw[e]at q;cases q
theorem vZ{α:Type}{l:List α}{x:α}{n:Nat}{a:α}(e:l[n]?=some a):(l++[x])[n]?=some a:=by
 rw[fq (bF.mp e).1];exact e
theorem k9{α:Type}{l:List α}{x:α}{n:Nat}{a:α}(e:(l++[x])[n]?=some a):l[n]?=some a∨(n=l.length/\a=x):=by
 by_cases hn:n<l.length
 ·rw[fq hn]at e;exact .inl e
 ·rw[jw (by lia)]at e;have:n-l.length=0:=by
   have:=(bF.mp e).1;simp at this;lia
  rw[this]at e;simp at e;exact .inr ⟨by lia,e.symm⟩
theorem HR.new(R:HR G m h H){p:ae}{o:MO}{u:HO}(e:H p=none)(ro:OR G (m++[p]) (upd H p u) p o):HR G (m++[p]) (h++[o]) (upd H p u):=by
 have np:=R.fresh e;refine⟨by simp[R.len],?_,λn a ob ea eo=>?_,?_,R.tab.keep λb u z nb _=>⟨by rw[aQ (di z e)];exact z,by simp[nb];exact di z e⟩⟩
 ·rw[iQ];exact⟨R.nd,by simp,λa ha b hb=>by simp at hb;subst hb;intro z;subst z;exact np ha⟩
 ·rcases k9 ea with ea|⟨rfl,rfl⟩
  ·have hne:a≠p:=λz=>np (z▸dF ea);have eo':h[n]?=some ob:=by
    rcases k9 eo with eo|⟨q,_⟩
    ·exact eo
    ·have:=(bF.mp ea).1;rw[R.len]at this;lia
   exact OR.mono ⟨λ_ _=>vZ,λb vs z nb=>⟨by rw[aQ (di z e)];exact z,by simp[nb];exact di z e⟩⟩ (aQ hne) (R.ob n a ob ea eo')
  ·have:ob=o:=by
    rcases k9 eo with eo|⟨_,q⟩
    ·have:=(bF.mp eo).1;rw[←R.len]at this;lia
    ·exact q
   subst this;exact ro
 ·rcases R.scr with⟨o',q⟩|q
  ·exact .inl ⟨o',by rw[aQ (di q e)];exact q⟩
  ·exact .inr q
theorem Ext.new(R:HR G m h H){p:ae}{u:HO}(e:H p=none):Ext m H (m++[p]) (upd H p u):=
 ⟨⟨[p],rfl⟩,λa o q n _=>⟨by rw[aQ (di q e)];exact q,by simp[n];exact di q e⟩,λa o u q=>by rw[aQ (di q e)];exact q⟩
theorem rS{α:Type}{l:List α}(nd:l.Nodup){i j:Nat}{a:α}(e:l[i]?=some a)(f:l[j]?=some a):i=j:=by
 obtain⟨hi,ei⟩:=bF.mp e;obtain⟨hj,ej⟩:=bF.mp f;have p:=qC.mp nd;rcases Nat.lt_trichotomy i j with z|z|z
 ·exact absurd (ei.trans ej.symm) (p i j hi hj z)
 ·exact z
 ·exact absurd (ej.trans ei.symm) (p j i hj hi z)
theorem HR.upd(R:HR G m h H){n:Nat}{a:ae}{o:MO}{u:HO}(ea:m[n]?=some a)(nz:∀o' ys,H a≠some (.frz o' (.lst ys)))(ro:OR G m (L2.upd H a u) a o):HR G m (h.set n o) (L2.upd H a u):=by
 refine⟨by simp[R.len],R.nd,λk b ob eb eo=>?_,?_,R.tab.keep λb u z nb _=>⟨by rw[aQ (show b≠a from λy=>nb (by rw[y];exact dF ea))];exact z,nb⟩⟩
 ·by_cases hk:k=n
  ·subst hk;rw[ea]at eb;cases eb;rw[fZ (by have:=(bF.mp ea).1;rw[←R.len];exact this)]at eo
   cases eo;exact ro
  ·rw[gF (Ne.symm hk)]at eo;have hne:b≠a:=λz=>by
    subst z;exact hk (rS R.nd eb ea)
   exact OR.mono ⟨λ_ _ q=>q,λc vs z nc=>⟨by rw[aQ (show c≠a from λy=>nc (by rw[y];exact dF ea))];exact z,nc⟩⟩ (aQ hne) (R.ob k b ob eb eo)
 ·rcases R.scr with⟨o',q⟩|q
  ·exact .inl ⟨o',by rw[aQ (λz=>nz o' _ (z▸q))];exact q⟩
  ·exact .inr q
theorem Ext.upd{n:Nat}{a:ae}{u v:HO}(ea:m[n]?=some a)(z:H a=some v)(nf:∀o w,v≠.frz o w:=by intro _ _ q;cases q):Ext m H m (L2.upd H a u):=
 ⟨⟨[],by simp⟩,λb o q nb _=>⟨by rw[aQ (show b≠a from λz=>nb (by rw[z];exact dF ea))];exact q,nb⟩,λb o w q=>by rw[aQ (show b≠a from λy=>nf o w (Option.some.inj (z.symm.trans (y▸q))))];exact q⟩
theorem Ext.side{q:ae}{u:HO}(e:H q=none):Ext m H m (L2.upd H q u):=⟨⟨[],by simp⟩,λa o z n _=>⟨by rw[aQ (di z e)];exact z,n⟩,λa o u z=>by rw[aQ (di z e)];exact z⟩
theorem HR.side{q:ae}{u:HO}(R:HR G m h H)(e:H q=none):HR G m h (L2.upd H q u):=
 ⟨R.len,R.nd,λn a ob ea eo=>OR.mono (Ext.side e).mn (aQ (show a≠q from λz=>R.fresh e (by rw [←z];exact dF ea))) (R.ob n a ob ea eo),by
  rcases R.scr with⟨o',z⟩|z
  ·exact .inl ⟨o',by rw[aQ (di z e)];exact z⟩
  ·exact .inr z,R.tab.keep λb u z nb _=>⟨by rw [aQ (di z e)];exact z,nb⟩⟩
theorem Mn.sideSet{q:ae}{u:HO}(nt:∀ys,H q≠some (.tup ys)):Mn m H m (L2.upd H q u):=⟨λ_ _ e=>e,λa vs z n=>⟨by rw[aQ (show a≠q from λy=>nt vs (by rw[←y];exact z))];exact z,n⟩⟩
theorem HR.sideSet{q:ae}{u:HO}(R:HR G m h H)(nq:q∉m)(nt:∀ys,H q≠some (.tup ys))(nz:∀o' ys,H q≠some (.frz o' ys))(nx:∀v,H q=some v->¬TbX v):HR G m h (L2.upd H q u):=
 ⟨R.len,R.nd,λn a ob ea eo=>OR.mono (Mn.sideSet nt) (aQ (show a≠q from λz=>nq (by rw [←z];exact dF ea))) (R.ob n a ob ea eo),by
  rcases R.scr with⟨o',z⟩|z
  ·exact .inl ⟨o',by rw[aQ (show G.sa≠q from λy=>nz o' _ (by rw[←y];exact z))];exact z⟩
  ·exact .inr z,R.tab.keep λb u z nb tx=>⟨by rw [aQ (show b≠q from λy=>nx u (by rw [←y];exact z) tx)];exact z,nb⟩⟩
structure SR(G:Gb)(m:List ae)(H:Hp)(σ:MSt)(σ':St):Prop where
 len:σ.length=σ'.length
 sl:∀(i:Nat) (v:MV),σ[i]?=some (some v)->∃v',σ'[i]?=some (some v')/\VR G m H v v'
theorem SR.mono{σ:MSt}{σ':St}(x:Ext m H m' H')(S:SR G m H σ σ'):SR G m' H' σ σ':=⟨S.len,λi v e=>let ⟨v',q,r⟩:=S.sl i v e;⟨v',q,x.vr r⟩⟩
theorem SR.mn{σ:MSt}{σ':St}(x:Mn m H m' H')(S:SR G m H σ σ'):SR G m' H' σ σ':=⟨S.len,λi v e=>let ⟨v',q,r⟩:=S.sl i v e;⟨v',q,VR.mono x r⟩⟩
theorem SR.set{σ:MSt}{σ':St}(S:SR G m H σ σ')(i:Nat){v:MV}{v':V}(r:VR G m H v v'):SR G m H (σ.set i (some v)) (σ'.set i (some v')):=by
 refine⟨by simp[S.len],λj w e=>?_⟩;by_cases hj:i=j
 ·subst hj;have hl:i<σ.length:=by
   have:=(bF.mp e).1;simpa using this
  rw[fZ hl]at e;cases e;exact⟨v',by rw[fZ (by rw[←S.len];exact hl)],r⟩
 ·rw[gF hj]at e ⊢;exact S.sl j w e
theorem SR.forget{σ:MSt}{σ':St}(S:SR G m H σ σ')(i:Nat)(u:Option V):SR G m H (σ.set i none) (σ'.set i u):=by
 refine⟨by simp[S.len],λj w e=>?_⟩;by_cases hj:i=j
 ·subst hj;have hl:i<σ.length:=by
   have:=(bF.mp e).1;simpa using this
  rw[fZ hl]at e;cases e
 ·rw[gF hj]at e ⊢;exact S.sl j w e
def kL(C a:ae)(ok:ae->Prop)(hp:aG):Prop:=
 ∃oe vs,hp.get? a=some oe/\oe.cls=.ref C/\oe.dict=none/\oe.data=.fields vs/\1<vs.size/\ok a /\
  (vs[1]?=some .none∨∃T oT ts,vs[1]?=some (.ref T)/\T≠a/\hp.get? T=some oT/\oT.data=.fields ts/\3<ts.size/\ok T)
structure Fp(X:Cx)(pins:List (ae×az))(H:Hp)(b:ae):Prop where
 un:H b=none
 loc:b≠X.env.locals
 fs:b∉X.fs
 new:b∈X.ex∨X.s₀.heap.get? b=none
 ce:∀x c,X.env.cells.lookup x=some c->c≠b
 pin:∀p∈X.pn++pins,p.1≠b
abbrev Exc(X:Cx)(pins:List (ae×az))(H:Hp)(C a:ae)(s:ai):Prop:=kL C a (Fp X pins H) s.heap
theorem kL.imp{C a:ae}{p q:ae->Prop}{hp:aG}(f:∀b,p b->q b)(x:kL C a p hp):kL C a q hp:=by
 obtain⟨oe,vs,a1,a2,a3,a4,a5,a6,a7⟩:=x;refine⟨oe,vs,a1,a2,a3,a4,a5,f _ a6,?_⟩;rcases a7 with a7|⟨T,oT,ts,b1,b2,b3,b4,b5,b6⟩
 ·exact .inl a7
 ·exact .inr ⟨T,oT,ts,b1,b2,b3,b4,b5,f _ b6⟩
def XP(G:Gb)(X:Cx)(E:ag->ai->Prop)(EX:St->Prop)(m:List ae)(H:Hp)(c:Nat)(h':MH):Prop:=
 ∀(pins:List (ae×az)) (σ':St) (m':List ae) (H':Hp) (a:ae) (s':ai),EX σ'->Ext m H m' H'->HR G m' h' H'->Inv X pins σ' H' s'->Exc X pins H' (G.cl c) a s'->E (.ref a) s'
def Post{α:Type}(G:Gb)(X:Cx)(E:ag->ai->Prop)(EX:St->Prop)(m:List ae)(H:Hp)(r:Res α)(Q:α->List ae->MH->Hp->Prop):Prop:=
 match r with
 |.ok v h'=>∀m' H',Ext m H m' H'->HR G m' h' H'->Q v m' h' H'
 |.exc c h'=>XP G X E EX m H c h'
 |.stuck=>False
variable {X:Cx}{E:ag->ai->Prop}{EX:St->Prop}
theorem Post.ext{α:Type}{r:Res α}{Q:α->List ae->MH->Hp->Prop}(x:Ext m H m1 H1)(P:Post G X E EX m H r Q):Post G X E EX m1 H1 r Q:=by
 cases r with
 |ok v h'=>exact λm' H' y R=>P m' H' (x.trans y) R
 |exc c h'=>exact λpins σ' m' H' a s' ex y R I q=>P pins σ' m' H' a s' ex (x.trans y) R I q
 |stuck=>exact P
theorem Post.bind{α β:Type}{a:M α}{k:α->M β}{Q:β->List ae->MH->Hp->Prop}(P:Post G X E EX m H (bnd a k h) Q):Post G X E EX m H (a h) λv m1 h1 H1=>Post G X E EX m1 H1 (k v h1) Q:=by
 unfold bnd at P;cases e:a h with
 |ok v h1=>
   rw[e]at P;exact λm' H' y _=>P.ext y
 |exc c h1=>rw[e]at P;exact P
 |stuck=>rw[e]at P;exact P
theorem Post.mono{α:Type}{r:Res α}{Q Q':α->List ae->MH->Hp->Prop}(P:Post G X E EX m H r Q)(f:∀v m' h' H',Ext m H m' H'->HR G m' h' H'->Q v m' h' H'->Q' v m' h' H'):Post G X E EX m H r Q':=by
 cases r with
 |ok v h'=>exact λm' H' y R=>f _ _ _ _ y R (P m' H' y R)
 |exc c h'=>exact P
 |stuck=>exact P
theorem Post.here{α:Type}{v:α}{Q:α->List ae->MH->Hp->Prop}(R:HR G m h H)(P:Post G X E EX m H (.ok v h) Q):Q v m h H:=P m H .refl R
def TGe(G:Gb)(X:Cx)(E:ag->ai->Prop)(EX:St->Prop)(g:ME):TE:=λσ' H Q=>
 ∃m h σ,EX σ'/\SR G m H σ σ'/\HR G m h H/\Post G X E EX m H (g σ h) λv m' _ H'=>∀v',VR G m' H' v v'->Q v' H'
def TGt(G:Gb)(X:Cx)(E:ag->ai->Prop)(EX:St->Prop)(g:ME):TT:=λσ' H Q=>
 ∃m h σ,EX σ'/\SR G m H σ σ'/\HR G m h H/\Post G X E EX m H (tst g σ h) λb _ _ H'=>Q b H'
def TGa(G:Gb)(X:Cx)(E:ag->ai->Prop)(EX:St->Prop)(g:MA):TA:=λσ' H Q=>
 ∃m h σ,EX σ'/\SR G m H σ σ'/\HR G m h H/\Post G X E EX m H (g σ h) λvs m' _ H'=>∀vs',VRs G m' H' vs vs'->Q vs' H'
def TGs(G:Gb)(X:Cx)(E:ag->ai->Prop)(EX:St->Prop)(g:MS):TS:=λD σ' H=>
 ∃m h σ,EX σ'/\SR G m H σ σ'/\HR G m h H/\Post G X E EX m H (g σ h) λf m' _ H'=>match f with
  |.next σ1=>∀σ1',SR G m' H' σ1 σ1'->D.nx σ1' H'
  |.brk σ1=>∀σ1',SR G m' H' σ1 σ1'->D.bk σ1' H'
  |.cnt σ1=>∀σ1',SR G m' H' σ1 σ1'->D.ct σ1' H'
  |.ret v=>∀v',VR G m' H' v v'->D.rt v' H'
end L2.Rv
namespace L2.Rv
open PySem PySem.Spec PyProof.Rows
variable {G:Gb}{m m' m1 m2:List ae}{h h' h1 h2:MH}{H H' H1 H2:Hp}{X:Cx}{E:ag->ai->Prop}{EX:St->Prop}{σ:MSt}{σ':St}
def GE(G:Gb)(X:Cx)(e:av)(g:ME):Prop:=∀E EX,PE (X.wish E) e (TGe G X E EX g)
def GT(G:Gb)(X:Cx)(e:av)(g:ME):Prop:=∀E EX,PT (X.wish E) e (TGt G X E EX g)
def GW(G:Gb)(X:Cx)(e:av)(g:ME):Prop:=∀E EX,PW (X.wish E) e (TGt G X E EX g)
def GA(G:Gb)(X:Cx)(es:List av)(g:MA):Prop:=∀E EX,PA (X.wish E) es (TGa G X E EX g)
def GS(G:Gb)(EX:St->Prop)(X:Cx)(st:aO)(g:MS):Prop:=∀E,PassesOwn (aw X.prog X.w) X.A X.env E->PS (X.wish E) st (TGs G X E EX g)
def GSs(G:Gb)(EX:St->Prop)(X:Cx)(st:List aO)(g:MS):Prop:=∀E,PassesOwn (aw X.prog X.w) X.A X.env E->PSs (X.wish E) st (TGs G X E EX g)
abbrev ET:St->Prop:=λ_=>True
theorem dg{e:av}{t t':TE}(p:PE X e t)(f:∀σ H Q,t' σ H Q->t σ H Q):PE X e t':=λpins s σ H Q I hw=>p pins s σ H Q I (f σ H Q hw)
theorem lQ{e:av}{t t':TT}(p:PT X e t)(f:∀σ H Q,t' σ H Q->t σ H Q):PT X e t':=λpins s σ H Q I hw=>p pins s σ H Q I (f σ H Q hw)
theorem yN{e:av}{t t':TT}(p:PW X e t)(f:∀σ H Q,t' σ H Q->t σ H Q):PW X e t':=λwh pins s σ H Q I hw=>p wh pins s σ H Q I (f σ H Q hw)
theorem wo{e:List av}{t t':TA}(p:PA X e t)(f:∀σ H Q,t' σ H Q->t σ H Q):PA X e t':=λpos pins s σ H Q I hw=>p pos pins s σ H Q I (f σ H Q hw)
theorem gG{e:aO}{t t':TS}(p:PS X e t)(f:∀D σ H,t' D σ H->t D σ H):PS X e t':=λpins s σ H D I hw=>p pins s σ H D I (f D σ H hw)
theorem As{e:List aO}{t t':TS}(p:PSs X e t)(f:∀D σ H,t' D σ H->t D σ H):PSs X e t':=λpins s σ H D I hw=>p pins s σ H D I (f D σ H hw)
theorem sub{ga:ME}{β:Type}{k:MV->M β}{Q:β->List ae->MH->Hp->Prop}(ex:EX σ')(S:SR G m H σ σ')(R:HR G m h H)(P:Post G X E EX m H (bnd (ga σ) k h) Q){Rr:V->Hp->Prop}
  (hk:∀v m1 h1 H1 v',Ext m H m1 H1->HR G m1 h1 H1->VR G m1 H1 v v'->Post G X E EX m1 H1 (k v h1) Q->Rr v' H1):TGe G X E EX ga σ' H Rr:=
 ⟨m,h,σ,ex,S,R,P.bind.mono λv m1 h1 H1 x R1 P1 v' r=>hk v m1 h1 H1 v' x R1 r P1⟩
theorem jG{ga:MA}{β:Type}{k:List MV->M β}{Q:β->List ae->MH->Hp->Prop}(ex:EX σ')(S:SR G m H σ σ')(R:HR G m h H)(P:Post G X E EX m H (bnd (ga σ) k h) Q){Rr:List V->Hp->Prop}
  (hk:∀v m1 h1 H1 v',Ext m H m1 H1->HR G m1 h1 H1->VRs G m1 H1 v v'->Post G X E EX m1 H1 (k v h1) Q->Rr v' H1):TGa G X E EX ga σ' H Rr:=
 ⟨m,h,σ,ex,S,R,P.bind.mono λv m1 h1 H1 x R1 P1 v' r=>hk v m1 h1 H1 v' x R1 r P1⟩
theorem zX{ga:ME}{β:Type}{k:Bool->M β}{Q:β->List ae->MH->Hp->Prop}(ex:EX σ')(S:SR G m H σ σ')(R:HR G m h H)(P:Post G X E EX m H (bnd (tst ga σ) k h) Q){Rr:Bool->Hp->Prop}
  (hk:∀b m1 h1 H1,Ext m H m1 H1->HR G m1 h1 H1->Post G X E EX m1 H1 (k b h1) Q->Rr b H1):TGe G X E EX ga σ' H λx H1=>∃c,x=.bl c/\Rr c H1:=by
 refine⟨m,h,σ,ex,S,R,(Post.bind (a:=ga σ) (k:=asB) P.bind).mono λv m1 h1 H1 x R1 P1 v' r=>?_⟩;cases v with
 |bl b=>
   cases(show v'=V.bl b from r);exact⟨b,rfl,hk b m1 h1 H1 x R1 (Post.here R1 P1)⟩
 |_=>exact P1.elim
theorem mK{ga:ME}{β:Type}{k:Bool->M β}{Q:β->List ae->MH->Hp->Prop}(ex:EX σ')(S:SR G m H σ σ')(R:HR G m h H)(P:Post G X E EX m H (bnd (tst ga σ) k h) Q){Rr:Bool->Hp->Prop}
  (hk:∀b m1 h1 H1,Ext m H m1 H1->HR G m1 h1 H1->Post G X E EX m1 H1 (k b h1) Q->Rr b H1):TGt G X E EX ga σ' H Rr:=
 ⟨m,h,σ,ex,S,R,P.bind.mono λb m1 h1 H1 x R1 P1=>hk b m1 h1 H1 x R1 P1⟩
theorem sD{ga:ME}{Rr:Bool->Hp->Prop}(t:TGt G X E EX ga σ' H Rr):TGe G X E EX ga σ' H λx H1=>∃c,x=.bl c/\Rr c H1:=by
 obtain⟨m,h,σ,ex,S,R,P⟩:=t;refine⟨m,h,σ,ex,S,R,(Post.bind (a:=ga σ) (k:=asB) P).mono λv m1 h1 H1 x R1 P1 v' r=>?_⟩;cases v with
 |bl b=>
   cases(show v'=V.bl b from r);exact⟨b,rfl,Post.here R1 P1⟩
 |_=>exact P1.elim
theorem ah(i:Nat){x:Str}{pos:Pos}(hN:X.N[i]?=some x:=by rfl)(hv:Vis X.env.scope x:=by first|exact Or.inl rfl|exact Or.inr (Or.inl rfl)|exact Or.inr (Or.inr rfl))(hd:(x == ("__debug__":Str))=false:=by decide)
  (hcd:(x == ("__classdict__":Str))=false:=by decide):GE G X (.Name x pos) (af i):=λE EX=>dg (AZ (X:=X.wish E) hN hv hd hcd) λσ' H Q e0=>bL e0 λm h σ ex S R P=>by
 unfold af at P;cases e:σ[i]? with
 |none=>simp only[e]at P;exact P.elim
 |some u=>cases u with
   |none=>simp only[e]at P;exact P.elim
   |some v=>
     simp only[e]at P;obtain⟨v',q,r⟩:=S.sl i v e;exact⟨v',q,Post.here R P v' r⟩
theorem nO{e:av}{v:MV}{v':V}(p:∀E,PE (X.wish E) e (tC v'))(r:∀m H,VR G m H v v'):GE G X e (eC v):=λE EX=>dg (p E) λσ' H Q ⟨m,h,σ,ex,S,R,P⟩=>Post.here R P v' (r m H)
theorem ge_int{i j pos}:GE G X (.Constant (.int i) j pos) (eC (.int i)):=nO (λ_=>yp) λ_ _=>rfl
theorem mI{i j pos}:GE G X (.Constant (.bool i) j pos) (eC (.bl i)):=nO (λ_=>DN) λ_ _=>rfl
theorem Dm{j pos}:GE G X (.Constant .none j pos) (eC .non):=nO (λ_=>uV) λ_ _=>rfl
theorem df{x j pos}:GE G X (.Constant (.str x) j pos) (eC (.str x)):=nO (λ_=>wL) λ_ _=>rfl
theorem lB{x:Str}{i:Int}{u:ag}{pos:Pos}(hg:Gl X x)(hm:X.mg x=some u)(r:aP (.int i) u)(hd:(x == ("__debug__":Str))=false:=by decide):GE G X (.Name x pos) (eC (.int i)):=
 nO (λE=>sP (X:=X.wish E) hg hm r hd) λ_ _=>rfl
def VO(G:Gb)(f:Op2)(r:R2):Prop:=∀(X:Cx) (E:ag->ai->Prop) (EX:St->Prop) (m:List ae) (h:MH) (H:Hp) (x y:MV) (x' y':V) (Q:VK),HR G m h H->VR G m H x x'->VR G m H y y' ->
 Post G X E EX m H (f x y h) (λv m' _ H'=>∀v',VR G m' H' v v'->Q v' H')->r x' y' H Q
section
variable {a b:av}{ga gb:ME}{pos:Pos}{f:Op2}{r:R2}
theorem opG{ta:TE->TE->TE}(vo:VO G f r){Q:VK}(t:TGe G X E EX (aA f ga gb) σ' H Q):tOp r (TGe G X E EX ga) (TGe G X E EX gb) σ' H Q:=by
 obtain⟨m,h,σ,ex,S,R,P⟩:=t;exact sub ex S R P λv m1 h1 H1 v' x1 R1 r1 P1=>sub ex (S.mono x1) R1 P1 λw m2 h2 H2 w' x2 R2 r2 P2=>vo _ _ _ _ _ _ _ _ _ _ _ R2 (x2.vr r1) r2 P2
theorem cH{op:Operator}(ho:∀E,OpR (X.wish E) (binaryOp op) r)(vo:VO G f r)(ha:GE G X a ga)(hb:GE G X b gb):GE G X (.BinOp a op b pos) (aA f ga gb):=λE EX=>
 dg (G4 (ho E) (ha E EX) (hb E EX)) λ_ _ _ t=>opG (ta:=λa _=>a) vo t
theorem uG{op:CmpOp}(ho:∀E,OpR (X.wish E) (dm op) r)(vo:VO G f r)(ha:GE G X a ga)(hb:GE G X b gb)(hm:behindInMarks op b=false):GE G X (.Compare a [op] [b] pos) (aA f ga gb):=λE EX=>
 dg (Gz (ho E) (ha E EX) (hb E EX) hm) λ_ _ _ t=>opG (ta:=λa _=>a) vo t
theorem bN{op:CmpOp}(ho:∀E,OpR (X.wish E) (dm op) r)(vo:VO G f r)(ha:GE G X a ga)(hb:GE G X b gb)(hm:behindInMarks op b=false):GT G X (.Compare a [op] [b] pos) (aA f ga gb):=λE EX=>
 lQ (sW (ho E) (ha E EX) (hb E EX) hm) λ_ _ _ t=>opG (ta:=λa _=>a) vo (sD t)
end
theorem VR.non_iff{v:MV}{v':V}(na:v≠.any)(r:VR G m H v v'):decide (v'=.non)=gR v:=by
 cases v with
 |ref n=>obtain⟨a,_,q⟩:=r;subst q;simp[gR]
 |scr n=>obtain⟨_,q⟩:=r;subst q;simp[gR]
 |tup n=>obtain⟨a,vs,q,_⟩:=r;subst q;simp[gR]
 |non=>cases(show v'=V.non from r);simp[gR]
 |bl b=>cases(show v'=V.bl b from r);simp[gR]
 |int b=>cases(show v'=V.int b from r);simp[gR]
 |str b=>cases(show v'=V.str b from r);simp[gR]
 |any=>exact absurd rfl na
section
variable {a:av}{ga:ME}{pos pos':Pos}{j:Nat}
theorem isG{Q:VK}(t:TGe G X E EX (eUn qI ga) σ' H Q):tOp (λx y H Q=>y=.non/\Q (.bl (decide (x=.non))) H) (TGe G X E EX ga) (tC .non) σ' H Q:=by
 obtain ⟨m,h,σ,ex,S,R,P⟩:=t;exact sub ex S R P λv m1 h1 H1 v' x1 R1 r1 P1=>⟨rfl,by
  by_cases na:v=.any
  ·subst na;exact P1.elim
  ·rw [r1.non_iff na];cases v <;> first | exact Post.here R1 P1 _ rfl | exact absurd rfl na⟩
theorem Dn{Q:VK}(t:TGe G X E EX (eUn lN ga) σ' H Q):tOp (λx y H Q=>y=.non/\Q (.bl (!decide (x=.non))) H) (TGe G X E EX ga) (tC .non) σ' H Q:=by
 obtain ⟨m,h,σ,ex,S,R,P⟩:=t;exact sub ex S R P λv m1 h1 H1 v' x1 R1 r1 P1=>⟨rfl,by
  by_cases na:v=.any
  ·subst na;exact P1.elim
  ·rw [r1.non_iff na];cases v <;> first | exact Post.here R1 P1 _ rfl | exact absurd rfl na⟩
theorem Gp(ha:GE G X a ga):GT G X (.Compare a [.Is] [.Constant .none j pos'] pos) (eUn qI ga):=λE EX=>lQ (sW Eg (ha E EX) uV (bV _)) λ_ _ _ t=>isG (sD t)
theorem wX(ha:GE G X a ga):GT G X (.Compare a [.IsNot] [.Constant .none j pos'] pos) (eUn lN ga):=λE EX=>lQ (sW Fa (ha E EX) uV (bV _)) λ_ _ _ t=>Dn (sD t)
theorem yg(ha:GE G X a ga):GE G X (.UnaryOp .USub a pos) (eUn r8 ga):=λE EX=>dg (xX yA (ha E EX)) λσ' H Q e0=>bL e0 λm h σ ex S R P=>
 sub ex S R P λv m1 h1 H1 v' x1 R1 r1 P1=>by
  cases v with
  |int i=>cases(show v'=V.int i from r1);exact⟨i,rfl,Post.here R1 P1 _ rfl⟩
  |_=>exact P1.elim
end
section
variable {a b c:av}{ga gb gc:ME}{pos:Pos}{rest:List av}
theorem w8(ha:GE G X a ga)(he:∀whole,isTrue a X.env whole=(do let v ←whole;standAt a.pos;holding [v] (truthy v)):=by intro _;rfl):GT G X a ga:=λE EX=>
 lQ (He (X:=X.wish E) (ha E EX) he) λσ' H Q t=>sD t
theorem GW.gt(h:GW G X a ga):GT G X a ga:=λE EX=>(h E EX).pt
theorem lL(op:BoolOp)(ha:GT G X a ga):GW G X (.BoolOp op [a] pos) ga:=λE EX=>by
 cases op with
 |And=>exact Hx (ha E EX)
 |Or=>exact Eb (ha E EX)
theorem jl{α β γ:Type}(a:M α)(f:α->M β)(g:β->M γ):bnd (bnd a f) g=bnd a λx=>bnd (f x) g:=by
 funext h;unfold bnd;cases a h <;> rfl
theorem A7:tst (iW ga gb) σ=bnd (tst ga σ) λc=>if c=true then tst gb σ else ret false:=by
 show bnd (bnd (tst ga σ) _) asB=_;rw[jl];congr 1;funext c;cases c <;> rfl
theorem EI:tst (eOr ga gb) σ=bnd (tst ga σ) λc=>if c=true then ret true else tst gb σ:=by
 show bnd (bnd (tst ga σ) _) asB=_;rw[jl];congr 1;funext c;cases c <;> rfl
theorem Ef:tst (jP ga) σ=bnd (tst ga σ) λc=>ret (!c):=by
 show bnd (bnd (tst ga σ) _) asB=_;rw[jl];rfl
theorem Bz(ha:GT G X a ga)(hb:GW G X (.BoolOp .And (b::rest) pos) gb):GW G X (.BoolOp .And (a::b::rest) pos) (iW ga gb):=λE EX=>
 yN (Ga (ha E EX) (hb E EX)) λσ' H Q e0=>bL e0 λm h σ ex S R P=>by
  rw[A7]at P;refine mK ex S R P λk m1 h1 H1 x1 R1 P1=>?_;cases k with
  |true=>exact⟨m1,h1,σ,ex,S.mono x1,R1,P1⟩
  |false=>exact Post.here R1 P1
theorem j7(ha:GT G X a ga)(hb:GW G X (.BoolOp .Or (b::rest) pos) gb):GW G X (.BoolOp .Or (a::b::rest) pos) (eOr ga gb):=λE EX=>
 yN (CW (ha E EX) (hb E EX)) λσ' H Q e0=>bL e0 λm h σ ex S R P=>by
  rw[EI]at P;refine mK ex S R P λk m1 h1 H1 x1 R1 P1=>?_;cases k with
  |false=>exact⟨m1,h1,σ,ex,S.mono x1,R1,P1⟩
  |true=>exact Post.here R1 P1
theorem Bu(ha:GT G X a ga):GT G X (.UnaryOp .Not a pos) (jP ga):=λE EX=>
 lQ (En (ha E EX)) λσ' H Q e0=>bL e0 λm h σ ex S R P=>by
  rw[Ef]at P;exact mK ex S R P λk m1 h1 H1 x1 R1 P1=>Post.here R1 P1
theorem wA{op:BoolOp}(ha:GE G X a ga):GE G X (.BoolOp op [a] pos) ga:=λE EX=>FN (ha E EX)
theorem xP(ha:GE G X a ga)(hb:GE G X (.BoolOp .And (b::rest) pos) gb):GE G X (.BoolOp .And (a::b::rest) pos) (iW ga gb):=λE EX=>
 dg (Go (ha E EX) (hb E EX)) λσ' H Q e0=>bL e0 λm h σ ex S R P=>zX ex S R P λk m1 h1 H1 x1 R1 P1=>by
  cases k with
  |true=>exact⟨m1,h1,σ,ex,S.mono x1,R1,P1⟩
  |false=>exact Post.here R1 P1 _ rfl
theorem CI(ha:GE G X a ga):GE G X (.UnaryOp .Not a pos) (jP ga):=λE EX=>
 dg (Cg (ha E EX)) λσ' H Q ⟨m,h,σ,ex,S,R,P⟩=>zX ex S R P λk m1 h1 H1 x1 R1 P1=>Post.here R1 P1 _ rfl
end
section
variable {e:av}{es:List av}{ge:ME}{ga:MA}{pos:Pos}
theorem aD:GA G X [] au:=λE EX=>wo pU λσ' H Q ⟨m,h,σ,ex,S,R,P⟩=>Post.here R P _ .nil
theorem ao(he:GE G X e ge)(hr:GA G X es ga)(hs:aH (e::es) X.env=(false,aE e X.env)::aH es X.env:=by rfl):GA G X (e::es) (aj ge ga):=λE EX=>
 wo (fg (X:=X.wish E) (he E EX) (hr E EX) hs) λσ' H Q ⟨m,h,σ,ex,S,R,P⟩=>sub ex S R P λv m1 h1 H1 v' x1 R1 r1 P1=>jG ex (S.mono x1) R1 P1 λw m2 h2 H2 w' x2 R2 r2 P2=>Post.here R2 P2 _ (.cons (x2.vr r1) r2)
theorem small{n:Nat}(q:n≤1000):n≤aZ:=lK (Fg q)
theorem big{n:Nat}(q:n≤100000):n≤aZ:=cF q (by decide)
theorem iH{xs:List MV}{vs:List V}{Q:VK}(R:HR G m h H)(r:VRs G m H xs vs)(P:Post G X E EX m H (new (.lst xs) h) λv m' _ H'=>∀v',VR G m' H' v v'->Q v' H'){p:ae}(hp:H p=none):Q (.ref p) (upd H p (.lst vs)):=by
 have x:=Ext.new (u:=.lst vs) R hp;refine P (m++[p]) (upd H p (.lst vs)) x (R.new hp ⟨vs,x.vrs r,cG⟩) (.ref p) ⟨p,?_,rfl⟩;rw[←R.len];simp
theorem zi{xs:List MV}{vs:List V}{Q:VK}(R:HR G m h H)(r:VRs G m H xs vs)(P:Post G X E EX m H (.ok (.tup xs) h) λv m' _ H'=>∀v',VR G m' H' v v'->Q v' H'){p:ae}(hp:H p=none):Q (.ref p) (upd H p (.tup vs)):=by
 have x:Ext m H m (upd H p (.tup vs)):=Ext.side hp;exact P m (upd H p (.tup vs)) x (R.side hp) (.ref p) ⟨p,vs,rfl,R.fresh hp,cG,VRl.of (x.vrs r)⟩
theorem gL(ha:GA G X es ga):GE G X (.List es pos) (eE ga):=λE EX=>
 dg (G1 (ha E EX)) λσ' H Q e0=>bL e0 λm h σ ex S R P=>jG ex S R P λxs m1 h1 H1 vs x1 R1 r1 P1=>by
  split at P1
  ·rename_i hz;exact⟨by rw[←Paired.length r1];exact small hz,λp hp=>iH R1 r1 P1 hp⟩
  ·exact P1.elim
theorem jq{k}(ha:GA G X es ga):GE G X (.Tuple es k pos) (eG ga):=λE EX=>
 dg (Hj (ha E EX)) λσ' H Q e0=>bL e0 λm h σ ex S R P=>jG ex S R P λxs m1 h1 H1 vs x1 R1 r1 P1=>by
  split at P1
  ·rename_i hz;exact⟨by rw[←Paired.length r1];exact small hz,λp hp=>zi R1 r1 P1 hp⟩
  ·exact P1.elim
end
theorem eR{α β:Type}{R:α->β->Prop}:∀{xs:List α}{ys:List β}{i:Nat}{x:α},cx R xs ys->xs[i]?=some x->∃y,ys[i]?=some y/\R x y
 |_,_,_,_,.nil,e=>by simp at e
 |_,_,0,_,.cons r _,e=>by simp at e;subst e;exact⟨_,rfl,r⟩
 |_,_,i+1,x,.cons _ t,e=>by
   obtain⟨u,h1,h2⟩:=eR (i:=i) (x:=x) t (by simpa using e);exact⟨u,by simpa using h1,h2⟩
theorem iE{α β:Type}{R:α->β->Prop}:∀{xs zs:List α}{ys ws:List β},cx R xs ys->cx R zs ws->cx R (xs++zs) (ys++ws)
 |_,_,_,_,.nil,s=>s
 |_,_,_,_,.cons r t,s=>.cons r (iE t s)
theorem yh{α β:Type}{R:α->β->Prop}{x:α}{y:β}(r:R x y):∀{xs:List α}{ys:List β}(i:Nat),cx R xs ys->cx R (xs.set i x) (ys.set i y)
 |_,_,_,.nil=>.nil
 |_,_,0,.cons _ t=>.cons r t
 |_,_,i+1,.cons q t=>.cons q (yh r i t)
theorem bM{β:Type}{n:Nat}{a:ae}{k:MO->M β}{Q:β->List ae->MH->Hp->Prop}(R:HR G m h H)(e:m[n]?=some a)(P:Post G X E EX m H (bnd (look n) k h) Q) :
  ∃o,h[n]?=some o/\OR G m H a o/\Post G X E EX m H (k o h) Q:=by
 obtain⟨o,e1,q⟩:=R.get e;refine⟨o,e1,q,?_⟩;simpa only[bnd,look,e1] using P
theorem tT{f:Op2}{C:Int->Int->Prop}{g:Int->Int->V}{gm:Int->Int->MV}(hf:∀i j h (Q:MV->List ae->MH->Hp->Prop) X E EX m H,HR G m h H->Post G X E EX m H (f (.int i) (.int j) h) Q->C i j/\Q (gm i j) m h H)(hg:∀m H i j,VR G m H (gm i j) (g i j))
  (hn:∀x y h,(∀i j,¬(x=.int i/\y=.int j))->f x y h=.stuck):VO G f (rI C g):=by
 intro X E EX m h H x y x' y' Q R rx ry P;by_cases e:∃i j,x=.int i/\y=.int j
 ·obtain⟨i,j,rfl,rfl⟩:=e;obtain⟨c,q⟩:=hf i j h _ X E EX m H R P;exact⟨i,j,rx,ry,c,q _ (hg m H i j)⟩
 ·rw[hn x y h λi j z=>e ⟨i,j,z⟩]at P;exact P.elim
theorem qL{f:Op2}{g:Int->Int->V}{gm:Int->Int->MV}(hf:∀i j h,f (.int i) (.int j) h=.ok (gm i j) h)(hg:∀m H i j,VR G m H (gm i j) (g i j))
  (hn:∀x y h,(∀i j,¬(x=.int i/\y=.int j))->f x y h=.stuck):VO G f (rI0 g):=by
 intro X E EX m h H x y x' y' Q R rx ry P;by_cases e:∃i j,x=.int i/\y=.int j
 ·obtain⟨i,j,rfl,rfl⟩:=e;rw[hf]at P;exact⟨i,j,rx,ry,Post.here R P _ (hg m H i j)⟩
 ·rw[hn x y h λi j z=>e ⟨i,j,z⟩]at P;exact P.elim
theorem oR:VO G iJ (rI0 λi j=>.int (i-j)):=qL (gm:=λi j=>.int (i-j)) (λ_ _ _=>rfl) (λ_ _ _ _=>rfl) λx y h n=>by
 cases x <;> cases y <;> first|rfl|exact absurd ⟨rfl,rfl⟩ (n _ _)
theorem jH:VO G oLt (rI0 λi j=>.bl (decide (i<j))):=qL (gm:=λi j=>.bl (decide (i<j))) (λ_ _ _=>rfl) (λ_ _ _ _=>rfl) λx y h n=>by
 cases x <;> cases y <;> first|rfl|exact absurd ⟨rfl,rfl⟩ (n _ _)
theorem nB:VO G oGt (rI0 λi j=>.bl (decide (j<i))):=qL (gm:=λi j=>.bl (decide (j<i))) (λ_ _ _=>rfl) (λ_ _ _ _=>rfl) λx y h n=>by
 cases x <;> cases y <;> first|rfl|exact absurd ⟨rfl,rfl⟩ (n _ _)
theorem wC:VO G oGe (rI0 λi j=>.bl (decide (j≤i))):=qL (gm:=λi j=>.bl (decide (j≤i))) (λ_ _ _=>rfl) (λ_ _ _ _=>rfl) λx y h n=>by
 cases x <;> cases y <;> first|rfl|exact absurd ⟨rfl,rfl⟩ (n _ _)
def vY:R2:=λx y H Q=>rI CMul (λi j=>.int (i*j)) x y H Q∨v4 x y H Q
theorem ED:OpR X (binaryOp .Mult) vY:=DD.or E1
theorem zL{α β:Type}{Rr:α->β->Prop}{xs:List α}{ys:List β}(r:cx Rr xs ys):∀k,cx Rr (cr k xs).flatten (cr k ys).flatten
 |0=>.nil
 |k+1=>by
   rw[i0,i0,kZ,kZ];exact iE r (zL r k)
theorem Gx:VO G j8 vY:=by
 intro X E EX m h H x y x' y' Q R rx ry P;cases x with
 |int i=>cases y with
   |int j=>
     unfold j8 at P;dsimp only at P;split at P
     ·rename_i c;exact .inl ⟨i,j,rx,ry,c,Post.here R P _ rfl⟩
     ·exact P.elim
   |_=>exact P.elim
 |ref a=>cases y with
   |int j=>
     obtain⟨aa,ea,rfl⟩:=rx;obtain⟨oa,e1,q1,P1⟩:=bM R ea P;cases oa with
     |lst xs=>
       obtain⟨vs,r,z⟩:=q1;dsimp only at P1;split at P1
       ·rename_i c;refine .inr ⟨aa,j,vs,rfl,ry,z,by lia,by lia,by rw[←Paired.length r];exact big c.2.2,λp hp=>iH R (zL r j.toNat) P1 hp⟩
       ·exact P1.elim
     |_=>exact P1.elim
   |_=>exact P.elim
 |_=>exact P.elim
theorem fJ:VO G d0 (rI (λ_ j=>0 < j) λi j=>.int (i % j)):=tT (gm:=λi j=>.int (i % j)) (λi j h Q X E EX m H R P=>by
  unfold d0 at P;dsimp only at P;split at P
  ·rename_i c;exact⟨c,Post.here R P⟩
  ·exact P.elim) (λ_ _ _ _=>rfl) λx y h n=>by
 cases x <;> cases y <;> first|rfl|exact absurd ⟨rfl,rfl⟩ (n _ _)
theorem yB:VO G lJ (rI CDiv λi j=>.int (i / j)):=tT (gm:=λi j=>.int (i / j)) (λi j h Q X E EX m H R P=>by
  unfold lJ at P;dsimp only at P;split at P
  ·rename_i c;exact⟨c,Post.here R P⟩
  ·exact P.elim) (λ_ _ _ _=>rfl) λx y h n=>by
 cases x <;> cases y <;> first|rfl|exact absurd ⟨rfl,rfl⟩ (n _ _)
theorem Ae:VO G j5 (rI CPow λi j=>.int (i ^ j.toNat)):=tT (gm:=λi j=>.int (i ^ j.toNat)) (λi j h Q X E EX m H R P=>by
  unfold j5 at P;dsimp only at P;split at P
  ·rename_i c;exact⟨c,Post.here R P⟩
  ·exact P.elim) (λ_ _ _ _=>rfl) λx y h n=>by
 cases x <;> cases y <;> first|rfl|exact absurd ⟨rfl,rfl⟩ (n _ _)
def qk:R2:=λx y H Q=>rI0 (λi j=>.int (i+j)) x y H Q∨((∃i j,x=.str i/\y=.str j/\i.length+j.length≤aZ/\Q (.str (i++j)) H)∨y8 x y H Q)
theorem je:OpR X (binaryOp .Add) qk:=Cr.or (Fo.or Cs)
theorem jk:VO G fH qk:=by
 intro X E EX m h H x y x' y' Q R rx ry P;cases x with
 |int i=>cases y with
   |int j=>exact .inl ⟨i,j,rx,ry,Post.here R P _ rfl⟩
   |_=>exact P.elim
 |str i=>cases y with
   |str j=>
     unfold fH at P;dsimp only at P;split at P
     ·rename_i c;exact .inr (.inl ⟨i,j,rx,ry,big c,Post.here R P _ rfl⟩)
     ·exact P.elim
   |_=>exact P.elim
 |ref a=>cases y with
   |ref b=>
     obtain⟨aa,ea,rfl⟩:=rx;obtain⟨bb,eb,rfl⟩:=ry;obtain⟨oa,e1,q1,P1⟩:=bM R ea P;obtain⟨ob,e2,q2,P2⟩:=bM R eb P1;cases oa with
     |lst xs=>cases ob with
       |lst ys=>
         dsimp only at P2;split at P2
         ·rename_i c;obtain⟨vs,r1,z1⟩:=q1;obtain⟨ws,r2,z2⟩:=q2;exact .inr (.inr ⟨aa,bb,vs,ws,rfl,rfl,z1,z2,by rw[←Paired.length r1,←Paired.length r2];exact big c,λp hp=>iH R (iE r1 r2) P2 hp⟩)
         ·exact P2.elim
       |_=>exact P2.elim
     |_=>exact P2.elim
   |_=>exact P.elim
 |non=>exact P.elim
 |bl _=>exact P.elim
 |scr _=>exact P.elim
 |tup _=>exact P.elim
 |any=>exact P.elim
theorem vB{f:MV->Option PyData}{s:ai}:∀{xs:List MV}{vs:List V}{us:List ag}{ds:List PyData},VRs G m H xs vs->Vals vs us->(∀x v u d,VR G m H x v->aP v u->f x=some d->∃as,Reads s.heap u d as)->gB f xs=some ds->∃as,ReadsAll s.heap us ds as
 |_,_,_,ds,.nil,.nil,_,e=>by
   cases(show([]:List PyData)=ds from Option.some.inj e);exact⟨_,.nil⟩
 |x::xs,_,_,ds,.cons r t,.cons q w,k,e=>by
   unfold gB at e;cases e1:f x with
   |none=>rw[e1]at e;cases e
   |some d=>
     cases e2:gB f xs with
     |none=>rw[e1,e2]at e;cases e
     |some es=>
       rw[e1,e2]at e;cases e;obtain⟨as,h1⟩:=k _ _ _ _ r q e1;obtain⟨bs,h2⟩:=vB t w k e2;exact⟨_,.cons h1 h2⟩
theorem ki{pins:List (ae×az)}{s:ai}{σ2:St}(I:Inv X pins σ2 H s)(R:HR G m h H):∀(n:Nat) (x:MV) (v:V) (u:ag) (d:PyData),VR G m H x v->aP v u->dat h n x=some d->∃as,Reads s.heap u d as:=by
 intro n
 induction n with
 |zero=>
   intro x v u d r q e;cases x with
   |non=>cases(show v=V.non from r);cases q;cases(show some PyData.none=some d from e);exact⟨_,.none⟩
   |bl b=>cases(show v=V.bl b from r);cases q;cases(show some (PyData.bool b)=some d from e);exact⟨_,.bool b⟩
   |int i=>cases(show v=V.int i from r);obtain⟨t,rfl⟩:=q;cases(show some (PyData.int i)=some d from e);exact⟨_,.int i t⟩
   |str i=>cases(show v=V.str i from r);obtain⟨t,rfl⟩:=q;cases(show some (PyData.str i)=some d from e);exact⟨_,.str i t⟩
   |_=>cases(show none=some d from e)
 |succ n ih=>
   intro x v u d r q e;cases x with
   |non=>cases(show v=V.non from r);cases q;cases(show some PyData.none=some d from e);exact⟨_,.none⟩
   |bl b=>cases(show v=V.bl b from r);cases q;cases(show some (PyData.bool b)=some d from e);exact⟨_,.bool b⟩
   |int i=>cases(show v=V.int i from r);obtain⟨t,rfl⟩:=q;cases(show some (PyData.int i)=some d from e);exact⟨_,.int i t⟩
   |str i=>cases(show v=V.str i from r);obtain⟨t,rfl⟩:=q;cases(show some (PyData.str i)=some d from e);exact⟨_,.str i t⟩
   |tup xs=>
     obtain⟨a,vs,rfl,_,z,rl⟩:=(show ∃a vs,v=.ref a/\a∉m/\H a=some (.tup vs)/\VRl G m H xs vs from r);cases q;unfold dat at e;cases e1:gB (dat h n) xs with
     |none=>rw[e1]at e;cases e
     |some ds=>
       rw[e1]at e;cases e;obtain⟨its,rv,p,hz⟩:=I.tuple (SqT.of z);obtain⟨as,hr⟩:=vB (VRl.to rl) rv (λx v u d=>ih x v u d) e1;obtain⟨o,ho,hc,k,hd⟩:=(show s.heap.IsTuple a its.toArray from p);exact⟨_,reads_tuple_at ho hc hd (by simpa using hr)⟩
   |ref i=>
     obtain⟨a,ea,rfl⟩:=(show ∃a,m[i]?=some a/\v=.ref a from r);cases q;obtain⟨ob,eo,qo⟩:=R.get ea;unfold dat at e;rw[eo]at e;cases ob with
     |lst xs=>
       dsimp only at e;obtain⟨vs,rl,z⟩:=qo;cases e1:gB (dat h n) xs with
       |none=>rw[e1]at e;cases e
       |some ds=>
         rw[e1]at e;cases e;obtain⟨its,rv,p,hz⟩:=I.list (SqL.of z);obtain⟨as,hr⟩:=vB rl rv (λx v u d=>ih x v u d) e1;obtain⟨o,ho,hc,k,hd⟩:=p.isList;exact⟨_,reads_list_at ho hc hd (by simpa using hr)⟩
     |_=>cases(show none=some d from e)
   |scr _=>cases(show none=some d from e)
   |any=>cases(show none=some d from e)
def oz(neg:Bool):R2:=λx y H Q=>(∃(G:Gb) (m:List ae) (h:MH) (a b:MV) (d e:PyData),HR G m h H/\VR G m H a x/\VR G m H b y/\dat h 6 a=some d/\dat h 6 b=some e/\(SeqAt.shaped d=true/\SeqAt.shaped e=true)/\Q (.bl (if neg then !PyData.eqv d e else PyData.eqv d e)) H)
theorem dU(hu:X.A.units+64<cLine):OpR X (dm .Eq) (λx y H Q=>rEq x y H Q∨oz false x y H Q):=by
 refine CN.or ?_;rintro pins s σ2 H x y v u Q I rx ry ⟨G,m,h,a,b,d,e,R,ra,rb,da,db,sh,q⟩;obtain⟨as,r1⟩:=ki I R 6 a x v d ra rx da;obtain⟨bs,r2⟩:=ki I R 6 b y u e rb ry db;exact eq_dataH r1 r2 sh.1 sh.2 hu ⟨.bl _,H,I,rfl,q⟩
theorem nG(hu:X.A.units+64<cLine):OpR X (dm .NotEq) (λx y H Q=>rNe x y H Q∨oz true x y H Q):=by
 refine Bm.or ?_;rintro pins s σ2 H x y v u Q I rx ry ⟨G,m,h,a,b,d,e,R,ra,rb,da,db,sh,q⟩;obtain⟨as,r1⟩:=ki I R 6 a x v d ra rx da;obtain⟨bs,r2⟩:=ki I R 6 b y u e rb ry db;exact ne_dataH r1 r2 sh.1 sh.2 hu ⟨.bl _,H,I,rfl,q⟩
theorem Af{β:Type}{x y:MV}{k:Bool->M β}{Q:β->List ae->MH->Hp->Prop}(P:Post G X E EX m H (bnd (kn x y) k h) Q):∃d e,dat h 6 x=some d/\dat h 6 y=some e/\(SeqAt.shaped d=true/\SeqAt.shaped e=true)/\Post G X E EX m H (k (PyData.eqv d e) h) Q:=by
 unfold bnd kn at P;cases e1:dat h 6 x with
 |none=>rw[e1]at P;exact P.elim
 |some d=>
   cases e2:dat h 6 y with
   |none=>rw[e1,e2]at P;exact P.elim
   |some e=>
     rw[e1,e2]at P;dsimp only at P;by_cases c:SeqAt.shaped d=true/\SeqAt.shaped e=true
     ·rw[if_pos c]at P;exact⟨d,e,rfl,rfl,c,P⟩
     ·rw[if_neg c]at P;exact P.elim
theorem dS:VO G oEq (λx y H Q=>rEq x y H Q∨oz false x y H Q):=by
 intro X E EX m h H x y x' y' Q R rx ry P;unfold oEq at P;split at P
 ·rename_i c;refine .inl ?_;cases x <;> cases y <;> first|(exfalso;exact bT c)|(cases rx;cases ry;refine⟨rfl,?_⟩;have q:=Post.here R P _ rfl;simpa using q)
 ·obtain⟨d,e,h1,h2,c,P1⟩:=Af P;exact .inr ⟨G,m,h,x,y,d,e,R,rx,ry,h1,h2,c,Post.here R P1 _ rfl⟩
theorem mh:VO G oNe (λx y H Q=>rNe x y H Q∨oz true x y H Q):=by
 intro X E EX m h H x y x' y' Q R rx ry P;unfold oNe at P;split at P
 ·rename_i c;refine .inl ?_;cases x <;> cases y <;> first|(exfalso;exact bT c)|(cases rx;cases ry;refine⟨rfl,?_⟩;have q:=Post.here R P _ rfl;simpa using q)
 ·obtain⟨d,e,h1,h2,c,P1⟩:=Af P;exact .inr ⟨G,m,h,x,y,d,e,R,rx,ry,h1,h2,c,Post.here R P1 _ rfl⟩
theorem kO{k:Str}:∀{kvs:List (Str×MV)}{ws:List (Key×V)},DR G m H kvs ws->(∀v,dget k kvs=some v->∃v',eA ws (Sum.inr k)=some v'/\VR G m H v v')/\(dget k kvs=none->eA ws (Sum.inr k)=none)
 |_,_,.nil=>⟨λv e=>(by cases e),λ_=>rfl⟩
 |(a,u)::kvs,(b,u')::ws,.cons ⟨q,r⟩ t=>by
   have q:b=Sum.inr a:=q;subst q;have ih:=kO (k:=k) t;unfold dget;by_cases e:a=k
   ·subst e;rw[if_pos rfl,pH rfl];exact⟨λv e=>⟨u',rfl,by cases e;exact r⟩,λe=>by cases e⟩
   ·rw[if_neg e,oV (λz=>e (Sum.inr.inj z))];exact ih
theorem yt{k:Str}{kvs:List (Str×MV)}{ws:List (Key×V)}(r:DR G m H kvs ws):(ws.any λkv=>decide (kv.1=Sum.inr k))=(dget k kvs).isSome:=by
 rw[pN];obtain⟨a,b⟩:=kO (k:=k) r;cases e:dget k kvs with
 |none=>rw[b e];rfl
 |some v=>obtain⟨v',e',_⟩:=a v e;rw[e'];rfl
theorem FE{k:Str}{v:MV}{v':V}(rv:VR G m H v v'){kvs:List (Str×MV)}{ws:List (Key×V)}(r:DR G m H kvs ws):DR G m H (dput k v kvs) (eS ws (Sum.inr k) v'):=by
 unfold dput eS;rw[yt r];by_cases c:(dget k kvs).isSome=true
 ·rw[if_pos c,if_pos c]
  clear c
  induction r with
  |nil=>exact .nil
  |cons p t ih=>
    rename_i x y l1 l2;simp only[bS];by_cases e:x.1=k
    ·rw[if_pos e,if_pos (by rw[p.1,e])];exact .cons ⟨p.1,rv⟩ ih
    ·rw[if_neg e,if_neg (by rw[p.1];exact λz=>e (Sum.inr.inj z))];exact .cons p ih
 ·rw[if_neg c,if_neg c];exact iE r (.cons ⟨rfl,rv⟩ .nil)
theorem D5{k:Str}{kvs:List (Str×MV)}{ws:List (Key×V)}(r:DR G m H kvs ws):DR G m H (vA k kvs) (jb ws (Sum.inr k)):=by
 unfold vA jb
 induction r with
 |nil=>exact .nil
 |cons p t ih=>
   rename_i x y l1 l2;by_cases e:x.1=k
   ·rw[ma (by simp[e]),ma (by rw[p.1];simp[e])];exact ih
   ·rw[l6 (by simp[e]),l6 (by rw[p.1];simp[e])];exact .cons p ih
def uB:R2:=λx y H Q=>∃a v,x=.ref a/\DGet H a y (some v)/\Q v H
theorem Bf(hu:X.A.units+1<cLine):IxR X uB:=by
 rintro value slice pins s σ H x y v u Q I rx ry ⟨a,w,ex,g,q⟩ hs;subst ex;cases rx;exact tail_any (CM I g) PySem.F.slot_dict_getitem.lookup (vR hu I g ry λw' s3 I3 rw'=>⟨w,H,I3,rw',q⟩) hs
def GB(K:PySem.W.Frag):R2:=λx y H Q=>rIx K x y H Q∨uB x y H Q
theorem nY{α:Type}(xs:List α)(i:Int):atI xs i=atN xs i:=by
 unfold atI atN L2.ixN;by_cases h0:0≤i
 ·rw[if_pos h0,if_pos h0];by_cases hn:i<xs.length
  ·rw[if_pos hn];rfl
  ·rw[if_neg hn];exact(mQ.mpr (by lia)).symm
 ·rw[if_neg h0,if_neg h0];by_cases hn:-(xs.length:Int)≤i
  ·rw[if_pos hn,if_pos hn];rfl
  ·rw[if_neg hn,if_neg hn];rfl
theorem ue{α β:Type}{Rr:α->β->Prop}{xs:List α}{ys:List β}{i:Int}{x:α}(r:cx Rr xs ys)(e:atN xs i=some x):∃y,atN ys i=some y/\Rr x y:=by
 unfold atN at e ⊢;rw[←Paired.length r];split at e
 ·rename_i c;rw[if_pos c];exact eR r e
 ·rename_i c;rw[if_neg c];split at e
  ·rename_i d;rw[if_pos d];exact eR r e
  ·cases e
theorem HR.sq(R:HR G m h H):SqL G.K H G.sa (G.ns.map V.int):=by
 rcases R.scr with⟨o,q⟩|q
 ·exact .inl (.inr ⟨o,q⟩)
 ·exact q H
theorem Db:VO G oIx (GB G.K):=by
 intro X E EX m h H x y x' y' Q R rx ry P;cases x with
 |ref a=>cases y with
   |int i=>
     obtain⟨aa,ea,rfl⟩:=rx;obtain⟨oa,e1,q1,P1⟩:=bM R ea P;cases oa with
     |lst xs=>
       obtain⟨vs,r,z⟩:=q1;dsimp only at P1;cases e:atN xs i with
       |none=>simp only[e]at P1;exact P1.elim
       |some v=>
         simp only[e]at P1;obtain⟨v',e',rv⟩:=ue r e;exact .inl (.inl ⟨aa,vs,i,v',rfl,ry,SqL.of z,by rw[nY];exact e',Post.here R P1 _ rv⟩)
     |_=>exact P1.elim
   |str k=>
     obtain⟨aa,ea,rfl⟩:=rx;obtain⟨oa,e1,q1,P1⟩:=bM R ea P;cases oa with
     |dct kvs=>
       obtain⟨ws,r,z⟩:=q1;dsimp only at P1;cases e:dget k kvs with
       |none=>simp only[e]at P1;exact P1.elim
       |some v=>
         simp only[e]at P1;obtain⟨v',e',rv⟩:=(kO (k:=k) r).1 v e;cases(show y'=V.str k from ry);exact .inr ⟨aa,v',rfl,e'▸DGet.k (k:=Sum.inr k) z,Post.here R P1 _ rv⟩
     |_=>exact P1.elim
   |_=>exact P.elim
 |tup xs=>cases y with
   |int i=>
     obtain⟨aa,vs,rfl,_,z,r⟩:=rx;have r:=VRl.to r;unfold oIx at P;dsimp only at P;cases e:atN xs i with
     |none=>simp only[e]at P;exact P.elim
     |some v=>
       simp only[e]at P;obtain⟨v',e',rv⟩:=ue r e;exact .inl (.inr (.inl ⟨aa,vs,i,v',rfl,ry,SqT.of z,by rw[nY];exact e',Post.here R P _ rv⟩))
   |_=>exact P.elim
 |any=>exact P.elim
 |scr ns=>cases y with
   |int i=>
     obtain⟨e0,rfl⟩:=rx;subst e0;unfold oIx at P;dsimp only at P;cases e:atN G.ns i with
     |none=>simp only[e]at P;exact P.elim
     |some v=>
       simp only[e]at P;refine .inl (.inl ⟨G.sa,G.ns.map V.int,i,.int v,rfl,ry,R.sq,?_,Post.here R P _ rfl⟩);rw[nY];unfold atN at e ⊢;rw[cY];split at e
       ·rename_i c;rw[if_pos c,bz,e];rfl
       ·rename_i c;rw[if_neg c];split at e
        ·rename_i d;rw[if_pos d,bz,e];rfl
        ·cases e
   |_=>exact P.elim
 |non=>exact P.elim
 |bl _=>exact P.elim
 |int _=>exact P.elim
 |str z=>cases y with
   |int i=>
     unfold oIx at P;dsimp only at P;split at P
     ·rename_i c;cases e:atN z.cps.toList i with
      |none=>simp only[e]at P;exact P.elim
      |some cc=>
        simp only[e]at P;exact .inl (.inr (.inr ⟨z,i,cc,rx,ry,big c,by rw[nY];exact e,Post.here R P _ rfl⟩))
     ·exact P.elim
   |_=>exact P.elim
section
variable {a b:av}{ga gb:ME}{pos:Pos}
theorem bY(hu:X.A.units+1<cLine)(ha:GE G X a ga)(hb:GE G X b gb)(hs:yR b:=by intro _ _;rfl)(hK:X.K=G.K:=by rfl):GE G X (.Subscript a b pos) (aA oIx ga gb):=λE EX=>
 dg (Di (X:=X.wish E) (tu.or (Bf hu)) (ha E EX) (hb E EX) hs) λ_ _ _ t=>by
  have:=opG (ta:=λa _=>a) Db t;rw[←hK]at this;exact this
end
def VO1(G:Gb)(f:Op1)(r:List V->Hp->VK->Prop):Prop:=∀(X:Cx) (E:ag->ai->Prop) (EX:St->Prop) (m:List ae) (h:MH) (H:Hp) (x:MV) (x':V) (Q:VK),HR G m h H->VR G m H x x' ->
 Post G X E EX m H (f x h) (λv m' _ H'=>∀v',VR G m' H' v v'->Q v' H')->r [x'] H Q
section
variable {e:av}{ge:ME}{x:Str}{p pos:Pos}{id T:String}{f:Op1}{r:List V->Hp->VK->Prop}
theorem GE.a1(he:GE G X e ge)(hs:aH [e] X.env=[(false,aE e X.env)]):∀E EX,PA (X.wish E) [e] (me (TGe G X E EX ge) oW):=λE EX=>fg (X:=X.wish E) (he E EX) pU hs
theorem zE{Q:VK}(vo:VO1 G f r)(t:TGe G X E EX (eUn f ge) σ' H Q):tCB r (me (TGe G X E EX ge) oW) σ' H Q:=by
 obtain⟨m,h,σ,ex,S,R,P⟩:=t;exact sub ex S R P λv m1 h1 H1 v' x1 R1 r1 P1=>vo _ _ _ _ _ _ _ _ _ R1 r1 P1
theorem eO(hc:∀E,d4 (X.wish E) (.builtin id) r)(vo:VO1 G f r)(he:GE G X e ge)(hm:X.mg x=none)(hv:bootBuiltins x=some (.builtin id))(hg:Gl X x:=by rfl)(hn:x≠"__name__":=by decide)(hdb:(x == ("__debug__":Str))=false:=by decide)
  (hs:aH [e] X.env=[(false,aE e X.env)]:=by rfl):GE G X (.Call (.Name x p) [e] [] pos) (eUn f ge):=λE EX=>
 dg (uT (X:=X.wish E) (hc E) hg hm hv (he.a1 hs E EX) hn hdb hs rfl) λ_ _ _ t=>zE vo t
theorem rZ(hc:∀E,d4 (X.wish E) (.type T) r)(vo:VO1 G f r)(he:GE G X e ge)(hm:X.mg x=none)(hv:bootBuiltins x=some (.type T))(hg:Gl X x:=by rfl)(hn:x≠"__name__":=by decide)(hdb:(x == ("__debug__":Str))=false:=by decide)
  (hs:aH [e] X.env=[(false,aE e X.env)]:=by rfl):GE G X (.Call (.Name x p) [e] [] pos) (eUn f ge):=λE EX=>
 dg (BE (X:=X.wish E) (hc E) hg hm hv (he.a1 hs E EX) hn hdb hs rfl) λ_ _ _ t=>zE vo t
end
def wd(K:PySem.W.Frag):List V->Hp->VK->Prop:=λxs H Q=>(∃x n,xs=[x]/\zN K x H n/\Q (.int n) H)∨∃a kvs,xs=[V.ref a]/\H a=some (.dK kvs)/\Q (.int kvs.length) H
theorem fP:d4 X (.builtin "len") (wd X.K):=Hr.or Gn
theorem fA:VO1 G dz (wd G.K):=by
 intro X E EX m h H x x' Q R rx P;cases x with
 |ref a=>
   obtain⟨aa,ea,rfl⟩:=rx;obtain⟨oa,e1,q1,P1⟩:=bM R ea P;cases oa with
   |lst xs=>
     obtain⟨vs,r,z⟩:=q1;exact .inl ⟨_,vs.length,rfl,.inl ⟨vs,SqL.of z,rfl⟩,by rw[←Paired.length r];exact Post.here R P1 _ rfl⟩
   |dct kvs=>
     obtain⟨ws,r,z⟩:=q1;exact .inr ⟨aa,ws,rfl,z,by rw[←Paired.length r];exact Post.here R P1 _ rfl⟩
   |_=>exact P1.elim
 |str y=>
   unfold dz at P;dsimp only at P;split at P
   ·rename_i c;cases(show x'=V.str y from rx);exact .inl ⟨_,y.length,rfl,⟨big c,rfl⟩,Post.here R P _ rfl⟩
   ·exact P.elim
 |scr ns=>
   obtain⟨e0,rfl⟩:=rx;subst e0;exact .inl ⟨_,(G.ns.map V.int).length,rfl,.inl ⟨_,R.sq,rfl⟩,by rw[cY];exact Post.here R P _ rfl⟩
 |tup xs=>
   obtain⟨aa,vs,rfl,_,z,r⟩:=rx;exact .inl ⟨_,vs.length,rfl,.inr ⟨vs,SqT.of z,rfl⟩,by rw[←Paired.length (VRl.to r)];exact Post.here R P _ rfl⟩
 |non=>exact P.elim
 |bl _=>exact P.elim
 |int _=>exact P.elim
 |any=>exact P.elim
def Ge(K:PySem.W.Frag):List V->Hp->VK->Prop:=λxs H Q=>∃p ys,xs=[.ref p]/\(SqL K H p ys∨SqT K H p ys)/\∀l,H l=none->Q (.ref l) (L2.upd H l (.lst ys))
theorem oI:VO1 G jK (Ge G.K):=by
 intro X E EX m h H x x' Q R rx P;cases x with
 |ref a=>
   obtain⟨aa,ea,rfl⟩:=rx;obtain⟨oa,e1,q1,P1⟩:=bM R ea P;cases oa with
   |lst xs=>
     obtain⟨vs,r,z⟩:=q1;exact⟨aa,vs,rfl,.inl (SqL.of z),λl hl=>iH R r P1 hl⟩
   |_=>exact P1.elim
 |_=>exact P.elim
section
variable {e o i c:av}{ge go gi gc:ME}{pos pos':Pos}{st:aO}{rest sa sb:List aO}{a b:MS}
theorem cA:GSs G EX X [] bH:=λE hp=>As FC λD σ' H ⟨m,h,σ,ex,S,R,P⟩=>Post.here R P σ' S
theorem aK(h1:GS G EX X st a):GSs G EX X [st] a:=λE hp=>Ei (h1 E hp)
theorem aC(h1:GS G ET X st a)(h2:GSs G ET X rest b):GSs G ET X (st::rest) (aB a b):=λE hp=>As (B9 (h1 E hp) (h2 E hp)) λD σ' H e0=>bL e0 λm h σ ex S R P=>
 ⟨m,h,σ,ex,S,R,P.bind.mono λf m1 h1 H1 x R1 P1=>by
  cases f with
  |next σ1=>exact λσ1' S1=>⟨m1,h1,σ1,trivial,S1,R1,P1⟩
  |brk σ1=>exact Post.here R1 P1
  |cnt σ1=>exact Post.here R1 P1
  | ret v=>exact Post.here R1 P1⟩
theorem cj(he:GE G X e ge)(hs:swapsWith e none pos.line X.env=pure false:=by rfl):GS G EX X (.Expr e pos) (bQ ge):=λE hp=>gG (Ez (X:=X.wish E) (he E EX) hs) λD σ' H ⟨m,h,σ,ex,S,R,P⟩=>
 sub ex S R P λv m1 h1 H1 v' x1 R1 r1 P1=>Post.here R1 P1 σ' (S.mono x1)
theorem bP(he:GE G X e ge):GS G EX X (.Return (some e) pos) (bq ge):=λE hp=>gG (Hq (X:=X.wish E) (he E EX)) λD σ' H ⟨m,h,σ,ex,S,R,P⟩=>
 sub ex S R P λv m1 h1 H1 v' x1 R1 r1 P1=>Post.here R1 P1 v' r1
theorem cB(hc:GT G X c gc)(ha:GSs G EX X sa a)(hb:GSs G EX X sb b):GS G EX X (.If c sa sb pos) (sIf gc a b):=λE hp=>gG (Bs (hc E EX) (ha E hp) (hb E hp)) λD σ' H e0=>bL e0 λm h σ ex S R P=>
 mK ex S R P λk m1 h1 H1 x1 R1 P1=>by
  cases k with
  |true=>exact⟨m1,h1,σ,ex,S.mono x1,R1,P1⟩
  |false=>exact⟨m1,h1,σ,ex,S.mono x1,R1,P1⟩
theorem bB{n:Nat}{x:Str}(he:GE G X e ge)(hN:X.N.Nodup)(hi:X.N[n]?=some x:=by rfl)(hx:Loc X.env.scope x:=by first|exact Or.inl rfl|exact Or.inr rfl)
  (hs:swapsWith e (some (.Name x pos')) pos.line X.env=pure false:=by rfl) (hf:X.fn x=true∨X.env.scope.names.lookup x=some .local:=by first|exact .inl rfl|exact .inr rfl) :
  GS G EX X (.Assign [.Name x pos'] e pos) (bp n ge):=λE hp=>gG (GZ (X:=X.wish E) hN hi hx (he E EX) hs hf) λD σ' H ⟨m,h,σ,ex,S,R,P⟩=>
 sub ex S R P λv m1 h1 H1 v' x1 R1 r1 P1=>Post.here R1 P1 _ ((S.mono x1).set n r1)
theorem tG{a b:String}(e:aF a=aF b):a=b:=by
 rw[Str.ofString_eq_toList,Str.ofString_eq_toList]at e;have e1:a.toList.map Char.toNat=b.toList.map Char.toNat:=by simpa using congrArg (λs:Str=>s.cps.toList) e
 have e2:a.toList=b.toList:=by
  have inj:∀(l k:List Char),l.map Char.toNat=k.map Char.toNat->l=k:=by
   intro l
   induction l with
   |nil=>intro k q;cases k with
     |nil=>rfl
     |cons _ _=>simp at q
   |cons x l ih=>intro k q;cases k with
     |nil=>simp at q
     |cons y k=>
       simp only[bS,List.cons.injEq]at q;rw[ih k q.2,Char.toNat_inj.mp q.1]
  exact inj _ _ e1
 exact String.toList_inj.mp e2
theorem vM{f:String}:∀{fs:List (String×MV)}{ws:List (Str×V)}{v:MV},FR G m H fs ws->fs.lookup f=some v->∃v',ws.lookup (aF f)=some v'/\VR G m H v v'
 |_,_,_,.nil,e=>by simp at e
 |(g,u)::fs,(g',u')::ws,v,.cons ⟨q,r⟩ t,e=>by
   have q:g'=aF g:=q;subst q;by_cases hg:f=g
   ·subst hg;simp only[bK,beq_self_eq_true]at e ⊢;cases e;exact⟨u',rfl,r⟩
   ·have h1:(f == g)=false:=by simpa using hg
    have h2:(aF f == aF g)=false:=by
     rw[beq_eq_false_iff_ne];exact λz=>hg (tG z)
    simp only[bK,h1,h2]at e ⊢;exact vM t e
theorem xC{f:String}:∀{fs:List (String×MV)}{ws:List (Str×V)},FR G m H fs ws->fs.lookup f=none->ws.lookup (aF f)=none
 |_,_,.nil,e=>by simp
 |(g,u)::fs,(g',u')::ws,.cons ⟨q,r⟩ t,e=>by
   have q:g'=aF g:=q;subst q;by_cases hg:f=g
   ·subst hg;simp only[bK,beq_self_eq_true]at e;cases e
   ·have h1:(f == g)=false:=by simpa using hg
    have h2:(aF f == aF g)=false:=by
     rw[beq_eq_false_iff_ne];exact λz=>hg (tG z)
    simp only[bK,h1,h2]at e ⊢;exact xC t e
theorem FR.mono{m':List ae}{H':Hp}{fs:List (String×MV)}{ws:List (Str×V)}(x:Mn m H m' H')(r:FR G m H fs ws):FR G m' H' fs ws:=Paired.imp' (λ_ _ p=>⟨p.1,VR.mono x p.2⟩) r
theorem DR.mono{m':List ae}{H':Hp}{fs:List (Str×MV)}{ws:List (Key×V)}(x:Mn m H m' H')(r:DR G m H fs ws):DR G m' H' fs ws:=Paired.imp' (λ_ _ p=>⟨p.1,VR.mono x p.2⟩) r
theorem ut{f:String}{v:MV}{v':V}(r:VR G m H v v'):∀{fs:List (String×MV)}{ws:List (Str×V)},FR G m H fs ws->FR G m H (putF f v fs) (L2.putF (aF f) v' ws)
 |_,_,.nil=>.cons ⟨rfl,r⟩ .nil
 |(g,u)::fs,(g',u')::ws,.cons ⟨q,ru⟩ t=>by
   have q:g'=aF g:=q;subst q;unfold putF L2.putF;by_cases hg:g=f
   ·subst hg;rw[if_pos rfl,if_pos rfl];exact .cons ⟨rfl,r⟩ t
   ·rw[if_neg hg,if_neg λz=>hg (tG z)];exact .cons ⟨rfl,ru⟩ (ut r t)
def aX(G:Gb)(cs:List Nat)(f:String):Prop:=∀c∈cs,Cls G.K (G.cl c)/\cQ G.K (G.cl c) (aF f)
theorem aX.one{c:Nat}{f:String}(a:Cls G.K (G.cl c))(b:cQ G.K (G.cl c) (aF f)):aX G [c] f:=λc' q=>by
 cases c6.mp q;exact⟨a,b⟩
theorem bI{f:String}{cs:List Nat}(he:GE G X e ge)(hf:aX G cs f)(hb:attributeBase e (aF f) X.env (aE e X.env)=aE e X.env:=by rfl)(hK:X.K=G.K:=by rfl):GE G X (.Attribute e (aF f) pos) (aV ge cs f):=λE EX=>
 dg (D6 (X:=X.wish E) (he E EX) hb) λσ' H Q e0=>bL e0 λm h σ ex S R P=>sub ex S R P λv m1 h1 H1 v' x1 R1 r1 P1=>by
  cases v with
  |ref n=>
    obtain⟨aa,ea,rfl⟩:=r1;obtain⟨oa,e1,q1,P2⟩:=bM R1 ea P1;cases oa with
    |ins c fs=>
      obtain⟨dx,ws,r,z⟩:=q1;dsimp only at P2;split at P2
      ·rename_i hc;cases ew:fs.lookup f with
       |none=>simp only[ew]at P2;exact P2.elim
       |some w=>
         simp only[ew]at P2;obtain⟨w',ew',rw'⟩:=vM r ew;have k:=hf c (by simpa using hc);rw[←hK]at k;exact⟨aa,_,dx,ws,w',rfl,z,k.1,k.2,ew',Post.here R1 P2 _ rw'⟩
      ·exact P2.elim
    |_=>exact P2.elim
  |_=>exact P1.elim
theorem jQ{β:Type}{n:Nat}{o:MO}{k:Unit->M β}{Q:β->List ae->MH->Hp->Prop}{aa:ae}(R:HR G m h H)(e:m[n]?=some aa)(P:Post G X E EX m H (bnd (put n o) k h) Q):Post G X E EX m H (k () (h.set n o)) Q:=by
 have hn:n<h.length:=by rw[←R.len];exact(bF.mp e).1
 simpa only[bnd,put,hn,if_true] using P
theorem eM{f:String}{cs:List Nat}(ho:GE G X o go)(he:GE G X e ge)(hf:aX G cs f)(hs:swapsWith e (some (.Attribute o (aF f) pos')) pos.line X.env=pure false:=by rfl)(hK:X.K=G.K:=by rfl) :
  GS G EX X (.Assign [.Attribute o (aF f) pos'] e pos) (dq go cs f ge):=λE hp=>
 gG (Ft (X:=X.wish E) (ho E EX) (he E EX) hs) λD σ' H e0=>bL e0 λm h σ ex S R P=>sub ex S R P λv m1 h1 H1 v' x1 R1 r1 P1=>sub ex (S.mono x1) R1 P1 λw m2 h2 H2 w' x2 R2 r2 P2=>by
  cases w with
  |ref n=>
    obtain⟨aa,ea,rfl⟩:=r2;obtain⟨oa,e1,q1,P3⟩:=bM R2 ea P2;cases oa with
    |ins c fs=>
      obtain⟨dx,ws,r,z⟩:=q1;dsimp only at P3;split at P3
      ·rename_i hl;have k:=hf c (by simpa using hl.1);rw[←hK]at k;refine⟨aa,_,dx,ws,rfl,z,k.1,k.2,by rw[←Paired.length r];exact hl.2,?_⟩;have P4:=jQ R2 ea P3;have x3:Ext m2 H2 m2 (upd H2 aa (.ins (G.cl c) dx (L2.putF (aF f) v' ws))):=Ext.upd ea z;exact P4 _ _ x3 (R2.upd ea (λo' ys z'=>by rw[z]at z';cases z') ⟨dx,_,FR.mono x3.mn (ut (x2.vr r1) r),cG⟩) σ' (((S.mono x1).mono x2).mono x3)
      ·exact P3.elim
    |_=>exact P3.elim
  |_=>exact P2.elim
def Hz:V->V->V->Hp->(Hp->Prop)->Prop:=λo i v H Q=>∃a H4,o=.ref a/\DPut H a i v H4/\Q H4
def oG:V->V->V->Hp->(Hp->Prop)->Prop:=λo i v H Q=>vW o i v H Q∨Hz o i v H Q
theorem ij(hu:X.A.units+1<cLine):PSet X oG:=by
 intro pins s σ H o i v ov iv u Q I ro ri rv q;rcases q with q|⟨a,H4,eo,g,q⟩
 ·exact A9 pins s σ H o i v ov iv u Q I ro ri rv q
 ·subst eo;cases ro;exact Fd hu I g ri rv λs4 I4=>⟨H4,I4,q⟩
theorem ze{β:Type}{k:Unit->M β}{Q:β->List ae->MH->Hp->Prop}{x y v:MV}{x' y' v':V}(R:HR G m h H)(rx:VR G m H x x')(ry:VR G m H y y')(rv:VR G m H v v')(P:Post G X E EX m H (bnd (ib x y v) k h) Q) :
  oG x' y' v' H λH'=>∃h',Ext m H m H'/\HR G m h' H'/\Post G X E EX m H' (k () h') Q:=by
 have P:=Post.bind P;cases x with
 |ref n=>cases y with
   |int i=>
     obtain⟨aa,ea,rfl⟩:=rx;obtain⟨oa,e1,q1,P4⟩:=bM R ea P;cases oa with
     |lst xs=>
       obtain⟨vs,r,z⟩:=q1;dsimp only at P4;cases ej:ixN xs.length i with
       |none=>simp only[ej]at P4;exact P4.elim
       |some j=>
         simp only[ej]at P4;have hj:L2.ixN vs.length i=some j:=by rw[←Paired.length r];exact ej
         refine .inl ⟨aa,vs,i,j,rfl,ry,z,hj,?_⟩;have hn:n<h.length:=by rw[←R.len];exact(bF.mp ea).1
         have x4:Ext m H m (upd H aa (.lst (vs.set j v'))):=Ext.upd ea z;simp only[put,hn,if_true]at P4;have R4:=R.upd (u:=.lst (vs.set j v')) (o:=.lst (xs.set j v)) ea (λo' ys z'=>by rw[z]at z';cases z') ⟨_,x4.vrs (yh rv j r),cG⟩;exact⟨_,x4,R4,P4 _ _ x4 R4⟩
     |_=>exact P4.elim
   |str i=>
     obtain⟨aa,ea,rfl⟩:=rx;obtain⟨oa,e1,q1,P4⟩:=bM R ea P;cases oa with
     |dct kvs=>
       obtain⟨ws,r,z⟩:=q1;dsimp only at P4;split at P4
       ·rename_i hz;cases(show y'=V.str i from ry);refine .inr ⟨aa,_,rfl,DPut.k (k:=Sum.inr i) z (by rw[←Paired.length r];exact cJ hz (small (aY _))),?_⟩
        have hn:n<h.length:=by rw[←R.len];exact(bF.mp ea).1
        have x4:Ext m H m (upd H aa (.dK (eS ws (Sum.inr i) v'))):=Ext.upd ea z;simp only[put,hn,if_true]at P4;have R4:=R.upd (u:=.dK (eS ws (Sum.inr i) v')) (o:=.dct (dput i v kvs)) ea (λo' ys z'=>by rw[z]at z';cases z') ⟨_,DR.mono x4.mn (FE rv r),cG⟩;exact⟨_,x4,R4,P4 _ _ x4 R4⟩
       ·exact P4.elim
     |_=>exact P4.elim
   |_=>exact P.elim
 |_=>exact P.elim
theorem iu(ho:GE G X o go)(hi:GE G X i gi)(he:GE G X e ge)(hs:swapsWithSole [.Subscript o i pos'] e pos.line X.env=pure false:=by rfl)(hw:swappedStores [.Subscript o i pos'] e X.env=pure none:=by rfl)
  (h1:(assignEach [.Subscript o i pos'] X.env).map (·.2)=[assign (.Subscript o i pos') X.env]:=by rfl) (hg:∀E t t',PE (X.wish E) o t->PE (X.wish E) i t'->PG (X.wish E) (.Subscript o i pos') (wk t t' oG)) :
  GS G EX X (.Assign [.Subscript o i pos'] e pos) (fU go gi ge):=λE hp=>
 gG (BA (X:=X.wish E) (he E EX) (hg E _ _ (ho E EX) (hi E EX)) hs hw h1) λD σ' H e0=>bL e0 λm h σ ex S R P=>sub ex S R P λv m1 h1 H1 v' x1 R1 r1 P1=>sub ex (S.mono x1) R1 P1 λw m2 h2 H2 w' x2 R2 r2 P2=>
  sub ex ((S.mono x1).mono x2) R2 P2 λy m3 h3 H3 y' x3 R3 r3 P3=>by
   rcases ze R3 (x3.vr r2) r3 ((x2.trans x3).vr r1) P3 with q|q
   ·obtain⟨p,xs,k,j,e1,e2,e3,e4,h4,x4,R4,P4⟩:=q;exact .inl ⟨p,xs,k,j,e1,e2,e3,e4,Post.here R4 P4 σ' ((((S.mono x1).mono x2).mono x3).mono x4)⟩
   ·obtain⟨a,H4,e1,g,h4,x4,R4,P4⟩:=q;exact .inr ⟨a,H4,e1,g,Post.here R4 P4 σ' ((((S.mono x1).mono x2).mono x3).mono x4)⟩
end
theorem Dh{c:av}{body:List aO}{gc:ME}{gb:MS}{pos:Pos}(hc:GT G X c gc)(hb:GSs G ET X body gb):GS G ET X (.While c body [] pos) (tR gc gb):=λE hp=>
 gG (B0 (X:=X.wish E) hp (hc E ET) (hb E hp)) λD σ' H e0=>bL e0 λm h σ ex S R P=>by
  let QD:MF->List ae->MH->Hp->Prop:=λf m' _ H'=>match f with
   |.next σ1=>∀σ1',SR G m' H' σ1 σ1'->D.nx σ1' H'
   |.brk σ1=>∀σ1',SR G m' H' σ1 σ1'->D.bk σ1' H'
   |.cnt σ1=>∀σ1',SR G m' H' σ1 σ1'->D.ct σ1' H'
   |.ret v=>∀v',VR G m' H' v v'->D.rt v' H'
  refine⟨λn σ2' H2=>∃m2 h2 σ2,SR G m2 H2 σ2 σ2'/\HR G m2 h2 H2/\Post G X E ET m2 H2 (jD gc gb n σ2 h2) QD,⟨1000,m,h,σ,S,R,P⟩,?_⟩;rintro n σ2' H2 ⟨m2,h2,σ2,S2,R2,P2⟩;cases n with
  |zero=>exact P2.elim
  |succ n=>
    refine mK (σ:=σ2) trivial S2 R2 P2 λk m3 h3 H3 x3 R3 P3=>?_;cases k with
    |false=>
      rw[if_neg bT];exact Post.here R3 P3 σ2' (S2.mono x3)
    |true=>
      rw[if_pos rfl];refine⟨λσ4' H4=>∃m4 h4 σ4,SR G m4 H4 σ4 σ4'/\HR G m4 h4 H4/\Post G X E ET m4 H4 (jD gc gb n σ4 h4) QD,λσ4' H4 q=>⟨n,qp n,q⟩,?_⟩;refine⟨m3,h3,σ2,trivial,S2.mono x3,R3,(Post.bind P3).mono λf m4 h4 H4 x4 R4 P4=>?_⟩;cases f with
      |next σ4=>exact λσ4' S4=>⟨m4,h4,σ4,S4,R4,P4⟩
      |cnt σ4=>exact λσ4' S4=>⟨m4,h4,σ4,S4,R4,P4⟩
      |brk σ4=>exact Post.here R4 P4
      |ret v=>exact Post.here R4 P4
def Row(G:Gb)(m:List ae)(H:Hp)(one:Bool)(vs:List MV)(x:V):Prop:=if one=true then ∃v,vs=[v]/\VR G m H v x else VR G m H (.tup vs) x
def JOk(G:Gb)(J:It)(s:Src)(one:Bool)(k:Nat)(m0:List ae)(H0:Hp):Prop:=∀m h H,Ext m0 H0 m H->HR G m h H->s.okIn h=true ->
 (∀i vs,s.items[i]?=some vs->vs.length=k/\J.go i H/\∀x H',J.yld i H x H'->Ext m H m H'/\HR G m h H'/\Row G m H' one vs x)/\J.stop s.items.length H
def GI(G:Gb)(X:Cx)(tg iter:av)(one:Bool)(k:Nat)(gi:MI):Prop:=∀E EX,∃wi,PI (X.wish E) tg iter wi/\∀σ' H R,(∃m h σ,EX σ'/\SR G m H σ σ'/\HR G m h H/\Post G X E EX m H (gi σ h) λs m1 h1 H1=>∀J,JOk G J s one k m1 H1->R J H1)->wi σ' H R
def GTg(G:Gb)(X:Cx)(tg:av)(one:Bool)(is:List Nat):Prop:=∀E,∃g,PG (X.wish E) tg g/\∀m H vs x σ σ' Q,SR G m H σ σ'->Row G m H one vs x->vs.length=is.length->(∀σ1',SR G m H (cL is vs σ) σ1'->Q σ1' H)->g x σ' H Q
theorem dZ{n:Nat}{x:Str}{pos:Pos}(hN:X.N.Nodup)(hi:X.N[n]?=some x:=by rfl)(hx:Loc X.env.scope x:=by first|exact Or.inl rfl|exact Or.inr rfl)(hf:X.fn x=true∨X.env.scope.names.lookup x=some .local:=by first|exact .inl rfl|exact .inr rfl):GTg G X (.Name x pos) true [n]:=λE=>
 ⟨qF n,wn (X:=X.wish E) hN hi hx hf,λm H vs v σ σ' Q S r hl q=>by
  obtain ⟨w,rfl,rw'⟩:=r;exact q _ (S.set n rw')⟩
def GTn(G:Gb)(X:Cx)(es:List av)(is:List Nat):Prop:=∀E,∃g,PGs (X.wish E) es g/\∀m H vs xs σ σ' Q,SR G m H σ σ'->VRs G m H vs xs->vs.length=is.length->(∀σ1',SR G m H (cL is vs σ) σ1'->Q σ1' H)->g xs σ' H Q
theorem ji:GTn G X [] []:=λE=>⟨yV,Dj,λm H vs xs σ σ' Q S r hl q=>by
 cases r with
 |nil=>exact⟨rfl,q _ S⟩
 | cons _ _=>simp at hl⟩
theorem d6{n:Nat}{x:Str}{pos:Pos}{es:List av}{is:List Nat}(h:GTn G X es is)(hN:X.N.Nodup)(hi:X.N[n]?=some x:=by rfl)(hx:Loc X.env.scope x:=by first|exact Or.inl rfl|exact Or.inr rfl)(hf:X.fn x=true∨X.env.scope.names.lookup x=some .local:=by first|exact .inl rfl|exact .inr rfl)
  (hs:(assignEach (.Name x pos::es) X.env).map (·.2)=assign (.Name x pos) X.env::(assignEach es X.env).map (·.2):=by rfl):GTn G X (.Name x pos::es) (n::is):=λE=>by
 obtain⟨g,pg,hg⟩:=h E;refine⟨AU (qF n) g,Cp (X:=X.wish E) (wn (X:=X.wish E) hN hi hx hf) pg hs,λm H vs xs σ σ' Q S r hl q=>?_⟩;cases r with
 |nil=>simp at hl
 |cons r t=>exact⟨_,_,rfl,hg m H _ _ _ _ _ (S.set n r) t (by simpa using hl) q⟩
theorem jh{es:List av}{k:Nat}{is:List Nat}{pos:Pos}(h:GTn G X es is)(hl:(assignEach es X.env).length=is.length:=by rfl)(hst:(assignEach es X.env).findIdx? (·.1)=none:=by rfl)(hc:X.calm=true:=by rfl)(hK:X.K=G.K:=by rfl):GTg G X (.Tuple es k pos) false is:=λE=>by
 obtain⟨g,pg,hg⟩:=h E;refine⟨xo X.K is.length g,D0 (X:=X.wish E) hc pg hl hst,λm H vs x σ σ' Q S r hl' q=>?_⟩;obtain⟨a,ws,rfl,_,z,t⟩:=(show ∃a ws,x=.ref a/\a∉m/\H a=some (.tup ws)/\VRl G m H vs ws from r);have t:=VRl.to t;exact⟨a,ws,rfl,SqT.of z,by rw[←Paired.length t];exact hl',hg m H vs ws σ σ' Q S t hl' q⟩
theorem fR{tg iter:av}{body:List aO}{gi:MI}{gb:MS}{one:Bool}{is:List Nat}{pos:Pos}(hi:GI G X tg iter one is.length gi)(hg:GTg G X tg one is)(hb:GSs G ET X body gb)(hc:X.calm=true:=by rfl)(hs:∀x,foldedSetIterable iter X.env x=pure x:=by intro _;rfl) :
  GS G ET X (.For tg iter body [] pos) (eP is gi gb):=λE hp=>by
 obtain⟨wi,pw,hw⟩:=hi E ET;obtain⟨g,pg,hg⟩:=hg E;refine gG (xa (X:=X.wish E) hp hc pw pg (hb E hp) hs) λD σ' H e0=>bL e0 λm h σ ex S R P=>?_
 let QD:MF->List ae->MH->Hp->Prop:=λf m' _ H'=>match f with
  |.next σ1=>∀σ1',SR G m' H' σ1 σ1'->D.nx σ1' H'
  |.brk σ1=>∀σ1',SR G m' H' σ1 σ1'->D.bk σ1' H'
  |.cnt σ1=>∀σ1',SR G m' H' σ1 σ1'->D.ct σ1' H'
  |.ret v=>∀v',VR G m' H' v v'->D.rt v' H'
 refine hw σ' H _ ⟨m,h,σ,trivial,S,R,(Post.bind P).mono λs m1 h1 H1 x1 R1 P1 J hJ=>?_⟩;refine ⟨λk n' σ2' H2=>n'=s.items.length - k/\k≤s.items.length/\∃m2 h2 σ2,Ext m1 H1 m2 H2/\SR G m2 H2 σ2 σ2'/\HR G m2 h2 H2/\Post G X E ET m2 H2 (dj s is gb (s.items.drop k) σ2 h2) QD,
  ⟨s.items.length,rfl,d9 _,m1,h1,σ,.refl,S.mono x1,R1,P1⟩,?_⟩
 rintro k n' σ2' H2 ⟨rfl,hk,m2,h2,σ2,pre2,S2,R2,P2⟩;by_cases hlt:k<s.items.length
 ·have ed:s.items.drop k=s.items[k]::s.items.drop (k+1):=(rW hlt);rw[ed]at P2;unfold dj at P2;split at P2
  ·rename_i hok;obtain⟨j1,_⟩:=hJ m2 h2 H2 pre2 R2 hok;obtain⟨lv,go,yl⟩:=j1 k s.items[k] (by simp[hlt]);refine .inr ⟨go,λσ4' H4=>∃m4 h4 σ4,Ext m1 H1 m4 H4/\SR G m4 H4 σ4 σ4'/\HR G m4 h4 H4/\Post G X E ET m4 H4 (dj s is gb (s.items.drop (k+1)) σ4 h4) QD,λσ4' H4 q=>⟨s.items.length-(k+1),by lia,rfl,hlt,q⟩,λx H' y=>?_⟩;obtain⟨x3,R3,rx⟩:=yl x H' y;refine hg m2 H' _ x σ2 σ2' _ (S2.mono x3) rx lv λσ3' S3=>?_;refine⟨m2,h2,cL is s.items[k] σ2,trivial,S3,R3,((Post.bind P2).ext x3).mono λf m4 h4 H4 x4 R4 P4=>?_⟩;have pre4:Ext m1 H1 m4 H4:=pre2.trans (x3.trans x4);cases f with
   |next σ4=>exact λσ4' S4=>⟨m4,h4,σ4,pre4,S4,R4,P4⟩
   |cnt σ4=>exact λσ4' S4=>⟨m4,h4,σ4,pre4,S4,R4,P4⟩
   |brk σ4=>exact Post.here R4 P4
   |ret v=>exact Post.here R4 P4
  ·exact P2.elim
 ·have e:k=s.items.length:=by lia
  subst e;rw[pG]at P2;unfold dj at P2;split at P2
  ·rename_i hok;obtain⟨_,st⟩:=hJ m2 h2 H2 pre2 R2 hok;exact .inl ⟨st,Post.here R2 P2 σ2' S2⟩
  ·exact P2.elim
theorem HK{n:Nat}{a:ae}{xs:List MV}(K:PySem.W.Frag)(ea:m[n]?=some a):JOk G (Itl K a) ⟨xs.map λv=>[v],[(n,xs)]⟩ true 1 m H:=by
 intro m2 h2 H2 pre R ok;have ea2:m2[n]?=some a:=pre.get ea;have eo:h2[n]?=some (.lst xs):=by simpa[Src.okIn,gH] using ok
 obtain⟨vs,r,z⟩:=R.ob n a _ ea2 eo;refine⟨λi ws ei=>?_,⟨vs,SqL.of z,by simp[Paired.length r]⟩⟩;rw[bz]at ei;cases ev:xs[i]? with
 |none=>rw[ev]at ei;cases ei
 |some v=>
   rw[ev]at ei;cases ei;obtain⟨v',e1,rv⟩:=eR r ev;refine⟨rfl,⟨vs,v',SqL.of z,e1⟩,λx H' y=>?_⟩;obtain⟨rfl,y2⟩:=y;have:=y2 vs (SqL.of z);rw[e1]at this;cases this;exact⟨.refl,R,v,rfl,rv⟩
theorem hZ{tg l:av}{gl:ME}(hl:GE G X l gl):GI G X tg l true 1 (dY gl):=λE EX=>by
 refine⟨_,vT (X:=X.wish E) (hl E EX),λσ' H R e0=>bL e0 λm h σ ex S Rr P=>?_⟩;refine sub ex S Rr P λv m1 h1 H1 v' x1 R1 r1 P1=>?_;cases v with
 |ref n=>
   obtain⟨aa,ea,rfl⟩:=r1;obtain⟨oa,e1,q1,P2⟩:=bM R1 ea P1;cases oa with
   |lst xs=>
     obtain⟨vs,r,z⟩:=q1;exact⟨aa,rfl,⟨vs,SqL.of z⟩,Post.here R1 P2 _ (HK _ ea)⟩
   |_=>exact P2.elim
 |_=>exact P1.elim
theorem zR{k:Nat}:∀{xs:List MV}{rs:List (List MV)}{i:Nat}{vs:List MV},eX k xs=some rs->rs[i]?=some vs->xs[i]?=some (.tup vs)/\vs.length=k
 |[],rs,i,vs,e,g=>by
   cases(show([]:List (List MV))=rs from Option.some.inj e);simp at g
 |.tup ys::xs,rs,i,vs,e,g=>by
   unfold eX at e;split at e
   ·rename_i hk;cases er:eX k xs with
    |none=>rw[er]at e;cases e
    |some r'=>
      rw[er]at e;cases e;cases i with
      |zero=>simp at g;subst g;exact⟨rfl,hk⟩
      |succ i=>exact zR (i:=i) er (by simpa using g)
   ·cases e
 |.non::xs,rs,i,vs,e,g=>by cases e
 |.bl _::xs,rs,i,vs,e,g=>by cases e
 |.int _::xs,rs,i,vs,e,g=>by cases e
 |.str _::xs,rs,i,vs,e,g=>by cases e
 |.ref _::xs,rs,i,vs,e,g=>by cases e
 |.scr _::xs,rs,i,vs,e,g=>by cases e
 |.any::xs,rs,i,vs,e,g=>by cases e
theorem AC{k:Nat}:∀{xs:List MV}{rs:List (List MV)},eX k xs=some rs->rs.length=xs.length
 |[],rs,e=>by cases(show([]:List (List MV))=rs from Option.some.inj e);rfl
 |.tup ys::xs,rs,e=>by
   unfold eX at e;split at e
   ·cases er:eX k xs with
    |none=>rw[er]at e;cases e
    |some r'=>rw[er]at e;cases e;simp[AC er]
   ·cases e
 |.non::xs,rs,e=>by cases e
 |.bl _::xs,rs,e=>by cases e
 |.int _::xs,rs,e=>by cases e
 |.str _::xs,rs,e=>by cases e
 |.ref _::xs,rs,e=>by cases e
 |.scr _::xs,rs,e=>by cases e
 |.any::xs,rs,e=>by cases e
theorem BS{n k:Nat}{a:ae}{xs:List MV}{rs:List (List MV)}(K:PySem.W.Frag)(ea:m[n]?=some a)(er:eX k xs=some rs):JOk G (Itl K a) ⟨rs,[(n,xs)]⟩ false k m H:=by
 intro m2 h2 H2 pre R ok;have ea2:m2[n]?=some a:=pre.get ea;have eo:h2[n]?=some (.lst xs):=by simpa[Src.okIn,gH] using ok
 obtain⟨vs,r,z⟩:=R.ob n a _ ea2 eo;refine⟨λi ws ei=>?_,⟨vs,SqL.of z,by rw[AC er,Paired.length r];exact aY _⟩⟩;obtain⟨ev,hk⟩:=zR er ei;obtain⟨v',e1,rv⟩:=eR r ev;refine⟨hk,⟨vs,v',SqL.of z,e1⟩,λx H' y=>?_⟩;obtain⟨rfl,y2⟩:=y;have:=y2 vs (SqL.of z);rw[e1]at this;cases this;exact⟨.refl,R,rv⟩
theorem qT{k:Nat}{tg l:av}{gl:ME}(hl:GE G X l gl):GI G X tg l false k (jo k gl):=λE EX=>by
 refine⟨_,vT (X:=X.wish E) (hl E EX),λσ' H R e0=>bL e0 λm h σ ex S Rr P=>?_⟩;refine sub ex S Rr P λv m1 h1 H1 v' x1 R1 r1 P1=>?_;cases v with
 |ref n=>
   obtain⟨aa,ea,rfl⟩:=r1;obtain⟨oa,e1,q1,P2⟩:=bM R1 ea P1;cases oa with
   |lst xs=>
     obtain⟨vs,r,z⟩:=q1;dsimp only at P2;cases er:eX k xs with
     |none=>simp only[er]at P2;exact P2.elim
     |some rs=>
       simp only[er]at P2;exact⟨aa,rfl,⟨vs,SqL.of z⟩,Post.here R1 P2 _ (BS _ ea er)⟩
   |_=>exact P2.elim
 |_=>exact P1.elim
theorem Az{lo:Int}{n:Nat}:JOk G (Itr lo n) ⟨dk lo n,[]⟩ true 1 m H:=by
 intro m2 h2 H2 _ R ok;refine⟨λi vs ei=>?_,by simp[dk,Itr]⟩;have hi:i<n:=by
  have:=(bF.mp ei).1;simpa[dk] using this
 unfold dk at ei;rw[bz,hG hi]at ei;cases ei;refine⟨rfl,hi,λx H' y=>?_⟩;obtain⟨rfl,y2⟩:=y;exact⟨.refl,R,_,rfl,y2⟩
theorem qu{tg a:av}{ga:ME}{p pos:Pos}(ha:GE G X a ga)(hm:X.mg "range"=none)(hg:Gl X "range":=by rfl)(hs:aH [a] X.env=[(false,aE a X.env)]:=by rfl):GI G X tg (.Call (.Name "range" p) [a] [] pos) true 1 (fF ga):=λE EX=>by
 refine⟨_,DL (X:=X.wish E) hg hm (ha.a1 hs E EX) hs,λσ' H R e0=>bL e0 λm h σ ex S Rr P=>?_⟩;refine sub ex S Rr P λv m1 h1 H1 v' x1 R1 r1 P1=>?_;cases v with
 |int j=>
   cases(show v'=V.int j from r1);dsimp only at P1
   split at P1
   ·rename_i c;exact⟨j,rfl,c.1,c.2,Post.here R1 P1 _ Az⟩
   ·exact P1.elim
 |_=>exact P1.elim
theorem zm{tg a b:av}{ga gb:ME}{p pos:Pos}(ha:GE G X a ga)(hb:GE G X b gb)(hm:X.mg "range"=none)(hg:Gl X "range":=by rfl)(hs:aH [a,b] X.env=[(false,aE a X.env),(false,aE b X.env)]:=by rfl)
  (hs2:aH [b] X.env=[(false,aE b X.env)]:=by rfl):GI G X tg (.Call (.Name "range" p) [a,b] [] pos) true 1 (ig ga gb):=λE EX=>by
 refine⟨_,Be (X:=X.wish E) hg hm (fg (X:=X.wish E) (ha E EX) (hb.a1 hs2 E EX) (by show aH [a,b] X.env=(false,aE a X.env)::aH [b] X.env;rw[hs,hs2])) hs hs2,λσ' H R e0=>bL e0 λm h σ ex S Rr P=>?_⟩;refine sub ex S Rr P λv m1 h1 H1 v' x1 R1 r1 P1=>sub ex (S.mono x1) R1 P1 λw m2 h2 H2 w' x2 R2 r2 P2=>?_;cases v with
 |int i=>cases w with
   |int j=>
     cases(show v'=V.int i from r1);cases(show w'=V.int j from r2);dsimp only at P2
     split at P2
     ·rename_i c;exact⟨i,j,rfl,c,Post.here R2 P2 _ Az⟩
     ·exact P2.elim
   |_=>exact P2.elim
 |_=>exact P2.elim
def kX(C a:ae)(ok:ae->Prop)(hp:aG):Prop:=
 ∃oe vs T oT ts,hp.get? a=some oe/\oe.cls=.ref C/\oe.dict=none/\oe.data=.fields vs/\1<vs.size/\ok a/\vs[1]?=some (.ref T)/\T≠a/\hp.get? T=some oT/\oT.data=.fields ts/\3<ts.size/\ok T
theorem kX.sh{C a:ae}{ok:ae->Prop}{hp:aG}(x:kX C a ok hp):kL C a ok hp:=by
 obtain⟨oe,vs,T,oT,ts,a1,a2,a3,a4,a5,a6,b1,b2,b3,b4,b5,b6⟩:=x;exact⟨oe,vs,a1,a2,a3,a4,a5,a6,.inr ⟨T,oT,ts,b1,b2,b3,b4,b5,b6⟩⟩
section
variable {M:Model}{A:bh}{pins:List (ae×az)}{s:ai}{C a:ae}{Q:Unit->ai->Prop}
theorem Fp.of{b:ae}(I:Inv X pins σ' H s)(e:s.heap.get? b=none)(n:H' b=none):Fp X pins H' b:=by
 have ne:∀c o,s.heap.get? c=some o->c≠b:=λc o q z=>by rw[z,e]at q;cases q
 refine⟨n,?_,λz=>?_,?_,λx c q=>?_,λp hp=>?_⟩
 ·obtain⟨_,⟨o,_,_,ho,_⟩,_⟩:=I.loc;exact λz=>ne _ o ho z.symm
 ·obtain⟨_,o,ho,_⟩:=I.funs.mem z;exact ne _ o ho rfl
 ·by_cases hx:b∈X.ex
  ·exact .inl hx
  ·cases q:X.s₀.heap.get? b with
   |none=>exact .inr rfl
   |some o=>
     obtain⟨o',q'⟩:=I.base.there b o q hx;exact absurd rfl (ne b o' q')
 ·obtain⟨v,o,ho,_⟩:=I.cell x c q;exact ne c o ho
 ·exact ne _ _ (I.pin p hp).1
theorem Fp.turned{b:ae}{h':aG}{t':Nat}(f:Fp X pins H b)(I:Inv X pins σ' H s)(k:∀c o,c≠b->s.heap.get? c=some o->h'.get? c=some o):Inv X pins σ' H { s with heap:=h',toks:=t' }:=by
 have n0:∀c o,X.s₀.heap.get? c=some o->c∉X.ex->c≠b:=λc o q hx z=>by
  rcases f.new with y|y
  ·exact hx (z▸y)
  ·rw[z,y]at q;cases q
 have ck:∀x c v,X.env.cells.lookup x=some c->s.heap.IsCell c v->h'.IsCell c v:=λx c v q e0=>e0.elim λo e1=>e1.elim λho hd=>⟨o,k c o (f.ce x c q) ho,hd⟩;refine⟨I.ok,I.os,I.bare,⟨λc o q n hb hx=>k c o (n0 c o q hx) (I.base.keep c o q n hb hx),λc o q n hb hx=>?_,λc o q n hx=>I.base.free c o q n hx,λc o q hx=>?_,I.base.tups,I.base.frzs,I.base.tbls⟩,?_,λx c q=>?_,I.free,I.freeC,λp hp=>?_,λc u e=>?_,I.len⟩
 ·obtain⟨sl,z⟩:=I.base.slot c o q n hb hx;exact⟨sl,k c _ (n0 c o q hx) z⟩
 ·obtain⟨o',z⟩:=I.base.there c o q hx;exact⟨o',k c o' (n0 c o q hx) z⟩
 ·obtain⟨mm,⟨o,es,ep,ho,r⟩,hl⟩:=I.loc;refine⟨mm,⟨o,es,ep,k _ o (Ne.symm f.loc) ho,r⟩,λi x v e1 e2 e3=>?_⟩;obtain⟨u,ru,l⟩:=hl i x v e1 e2 e3;refine⟨u,ru,?_⟩;rcases l with l|⟨kk,c,e,z⟩
  ·exact .inl l
  ·exact .inr ⟨kk,c,e,ck x c _ e z⟩
 ·obtain⟨v,z⟩:=I.cell x c q;exact⟨v,ck x c v q z⟩
 ·obtain⟨a1,a2,a3,a4,a5⟩:=I.pin p hp;exact⟨k _ _ (f.pin p hp) a1,a2,a3,a4,a5⟩
 ·refine(I.hok c u e).stay (λd v hd q=>k d v ?_ q) (λ_ q=>q) λ_ _ q=>q;rcases hd with z|z
  ·rw[z];exact λy=>by rw[y,f.un]at e;cases e
  ·exact λy=>by rw[y,f.un]at z;cases z
theorem qD{fr:Option ae}(I:Inv X pins σ' H s)(x:kX C a (Fp X pins H) s.heap)(k:∀s',Inv X pins σ' H s'->kX C a (Fp X pins H) s'.heap->Q () s'):aq M A (setFlight (.ref a) fr) Q E s:=by
 obtain⟨oe,vs,T,oT,ts,a1,a2,a3,a4,a5,a6,b1,b2,b3,b4,b5,b6⟩:=x;unfold setFlight;refine ak (de a1 a4 b1 ?_);rw[if_pos (show(Value.ref T != Value.none)=true from by simp)];have hd:=Obj.data_mapFields b4 (·.setIfInBounds 3 (fr.elim Value.none λf=>cw f));refine wpAny_setField b3 b4 b5 (k { s with heap:=s.heap.update T (Obj.mapFields (·.setIfInBounds 3 (fr.elim Value.none λf=>cw f))) } (b6.turned (t':=s.toks) I λc o hc q=>?_) ⟨oe,vs,T,_,_,?_,a2,a3,a4,a5,a6,b1,b2,im _ b3 (Obj.isFreed_of_fields hd),hd,by simpa using b5,b6⟩)
 ·exact(gj _ _ (Ne.symm hc)).trans q
 ·exact(gj _ _ b2).trans a1
theorem wT{fr:Option ae}(I:Inv X pins σ' H s)(x:Exc X pins H C a s)(k:∀s',Inv X pins σ' H s'->Exc X pins H C a s'->Q () s'):aq M A (setFlight (.ref a) fr) Q E s:=by
 obtain⟨oe,vs,a1,a2,a3,a4,a5,a6,a7⟩:=id x;rcases a7 with a7|⟨T,oT,ts,b1,b2,b3,b4,b5,b6⟩
 ·unfold setFlight;refine ak (de a1 a4 a7 ?_);rw[if_neg (by decide)];exact aI (k s I x)
 ·exact qD I ⟨oe,vs,T,oT,ts,a1,a2,a3,a4,a5,a6,b1,b2,b3,b4,b5,b6⟩ λs' I' x'=>k s' I' x'.sh
theorem Inv.slots{h':aG}(I:Inv X pins σ' H s)(hs:Heap.SlotsOnly (frs X.stack) s.heap h'):Inv X pins σ' H { s with heap:=h' }:=by
 have nt:∀b u,H b=some u->b∉frs X.stack:=λb u e z=>by rw[I.stkFree b z]at e;cases e
 refine I.call' (s':={ s with heap:=h' }) (ch:=[]) rfl ?_ ?_ I.bare (λb z=>absurd z (by simp))
 ·exact⟨λb o e n nf _=>(hs.2.1 b nf).trans e,λb o e n _ _=>hs.2.2 b o e,λb o e n _=>n,λb o e _=>let ⟨sl,q⟩:=hs.2.2 b o e;⟨_,q⟩,λb xs e=>e,λb o u e=>e,λb ps e=>⟨#[],by rw[e];simp⟩⟩
 ·intro b u e;refine(I.hok b u e).stay (λc v hc q=>?_) (λ_ q=>q) λ_ _ q=>q;rcases hc with z|z
  ·rw[z]at q ⊢;exact(hs.2.1 b (nt b u e)).trans q
  ·exact(hs.2.1 c (nt c _ z)).trans q
theorem Am{head:ag}{hn:Bool}(hfr:A.frames=some (X.env::X.outer))(hst:X.stack=X.env::X.outer)(hf:X.env.frame=some X.env.locals)(I:Inv X pins σ' H s)(x:Exc X pins H C a s)
  (k:∀s',Inv X pins σ' H s'->kX C a (Fp X pins H) s'.heap->Q () s') :
  aq M A (do let b ←frameOf X.env;let pl ←entryPlaceOf X.env.locals hn;let t ←EntryCells.newEntry head b .none (cw X.env.locals) .none pl;setField (.ref a) 1 t) Q E s:=by
 obtain⟨oe,vs,a1,a2,a3,a4,a5,a6,a7⟩:=id x;have hl:s.heap.FunFrames X.base (X.env::X.outer):=hst▸I.stack;refine ak (wpAny_frameOf_fun hfr hl hf λh₁ hs₁=>?_);refine ak (wpAny_entryPlaceOf λpl hpl=>?_);unfold EntryCells.newEntry newFields;refine ak (wpAny_newObj_type ?_ (hpl.sizeOk5 _ _ _ _ _));have hne:a∉frs X.stack:=λhm=>by
  rw[hst]at hm;obtain⟨_,o,ho,hnf⟩:=hl.mem hm;rw[a1]at ho;cases ho;exact hnf vs a4
 have I₁:Inv X pins σ' H { s with heap:=h₁ }:=Inv.slots I (by rw[hst];exact hs₁);have e₁:h₁.get? a=some oe:=(hs₁.2.1 a (by rw[hst]at hne;exact hne)).trans a1;have e₂:=bv (h:=h₁) { cls:=.type "traceback",dict:=none,data:=.fields ([head,.ref X.env.locals,.none,cw X.env.locals,.none]++(if pl.isEmpty then cr 6 Value.none else pl)).toArray } e₁;have I₂:=I₁.kept (t':=s.toks) (h':=h₁.push { cls:=.type "traceback",dict:=none,data:=.fields ([head,.ref X.env.locals,.none,cw X.env.locals,.none]++(if pl.isEmpty then cr 6 Value.none else pl)).toArray }) λb o e=>bv _ e;have hTa:h₁.objs.size≠a:=c9 (bc e₁);have fT:Fp X pins H h₁.objs.size:=Fp.of I₁ (i4 (aY _)) (I₁.hok.fresh (aY _));have hd:=Obj.data_mapFields a4 (·.setIfInBounds 1 (Value.ref h₁.objs.size));refine wpAny_setField e₂ a4 a5 (k _ (a6.turned (t':=s.toks) I₂ λc o hc q=>(gj _ _ (Ne.symm hc)).trans q) ?_);have hT:=(gj (h₁.push { cls:=.type "traceback",dict:=none,data:=.fields ([head,.ref X.env.locals,.none,cw X.env.locals,.none]++(if pl.isEmpty then cr 6 Value.none else pl)).toArray }) (Obj.mapFields (·.setIfInBounds 1 (Value.ref h₁.objs.size))) (Ne.symm hTa)).trans (cR h₁ rfl);refine⟨_,_,h₁.objs.size,_,_,im _ e₂ (Obj.isFreed_of_fields hd),(Obj.cls_mapFields _ _).trans a2,?_,hd,by simpa using a5,a6,by simp[a5],hTa,hT,rfl,?_,fT⟩
 ·obtain⟨c,d,dt,sl⟩:=oe;cases dt <;> exact a3
 ·simp only[cf,iF,eQ,iN];lia
theorem um(hfr:A.frames=some (X.env::X.outer))(hst:X.stack=X.env::X.outer)(hf:X.env.frame=some X.env.locals)(I:Inv X pins σ' H s)(x:Exc X pins H C a s)
  (k:∀s',Inv X pins σ' H s'->kX C a (Fp X pins H) s'.heap->Q () s'):aq M A (noteFrame (.ref a) X.env) Q E s:=by
 obtain⟨oe,vs,a1,a2,a3,a4,a5,a6,a7⟩:=id x;unfold noteFrame;simp only[hf];rcases a7 with a7|⟨T,oT,ts,b1,b2,b3,b4,b5,b6⟩
 ·refine ak (de a1 a4 a7 ?_);rw[if_neg (by decide)];exact Am hfr hst hf I x k
 ·refine ak (de a1 a4 b1 ?_);rw[if_pos (show(Value.ref T != Value.none)=true from by simp)];obtain⟨v3,h3⟩:∃v,ts[3]?=some v:=⟨ts[3],by simp[b5]⟩
  refine ak (de b3 b4 h3 ?_);by_cases hq:(v3 == cw X.env.locals)=true
  ·rw[if_pos hq];exact aI (k s I ⟨oe,vs,T,oT,ts,a1,a2,a3,a4,a5,a6,b1,b2,b3,b4,b5,b6⟩)
  ·rw[if_neg hq];have hd:=Obj.data_mapFields b4 (·.setIfInBounds 3 Value.none);refine ak (wpAny_setField b3 b4 b5 ?_);refine Am hfr hst hf (s:={ s with heap:=s.heap.update T (Obj.mapFields (·.setIfInBounds 3 Value.none)) }) (b6.turned (t':=s.toks) I λc o hc q=>?_) ?_ k
   ·exact(gj _ _ (Ne.symm hc)).trans q
   ·exact⟨oe,vs,(gj _ _ b2).trans a1,a2,a3,a4,a5,a6,.inr ⟨T,_,_,b1,b2,im _ b3 (Obj.isFreed_of_fields hd),hd,by simpa using b5,b6⟩⟩
end
def EB(G:Gb)(X:Cx)(EX:St->Prop)(pins:List (ae×az))(m:List ae)(H:Hp)(c:Nat)(h0:MH):ag->ai->Prop:=λe s'=>
 ∃σ' m' H' a,EX σ'/\Ext m H m' H'/\HR G m' h0 H'/\Inv X pins σ' H' s'/\e=.ref a/\Exc X pins H' (G.cl c) a s'
theorem EB.passes{pins:List (ae×az)}{c:Nat}{h0:MH}(hfr:X.A.frames=some (X.env::X.outer))(hst:X.stack=X.env::X.outer)(hf:X.env.frame=some X.env.locals) :
  PassesOwn (aw X.prog X.w) X.A X.env (EB G X EX pins m H c h0):=by
 rintro e s ⟨σ',m',H',a,ex,x,R,I,rfl,q⟩;refine um hfr hst hf I q λs1 I1 q1=>?_;unfold cameBackBy;obtain⟨oe,vs,T,oT,ts,a1,a2,a3,a4,a5,a6,b1,b2,b3,b4,b5,b6⟩:=id q1;refine ak (de a1 a4 b1 ?_);rw[if_neg (by simp)];exact qD I1 q1 λs2 I2 q2=>⟨σ',m',H',a,ex,x,R,I2,rfl,q2.sh⟩
def CXe(P:bf)(w:aU):CXT:=λouter H s E e s'=>
 ∃a C H',e=.ref a/\s'.os=s.os/\AllBare s'.gens/\Un (frs outer) [] H H' s.heap s'.heap/\HOk P w H' s'.heap/\kL C a (λb=>s.heap.get? b=none/\H' b=none) s'.heap/\E (.ref C) none H'
def SpG(cl:Nat->ae)(K:PySem.W.Frag)(n:Nat)(f:Fn):Sp:=λvs H Q E=>∃sa ns m h ms,vs.length=n/\VRs ⟨cl,K,sa,ns⟩ m H ms vs/\HR ⟨cl,K,sa,ns⟩ m h H /\
 match f ms h with
 |.ok v h'=>∀m' H' v',Ext m H m' H'->HR ⟨cl,K,sa,ns⟩ m' h' H'->VR ⟨cl,K,sa,ns⟩ m' H' v v'->Q v' H'
 |.exc c h'=>∀m' H',Ext m H m' H'->HR ⟨cl,K,sa,ns⟩ m' h' H'->E (.ref (cl c)) none H'
 |.stuck=>False
structure FnG(P:bf)(w:aU)(K:PySem.W.Frag)(mg:Str->Option ag)(base:aG)(cl:Nat->ae)(k:Nat)(f:ae)(fd:aW)(ps:List Str)(gf:Fn):Prop where
 ok:ip P w K mg base (CXe P w) k f fd ps (SpG cl K ps.length gf)
 ar:∀ms h,gf ms h≠.stuck->ms.length=ps.length
theorem y9{E':ag->ai->Prop}{st:List aO}{t:TS}(p:PSs (X.wish E') st t)(f:∀e s',E' e s'->X.xe e s'):PSs X st t:=λpins s σ H D I hw=>
 cn (p pins s σ H D (I.wish E') hw) (λ_ _ q=>SP.unwish q) f
theorem Cy{st:List aO}{t:TS}(p:X.Ok->PSs X st t):PSs X st t:=λpins s σ H D I hw=>p I.ok pins s σ H D I hw
theorem FQ{ms:List MV}{vs:List V}{N:List Str}(r:VRs G m H ms vs):SR G m H (ms.map some++cr (N.length-ms.length) none) (start N vs):=by
 refine⟨by simp[start,Paired.length r],λi v e=>?_⟩;have hi:i<ms.length:=by
  by_cases hi:i<ms.length
  ·exact hi
  ·rw[jw (by simpa using hi),mW]at e;split at e <;> cases e
 rw[fq (by simpa using hi),bz]at e;cases e1:ms[i]? with
 |none=>rw[e1]at e;cases e
 |some w=>
   rw[e1]at e;cases e;obtain⟨v',q,rv⟩:=eR r e1;refine⟨v',?_,rv⟩;unfold start;rw[fq (by simpa[←Paired.length r] using hi),bz,q]
   rfl
section
variable {P:bf}{w:aU}{K:PySem.W.Frag}{mg:Str->Option ag}{base:aG}{cl:Nat->ae}
theorem Ah{x qual:Str}{st:aO}{f:ae}{fd:aW}{N ps:List Str}{k:Nat}{g:MS}{gf:Fn}(F:Fun K x qual st f fd)(S:br N ps (bi st))(hgf:gf=fnOf ps.length N.length g)
  (hbody:∀(cdv:ag),fd.code=cdv->∀(A:bh) (outer:List Env) (s:ai) (H:Hp) (E:XK) (sa:ae) (ns:List Int),Room k (A.deeper (envOfC qual (bi st) s.heap.objs.size f cdv)) ->
   GSs ⟨cl,K,sa,ns⟩ ET (jg (CXe P w) P w K mg base N qual (bi st) f cdv A outer s H E) (jI st) g):FnG P w K mg base cl (k + 1) f fd ps gf:=by
 subst hgf;refine⟨?_,λms h q=>?_⟩
 rotate_left
 ·unfold fnOf at q;split at q
  ·assumption
  ·exact absurd rfl q
 obtain⟨oc,od,kV,doc,pm,an,cdv,ct,osl,rfl,lk,hcd⟩:=F.ex;refine Gi lk hcd S (λvs H Q E q=>?_) λA outer s H vs Q E hr hsp=>?_
 ·obtain⟨sa,ns,m,h,ms,hl,_⟩:=q;exact hl
 ·obtain⟨sa,ns,m,h,ms,hl,rv,R,post⟩:=hsp;have hb:=hbody cdv rfl A outer s H E sa ns hr;have S0:=FQ (N:=N) rv;cases e:g (ms.map some++cr (N.length-ms.length) none) h with
  |ok fl h'=>
    refine⟨_,y9 (hb (λ_ _=>False) PassesOwn.never) (λ_ _ z=>z.elim),m,h,_,trivial,S0,R,?_⟩;rw[e];unfold fnOf at post;rw[if_pos (show ms.length=ps.length from(Paired.length rv).trans hl)]at post;simp only[bnd,e]at post;intro m' H' x R';cases fl with
    |next σ1=>exact λ_ _=>post m' H' .non x R' rfl
    |ret v=>exact λv' r=>post m' H' v' x R' r
    |brk σ1=>exact post.elim
    |cnt σ1=>exact post.elim
  |exc c h'=>
    unfold fnOf at post;rw[if_pos (show ms.length=ps.length from(Paired.length rv).trans hl)]at post;simp only[bnd,e]at post;refine⟨_,Cy λok=>y9 (hb (EB ⟨cl,K,sa,ns⟩ _ ET [] m H c h') (EB.passes ok.frames rfl rfl)) ?_,m,h,_,trivial,S0,R,?_⟩
    ·rintro ev s' ⟨σ',m',H',a,_,x,R',I,rfl,q⟩;show aq (aw P w) _ (leaving _ (.ref a)) _ _ s';unfold leaving;refine ak (um ok.frames rfl rfl I q λs1 I1 q1=>?_);refine qD I1 q1 λs2 I2 q2=>⟨a,cl c,H',rfl,I2.os,I2.bare,I2.base,I2.hok,q2.sh.imp (λb fb=>⟨fb.new.elim (λz=>absurd z (by simp[jg])) id,fb.un⟩),post m' H' x R'⟩
    ·rw[e];intro pins σ' m' H' a s' _ x R' I q;exact⟨σ',m',H',a,trivial,x,R',I.pins_of (λp hp=>absurd hp (by simp)),rfl,q.imp λb fb=>⟨fb.un,fb.loc,fb.fs,fb.new,fb.ce,λp hp=>fb.pin p (i7 _ (by simpa using hp))⟩⟩
  |stuck=>
    unfold fnOf at post;rw[if_pos (show ms.length=ps.length from(Paired.length rv).trans hl)]at post;simp only[bnd,e]at post
theorem bD{x qual:Str}{st:aO}{f:ae}{fd:aW}{N ps:List Str}{k:Nat}{g:MS}{gf:Fn}(F:Fun K x qual st f fd)(S:br N ps (bi st))(hgf:gf=fnOf ps.length N.length g)
  (hbody:∀(cdv:ag) (A:bh) (outer:List Env) (s:ai) (H:Hp) (E:XK) (sa:ae) (ns:List Int),Room k (A.deeper (envOfC qual (bi st) s.heap.objs.size f cdv)) ->
   GSs ⟨cl,K,sa,ns⟩ ET (jg (CXe P w) P w K mg base N qual (bi st) f cdv A outer s H E) (jI st) g):FnG P w K mg base cl (k + 1) f fd ps gf:=Ah F S hgf λcdv _=>hbody cdv
end
abbrev FnX(G:Gb)(X:Cx)(k:Nat)(f:ae)(fd:aW)(ps:List Str)(gf:Fn):Prop:=FnG X.prog X.w X.K X.mg X.base G.cl k f fd ps gf
section
variable {k:Nat}{f:ae}{fd:aW}{ps:List Str}{gf:Fn}{pins:List (ae×az)}{s:ai}{Q:VK}{us:List ag}{vs:List V}{ms:List MV}
def EXK(G:Gb)(m:List ae)(H:Hp)(r:Res MV):XK:=λC _ H'=>match r with
 |.exc c h'=>C=.ref (G.cl c)/\∃m',Ext m H m' H'/\HR G m' h' H'
 |_=>False
theorem Aj(hK:X.K=G.K)(rv:VRs G m H ms vs)(R:HR G m h H)(hl:ms.length=ps.length)(ns:gf ms h≠.stuck){Q:VK}(P:∀v h',gf ms h=.ok v h'->∀m' H' v',Ext m H m' H'->HR G m' h' H'->VR G m' H' v v'->Q v' H') :
  SpG G.cl X.K ps.length gf vs H Q (EXK G m H (gf ms h)):=by
 rw[hK];refine⟨G.sa,G.ns,m,h,ms,(Paired.length rv).symm.trans hl,rv,R,?_⟩;cases e:gf ms h with
 |ok v h'=>exact P v h' e
 |exc c h'=>exact λm' H' x R'=>⟨rfl,m',x,R'⟩
 |stuck=>exact absurd e ns
theorem yC(I:Inv X pins σ' H s){r:Res MV}{e:ag}{s':ai}(q:CXe X.prog X.w X.stack H s (EXK G m H r) e s') :
  ∃c h' m' H' a,r=.exc c h'/\e=.ref a/\Ext m H m' H'/\HR G m' h' H'/\Inv X pins σ' H' s'/\Exc X pins H' (G.cl c) a s':=by
 obtain⟨a,C,H',rfl,os,bare,un,hok,sh,ek⟩:=q;cases r with
 |exc c h'=>
   obtain⟨ec,m',x,R'⟩:=ek;cases ec;exact⟨c,h',m',H',a,rfl,rfl,x,R',I.call' os un hok bare (λb z=>absurd z (by simp)),sh.imp λb z=>Fp.of I z.1 z.2⟩
 |ok v h'=>exact ek.elim
 |stuck=>exact ek.elim
theorem vk(F:FnX G X k f fd ps gf)(hr:Room k X.A)(hb:Binds X.K fd ps [])(hK:X.K=G.K)(I:Inv (X.wish E) pins σ' H s)(ex:EX σ')(R:HR G m h H)(rv:VRs G m H ms vs)(r:Vals vs us)
  (P:Post G X E EX m H (gf ms h) λv m' _ H'=>∀v',VR G m' H' v v'->Q v' H'):aq (aw X.prog X.w) X.A (call (.ref f) us) (EP (X.wish E) pins σ' Q) E s:=by
 have ns:gf ms h≠.stuck:=λz=>by rw[z]at P;exact P
 have hl:=F.ar ms h ns;have hu:us.length=ps.length:=by rw[←r.length,←Paired.length rv];exact hl
 have bt:BindsTo s fd ⟨us,[]⟩ (ps.zip us):=by
  have:=hb s us I.kIn (by simpa using hu);simpa using this
 refine wpAny_call (codeAny_mono (F.ok.run X.A X.stack s H ⟨us,[]⟩ us vs Q (EXK G m H (gf ms h)) hr I.unwish.env0 bt r (Aj hK rv R hl ns λv h' e m' H' v' x R' q=>?_)) λrr s' hq=>?_)
 ·rw[e]at P;exact P m' H' x R' v' q
 ·cases rr with
  |error ev=>
    obtain⟨c,h',m',H',a,er,rfl,x,R',I',q⟩:=yC I.unwish hq;rw[er]at P;exact P pins σ' m' H' a s' ex x R' I' q
  |ok fl=>
    cases fl with
    |ret u=>exact I.after hq
    |next=>exact False.elim hq
    |brk=>exact False.elim hq
    |cont=>exact False.elim hq
end
section
variable {k:Nat}{f C:ae}{fd:aW}{ps:List Str}{gf:Fn}{x:Str}{p pos apos:Pos}{e o:av}{es:List av}{ga:MA}{go:ME}
theorem bJ(F:FnX G X k f fd ps gf)(hr:Room k X.A)(hm:X.mg x=some (.ref f))(hk:PySem.W.keepIn X.K (.ref f)=true)(hb:Binds X.K fd ps [])(ha:GA G X (e::es) ga)(hg:Gl X x:=by rfl)(hK:X.K=G.K:=by rfl)
  (hdb:(x == ("__debug__":Str))=false:=by decide) (he:aH (e::es) X.env=(false,aE e X.env)::aH es X.env:=by rfl) (hpl:(backTo pos (aH es X.env)).any (·.1)=false:=by rfl) :
  GE G X (.Call (.Name x p) (e::es) [] pos) (bE gf ga):=λE EX pins s σ' H Q I e0=>bL e0 λm h σ ex S R P=>by
 refine wpAny_Call_Name_kw (kB I hg hm ?_ hdb);refine PySem.W.callWith_K (h₀:=X.base) I.ok.mod.kin hk (thn (ha E EX pos pins s σ' H (λvs H1=>∃m1 h1 ms,HR G m1 h1 H1/\VRs G m1 H1 ms vs/\Post G X E EX m1 H1 (gf ms h1) λv m' _ H'=>∀v',VR G m' H' v v'->Q v' H') I
  (jG ex S R P λms m1 h1 H1 vs x1 R1 r1 P1=>⟨m1,h1,ms,R1,r1,P1⟩)) λus s1 e0=>bo e0 λvs H1 I1 r e4=>e4.elim λm1 e5=>e5.elim λh1 e6=>e6.elim λms e7=>e7.elim λR1 e8=>e8.elim λrv P1=>⟨I1.kIn,?_⟩) he hpl
 exact vk (X:=X) F hr hb hK I1 ex R1 rv r P1
theorem yP{c:Nat}{mth:String}{n:Nat}{x':V}{β:Type}{kk:M β}{Q:β->List ae->MH->Hp->Prop}(R:HR G m h H)(r:VR G m H (.ref n) x')
  (P:Post G X E EX m H (bnd (look n) (λob=>match ob with
   |.ins c' fs=>if c'=c/\fs.lookup mth=none then kk else stk
   | _=>stk) h) Q):∃a dx ws,x'=.ref a/\H a=some (.ins (G.cl c) dx ws)/\ws.lookup (aF mth)=none/\Post G X E EX m H (kk h) Q:=by
 obtain⟨a,ea,rfl⟩:=r;obtain⟨oa,e1,q1,P1⟩:=bM R ea P;cases oa with
 |ins c' fs=>
   dsimp only at P1;split at P1
   ·rename_i cc;obtain⟨rfl,hn⟩:=cc;obtain⟨dx,ws,rf,z⟩:=q1;exact⟨a,dx,ws,rfl,z,xC rf hn,P1⟩
   ·exact P1.elim
 |_=>exact P1.elim
theorem bR{pl:Sem Bool}{c:Nat}{mth:String}(ho:GE G X o go)(cC:Cls X.K (G.cl c))(hm:Meth X.K (G.cl c) (aF mth) f)(F:FnX G X k f fd ps gf)(hr:Room k X.A)(hb:Binds X.K fd ps [])(ha:GA G X (e::es) ga)(hK:X.K=G.K:=by rfl)
  (hst:aH (e::es) X.env=(false,aE e X.env)::aH es X.env:=by rfl) (hpl:(backTo pos (aH es X.env)).any (·.1)=false:=by rfl)
  (ht:aE (.Call (.Attribute o (aF mth) apos) (e::es) [] pos) X.env=(do
   let ov ←aE o X.env
   standAt apos.atName
   let (f,first) ←holding [ov] (getMethod ov (aF mth) pl)
   callWith pos f first (backTo pos (aH (e::es) X.env)) (backToKw pos (keywordEach [] X.env))):=by rfl) :
  GE G X (.Call (.Attribute o (aF mth) apos) (e::es) [] pos) (aL c mth gf go ga):=λE EX pins s σ' H Q I e0=>bL e0 λm h σ ex S R P=>by
 refine PySem.W.methodCall_KW (pl:=pl) (thn (ho E EX pins s σ' H (λx H1=>∃a dx ws,x=.ref a/\H1 a=some (.ins (G.cl c) dx ws)/\ws.lookup (aF mth)=none/\∃m1 h1 n,HR G m1 h1 H1/\SR G m1 H1 σ σ'/\VR G m1 H1 (.ref n) x /\
   Post G X E EX m1 H1 (bnd (ga σ) (λxs=>gf (.ref n::xs)) h1) λv m' _ H'=>∀v',VR G m' H' v v'->Q v' H') I (sub ex S R P λv m1 h1 H1 v' x1 R1 r1 P1=>?_)) λu s1 e0=>bo e0 λx H1 I1 rx e4=>e4.elim λa e5=>e5.elim λdx e6=>e6.elim λws e7=>e7.elim λexx e8=>e8.elim λea e9=>e9.elim λl e10=>e10.elim λm1 e11=>e11.elim λh1 e12=>e12.elim λn e13=>e13.elim λR1 e14=>e14.elim λS1 e15=>e15.elim λrn P1=>?_) ht
 ·cases v with
  |ref n=>
    obtain⟨a,dx,ws,e1,e2,e3,P2⟩:=yP R1 r1 P1;exact⟨a,dx,ws,e1,e2,e3,m1,h1,n,R1,S.mono x1,r1,P2⟩
  |_=>exact P1.elim
 ·subst exx;obtain rfl:u=Value.ref a:=rx;refine zu I1 ea cC hm l ?_;refine PySem.W.callWith_K (first:=[.ref a]) (h₀:=X.base) I.ok.mod.kin hm.kp (thn (ha E EX pos pins s1 σ' H1 (λvs H2=>∃m2 h2 ms,HR G m2 h2 H2/\VRs G m2 H2 (.ref n::ms) (.ref a::vs)/\Post G X E EX m2 H2 (gf (.ref n::ms) h2) λv m' _ H'=>∀v',VR G m' H' v v'->Q v' H') I1
   (jG ex S1 R1 P1 λms m2 h2 H2 vs x2 R2 r2 P2=>⟨m2,h2,ms,R2,.cons (x2.vr rn) r2,P2⟩)) λus s2 e0=>bo e0 λvs H2 I2 r e4=>e4.elim λm2 e5=>e5.elim λh2 e6=>e6.elim λms e7=>e7.elim λR2 e8=>e8.elim λrv P2=>⟨I2.kIn,?_⟩) hst hpl
  exact vk (X:=X) (us:=.ref a::us) (vs:=.ref a::vs) F hr hb hK I2 ex R2 rv (.cons rfl r) P2
theorem c7{pl:Sem Bool}{c:Nat}{mth:String}(ho:GE G X o go)(cC:Cls X.K (G.cl c))(hm:Meth X.K (G.cl c) (aF mth) f)(F:FnX G X k f fd ps gf)(hr:Room k X.A)(hb:Binds X.K fd ps [])(hK:X.K=G.K:=by rfl)
  (ht:aE (.Call (.Attribute o (aF mth) apos) [] [] pos) X.env=(do
   let ov ←aE o X.env
   standAt apos.atName
   let (f,first) ←holding [ov] (getMethod ov (aF mth) pl)
   callWith pos f first (backTo pos (aH [] X.env)) (backToKw pos (keywordEach [] X.env))):=by rfl) :
  GE G X (.Call (.Attribute o (aF mth) apos) [] [] pos) (aL c mth gf go au):=λE EX pins s σ' H Q I e0=>bL e0 λm h σ ex S R P=>by
 refine PySem.W.methodCall_KW (pl:=pl) (thn (ho E EX pins s σ' H (λx H1=>∃a dx ws,x=.ref a/\H1 a=some (.ins (G.cl c) dx ws)/\ws.lookup (aF mth)=none/\∃m1 h1 n,HR G m1 h1 H1/\SR G m1 H1 σ σ'/\VR G m1 H1 (.ref n) x /\
   Post G X E EX m1 H1 (bnd (au σ) (λxs=>gf (.ref n::xs)) h1) λv m' _ H'=>∀v',VR G m' H' v v'->Q v' H') I (sub ex S R P λv m1 h1 H1 v' x1 R1 r1 P1=>?_)) λu s1 e0=>bo e0 λx H1 I1 rx e4=>e4.elim λa e5=>e5.elim λdx e6=>e6.elim λws e7=>e7.elim λexx e8=>e8.elim λea e9=>e9.elim λl e10=>e10.elim λm1 e11=>e11.elim λh1 e12=>e12.elim λn e13=>e13.elim λR1 e14=>e14.elim λS1 e15=>e15.elim λrn P1=>?_) ht
 ·cases v with
  |ref n=>
    obtain⟨a,dx,ws,e1,e2,e3,P2⟩:=yP R1 r1 P1;exact⟨a,dx,ws,e1,e2,e3,m1,h1,n,R1,S.mono x1,r1,P2⟩
  |_=>exact P1.elim
 ·subst exx;obtain rfl:u=Value.ref a:=rx;refine zu I1 ea cC hm l ?_;exact PySem.W.callWith_K0 (first:=[.ref a]) I1.kIn hm.kp (vk (X:=X) (us:=[.ref a]) (vs:=[.ref a]) F hr hb hK I1 ex R1 (.cons rn .nil) (.cons rfl .nil) P1)
theorem mP{c:Nat}(M:Mk X.K (G.cl c) f)(F:FnX G X k f fd ps gf)(hr:Room (k+1) X.A)(hm:X.mg x=some (.ref (G.cl c)))(hb:Binds X.K fd ps [])(ha:GA G X (e::es) ga)(hg:Gl X x:=by rfl)(hK:X.K=G.K:=by rfl)
  (hdb:(x == ("__debug__":Str))=false:=by decide) (he:aH (e::es) X.env=(false,aE e X.env)::aH es X.env:=by rfl) (hpl:(backTo pos (aH es X.env)).any (·.1)=false:=by rfl) :
  GE G X (.Call (.Name x p) (e::es) [] pos) (iS c gf ga):=λE EX pins s σ' H Q I e0=>bL e0 λm h σ ex S R P=>by
 refine wpAny_Call_Name_kw (kB I hg hm ?_ hdb);refine PySem.W.callWith_K (h₀:=X.base) I.ok.mod.kin M.kp (thn (ha E EX pos pins s σ' H (λvs H1=>∃m1 h1 ms,HR G m1 h1 H1/\VRs G m1 H1 ms vs/\Post G X E EX m1 H1 (bnd (new (.ins c [])) (λo=>bnd (gf (o::ms)) λv=>match v with
   |.non=>ret o
   | _=>stk) h1) λv m' _ H'=>∀v',VR G m' H' v v'->Q v' H') I
  (jG ex S R P λms m1 h1 H1 vs x1 R1 r1 P1=>⟨m1,h1,ms,R1,r1,P1⟩)) λus s1 e0=>bo e0 λvs H1 I1 r e4=>e4.elim λm1 e5=>e5.elim λh1 e6=>e6.elim λms e7=>e7.elim λR1 e8=>e8.elim λrv P1=>⟨I1.kIn,?_⟩) he hpl
 have I2:=Inv.made (C:=G.cl c) I1;have f1:H1 s1.heap.objs.size=none:=I1.hok.fresh (aY _);have f2:H1 (s1.heap.objs.size+1)=none:=I1.hok.fresh (Nat.le_succ _);have f2':upd H1 s1.heap.objs.size (.own (s1.heap.objs.size+1)) (s1.heap.objs.size+1)=none:=by rw[aQ (Nat.succ_ne_self _)];exact f2
 have x2:Ext m1 H1 (m1++[s1.heap.objs.size + 1]) (upd (upd H1 s1.heap.objs.size (.own (s1.heap.objs.size + 1))) (s1.heap.objs.size + 1) (.ins (G.cl c) s1.heap.objs.size [])):=(Ext.side f1).trans (Ext.new (R1.side f1) f2');have R2:HR G (m1++[s1.heap.objs.size + 1]) (h1++[.ins c []]) (upd (upd H1 s1.heap.objs.size (.own (s1.heap.objs.size + 1))) (s1.heap.objs.size + 1) (.ins (G.cl c) s1.heap.objs.size [])):=(R1.side f1).new f2' ⟨_,[],.nil,cG⟩;have P2:Post G X E EX (m1++[s1.heap.objs.size + 1]) (upd (upd H1 s1.heap.objs.size (.own (s1.heap.objs.size + 1))) (s1.heap.objs.size + 1) (.ins (G.cl c) s1.heap.objs.size [])) (bnd (gf (.ref h1.length::ms)) (λv=>match v with
   |.non=>ret (.ref h1.length)
   | _=>stk) (h1++[.ins c []])) λv m' _ H'=>∀v',VR G m' H' v v'->Q v' H':=(Post.bind P1) _ _ x2 R2
 have ns:gf (.ref h1.length::ms) (h1++[.ins c []])≠.stuck:=λz=>by unfold bnd at P2;rw[z]at P2;exact P2
 have hl:=F.ar _ _ ns;have rn:VR G (m1++[s1.heap.objs.size+1]) (upd (upd H1 s1.heap.objs.size (.own (s1.heap.objs.size+1))) (s1.heap.objs.size+1) (.ins (G.cl c) s1.heap.objs.size [])) (.ref h1.length) (.ref (s1.heap.objs.size+1)):=⟨_,by rw[←R1.len];simp,rfl⟩
 have rv2:VRs G (m1++[s1.heap.objs.size+1]) (upd (upd H1 s1.heap.objs.size (.own (s1.heap.objs.size+1))) (s1.heap.objs.size+1) (.ins (G.cl c) s1.heap.objs.size [])) (.ref h1.length::ms) (.ref (s1.heap.objs.size+1)::vs):=.cons rn (x2.vrs rv);have r2:Vals (V.ref (s1.heap.objs.size+1)::vs) (Value.ref (s1.heap.objs.size+1)::us):=.cons rfl r;have hu:(Value.ref (s1.heap.objs.size+1)::us).length=ps.length:=by rw[←r2.length,←Paired.length rv2];exact hl
 refine wpAny_call (CH (f:=f) I1.kIn M.makes M.init (beq_iff_eq.mp M.fn) (codeAny_mono (F.ok.run _ X.stack _ _ ⟨Value.ref (s1.heap.objs.size + 1)::us,[]⟩ (Value.ref (s1.heap.objs.size + 1)::us) _ (λv H3=>v=.non/\Q (.ref (s1.heap.objs.size + 1)) H3) (EXK G _ _ (gf (.ref h1.length::ms) (h1++[.ins c []]))) (hr.make (G.cl c) us [])
  (I2.unwish.env0.make (G.cl c) us []) (by simpa using hb _ (Value.ref (s1.heap.objs.size + 1)::us) I2.kIn (by simpa using hu)) r2 (Aj hK rv2 R2 hl ns λv h' ev m' H' v' x R' q=>?_)) λrr s' hq'=>?_))
 ·have P3:=P2;unfold bnd at P3;rw[ev]at P3;cases v with
  |non=>
    cases(show v'=V.non from q);exact⟨rfl,P3 m' H' x R' _ (x.vr rn)⟩
  |_=>exact P3.elim
 ·cases rr with
  |error ev=>
    obtain⟨c',h',m',H',a,er,rfl,x,R',I',q⟩:=yC (pins:=pins) (σ':=σ') I2.unwish hq';unfold bnd at P2;rw[er]at P2;exact P2 pins σ' m' H' a s' ex x R' I' q
  |ok fl=>
    cases fl with
    |ret u=>
      obtain⟨v,H',I3,rv',ev,q3⟩:=I2.after hq';subst ev;exact⟨rv',⟨V.ref (s1.heap.objs.size+1),H',I3,rfl,q3⟩⟩
    |next=>exact False.elim hq'
    |brk=>exact False.elim hq'
    |cont=>exact False.elim hq'
end
theorem HJ{K:PySem.W.Frag}{hp:aG}{C:ae}{bm:List ag}{newId:String}(kx:K.In hp)(q:PySem.W.excIn K C bm newId=true) :
  ∃tl N nm qn bs hd sn sub ab col dd k0 k1 k2 k3 k5 mN,hp.get? C=some (excClassObj nm qn C N bs tl hd sn sub ab col dd k0 k1 k2 k3 k5 newId)/\hp.Ns N mN/\mN "__init__"=none/\OwnTail hp bm tl:=by
 unfold PySem.W.excIn at q;split at q
 ·rename_i ddx cdx slx hox;split at q
  ·rename_i Cx' tlx y0 y1 y2 y3 nx y5 hmx hsx;simp only[d8,beq_iff_eq,Bool.not_eq_true']at q;have hno:=q.2;have hns:=q.1.2;have htl:=q.1.1.2;have hdl:=q.1.1.1.2;have e1:=q.1.1.1.1.1;have e2:=q.1.1.1.1.2;cases cdx with
   |mk nmx bsx mrox nsx qx hdx snx subx abx colx delx=>
     dsimp only at hmx hdl hns hno;subst e1;subst e2;subst hmx;subst hdl;have esl:slx=#[y0,y1,y2,y3,some (.builtin nx),y5]:=by
      cases slx with
      |mk l=>exact congrArg Array.mk hsx
     subst esl;exact⟨tlx,nsx,nmx,qx,bsx,hdx,snx,subx,abx,colx,ddx,y0,y1,y2,y3,y5,_,kx _ _ hox,.of_isNs (PySem.W.isNs_of_in kx hns),PySem.W.nsMap_none_of_in kx hns hno,PySem.W.tail_of_in kx htl⟩
  ·cases q
 ·cases q
theorem Ed{P:bf}{w:aU}{hp:aG}{a:ae}{o:HO}(x:bG P w H hp a o):∃ob,hp.get? a=some ob:=by
 cases o with
 |lst xs=>obtain⟨_,_,_,_,e⟩:=x;exact⟨_,e⟩
 |tup xs=>obtain⟨_,_,_,_,e,_⟩:=x;exact⟨_,e⟩
 |dK kvs=>obtain⟨_,_,_,_,o,_,_,e,_⟩:=x;exact⟨_,e⟩
 |dT kvs=>obtain⟨_,_,_,_,o,_,_,e,_⟩:=x;exact⟨_,e⟩
 |set S n=>obtain⟨o,_,_,_,e,_⟩:=x;exact⟨_,e⟩
 |ins C dx fs=>obtain⟨_,_,_,e,_⟩:=x;exact⟨_,e⟩
 |own y=>exact x
 |xd fs=>obtain⟨_,⟨_,_,_,e,_⟩,_⟩:=x;exact⟨_,e⟩
 |rng lo hi=>obtain⟨_,_,_,e⟩:=x;exact⟨_,e⟩
 |frz ob u=>exact⟨_,x.1⟩
 |tbl ps=>exact⟨_,x⟩
 |met f y=>exact⟨_,x⟩
 |ext φ=>exact x.2.1
theorem Inv.untracked{pins:List (ae×az)}{s:ai}(I:Inv X pins σ' H s){a:ae}(e:s.heap.get? a=none):H a=none:=by
 cases z:H a with
 |none=>rfl
 |some u=>
   obtain⟨o,q⟩:=Ed (I.hok a u z);rw[e]at q;cases q
theorem gs{x:Str}{c:Nat}{bm:List ag}{B newId initId:String}{np cpos pos:Pos}{e:av}{es:List av}{ga:MA}(FB:ExcBaseFacts B newId initId bm)(q:PySem.W.excIn X.K (G.cl c) bm newId=true)(hm:X.mg x=some (.ref (G.cl c)))(hd:X.A.handled=none)
  (ha:GA G X (e::es) ga) (hg:Gl X x:=by rfl) (hdb:(x == ("__debug__":Str))=false:=by decide) (he:aH (e::es) X.env=(false,aE e X.env)::aH es X.env:=by rfl) (hpl:(backTo cpos (aH es X.env)).any (·.1)=false:=by rfl) :
  GS G EX X (.Raise (some (.Call (.Name x np) (e::es) [] cpos)) none pos) (eZ c ga):=λE hp pins s σ' H D I e0=>bL e0 λm h σ ex S R P=>by
 obtain⟨tl,N,nm,qn,bs,hdt,sn,sb,ab,col,dd,k0,k1,k2,k3,k5,mN,oC,oN,ni,T⟩:=HJ I.ok.mod.kin q;refine wpAny_Raise_call_subU (C:=G.cl c) (nm:=nm) (q:=qn) (N:=N) (bs:=bs) (bm:=tl) (hdct:=hdt) (sn:=sn) (sub:=sb) (ab:=ab) (col:=col) (dd:=dd) (k0:=k0) (k1:=k1) (k2:=k2) (k3:=k3) (k5:=k5) FB FB.hasB FB (mN:=mN) (T.hasType FB.hasBase) hd
  (by rw[he];show(false||(backTo cpos (aH es X.env)).any (·.1))=false;rw[hpl];rfl) ni (kB I hg hm ⟨rfl,?_⟩ hdb)
 have hA:=ha E EX cpos pins s σ' H (λvs H1=>∃m1 h1 ms,HR G m1 h1 H1/\VRs G m1 H1 ms vs/\ms.length≤1000/\XP G X E EX m1 H1 c h1) I (jG ex S R P λms m1 h1 H1 vs x1 R1 r1 P1=>by
  split at P1
  ·rename_i hz;exact⟨m1,h1,ms,R1,r1,hz,P1⟩
  ·exact P1.elim)
 rw[show backTo cpos (aH (e::es) (X.wish E).env)=backTo cpos (aH (e::es) X.env) from rfl]at hA;rw[he]at hA ⊢;refine Calls.evalArgs_plain (cn hA (λus s1 e0=>bo e0 λvs H1 I1 r e4=>e4.elim λm1 e5=>e5.elim λh1 e6=>e6.elim λms e7=>e7.elim λR1 e8=>e8.elim λrv e9=>e9.elim λhz P1=>⟨rfl,?_,I1.bk _ _ oC,oN.keeps I1.bk,T.keeps I1.bk,λh' a hx=>?_⟩) λ_ _ y=>y)
 ·show us.length≤aZ;rw[←r.length,←Paired.length rv];exact small hz
 ·obtain⟨t,ht,_,_⟩:=hx.there;have I2:Inv X pins σ' H1 { s1 with heap:=h' }:=I1.unwish.kept (t':=s1.toks) hx.keeps;exact P1 pins σ' m1 H1 a _ ex .refl R1 I2 ⟨_,_,ht,rfl,rfl,rfl,by simp,Fp.of I1.unwish hx.new (Inv.untracked I1.unwish hx.new),.inl rfl⟩
section
variable {o e:av}{go ge:ME}{apos cpos:Pos}
theorem mR(ho:GE G X o go)(he:GE G X e ge)(hbase:attributeBase o (aF "append") X.env (aE o X.env)=aE o X.env:=by rfl)
  (hfew:((backTo cpos (aH [e] X.env)).all (λx=>!x.1) && (backToKw cpos (keywordEach [] X.env)).all (λx=>x.1.isSome)
   && decide ([e].length + ([]:List Keyword).length + (if ([]:List Keyword).isEmpty then 0 else 1) < 30))=true:=by rfl)
  (hline:(apos.endLine == cpos.line)=true:=by rfl) (hs:aH [e] X.env=[(false,aE e X.env)]:=by rfl):GE G X (.Call (.Attribute o (aF "append") apos) [e] [] cpos) (ja go ge):=λE EX=>
 dg (tH (X:=X.wish E) uP PySem.F.slot_list_append PySem.F.type_list_append Ao (ho E EX) (he.a1 hs E EX) hbase hfew hline hs rfl) λσ' H Q e0=>bL e0 λm h σ ex S R P=>
  sub ex S R P λv m1 h1 H1 v' x1 R1 r1 P1=>by
   cases v with
   |ref n=>
     obtain⟨aa,ea,rfl⟩:=r1;obtain⟨ob,eo,qo,P2⟩:=bM R1 ea P1;cases ob with
     |lst xs=>
       obtain⟨vs,rr,z⟩:=qo;refine⟨.inl ⟨rfl,vs,SqL.of z⟩,sub ex (S.mono x1) R1 P2 λw m2 h2 H2 w' x2 R2 r2 P3=>?_⟩;have ea2:=x2.get ea;obtain⟨ob2,eo2,qo2,P4⟩:=bM R2 ea2 P3;cases ob2 with
       |lst ys=>
         obtain⟨ws,rs,z2⟩:=qo2;dsimp only at P4;split at P4
         ·rename_i hz;refine⟨aa,ws,w',rfl,rfl,z2,by rw[←Paired.length rs];exact cJ hz (big (aY _)),?_⟩;have P5:=jQ R2 ea2 P4;have x3:Ext m2 H2 m2 (upd H2 aa (.lst (ws++[w']))):=Ext.upd ea2 z2;exact P5 _ _ x3 (R2.upd ea2 (λo' yy zz=>by rw[z2]at zz;cases zz) ⟨_,x3.vrs (iE rs (.cons r2 .nil)),cG⟩) _ rfl
         ·exact P4.elim
       |_=>exact P4.elim
     |_=>exact P2.elim
   |_=>exact P1.elim
end
def zC:Ty->String->Bool
 |.int,k=>k == "int"||k == "bool"
 |.bool,k=>k == "bool"
 |.str,k=>k == "str"
 |.list,k=>k == "list"
 |.tuple,k=>k == "tuple"
 |.exn _ _,_=>false
structure cO(K:PySem.W.Frag)(C:ae):Prop where
 ga:PySem.W.findIn K (.ref C) "__getattribute__"=some (some (.builtin "BaseException.__getattribute__"))
 gt:PySem.W.findIn K (.ref C) "__getattr__"=some none
 sb:PySem.W.subIn K (.ref C) (.type "BaseException")=some true
 fd:PySem.W.findObj K C none "__class__"=some (.bind (.builtin "getset_descriptor.__get__") (.builtin "object.__class__"))
 mr:PySem.W.mroIn K C (.type "object")=some true
 cl:(PySem.W.clsIn K C).isSome=true
 ty:PySem.W.typeIn K (.ref C)=some (.type "type")
inductive KTy(K:PySem.W.Frag)(cl:Nat->ae)(c:ag):Ty->Prop where
 |plain {t:Ty}:(∀al cs,t≠.exn al cs)->(["NoneType","bool","int","str","list","tuple"].all λk=>PySem.W.kitOne K (.type k) c == some (zC t k))=true->KTy K cl c t
 |exc {al cs:List Nat}:(∀n∈al,cO K (cl n)/\PySem.W.kitOne K (.ref (cl n)) c=some (cs.contains n))->KTy K cl c (.exn al cs)
def yz(K:PySem.W.Frag)(u:V)(c:ag):List V->Hp->VK->Prop:=λxs H Q=>∃x b,xs=[x,u]/\((∃t,fI K H x t/\PySem.W.kitOne K t c=some b)∨∃a C,x=.ref a/\H a=some (.ext (ExcΦ a C))/\cO K C/\PySem.W.kitOne K (.ref C) c=some b)/\Q (.bl b) H
def yT(u:V)(c:ag):Prop:=(∃T,u=.ty T/\c=.type T)∨∃C,u=.ref C/\c=.ref C
theorem Fc{u:V}{c:ag}(ru:yT u c):d4 X (.builtin "isinstance") (yz X.K u c):=by
 rintro pins s σ' H xs us Q I r ⟨x,b,ex,q,hQ⟩;subst ex;obtain⟨v,w,rfl,rx,ry⟩:=vals2 r;have ew:w=c:=by
  rcases ru with⟨T,rfl,rfl⟩|⟨C,rfl,rfl⟩ <;> exact ry
 subst ew;rcases q with⟨t,ty,e⟩|⟨a,C,rfl,ha,ec,e⟩
 ·exact HG I rx ty e λtk=>⟨.bl b,H,I.tok _,rfl,hQ⟩
 ·cases(show v=Value.ref a from rx);obtain⟨ph,_,_⟩:=(show bG X.prog X.w H s.heap a (.ext (ExcΦ a C)) from I.hok a _ ha);exact PySem.W.kia_one (FJ ec.ga ec.gt ec.sb ec.fd ec.mr ec.cl) I.kIn ph e (λz=>nomatch z) λtk=>⟨.bl b,H,I.tok _,rfl,hQ⟩
theorem KTy.of{K:PySem.W.Frag}{cl:Nat->ae}{c:ag}{t:Ty}(k:KTy K cl c t)(ne:∀al cs,t≠.exn al cs){n:String}(hn:n∈["NoneType","bool","int","str","list","tuple"]):PySem.W.kitOne K (.type n) c=some (zC t n):=by
 cases k with
 |plain _ q=>exact beq_iff_eq.mp (rM.mp q n hn)
 |exc q=>exact absurd rfl (ne _ _)
theorem C4{c:ag}{u:V}{t:Ty}(k:KTy G.K G.cl c t){Q:VK}{x:MV}{x':V}(R:HR G m h H)(rx:VR G m H x x')(P:Post G X E EX m H (kR t x h) λv m' _ H'=>∀v',VR G m' H' v v'->Q v' H'):yz G.K u c [x',u] H Q:=by
 by_cases ne:∃al cs,t=.exn al cs
 ·obtain⟨al,cs,rfl⟩:=ne;cases x with
  |ref n=>
    obtain⟨a,ea,rfl⟩:=rx;obtain⟨o,eo,qo,P1⟩:=bM R ea P;cases o with
    |exn c'=>
      dsimp only at P1;split at P1
      ·rename_i hc;cases k with
       |plain z _=>exact absurd rfl (z _ _)
       |exc q=>
         obtain⟨e1,e2⟩:=q c' (by simpa using hc);exact⟨_,_,rfl,.inr ⟨a,_,rfl,qo,e1,e2⟩,Post.here R P1 _ rfl⟩
      ·exact P1.elim
    |_=>exact P1.elim
  |_=>exact P.elim
 ·have ne':∀al cs,t≠.exn al cs:=λal cs z=>ne ⟨al,cs,z⟩;cases x with
  |non=>
    cases(show x'=V.non from rx);refine⟨_,_,rfl,.inl ⟨_,.non,k.of ne' (by decide)⟩,?_⟩
    cases t <;> first|exact Post.here R P _ rfl|exact absurd rfl (ne' _ _)
  |bl b=>
    cases(show x'=V.bl b from rx);refine⟨_,_,rfl,.inl ⟨_,.bl b,k.of ne' (by decide)⟩,?_⟩
    cases t <;> first|exact Post.here R P _ rfl|exact absurd rfl (ne' _ _)
  |int b=>
    cases(show x'=V.int b from rx);refine⟨_,_,rfl,.inl ⟨_,.int b,k.of ne' (by decide)⟩,?_⟩
    cases t <;> first|exact Post.here R P _ rfl|exact absurd rfl (ne' _ _)
  |str b=>
    cases(show x'=V.str b from rx);refine⟨_,_,rfl,.inl ⟨_,.str b,k.of ne' (by decide)⟩,?_⟩
    cases t <;> first|exact Post.here R P _ rfl|exact absurd rfl (ne' _ _)
  |scr _=>exact P.elim
  |any=>exact P.elim
  |tup xs=>
    obtain⟨a,vs,rfl,_,z,_⟩:=rx;refine⟨_,_,rfl,.inl ⟨_,.tup z,k.of ne' (by decide)⟩,?_⟩;cases t <;> first|exact Post.here R P _ rfl|exact absurd rfl (ne' _ _)
  |ref n=>
    obtain⟨a,ea,rfl⟩:=rx;obtain⟨o,eo,qo,P1⟩:=bM R ea P;cases o with
    |lst xs=>
      obtain⟨vs,r,z⟩:=qo;refine⟨_,_,rfl,.inl ⟨_,.lst z,k.of ne' (by decide)⟩,?_⟩;cases t <;> first|exact Post.here R P1 _ rfl|exact absurd rfl (ne' _ _)
    |exn c'=>cases t <;> first|exact P1.elim|exact absurd rfl (ne' _ _)
    |dct _=>cases t <;> exact P1.elim
    |ins _ _=>cases t <;> exact P1.elim
    |frz _=>cases t <;> exact P1.elim
theorem wI{e ce:av}{ge:ME}{t:Ty}{c:ag}{u:V}{p pos:Pos}(he:GE G X e ge)(hc:∀E,PE (X.wish E) ce (tC u))(cv:yT u c)(k:KTy G.K G.cl c t)(hm:X.mg "isinstance"=none)(hg:Gl X "isinstance":=by rfl)(hK:X.K=G.K:=by rfl)
  (hs:aH [e,ce] X.env=(false,aE e X.env)::aH [ce] X.env:=by rfl) (hs2:aH [ce] X.env=[(false,aE ce X.env)]:=by rfl) (hpl:(backTo pos (aH [ce] X.env)).any (·.1)=false:=by rfl) :
  GE G X (.Call (.Name "isinstance" p) [e,ce] [] pos) (eUn (kR t) ge):=λE EX=>
 dg (uT (X:=X.wish E) (Fc cv) hg hm PyProof.Rows.Boot.«isinstance» (fg (X:=X.wish E) (he E EX) (fg (X:=X.wish E) (hc E) pU hs2) hs) (by decide) (by decide) hs hpl) λσ' H Q e0=>bL e0 λm h σ ex S R P=>
  sub ex S R P λv m1 h1 H1 v' x1 R1 r1 P1=>by
   have:=C4 (u:=u) k R1 r1 P1;rw[←hK]at this;exact this
theorem Inv.relocal{pins:List (ae×az)}{s:ai}{hp:aG}{t:Nat}{σ2:St}{m2:Str->Option ag}(I:Inv X pins σ' H s)(hs:jJ X.env.locals s.heap hp)(hn:hp.Ns X.env.locals m2)(hl:σ2.length=σ'.length)
  (hv:∀(j:Nat) (y:Str) (v:V),X.N[j]?=some y->σ2[j]?=some (some v)->Vis X.env.scope y->∃u,aP v u/\Look X.env hp m2 y u):Inv X pins σ2 H { s with heap:=hp,toks:=t }:=by
 have n0:∀b o,X.s₀.heap.get? b=some o->b≠X.env.locals:=λb o e=>cU (cJ (bc e) I.ok.above);refine⟨I.ok,I.os,I.bare,⟨λb o e n hb hx=>(hs.2 b (n0 b o e)).trans (I.base.keep b o e n hb hx),λb o e n hb hx=>?_,I.base.free,λb o e hx=>?_,I.base.tups,I.base.frzs,I.base.tbls⟩,⟨m2,hn,hv⟩,λx c e=>?_,I.free,I.freeC,λp hp'=>?_,λb u e=>?_,hl.trans I.len⟩
 ·obtain⟨sl,z⟩:=I.base.slot b o e n hb hx;exact⟨sl,(hs.2 b (n0 b o e)).trans z⟩
 ·obtain⟨o',z⟩:=I.base.there b o e hx;exact⟨o',(hs.2 b (n0 b o e)).trans z⟩
 ·obtain⟨v,z⟩:=I.cell x c e;exact⟨v,z.sameBut hs (I.cne x c e)⟩
 ·obtain⟨a1,a2,a3,a4,a5⟩:=I.pin p hp';exact⟨(hs.2 _ a3).trans a1,a2,a3,a4,a5⟩
 ·have nl:∀c w',H c=some w'->c≠X.env.locals:=λc w' q z=>by rw[z,I.free]at q;cases q
  refine(I.hok b u e).stay (λc v hc q=>(hs.2 c ?_).trans q) (λ_ q=>q) λ_ _ q=>q;rcases hc with z|z
  ·rw[z];exact nl b u e
  ·exact nl c _ z
theorem qg{M:Model}{A:bh}{pins:List (ae×az)}{s:ai}{n:Str}{i:Nat}{pos:Pos}{Q:Unit->ai->Prop}(I:Inv X pins σ' H s)(hN:X.N.Nodup)(hi:X.N[i]?=some n)(hl:X.env.kindOf n=some .local)
  (k:∀s',Inv X pins (σ'.set i none) H s'->Q () s'):aq M A (do bindName X.env n .none;unbindBehindTheSuite X.env n pos) Q E s:=by
 obtain⟨mm,hn,hv⟩:=I.loc;refine wpAny_nameGoes_keeps hl hn (by rw[I.ok.kind];rfl) λhp v hn' hs=>k _ (Inv.relocal I hs hn' (by simp) λj y w e1 e2 e3=>?_);by_cases hj:i=j
 ·subst hj;have:i<σ'.length:=by rw[I.len];exact(bF.mp hi).1
  rw[fZ this]at e2;cases e2
 ·rw[gF hj]at e2;obtain⟨u,ru,l⟩:=hv j y w e1 e2 e3;refine⟨u,ru,?_⟩;have ny:y≠n:=λz=>hj (rS hN hi (z▸e1));rcases l with⟨kk,q⟩|⟨kk,c,q,z⟩
  ·exact .inl ⟨kk,by simp[ny,q]⟩
  ·exact .inr ⟨kk,c,q,z.sameBut hs (I.cne y c q)⟩
theorem Inv.track{pins:List (ae×az)}{s:ai}{a:ae}{φ:aG->Prop}(I:Inv X pins σ' H s)(f:Fp X pins H a)(ok:bG X.prog X.w (upd H a (.ext φ)) s.heap a (.ext φ)):Inv X pins σ' (upd H a (.ext φ)) s:=by
 have na:∀b u,H b=some u->b≠a:=λb u e z=>by rw[z,f.un]at e;cases e
 refine⟨I.ok,I.os,I.bare,⟨I.base.keep,I.base.slot,λb o e n hx=>?_,I.base.there,λb xs e=>?_,λb o u e=>?_,λb ps e=>?_⟩,I.loc,I.cell,?_,λx c e=>?_,λp hp=>?_,λb u e=>?_,I.len⟩
 ·rw[aQ]
  ·exact I.base.free b o e n hx
  ·intro z;rcases f.new with y|y
   ·exact hx (z▸y)
   ·rw[z,y]at e;cases e
 ·have q:=I.base.tups b xs e;rw[aQ (na b _ q)];exact q
 ·have q:=I.base.frzs b o u e;rw[aQ (na b _ q)];exact q
 ·obtain⟨mo,q⟩:=I.base.tbls b ps e;exact⟨mo,by rw[aQ (na b _ q)];exact q⟩
 ·rw[aQ (Ne.symm f.loc)];exact I.free
 ·rw[aQ (f.ce x c e)];exact I.freeC x c e
 ·obtain⟨a1,a2,a3,a4,a5⟩:=I.pin p hp;exact⟨a1,by rw[aQ (f.pin p hp)];exact a2,a3,a4,a5⟩
 ·by_cases z:b=a
  ·subst z;rw[cG]at e;cases e;exact ok
  ·rw[aQ z]at e;refine(I.hok b u e).stay (λ_ _ _ q=>q) (λc q=>?_) λc xs q=>?_
   ·rw[aQ (na c _ q)];exact q
   ·rw[aQ (na c _ q)];exact q
abbrev QD(G:Gb)(D:Ends):MF->List ae->MH->Hp->Prop:=λf m' _ H'=>match f with
 |.next σ1=>∀σ1',SR G m' H' σ1 σ1'->D.nx σ1' H'
 |.brk σ1=>∀σ1',SR G m' H' σ1 σ1'->D.bk σ1' H'
 |.cnt σ1=>∀σ1',SR G m' H' σ1 σ1'->D.ct σ1' H'
 |.ret v=>∀v',VR G m' H' v v'->D.rt v' H'
abbrev Cx.inSuite(X:Cx)(A:bh):Cx:={ X with A:=A,calm:=false }
theorem Inv.mark{pins:List (ae×az)}{s:ai}(I:Inv X pins σ' H s)(v:Option ag):Inv (Cx.inSuite X (X.A.mark v)) pins σ' H s:=
 ⟨⟨I.ok.mod,I.ok.kind,I.ok.glob,I.ok.blt,I.ok.above,I.ok.inj,I.ok.has,I.ok.cab,(λz=>nomatch z),I.ok.frames,I.ok.stk,I.ok.exf,I.ok.bs,I.ok.bsz,I.ok.noex,I.ok.exfs,I.ok.funs,I.ok.frf⟩,I.os,I.bare,I.base,I.loc,I.cell,I.free,I.freeC,I.pin,I.hok,I.len⟩
theorem Inv.unmark{pins:List (ae×az)}{s:ai}{A:bh}(ok:X.Ok)(I:Inv (Cx.inSuite X A) pins σ' H s):Inv X pins σ' H s:=⟨ok,I.os,I.bare,I.base,I.loc,I.cell,I.free,I.freeC,I.pin,I.hok,I.len⟩
abbrev Cx.pinned(X:Cx)(pn:List (ae×az)):Cx:={ X with pn:=pn }
theorem Inv.toPn{pins:List (ae×az)}{s:ai}(I:Inv X pins σ' H s):Inv (Cx.pinned X (X.pn++pins)) [] σ' H s:=
 ⟨⟨I.ok.mod,I.ok.kind,I.ok.glob,I.ok.blt,I.ok.above,I.ok.inj,I.ok.has,I.ok.cab,I.ok.hd,I.ok.frames,I.ok.stk,I.ok.exf,I.ok.bs,I.ok.bsz,I.ok.noex,I.ok.exfs,I.ok.funs,I.ok.frf⟩,I.os,I.bare,I.base,I.loc,I.cell,I.free,I.freeC,λp hp=>I.pin p (by simpa using hp),I.hok,I.len⟩
theorem Inv.ofPn{pins pins':List (ae×az)}{s:ai}(ok:X.Ok)(I:Inv (Cx.pinned X (X.pn++pins)) pins' σ' H s):Inv X pins σ' H s:=
 ⟨ok,I.os,I.bare,I.base,I.loc,I.cell,I.free,I.freeC,λp hp=>I.pin p (i7 _ hp),I.hok,I.len⟩
theorem Fp.ofPn{pins pins':List (ae×az)}{b:ae}(f:Fp (Cx.pinned X (X.pn++pins)) pins' H b):Fp X pins H b:=⟨f.un,f.loc,f.fs,f.new,f.ce,λp hp=>f.pin p (i7 _ hp)⟩
inductive GHs(G:Gb)(X:Cx)(al:List Nat):List ExceptHandler->List Hd->Prop where
 |nil:GHs G X al [] []
 |plain {x:Str} {np pos:Pos} {b0:aO} {body:List aO} {rest:List ExceptHandler} {C':ae} {cs:List Nat} {gb:MS} {ds:List Hd} (hm:X.mg x=some (.ref C')) (hg:Gl X x) (hC:cO X.K C')
   (hs:∀n∈al,PySem.W.subIn X.K (.ref (G.cl n)) (.ref C')=some (cs.contains n)) (hb:∀v,GSs G ET (Cx.inSuite X (X.A.mark v)) (b0::body) gb) (hd:(x == ("__debug__":Str))=false) (hr:GHs G X al rest ds) :
   GHs G X al (.ExceptHandler (some (.Name x np)) none (b0::body) pos::rest) (⟨cs,none,gb⟩::ds)
 |named {x n:Str} {i:Nat} {np pos:Pos} {b0:aO} {body:List aO} {rest:List ExceptHandler} {C':ae} {cs:List Nat} {gb:MS} {ds:List Hd} (hm:X.mg x=some (.ref C')) (hg:Gl X x) (hC:cO X.K C')
   (hs:∀n∈al,PySem.W.subIn X.K (.ref (G.cl n)) (.ref C')=some (cs.contains n)) (hN:X.N.Nodup) (hi:X.N[i]?=some n) (hl:X.env.scope.names.lookup n=some .local) (hb:∀v,GSs G ET (Cx.inSuite X (X.A.mark v)) (b0::body) gb) (hd:(x == ("__debug__":Str))=false) (hr:GHs G X al rest ds) :
   GHs G X al (.ExceptHandler (some (.Name x np)) (some n) (b0::body) pos::rest) (⟨cs,some i,gb⟩::ds)
theorem Post.noExc{α:Type}{a:M α}{Q:α->List ae->MH->Hp->Prop}{X':Cx}{E':ag->ai->Prop}{EX':St->Prop}(P:Post G X E EX m H (noExc a h) Q):Post G X' E' EX' m H (a h) Q:=by
 unfold Rv.noExc at P;cases e:a h with
 |ok v h'=>rw[e]at P;exact P
 |exc c h'=>rw[e]at P;exact P.elim
 |stuck=>rw[e]at P;exact P.elim
theorem SP.back{pins:List (ae×az)}{D:Ends}{f:Flow}{s':ai}{A:bh}{E':ag->ai->Prop}(ok:X.Ok)(q:SP ((Cx.inSuite X A).wish E') pins D f s'):SP X pins D f s':=by
 cases f with
 |next=>obtain⟨σ2,H2,I,z⟩:=q;exact⟨σ2,H2,Inv.unmark ok I.unwish,z⟩
 |brk=>obtain⟨σ2,H2,I,z⟩:=q;exact⟨σ2,H2,Inv.unmark ok I.unwish,z⟩
 |cont=>obtain⟨σ2,H2,I,z⟩:=q;exact⟨σ2,H2,Inv.unmark ok I.unwish,z⟩
 |ret u=>obtain⟨v,σ2,H2,I,r,z⟩:=q;exact⟨v,σ2,H2,Inv.unmark ok I.unwish,r,z⟩
theorem DQ{al:List Nat}{pins:List (ae×az)}{D:Ends}{a:ae}{c:Nat}(hK:X.K=G.K)(hc:c∈al){hs:List ExceptHandler}{ds:List Hd}(g:GHs G X al hs ds):∀{s:ai}{H:Hp}{m:List ae}{h:MH},Inv X pins σ' H s->SR G m H σ σ'->HR G m h H ->
  Exc X pins H (G.cl c) a s->Post G X E ET m H (il c σ ds h) (QD G D)->aq (aw X.prog X.w) X.A (handleBy (.ref a) X.env hs) (SP X pins D) E s:=by
 induction g with
 |nil=>intro s H m h I S R x P;exact P.elim
 |@plain x np pos b0 body rest C' cs gb ds hm hg hC hs hb hd hr ih=>
   intro s H m h I S R x P;obtain⟨oe,vs,a1,a2,a3,a4,a5,a6,a7⟩:=id x;refine wpAny_handleBy_cons (codeAny_handlers_test (kB (Inv.mark I (some (.ref a))) hg hm ?_ hd)) (λq=>nomatch q);refine y6 I.kIn a1 a2 hC.ty hC.cl hC.sb (hs c hc) ?_;unfold il at P;cases hcc:cs.contains c with
   |true=>
     rw[hcc,if_pos rfl]at P;refine codeAny_handlers_suite (wT I x λs1 I1 x1=>?_);exact cn (hb (some (.ref a)) (λ_ _=>False) PassesOwn.never pins s1 σ' H D ((Inv.mark I1 _).wish _) ⟨m,h,σ,trivial,S,R,Post.noExc P⟩) (λf s2 q=>SP.back I.ok q) λ_ _ z=>z.elim
   |false=>
     rw[hcc,if_neg bT]at P;exact ih I S R x P
 |@named x n i np pos b0 body rest C' cs gb ds hm hg hC hs hN hi hl hb hd hr ih=>
   intro s H m h I S R x P;obtain⟨oe,vs,a1,a2,a3,a4,a5,a6,a7⟩:=id x;refine wpAny_handleBy_cons (codeAny_handlers_test (kB (Inv.mark I (some (.ref a))) hg hm ?_ hd)) (λq=>nomatch q);refine y6 I.kIn a1 a2 hC.ty hC.cl hC.sb (hs c hc) ?_;unfold il at P;cases hcc:cs.contains c with
   |true=>
     rw[hcc,if_pos rfl]at P;refine codeAny_handlers_suite_as (wT I x λs1 I1 x1=>?_);obtain⟨oe1,vs1,b1,b2,b3,b4,b5,b6,b7⟩:=id x1;have ph:ExcΦ a (G.cl c) s1.heap:=⟨oe1,vs1,b1,b2,b3,b4⟩;have I2:=Inv.track (φ:=ExcΦ a (G.cl c)) I1 b6 ⟨ph,⟨oe1,b1⟩,λp1 p2 ⟨o,ws,q1,q2,q3,q4⟩ k=>⟨o,ws,k o q1,q2,q3,q4⟩⟩;have x2:Ext m H (m++[a]) (upd H a (.ext (ExcΦ a (G.cl c)))):=Ext.new R b6.un;have R2:HR G (m++[a]) (h++[.exn c]) (upd H a (.ext (ExcΦ a (G.cl c)))):=R.new b6.un cG;have rn:VR G (m++[a]) (upd H a (.ext (ExcΦ a (G.cl c)))) (.ref h.length) (.ref a):=⟨a,by rw[←R.len];simp,rfl⟩
     have P2:=(Post.bind P) _ _ x2 R2;refine qJ (X:=X) (v:=.ref a) I2 hN hi (.inl hl) rfl (λs2 I3=>?_) (.inr hl);refine cn (hb (some (.ref a)) (λ_ _=>False) PassesOwn.never pins s2 _ _ { nx:=λσ1' H1=>D.nx (σ1'.set i none) H1,rt:=D.rt,bk:=λσ1' H1=>D.bk (σ1'.set i none) H1,ct:=λσ1' H1=>D.ct (σ1'.set i none) H1 } ((Inv.mark I3 _).wish _)
      ⟨_,_,_,trivial,(S.mono x2).set i rn,R2,Post.noExc ((Post.bind P2).mono λf m3 h3 H3 x3 R3 P3=>?_)⟩) (λf s3 q=>?_) λ_ _ z=>z.elim
     ·have P4:=Post.here R3 P3;cases f with
      |next σ3=>exact λσ3' S3=>P4 _ (S3.forget i none)
      |brk σ3=>exact λσ3' S3=>P4 _ (S3.forget i none)
      |cnt σ3=>exact λσ3' S3=>P4 _ (S3.forget i none)
      |ret v=>exact P4
     ·have q':=SP.back I.ok q;cases f with
      |next=>obtain⟨σ4,H4,I4,z⟩:=q';exact qg I4 hN hi hl λs4 I5=>⟨_,H4,I5,z⟩
      |brk=>obtain⟨σ4,H4,I4,z⟩:=q';exact qg I4 hN hi hl λs4 I5=>⟨_,H4,I5,z⟩
      |cont=>obtain⟨σ4,H4,I4,z⟩:=q';exact qg I4 hN hi hl λs4 I5=>⟨_,H4,I5,z⟩
      |ret u=>obtain⟨v,σ4,H4,I4,r,z⟩:=q';exact qg I4 hN hi hl λs4 I5=>⟨v,_,H4,I5,r,z⟩
   |false=>
     rw[hcc,if_neg bT]at P;exact ih I S R x P
theorem GH{al:List Nat}{body:List aO}{h0:ExceptHandler}{hs:List ExceptHandler}{gb:MS}{ds:List Hd}{pos:Pos}(hb:∀pn EX,GSs G EX (Cx.pinned X pn) body gb)(hh:GHs G X al (h0::hs) ds)(hK:X.K=G.K:=by rfl)(hst:X.stack=X.env::X.outer:=by rfl)(hf:X.env.frame=some X.env.locals:=by rfl) :
  GS G ET X (.Try body (h0::hs) [] [] pos) (lR al gb ds):=λE hp pins s σ' H D I e0=>bL e0 λm h σ ex S R P=>by
 have I0:=I.unwish;refine wpAny_Try_except ?_;have fin:∀f s1,SP X pins D f s1->(match f with|.next=>aq (aw X.prog X.w) X.A (execs [] X.env) (SP (X.wish E) pins D) E s1|f=>SP (X.wish E) pins D f s1):=λf s1 q=>by
  cases f with
  |next=>obtain⟨σ2,H2,I2,z⟩:=q;exact wpAny_execs_nil ⟨σ2,H2,I2.wish E,z⟩
  |brk=>obtain⟨σ2,H2,I2,z⟩:=q;exact⟨σ2,H2,I2.wish E,z⟩
  |cont=>obtain⟨σ2,H2,I2,z⟩:=q;exact⟨σ2,H2,I2.wish E,z⟩
  |ret u=>obtain⟨v,σ2,H2,I2,r,z⟩:=q;exact⟨v,σ2,H2,I2.wish E,r,z⟩
 have back:∀{E':ag->ai->Prop}{f s1},SP ((Cx.pinned X (X.pn++pins)).wish E') [] D f s1->SP X pins D f s1:=λ{E' f s1} q=>by
  cases f with
  |next=>obtain⟨σ2,H2,I2,z⟩:=q;exact⟨σ2,H2,Inv.ofPn I0.ok I2.unwish,z⟩
  |brk=>obtain⟨σ2,H2,I2,z⟩:=q;exact⟨σ2,H2,Inv.ofPn I0.ok I2.unwish,z⟩
  |cont=>obtain⟨σ2,H2,I2,z⟩:=q;exact⟨σ2,H2,Inv.ofPn I0.ok I2.unwish,z⟩
  |ret u=>obtain⟨v,σ2,H2,I2,r,z⟩:=q;exact⟨v,σ2,H2,Inv.ofPn I0.ok I2.unwish,r,z⟩
 unfold lR at P;cases eb:gb σ h with
 |ok f h'=>
   simp only[eb]at P;exact cn (hb (X.pn++pins) ET (λ_ _=>False) PassesOwn.never [] s σ' H D ((Inv.toPn I0).wish _) ⟨m,h,σ,trivial,S,R,by rw[eb];exact P⟩) (λf s1 q=>fin f s1 (back q)) λ_ _ z=>z.elim
 |exc c h'=>
   simp only[eb]at P;split at P
   ·rename_i hcc;have fr:X.A.frames=some (X.env::X.outer):=by rw[I0.ok.frames,hst]
    refine cn (hb (X.pn++pins) (λz=>z=σ') (EB G (Cx.pinned X (X.pn++pins)) (λz=>z=σ') [] m H c h') (EB.passes fr hst hf) [] s σ' H D ((Inv.toPn I0).wish _) ⟨m,h,σ,rfl,S,R,?_⟩) (λf s1 q=>fin f s1 (back q)) ?_
    ·rw[eb];intro pins' σ2 m2 H2 a s2 e2 x2 R2 I2 q2;exact⟨σ2,m2,H2,a,e2,x2,R2,I2.pins_of (λp hp=>absurd hp (by simp)),rfl,q2.imp λb fb=>⟨fb.un,fb.loc,fb.fs,fb.new,fb.ce,λp hp=>fb.pin p (i7 _ (by simpa using hp))⟩⟩
    ·rintro e s1 ⟨σ2,m2,H2,a,rfl,x2,R2,I2,rfl,q2⟩;have I3:=Inv.ofPn I0.ok I2;have q3:Exc X pins H2 (G.cl c) a s1:=q2.imp λb fb=>Fp.ofPn fb;refine um (X:=X) fr hst hf I3 q3 λs4 I4 q4=>?_;refine qD I4 q4 λs5 I5 q5=>?_;refine cn (DQ (E:=E) hK (by simpa using hcc) hh I5 (S.mono x2) R2 q5.sh (P.ext x2)) (λf s6 q=>?_) λ_ _ z=>z;cases f with
     |next=>obtain⟨σ6,H6,I6,z⟩:=q;exact⟨σ6,H6,I6.wish E,z⟩
     |brk=>obtain⟨σ6,H6,I6,z⟩:=q;exact⟨σ6,H6,I6.wish E,z⟩
     |cont=>obtain⟨σ6,H6,I6,z⟩:=q;exact⟨σ6,H6,I6.wish E,z⟩
     |ret u=>obtain⟨v,σ6,H6,I6,r,z⟩:=q;exact⟨v,σ6,H6,I6.wish E,r,z⟩
   ·exact P.elim
 |stuck=>
   simp only[eb]at P;exact P.elim
def g9(N:List Str)(x:List Str):List Str:=N.map (λn=>if n∈x then aF "" else n)++x
def cV(X:Cx)(x:List Str)(scope:Scope)(cl:List (Str×ae))(C:ae)(s:ai)(H:Hp)(fp:List ae)(pins:List (ae×az)):Cx:=
 { X with N:=g9 X.N x,env:=compEnvC scope cl C X.env,s₀:=s,H₀:=H,outer:=X.stack,ex:=fp,fn:=λ_=>false,pn:=X.pn++pins,xe:=λ_ _=>False }
structure dJ(X:Cx)(x:List Str)(scope:Scope)(cl:List (Str×ae)):Prop where
 clos:closureFor scope X.env=pure cl
 cells:∀n c,cl.lookup n=some c->X.env.cells.lookup n=some c
 kind:scope.kind=.function
 nocell:∀y∈scope.names,y.2≠.cell
 locs:∀y∈scope.names,y.2=.local->scope.names.lookup y.1=some .local
 has:∀y,scope.names.lookup y=some .free->∃c,cl.lookup y=some c
 outk:∀y,scope.names.lookup y=some .free->X.env.kindOf y=some .cell∨X.env.kindOf y=some .free
 nolo:∀n∈X.N,n∉x->scope.names.lookup n≠some .local
 dum:scope.names.lookup (aF "")=none
 nd:(g9 X.N x).Nodup
theorem Ax{env:Env}:∀{names:List (Str×NameKind)}{x:Str}{k:NameKind},(∀y∈names,y.2≠.cell)->(names.map λ(n,k)=>if(k == NameKind.free&&env.scope.kind == .function&&env.kindOf n == some .cell) then(n,NameKind.cell) else(n,k)).lookup x=some k ->
  names.lookup x=some k∨(names.lookup x=some .free/\k=.cell)
 |[],_,_,_,e=>by simp at e
 |(n,k0)::r,x,k,nc,e=>by
   have ih:=@Ax env r x k (λy hy=>nc y (eY _ hy));by_cases hx:x=n
   ·subst hx;simp only[bS]at e;split at e
    ·rename_i hc;simp only[d8,beq_iff_eq]at hc;refine .inr ⟨by simp[bK,hc.1.1],?_⟩;simp only[bK,beq_self_eq_true,Option.some.injEq]at e;exact e.symm
    ·simp only[bK,beq_self_eq_true]at e ⊢;exact .inl e
   ·have hb:(x == n)=false:=by simpa using hx
    simp only[bS]at e;have e':(r.map λ(n,k)=>if(k == NameKind.free&&env.scope.kind == .function&&env.kindOf n == some .cell) then(n,NameKind.cell) else(n,k)).lookup x=some k:=by
     split at e <;> simpa only[bK,hb] using e
    simp only[bK,hb];exact ih e'
theorem BJ{x:List Str}{scope:Scope}{cl:List (Str×ae)}{fp:List ae}{pins:List (ae×az)}{s:ai}{hp:aG}{t:Nat}(ok:dJ X x scope cl)(I:Inv X pins σ' H s)(hf:∀b∈fp,gv X pins H b)(hfo:∀b∈fp,∃o,s.heap.get? b=some o)
  (hn:∃mm,hp.Ns s.heap.objs.size mm) (hk:∀b o,s.heap.get? b=some o->hp.get? b=some o):Inv (cV X x scope cl s.heap.objs.size s H fp pins) [] (σ'++cr x.length none) H { s with heap:=hp,toks:=t }:=by
 obtain⟨mm,hn⟩:=hn;have ltC:∀b o,s.heap.get? b=some o->b≠s.heap.objs.size:=λb o e=>cU (bc e);have kd:∀y k,(relabel scope X.env).names.lookup y=some k->scope.names.lookup y=some k∨(scope.names.lookup y=some .free/\k=.cell):=λy k e=>Ax ok.nocell e;have nc:∀y,scope.names.lookup y≠some .cell:=λy e=>ok.nocell _ (PySem.mem_of_lookup e) rfl;have stk:∀b,b≠X.env.locals->b∉X.fs->b∉frs X.stack:=λb h1 h2 z=>by
  rcases bW.mp (I.stkSub b z) with y|y
  ·exact h1 y
  ·exact h2 y
 refine ⟨⟨I.ok.mod,ok.kind,I.ok.glob,I.ok.blt,aY _,λy z c e1 e2=>I.ok.inj y z c (ok.cells y c e1) (ok.cells z c e2),λy hy=>?_,(λy c e=>nomatch e),I.ok.hd,I.ok.frames,.inl rfl,λb hb=>⟨?_,λy c e=>?_⟩,I.bs,cF I.ok.bsz I.sz,λb o e hb=>?_,λb hb=>?_,I.stack,I.stkFree⟩,
  rfl,I.bare,Un.kept hk,⟨mm,hn,λi y v e1 e2 e3=>?_⟩,λy c e=>?_,I.hok.fresh (aY _),λy c e=>I.freeC y c (ok.cells y c e),λp hp'=>?_,I.hok.kept hk,?_⟩
 ·have hy':scope.names.lookup y=some .free:=by
   rcases hy with hy|hy
   ·rcases kd y _ hy with z|z
    ·exact absurd z (nc y)
    ·exact z.1
   ·rcases kd y _ hy with z|z
    ·exact z
    ·exact z.1
  exact ok.has y hy'
 ·obtain⟨o,e⟩:=hfo b hb;exact ltC b o e
 ·exact(hf b hb).2.2.2.2.1 y c (ok.cells y c e)
 ·rcases(hf b hb).2.2.2.1 with z|z
  ·exact I.ok.noex b o e z
  ·exact absurd (cJ (bc e) (cF I.ok.bsz z)) (g7 _)
 ·exact stk b (hf b hb).2.1 (hf b hb).2.2.1
 ·have hi:i<σ'.length:=by
   by_cases hi:i<σ'.length
   ·exact hi
   ·rw[jw (by lia),mW]at e2;split at e2 <;> cases e2
  rw[fq hi]at e2;have e1':(X.N.map λn=>if n∈x then aF "" else n)[i]?=some y:=by
   have:(g9 X.N x)[i]?=some y:=e1;unfold g9 at this
   rwa [fq (by simpa[←I.len] using hi)]at this
  rw[bz]at e1';cases en:X.N[i]? with
  |none=>rw[en]at e1';cases e1'
  |some n=>
    rw[en]at e1';have ey:(if n∈x then aF "" else n)=y:=Option.some.inj e1';by_cases hnx:n∈x
    ·rw[if_pos hnx]at ey;subst ey;exfalso;rcases e3 with z|z|z
     ·rcases kd _ _ z with w|w
      ·rw[ok.dum]at w;cases w
      ·have w:=w.1;rw[ok.dum]at w;cases w
     ·rcases kd _ _ z with w|w
      ·rw[ok.dum]at w;cases w
      ·have w:=w.1;rw[ok.dum]at w;cases w
     ·rcases kd _ _ z with w|w
      ·rw[ok.dum]at w;cases w
      ·have w:=w.1;rw[ok.dum]at w;cases w
    ·rw[if_neg hnx]at ey;subst ey;have fr:scope.names.lookup n=some .free/\((relabel scope X.env).names.lookup n=some .cell∨(relabel scope X.env).names.lookup n=some .free):=by
      rcases e3 with z|z|z
      ·rcases kd _ _ z with w|w
       ·exact absurd w (ok.nolo n (dF en) hnx)
       ·exact absurd w.2 (by decide)
      ·rcases kd _ _ z with w|w
       ·exact absurd w (nc n)
       ·exact⟨w.1,.inl z⟩
      ·rcases kd _ _ z with w|w
       ·exact⟨w,.inr z⟩
       ·exact⟨w.1,.inr z⟩
     obtain ⟨m0,hn0,hl0⟩:=I.loc;obtain ⟨u,ru,lk⟩:=hl0 i n v en e2 (by
      rcases ok.outk n fr.1 with z|z
      ·exact .inr (.inl z)
      ·exact .inr (.inr z))
     refine⟨u,ru,?_⟩;obtain⟨c',hc'⟩:=ok.has n fr.1;have hx':=ok.cells n c' hc';rcases lk with⟨k1,_⟩|⟨_,c,ec,o,ho,hd⟩
     ·rcases ok.outk n fr.1 with z|z <;> (rw[k1]at z;cases z)
     ·rw[ec]at hx';cases hx';exact .inr ⟨fr.2,c',hc',o,hk c' o ho,hd⟩
 ·obtain⟨v,o,ho,hd⟩:=I.cell y c (ok.cells y c e);exact⟨v,o,hk c o ho,hd⟩
 ·have hp2:p∈X.pn++pins:=by simpa[cV] using hp'
  obtain⟨a1,a2,a3,a4,a5⟩:=I.pin p hp2;exact⟨hk _ _ a1,a2,ltC _ _ a1,stk _ a3 a4,a5⟩
 ·show(σ'++cr x.length none).length=(g9 X.N x).length;simp[g9,I.len]
abbrev Nt(P:bf)(w:aU)(A:bh)(env:Env)(R:Result->ai->Prop):ag->ai->Prop:=notedBy (aw P w) A env λe z=>R (.error e) z
theorem BI{P:bf}{w:aU}{A:bh}{R:Result->ai->Prop}{s:ai}{el tg io:av}{cs:List av}{sc:Scope}{ps:Pos}{iv ac:ag}{env:Env}(J:Nat->ai->Prop)
  (turn:∀n s,J n s->aq (aw P w) A (pyNext iv) (λr s1=>match r with
   |none=>R (.ok .next) s1
   | some v=>aq (aw P w) A (letOwnedTupleGo tg iv v >>= λ_=>assign tg env v) (λ_ s2=>
     aq (aw P w) A (forIn cs true λc q=>if q=true then do let k ←isTrue c env (aE c env);pure (ForInStep.yield k) else pure (ForInStep.yield q)) (λk s3=>
      if k=true then aq (aw P w) A (aE el env) (λy s4=>aq (aw P w) A (call (.builtin "list.append") [ac,y]) (λ_ s5=>∃n',n'<n/\J n' s5) (Nt P w A env R) s4) (Nt P w A env R) s3
      else ∃n',n' < n/\J n' s3) (Nt P w A env R) s2) (Nt P w A env R) s1) (Nt P w A env R) s)
  (n:Nat) (j:J n s):codeAny (aw P w) A (.compLoop (.ListComp el [⟨tg,io,cs,0⟩] sc ps) 0 iv ac env) R s:=by
 refine codeAny_loop rfl J (λn s j=>?_) n j;show aq _ A ((compTurn (.ListComp el [⟨tg,io,cs,0⟩] sc ps) 0 iv ac env).onRaise (λy=>do noteFrame y env;theTreesLotGoes y)) _ _ s;refine wpAny_noted ?_;rw[compTurn_list];refine ak (wpAny_standAt (ak (cn (turn n s j) (λr s1 q1=>?_) λ_ _ z=>z)));cases r with
 |none=>exact aI q1
 |some v=>
   dsimp only at q1 ⊢;rw[←bind_assoc];refine ak (cn q1 (λ_ s2 q2=>ak (cn q2 (λk s3 q3=>?_) λ_ _ z=>z)) λ_ _ z=>z);cases k with
   |false=>exact aI ⟨rfl,q3⟩
   |true=>exact ak (ak (cn q3 (λy s4 q4=>ak (cn q4 (λ_ s5 q5=>aI (aI ⟨rfl,q5⟩)) λ_ _ z=>z)) λ_ _ z=>z))
theorem zS:∀(v:List MV) (σ:MSt),cL (lU σ.length v.length) v (σ++cr v.length none)=σ++v.map some
 |[],σ=>by simp[cL]
 |a::v,σ=>by
   have ih:=zS v (σ++[some a]);simp only[iF,eQ,iN,Nat.zero_add]at ih;simp only[eQ,List.range'_succ,cL,i0,bS];have e:(σ++none::cr v.length none:MSt).set σ.length (some a)=σ++[some a]++cr v.length none:=by simp
   rw[e,ih];simp
def ow(G:Gb)(X:Cx)(x:List Str)(scope:Scope)(cl:List (Str×ae))(ifs:List av)(gc:Option ME):Prop:=match ifs,gc with
 |[],none=>True
 |[c],some g=>∀C s H fp pins,GT G (cV X x scope cl C s H fp pins) c g
 |_,_=>False
theorem Ext.sideSet{q:ae}{u:HO}(x:Ext m H m' H')(e:H q=none):Ext m H m' (L2.upd H' q u):=
 ⟨x.pre,λa o z n nt=>⟨by rw[aQ (di z e)];exact(x.fr a o z n nt).1,(x.fr a o z n nt).2⟩,λa o u z=>by rw[aQ (di z e)];exact x.fz a o u z⟩
theorem Mn.adopt{q:ae}(nt:∀ys,H q≠some (.tup ys)):Mn m H (m++[q]) H:=⟨λ_ _=>vZ,λa vs z n=>⟨z,by simp only[fY,c6,not_or];exact⟨n,λy=>nt vs (by rw[←y];exact z)⟩⟩⟩
theorem HR.adopt{q:ae}{o:MO}(R:HR G m h H)(nq:q∉m)(nt:∀ys,H q≠some (.tup ys))(nx:∀v,H q=some v->¬TbX v)(ro:OR G (m++[q]) H q o):HR G (m++[q]) (h++[o]) H:=by
 refine⟨by simp[R.len],?_,λn a ob ea eo=>?_,R.scr,R.tab.keep λb u z nb tx=>⟨z,by simp only[fY,c6,not_or];exact⟨nb,λy=>nx u (by rw[←y];exact z) tx⟩⟩⟩
 ·rw[iQ];exact⟨R.nd,by simp,λa ha b hb=>by simp at hb;subst hb;intro z;subst z;exact nq ha⟩
 ·rcases k9 ea with ea|⟨rfl,rfl⟩
  ·have eo':h[n]?=some ob:=by
    rcases k9 eo with eo|⟨q',_⟩
    ·exact eo
    ·have:=(bF.mp ea).1;rw[R.len]at this;lia
   exact OR.mono (Mn.adopt nt) rfl (R.ob n a ob ea eo')
  ·have:ob=o:=by
    rcases k9 eo with eo|⟨_,q'⟩
    ·have:=(bF.mp eo).1;rw[←R.len]at this;lia
    ·exact q'
   subst this;exact ro
def CIv(G:Gb)(Y:Cx)(src:Src)(gc:Option ME)(gelt:ME)(σ:MSt)(x:List Str)(fp:List ae)(tn:Nat->aG->Prop)(m1:List ae)(H2:Hp)(D:ae)(all:List MV)(hE:MH)(n:Nat)(s:ai):Prop:=∃k σc H5 m5 h5 acc vs rest,n=src.items.length-k/\k≤src.items.length/\Inv Y [] σc H5 s/\tn k s.heap/\(∀b∈fp,H5 b=none)/\SR G m5 H5 (σ++cr x.length none) σc/\HR G m5 h5 H5/\Ext m1 H2 m5 H5/\D∉m5/\VRs G m5 H5 acc vs/\H5 D=some (.lst vs)/\acc.length≤k/\cM src gc gelt σ (src.items.drop k) h5=.ok rest hE/\acc++rest=all
theorem Bx{x:List Str}{one:Bool}{pos:Pos}{tg elt iter:av}{ifs:List av}{scope:Scope}{cl:List (Str×ae)}{gc:Option ME}{gelt:ME}{src:Src}{J:It}{fp:List ae}{it D C:ae}{tn:Nat->aG->Prop}{s3 s4:ai}{H2 H3 H4:Hp}{pins:List (ae×az)}{all:List MV}{hE:MH}
  (ok:dJ X x scope cl) (helt:∀C s H fp pins,GE G (cV X x scope cl C s H fp pins) elt gelt) (hif:ow G X x scope cl ifs gc) (htg:∀C s H fp pins,GTg G (cV X x scope cl C s H fp pins) tg one (lU X.N.length x.length)) (hcalm:X.calm=true) (T:Turn X.prog X.w X.K tg J fp it tn) (hJ:JOk G J src one x.length m1 H2) (hlen:src.items.length≤100000)
  (hall:cM src gc gelt σ src.items h1=.ok all hE) (f3:∀b∈fp,gv X pins H3 b) (hC:∀b∈fp,b≠C) (hst:∀b∈fp,b∉frs X.stack) (I4:Inv (cV X x scope cl C s3 H3 fp pins) [] (σ'++cr x.length none) H4 s4) (st4:tn 0 s4.heap) (S1:SR G m1 H4 σ σ') (R1:HR G m1 h1 H4) (x4:Ext m1 H2 m1 H4)
  (hD:H2 D=none) (nD:D∉m1) (eD:H4 D=some (.lst [])) (frp:∀b∈fp,H4 b=none) {Rr:Result->ai->Prop}
  (hR:∀σc H5 m5 s5 vs,Inv (cV X x scope cl C s3 H3 fp pins) [] σc H5 s5->HR G m5 hE H5->Ext m1 H2 m5 H5->D∉m5->VRs G m5 H5 all vs->H5 D=some (.lst vs)->Rr (.ok .next) s5) :
  codeAny (aw X.prog X.w) X.A (.compLoop (.ListComp elt [⟨tg,iter,ifs,0⟩] scope pos) 0 (.ref it) (.ref D) (compEnvC scope cl C X.env)) Rr s4:=by
 have len1:σ'.length=X.N.length:=by
  have:=I4.len;simp[cV,g9]at this;exact this
 have lenσ:σ.length=X.N.length:=S1.len.trans len1;have stat:∀{H':Hp}{pl:List (ae×az)},(∀b∈fp,H' b=none)->(∀p∈pl,False)->∀b∈fp,gv (cV X x scope cl C s3 H3 fp pins) pl H' b:=λhn hpl b hb=>
  ⟨hn b hb,hC b hb,hst b hb,.inl hb,λy c e=>(f3 b hb).2.2.2.2.1 y c (ok.cells y c e),λp hp=>by
   rcases fY.mp hp with z|z
   ·exact(f3 b hb).2.2.2.2.2 p z
   ·exact (hpl p z).elim⟩
 have S1':SR G m1 H4 (σ++cr x.length none) (σ'++cr x.length none):=⟨by simp [S1.len],λi v e=>by
  by_cases hi:i<σ.length
  ·rw[fq hi]at e;obtain⟨v',q,r⟩:=S1.sl i v e;exact⟨v',by rw[fq (by rw[←S1.len];exact hi)];exact q,r⟩
  ·rw[jw (by lia),mW]at e;split at e <;> cases e⟩
 refine BI (λn s=>CIv G (cV X x scope cl C s3 H3 fp pins) src gc gelt σ x fp tn m1 H2 D all hE n s) ?_ src.items.length ⟨0,_,H4,m1,h1,[],[],all,rfl,d9 _,I4,st4,frp,S1',R1,x4,nD,.nil,eD,aY _,hall,rfl⟩;rintro n s ⟨k,σc,H5,m5,h5,acc,vs,rest,rfl,hk,I5,st5,fr5,S5,R5,x5,nD5,ra,eD5,hac,hci,hsum⟩;by_cases hlt:k<src.items.length
 ·have ed:src.items.drop k=src.items[k]::src.items.drop (k+1):=rW hlt;rw[ed]at hci;unfold cM at hci;split at hci
  case isFalse=>cases hci
  case isTrue hok=>
  obtain⟨j1,_⟩:=hJ m5 h5 H5 x5 R5 hok;obtain⟨lv,go,yl⟩:=j1 k src.items[k] (by simp[hlt]);generalize src.items[k]=v at lv yl hci;refine cn (T.item (cV X x scope cl C s3 H3 fp pins) rfl rfl rfl hcalm k [] s σc H5 (λ_ _=>False) I5 (stat fr5 λp z=>by cases z) st5 go) (λr s6 q6=>?_) λ_ _ z=>z.elim;obtain⟨w,rfl,q6⟩:=q6;dsimp only;have q7:aq (aw X.prog X.w) X.A (letOwnedTupleGo tg (.ref it) w >>= λ_=>assign tg (compEnvC scope cl C X.env) w) (λ_ s8=>∃σ8 H8 hp7,Inv (cV X x scope cl C s3 H3 fp pins) ([]++j4 fp hp7) σ8 H8 s8/\Ext m5 H5 m5 H8/\HR G m5 h5 H8/\SR G m5 H8 (σ++v.map some) σ8/\tn (k+1) hp7) (λ_ _=>False) s6:=by
   refine ak (cn q6 (λ_ s7 e0=>e0.elim λx' e1=>e1.elim λH' e2=>e2.elim λI7 e3=>e3.elim λrw7 e4=>e4.elim λy7 e5=>e5.elim λst7 fr7=>?_) λ_ _ z=>z);obtain⟨xx,RR,rx⟩:=yl x' H' y7;have I8:=I7.pinned (stat fr7 λp z=>by cases z) (T.obj _ _ st7);obtain⟨g,pg,hg⟩:=htg C s3 H3 fp pins (λ_ _=>False);refine cn (pg _ s7 σc H' x' w (λσ9 H9=>H9=H'/\SR G m5 H' (σ++v.map some) σ9) (I8.wish _) rw7 (hg m5 H' v x' _ σc _ (S5.mono xx) rx (by simpa using lv) λσ1' S1'=>⟨rfl,?_⟩)) (λ_ s8 e0=>bo e0 λσ9 H9 I9 e2 S9=>?_) λ_ _ z=>z
   ·have e:=zS v σ;rw[lenσ,lv]at e;rw[e]at S1';exact S1'
   ·subst e2;exact⟨σ9,H9,s7.heap,I9.unwish,xx,RR,S9,st7⟩
  have again:∀{s9:ai}{H9:Hp}{m9:List ae}{h9:MH}{σ9:St}{hp7:aG}{acc9:List MV} {vs9:List V} {rest9:List MV},tn (k+1) hp7->Inv (cV X x scope cl C s3 H3 fp pins) ([]++j4 fp hp7) σ9 H9 s9->SR G m9 H9 (σ++v.map some) σ9->HR G m9 h9 H9->Ext m1 H2 m9 H9->D∉m9 ->
    VRs G m9 H9 acc9 vs9->H9 D=some (.lst vs9)->acc9.length≤k+1->cM src gc gelt σ (src.items.drop (k+1)) h9=.ok rest9 hE->acc9++rest9=all ->
    ∃n',n'<src.items.length-k/\CIv G (cV X x scope cl C s3 H3 fp pins) src gc gelt σ x fp tn m1 H2 D all hE n' s9:=λ{s9 H9 m9 h9 σ9 hp7 acc9 vs9 rest9} st7 I9 S9 R9 x9 nD9 ra9 eD9 hac9 hci9 hsum9=>by
   have pn:∀b∈fp,∀o,hp7.get? b=some o->s9.heap.get? b=some o/\H9 b=none:=λb hb o e=>
    have z:=I9.pin (b,o) (dH _ (dH _ (tY hb e)))
    ⟨z.1,z.2.1⟩
   refine⟨src.items.length-(k+1),by lia,k+1,σ9,H9,m9,h9,acc9,vs9,rest9,rfl,hlt,I9.pins_of (λp hp=>absurd hp (by simp)),T.keep _ _ _ st7 λb hb o e=>(pn b hb o e).1,λb hb=>?_,?_,R9,x9,nD9,ra9,eD9,hac9,hci9,hsum9⟩
   ·obtain⟨o,e,_⟩:=T.obj _ _ st7 b hb;exact(pn b hb o e).2
   ·refine⟨by have:=S9.len;simp[lv]at this ⊢;exact this,λi v' e=>S9.sl i v' ?_⟩;by_cases hi:i<σ.length
    ·rw[fq hi]at e ⊢;exact e
    ·rw[jw (by lia),mW]at e;split at e <;> cases e
  have body:∀{s8:ai}{H8:Hp}{m8:List ae}{h8:MH}{σ8:St}{hp7:aG}{E':ag->ai->Prop},tn (k+1) hp7->Inv (cV X x scope cl C s3 H3 fp pins) ([]++j4 fp hp7) σ8 H8 s8->SR G m8 H8 (σ++v.map some) σ8->HR G m8 h8 H8->Ext m5 H5 m8 H8 ->
    bnd (gelt (σ++v.map some)) (λve=>bnd (cM src gc gelt σ (src.items.drop (k+1))) λws=>ret (ve::ws)) h8=.ok rest hE ->
    aq (aw X.prog X.w) X.A (aE elt (compEnvC scope cl C X.env)) (λxv s9=>aq (aw X.prog X.w) X.A (call (.builtin "list.append") [.ref D,xv]) (λ_ s10=>∃n',n'<src.items.length-k/\CIv G (cV X x scope cl C s3 H3 fp pins) src gc gelt σ x fp tn m1 H2 D all hE n' s10) E' s9) E' s8:=λ{s8 H8 m8 h8 σ8 hp7 E'} st7 I8 S8 R8 x8 hc8=>by
   obtain⟨eD8,nD8⟩:=x8.fr D _ eD5 nD5 (λ_ z=>nomatch z);obtain⟨ve,h9,rest9,eg,hci9,er⟩:∃ve h9 rest9,gelt (σ++v.map some) h8=.ok ve h9/\cM src gc gelt σ (src.items.drop (k+1)) h9=.ok rest9 hE/\rest=ve::rest9:=by
    simp only[bnd]at hc8;cases eg:gelt (σ++v.map some) h8 with
    |ok ve h9=>
      rw[eg]at hc8;dsimp only at hc8;cases ec:cM src gc gelt σ (src.items.drop (k+1)) h9 with
      |ok ws h10=>
        rw[ec]at hc8;injection hc8 with e1 e2;subst e1;subst e2;exact⟨ve,h9,ws,rfl,ec,rfl⟩
      |exc c h'=>rw[ec]at hc8;cases hc8
      |stuck=>rw[ec]at hc8;cases hc8
    |exc c h'=>rw[eg]at hc8;cases hc8
    |stuck=>rw[eg]at hc8;cases hc8
   subst er;refine cn (helt C s3 H3 fp pins (λ_ _=>False) ET _ s8 σ8 H8 (λv' H9=>∃m9,Ext m8 H8 m9 H9/\HR G m9 h9 H9/\VR G m9 H9 ve v') (I8.wish _) ⟨m8,h8,σ++v.map some,trivial,S8,R8,by rw[eg];exact λm9 H9 y R9 v' rv=>⟨m9,y,R9,rv⟩⟩) (λxv s9 e0=>e0.elim λv' e1=>e1.elim λH9 e2=>e2.elim λI9 e3=>e3.elim λr9 e4=>e4.elim λm9 e5=>e5.elim λx9 e6=>e6.elim λR9 rv=>?_) λ_ _ z=>z.elim;obtain⟨eD9,nD9⟩:=x9.fr D _ eD8 nD8 (λ_ z=>nomatch z);have x59:Ext m1 H2 m9 H9:=(x5.trans x8).trans x9;refine cn (Ao (X:=(cV X x scope cl C s3 H3 fp pins).wish λ_ _=>False) _ s9 σ8 H9 (.ref D) [v'] (.ref D) [xv] (λ_ H10=>H10=upd H9 D (.lst (vs++[v']))) I9 rfl (.cons r9 .nil) ⟨D,vs,v',rfl,rfl,eD9,?_,rfl⟩) (λ_ s10 e0=>bo e0 λv10 H10 I10 _ e10=>?_) λ_ _ z=>z.elim
   ·rw[←Paired.length ra];exact cJ (u0 hac (cJ hlt hlen)) (big (aY _))
   ·subst e10;have mD:Mn m9 H9 m9 (upd H9 D (.lst (vs++[v']))):=Mn.sideSet λys z=>by rw[eD9]at z;cases z
    exact again (acc9:=acc++[ve]) (vs9:=vs++[v']) (rest9:=rest9) st7 I10.unwish ((S8.mono x9).mn mD) (R9.sideSet nD9 (λys z=>by rw[eD9]at z;cases z) (λo' ys z=>by rw[eD9]at z;cases z) (λv z=>by rw[eD9]at z;cases z;exact λy=>y)) (x59.sideSet hD) nD9 (VRs.mono mD (iE (x9.vrs (x8.vrs ra)) (.cons rv .nil))) cG (by simp;lia) hci9 (by simpa using hsum)
  refine cn q7 (λ_ s8 e0=>e0.elim λσ8 e1=>e1.elim λH8 e2=>e2.elim λhp7 e3=>e3.elim λI8 e4=>e4.elim λx58 e5=>e5.elim λR8 e6=>e6.elim λS8 st7=>?_) λ_ _ z=>z.elim;cases ifs with
  |nil=>cases gc with
    |none=>
      simp only[jN];refine aI ?_;rw[if_pos rfl];exact body st7 I8 S8 R8 x58 hci
    |some g=>exact hif.elim
  |cons c more=>cases more with
    |nil=>cases gc with
      |none=>exact hif.elim
      |some g=>
        have hif:∀C s H fp pins,GT G (cV X x scope cl C s H fp pins) c g:=hif;unfold bnd at hci;cases et:tst g (σ++v.map some) h5 with
        |ok b h6=>
          simp only [et] at hci;refine wpAny_tests_one (cn (hif C s3 H3 fp pins (λ_ _=>False) ET _ s8 _ H8 (λb' H6=>b'=b/\∃m6,Ext m5 H8 m6 H6/\HR G m6 h6 H6) (I8.wish _) ⟨m5,h5,σ++v.map some,trivial,S8,R8,by
            rw [et];exact λm6 H6 y R6=>⟨rfl,m6,y,R6⟩⟩) (λb' s9 e0=>e0.elim λH6 e1=>e1.elim λI9 e2=>e2.elim λeb e3=>e3.elim λm6 e4=>e4.elim λx6 R6=>?_) λ_ _ z=>z.elim)
          subst eb;cases b' with
          |true=>
            rw[if_pos rfl];exact body st7 I9.unwish (S8.mono x6) R6 (x58.trans x6) (by simpa only[bnd,if_true] using hci)
          |false=>
            rw[if_neg bT];obtain⟨eD6,nD6⟩:=(x58.trans x6).fr D _ eD5 nD5 (λ_ z=>nomatch z);exact again st7 I9.unwish (S8.mono x6) R6 (x5.trans (x58.trans x6)) nD6 ((x58.trans x6).vrs ra) eD6 (by lia) (by simpa using hci) hsum
        |exc c h'=>simp only[et]at hci;cases hci
        |stuck=>simp only[et]at hci;cases hci
    |cons _ _=>exact hif.elim
 ·have e:k=src.items.length:=by lia
  subst e;rw[pG]at hci;unfold cM at hci;split at hci
  case isFalse=>cases hci
  case isTrue hok=>
  obtain⟨_,stp⟩:=hJ m5 h5 H5 x5 R5 hok;injection hci with e1 e2;subst e1;subst e2;refine cn (T.done (cV X x scope cl C s3 H3 fp pins) rfl rfl rfl hcalm _ [] s σc H5 (λ_ _=>False) I5 (stat fr5 λp z=>by cases z) st5 stp) (λr s6 q6=>?_) λ_ _ z=>z.elim
  obtain⟨rfl,I6⟩:=q6;rw[tz]at hsum;subst hsum;exact hR σc H5 m5 s6 vs I6 R5 x5 nD5 ra eD5
theorem xf{x:List Str}{one:Bool}{pos:Pos}{tg elt iter:av}{ifs:List av}{scope:Scope}{cl:List (Str×ae)}{gi:MI}{gc:Option ME}{gelt:ME}(ok:dJ X x scope cl)(hi:GI G X tg iter one x.length gi)
  (helt:∀C s H fp pins,GE G (cV X x scope cl C s H fp pins) elt gelt) (hif:ow G X x scope cl ifs gc) (htg:∀C s H fp pins,GTg G (cV X x scope cl C s H fp pins) tg one (lU X.N.length x.length)) (hcalm:X.calm=true) {pins:List (ae×az)} {s:ai} (I:Inv X pins σ' H s) (ex:EX σ') (S:SR G m H σ σ') (R:HR G m h H)
  {Q:MV->List ae->MH->Hp->Prop} (P:Post G X E EX m H (dD gi gc gelt σ h) Q) {RR:ag->ae->Result->ai->Prop}
  (hRR:∀D C s5 H5 m5 h5 v,Inv X pins σ' H5 s5->Fp X pins H5 C->(∃mm,s5.heap.Ns C mm)->Ext m H m5 H5->HR G m5 h5 H5->VR G m5 H5 v (.ref D)->Q v m5 h5 H5->RR (.ref D) C (.ok .next) s5) :
  aq (aw X.prog X.w) X.A (aE iter X.env) (λxv s₁=>aq (aw X.prog X.w) X.A (pyIter xv) (λit s₂=>aq (aw X.prog X.w) X.A (newList []) (λacc s₃=>
   aq (aw X.prog X.w) X.A (newFunctionEnv scope X.env.globals cl [] X.env.qual none .none (some X.env)) (λcenv s₄=>
    codeAny (aw X.prog X.w) X.A (.compStart (.ListComp elt [⟨tg,iter,ifs,0⟩] scope pos) 0 it acc { cenv with scope:=relabel scope X.env }) (RR acc cenv.locals) s₄) E s₃) E s₂) E s₁) E s:=by
 obtain ⟨wi,pw,hw⟩:=hi E EX;refine cn (pw pins s σ' H (λJ H2=>∃src m1 h1,JOk G J src one x.length m1 H2/\HR G m1 h1 H2/\Ext m H m1 H2/\Post G X E EX m1 H2 ((if src.items.length≤100000 then bnd (noExc (cM src gc gelt σ src.items)) (λvs=>new (.lst vs)) else stk) h1) Q) (I.wish E)
  (hw σ' H _ ⟨m,h,σ,ex,S,R,(Post.bind P).mono λsrc m1 h1 H1 x1 R1 P1 J hJ=>⟨src,m1,h1,hJ,R1,x1,P1⟩⟩)) (λxv s1 q1=>cn q1 (λitv s2 q2=>?_) λ_ _ z=>z) λ_ _ z=>z
 obtain⟨it,fp,tn,J,H2,rfl,I2,T,st2,f2,src,m1,h1,hJ,R1,x1,P1⟩:=q2;have I2:=I2.unwish;have f2:∀b∈fp,gv X pins H2 b:=f2;split at P1
 case isFalse=>exact P1.elim
 case isTrue hlen=>
 obtain⟨all,hE,hall,P2⟩:∃all hE,cM src gc gelt σ src.items h1=.ok all hE/\Post G X E EX m1 H2 (new (.lst all) hE) Q:=by
  unfold bnd noExc at P1;cases e:cM src gc gelt σ src.items h1 with
  |ok all hE=>rw[e]at P1;exact⟨all,hE,rfl,P1⟩
  |exc c h'=>rw[e]at P1;exact P1.elim
  |stuck=>rw[e]at P1;exact P1.elim
 have fD:H2 s2.heap.objs.size=none:=I2.hok.fresh (aY _);refine wpAny_newObj_type ?_;have I3:=I2.laid (t':=s2.toks) (o:=.lst []) (h':=s2.heap.push { cls:=.type "list",dict:=none,data:=.seq ([]:List ag).toArray }) (λb u e=>bv _ e) (aY _) ⟨d9 _,[],0,.nil,cR _ rfl⟩;generalize hs3:({ s2 with heap:=s2.heap.push { cls:=.type "list",dict:=none,data:=.seq ([]:List ag).toArray } }:ai)=s3 at I3 ⊢;have e3:∀b o,s2.heap.get? b=some o->s3.heap.get? b=some o:=λb o e=>by rw[←hs3];exact bv _ e
 have z3:s2.heap.objs.size<s3.heap.objs.size:=by rw[←hs3];simp
 have ffo:∀b∈fp,∃o,s2.heap.get? b=some o:=λb hb=>let ⟨o,e,_⟩:=T.obj 0 _ st2 b hb;⟨o,e⟩;have f3:∀b∈fp,gv X pins (upd H2 s2.heap.objs.size (.lst [])) b:=λb hb=>by
  obtain⟨o,e⟩:=ffo b hb;exact⟨by rw[aQ (cU (bc e))];exact(f2 b hb).1,(f2 b hb).2⟩
 refine wpAny_newFunctionEnv ok.nocell (λy hy=>by simp at hy) (λhp4 ns4 sb4=>?_) ok.kind;have k4:∀b o,s3.heap.get? b=some o->hp4.get? b=some o:=λb o e=>sb4.extBut b o (cU (bc e)) (bv _ e);have I4:=BJ (t:=s3.toks+([]:List (Str×ag)).length) ok I3 f3 (λb hb=>let ⟨o,e⟩:=ffo b hb;⟨o,e3 b o e⟩) ⟨_,ns4⟩ k4;have st4:tn 0 hp4:=T.keep 0 _ _ st2 λb hb o e=>k4 b o (e3 b o e);have stkF:∀b∈fp,b∉frs X.stack:=λb hb z=>by
  rcases bW.mp (I3.stkSub b z) with y|y
  ·exact(f3 b hb).2.1 y
  ·exact(f3 b hb).2.2.1 y
 have loop:=Bx (pos:=pos) (iter:=iter) (C:=s3.heap.objs.size) (s3:=s3) (D:=s2.heap.objs.size) ok helt hif htg hcalm T hJ hlen hall f3 (λb hb=>let ⟨o,e⟩:=ffo b hb;cU (bc (e3 b o e))) stkF I4 st4 ((S.mono x1).mono (Ext.side fD)) (R1.side fD) (Ext.side fD) fD (R1.fresh fD) cG (λb hb=>(f3 b hb).1)
  (Rr:=RR (.ref s2.heap.objs.size) s3.heap.objs.size) λσc H5 m5 s5 vs I5 R5 x5 nD5 ra eD5=>by
   have xA:Ext m1 H2 (m5++[s2.heap.objs.size]) H5:=by
    obtain⟨e,pe⟩:=x5.pre;refine⟨⟨e++[s2.heap.objs.size],by rw[pe];simp⟩,λa o z n nt=>⟨(x5.fr a o z n nt).1,?_⟩,x5.fz⟩;simp only[fY,c6,not_or];exact⟨(x5.fr a o z n nt).2,di z fD⟩
   have RA:HR G (m5++[s2.heap.objs.size]) (hE++[.lst all]) H5:=R5.adopt nD5 (λys z=>by rw[eD5]at z;cases z) (λv z=>by rw[eD5]at z;cases z;exact λy=>y) ⟨vs,VRs.mono (Mn.adopt (λys z=>by rw[eD5]at z;cases z)) ra,eD5⟩;refine hRR s2.heap.objs.size s3.heap.objs.size s5 H5 (m5++[s2.heap.objs.size]) (hE++[.lst all]) (.ref hE.length) (I3.call' I5.os I5.base I5.hok I5.bare λb hb=>⟨(f3 b hb).2.2.2.1,(f3 b hb).2.1,(f3 b hb).2.2.2.2.1,(f3 b hb).2.2.2.2.2⟩) (Fp.of I3 (i4 (aY _)) I5.free) ?_ (x1.trans xA) RA ⟨_,by rw[←R5.len];simp,rfl⟩ (P2 _ _ xA RA);obtain⟨mm,hn,_⟩:=I5.loc;exact⟨mm,hn⟩
 exact codeAny_compStart_list loop (T.self X.A 0 _ _ _ st4 loop)
theorem ia{x:List Str}{one:Bool}{pos:Pos}{tg elt iter:av}{ifs:List av}{scope:Scope}{cl:List (Str×ae)}{gi:MI}{gc:Option ME}{gelt:ME}(ok:dJ X x scope cl)(hi:GI G X tg iter one x.length gi)
  (helt:∀C s H fp pins,GE G (cV X x scope cl C s H fp pins) elt gelt) (hif:ow G X x scope cl ifs gc) (htg:(g9 X.N x).Nodup->∀C s H fp pins,GTg G (cV X x scope cl C s H fp pins) tg one (lU X.N.length x.length)) (hcalm:X.calm=true:=by rfl) (hs:∀z,foldedSetIterable iter X.env z=pure z:=by intro _;rfl) :
  GE G X (.ListComp elt [⟨tg,iter,ifs,0⟩] scope pos) (dD gi gc gelt):=λE EX pins s σ' H Q I e0=>bL e0 λm h σ ex S R P=>by
 rw[eval_ListComp];refine wpAny_comprehension_free (use:=none) rfl hs ok.clos ok.kind ok.locs ?_;refine xf (RR:=λacc C=>compPost (aw X.prog X.w) X.A E none (EP (X.wish E) pins σ' Q) acc C) ok hi helt hif (htg ok.nd) hcalm I.unwish ex S R P λD C s5 H5 m5 h5 v I5 fC hn x5 R5 rv q=>?_;obtain⟨mm,hn⟩:=hn;refine⟨mm,hn,λh6 hs6=>⟨.ref D,H5,Inv.wish ?_ E,rfl,q _ rv⟩⟩;exact fC.turned (t':=s5.toks) I5 λc o hc e=>hs6.extBut c o hc e
theorem wG{x:List Str}{y:Str}{n:Nat}{one:Bool}{py pos spos:Pos}{tg elt iter:av}{ifs:List av}{scope:Scope}{cl:List (Str×ae)}{gi:MI}{gc:Option ME}{gelt:ME}(ok:dJ X x scope cl)(hi:GI G X tg iter one x.length gi)
  (helt:∀C s H fp pins,GE G (cV X x scope cl C s H fp pins) elt gelt) (hif:ow G X x scope cl ifs gc) (htg:(g9 X.N x).Nodup->∀C s H fp pins,GTg G (cV X x scope cl C s H fp pins) tg one (lU X.N.length x.length)) (hN:X.N.Nodup) (hy:X.N[n]?=some y:=by rfl) (hl:X.env.scope.names.lookup y=some .local:=by rfl) (hcalm:X.calm=true:=by rfl) (hs:∀z,foldedSetIterable iter X.env z=pure z:=by intro _;rfl)
  (hsw:swapsWith (.ListComp elt [⟨tg,iter,ifs,0⟩] scope pos) (some (.Name y py)) spos.line X.env=pure true:=by rfl) :
  GS G EX X (.Assign [.Name y py] (.ListComp elt [⟨tg,iter,ifs,0⟩] scope pos) spos) (bp n (dD gi gc gelt)):=λE hp pins s σ' H D I e0=>bL e0 λm h σ ex S R P=>by
 show aq _ _ (exec _ X.env) _ _ s;rw[exec_Assign_Name_used _ _ _ _ hsw];refine ak (wpAny_standAt (ak ?_));show aq _ X.A (do let _ ←comprehension (.ListComp elt [⟨tg,iter,ifs,0⟩] scope pos) scope X.env _ (newList []) false (aE iter X.env) (some (assign (.Name y py) X.env))) _ _ s;refine ak (cn (wpAny_comprehension_free (use:=some (assign (.Name y py) X.env)) (Q:=λ_ s'=>SP (X.wish E) pins D .next s') rfl hs ok.clos ok.kind ok.locs ?_) (λ_ s' hq=>aI (aI hq)) λ_ _ z=>z);refine xf (RR:=λacc C=>compPost (aw X.prog X.w) X.A E (some (assign (.Name y py) X.env)) (λ_ s'=>SP (X.wish E) pins D .next s') acc C) ok hi helt hif (htg ok.nd) hcalm I.unwish ex S R (Post.bind P) λD' C s5 H5 m5 h5 v I5 fC hn x5 R5 rv q=>?_;obtain⟨mm,oC,es,ep,hoC,hdC,hkC⟩:=hn;have I6:Inv X (pins++[(C,oC)]) σ' H5 s5:=I5.pins_of λp hp=>by
  rcases fY.mp hp with z|z
  ·exact I5.pin p (dH _ z)
  ·cases c6.mp z;exact⟨hoC,fC.un,fC.loc,fC.fs,λv' z=>by rw[hdC]at z;cases z⟩
 refine wpAny_assign_Name (qJ (X:=X) (v:=.ref D') I6 hN hy (.inl hl) rfl (λs7 I7=>?_) (.inr hl));have pC:=I7.pin (C,oC) (dH _ (dH _ (c6.mpr rfl)));refine⟨mm,⟨oC,es,ep,pC.1,hdC,hkC⟩,λh8 hs8=>?_⟩;have I8:Inv X pins (σ'.set n (some (.ref D'))) H5 s7:=I7.pins_of λp hp=>I7.pin p (dH _ (i7 _ hp));have I9:Inv X pins (σ'.set n (some (.ref D'))) H5 { s7 with heap:=h8 }:=fC.turned (t':=s7.toks) I8 λc o hc e=>hs8.extBut c o hc e;exact⟨_,H5,I9.wish E,Post.here R5 q _ ((S.mono x5).set n rv)⟩
theorem VR.flat_iff{x:MV}{v:V}(na:x≠.any)(r:VR G m H x v):gZ v=flat x:=by
 cases x with
 |any=>exact absurd rfl na
 |tup n=>obtain⟨a,vs,q,_⟩:=r;subst q;rfl
 |ref n=>obtain⟨a,_,q⟩:=r;subst q;rfl
 |scr n=>obtain⟨_,q⟩:=r;subst q;rfl
 |non=>cases(show v=V.non from r);rfl
 |bl b=>cases(show v=V.bl b from r);rfl
 |int b=>cases(show v=V.int b from r);rfl
 |str b=>cases(show v=V.str b from r);rfl
theorem VR.eq_iff{x y:MV}{v w:V}(r:VR G m H x v)(q:VR G m H y w)(fx:flat x=true)(fy:flat y=true):eqV v w=eqM x y:=by
 cases x <;> cases y <;> first|(exact absurd fx bT)|(exact absurd fy bT)|(cases r;cases q;rfl)
theorem tX{x:MV}(f:flat x=true):x≠.any:=λz=>by rw[z]at f;cases f
theorem VRs.flat_iff{xs:List MV}{vs:List V}(r:VRs G m H xs vs)(f:xs.all flat=true):vs.all gZ=true:=by
 induction r with
 |nil=>rfl
 |cons a t ih=>
   simp only[iR,d8]at f ⊢;exact⟨by rw[VR.flat_iff (tX f.1) a];exact f.1,ih f.2⟩
theorem VRs.in_iff{xs:List MV}{vs:List V}{x:MV}{v:V}(q:VR G m H x v)(fx:flat x=true)(r:VRs G m H xs vs)(fs:xs.all flat=true):inV v vs=inM x xs:=by
 unfold inV inM
 induction r with
 |nil=>rfl
 |cons a t ih=>
   simp only[iR,d8]at fs;simp only[km,ih fs.2,VR.eq_iff a q fs.1 fx]
def uv(neg:Bool):R2:=λx y H Q=>∃a o,y=.ref a/\DGet H a x o/\Q (.bl (if neg then !o.isSome else o.isSome)) H
theorem l8(hu:X.A.units+1<cLine):OpR X (dm .In) (λx y H Q=>rIn X.K false x y H Q∨uv false x y H Q):=by
 refine Ck.or ?_;rintro pins s σ2 H x y v u Q I rx ry ⟨a,o,ey,g,q⟩;subst ey;cases ry;exact Dc hu I g rx λs3 I3=>⟨.bl o.isSome,H,I3,rfl,q⟩
theorem vC(hu:X.A.units+1<cLine):OpR X (dm .NotIn) (λx y H Q=>rIn X.K true x y H Q∨uv true x y H Q):=by
 refine GN.or ?_;rintro pins s σ2 H x y v u Q I rx ry ⟨a,o,ey,g,q⟩;subst ey;cases ry;exact CD hu I g rx λs3 I3=>⟨.bl (!o.isSome),H,I3,rfl,q⟩
theorem js{neg:Bool}:VO G (oIn neg) (λx y H Q=>rIn G.K neg x y H Q∨uv neg x y H Q):=by
 intro X E EX m h H x y x' y' Q R rx ry P;cases y with
 |ref a=>
   obtain⟨aa,ea,rfl⟩:=ry;obtain⟨oa,e1,q1,P1⟩:=bM R ea P;cases oa with
   |lst xs=>
     obtain⟨vs,r,z⟩:=q1;dsimp only at P1;split at P1
     ·rename_i c;exact .inl ⟨aa,vs,rfl,.inl (SqL.of z),by rw[VR.flat_iff (tX c.1) rx];exact c.1,VRs.flat_iff r c.2,by rw[VRs.in_iff rx c.1 r c.2];exact Post.here R P1 _ rfl⟩
     ·exact P1.elim
   |dct kvs=>
     obtain⟨ws,r,z⟩:=q1;dsimp only at P1;cases x with
     |str k=>
       cases(show x'=V.str k from rx);refine .inr ⟨aa,_,rfl,DGet.k (k:=Sum.inr k) z,?_⟩;have e:(eA ws (Sum.inr k)).isSome=(dget k kvs).isSome:=by rw[←pN,yt r]
       rw[e];exact Post.here R P1 _ rfl
     |_=>exact P1.elim
   |_=>exact P1.elim
 |tup xs=>
   obtain⟨aa,vs,rfl,_,z,r⟩:=ry;have r:=VRl.to r;unfold oIn at P;dsimp only at P;split at P
   ·rename_i c;exact .inl ⟨aa,vs,rfl,.inr (SqT.of z),by rw[VR.flat_iff (tX c.1) rx];exact c.1,VRs.flat_iff r c.2,by rw[VRs.in_iff rx c.1 r c.2];exact Post.here R P _ rfl⟩
   ·exact P.elim
 |_=>exact P.elim
theorem yS{α β:Type}{Rr:α->β->Prop}:∀(xs:List α) (ys:List β),xs.length=ys.length->(∀(i:Nat) x y,xs[i]?=some x->ys[i]?=some y->Rr x y)->cx Rr xs ys
 |[],[],_,_=>.nil
 |[],_::_,e,_=>by simp at e
 |_::_,[],e,_=>by simp at e
 |x::xs,y::ys,e,f=>.cons (f 0 x y rfl rfl) (yS xs ys (by simpa using e) λi a b ha hb=>f (i+1) a b (by simpa using ha) (by simpa using hb))
end L2.Rv
namespace L2.Rv
open PySem PySem.Spec PyProof.Rows
variable {G:Gb}{X:Cx}
def mv(env:Env):List (Str×ae)->Prop
 |[]=>True
 |(n,c)::r=>env.cells.lookup n=some c/\mv env r
theorem mv.get{env:Env}:∀{cl:List (Str×ae)},mv env cl->∀n c,cl.lookup n=some c->env.cells.lookup n=some c
 |[],_,n,c,e=>by simp at e
 |(n',c')::r,k,n,c,e=>by
   by_cases hn:n=n'
   ·subst hn;simp only[bK,beq_self_eq_true]at e;cases e;exact k.1
   ·have hb:(n == n')=false:=by simpa using hn
    simp only[bK,hb]at e;exact mv.get k.2 n c e
def wr(N:List Str)(x:List Str)(scope:Scope)(env:Env)(cl:List (Str×ae)):Bool:=
 scope.names.all (λy=>y.2 != .cell)&&scope.names.all (λy=>y.2 != .local||scope.names.lookup y.1 == some .local)&&true &&
 scope.names.all (λy=>y.2 != .free||((cl.lookup y.1).isSome&&(env.kindOf y.1 == some .cell||env.kindOf y.1 == some .free))) &&
 N.all (λn=>decide (n∈x)||scope.names.lookup n != some .local)&&(scope.names.lookup (aF "")).isNone&&decide (g9 N x).Nodup
theorem dJ.of{x:List Str}{scope:Scope}{cl:List (Str×ae)}(h1:closureFor scope X.env=pure cl)(h2:mv X.env cl)(h0:scope.kind=.function)(h3:wr X.N x scope X.env cl=true):dJ X x scope cl:=by
 simp only[wr,d8,rM,Bool.or_eq_true,bne_iff_ne,ne_eq,beq_iff_eq,decide_eq_true_eq,Option.isNone_iff_eq_none]at h3;obtain⟨⟨⟨⟨⟨⟨a1,a2⟩,a3⟩,a4⟩,a5⟩,a6⟩,a7⟩:=h3;refine⟨h1,h2.get,h0,a1,λy hy e=>(a2 y hy).resolve_left (λz=>z e),λy e=>?_,λy e=>?_,λn hn ne=>(a5 n hn).resolve_left ne,a6,a7⟩
 ·have:=(a4 _ (PySem.mem_of_lookup e)).resolve_left (λz=>z rfl);exact kq.mp this.1
 ·exact((a4 _ (PySem.mem_of_lookup e)).resolve_left (λz=>z rfl)).2
theorem DK{K:PySem.W.Frag}{C:ae}{name:Str}{a g:ag}(hc:(PySem.W.clsIn K C).isSome=true)(ha:PySem.W.findIn K (.ref C) name=some (some a))(hg:PySem.W.specialIn K a "__get__"=some (some g))(ht:PySem.W.takesIn K a=some true):PySem.W.findObj K C none name=some (.bind g a):=by
 obtain⟨cd,hc⟩:=kq.mp hc;unfold PySem.W.findObj;rw[hc,Option.bind_some,ha,Option.bind_some];simp[hg,ht]
abbrev i5:List ag:=[.type "ValueError",.type "Exception",.type "BaseException",.type "object"]
abbrev jd:String:="ValueError.__new__"
end L2.Rv
namespace L2.Rv
open PySem PySem.Spec PyProof.Rows
variable {G:Gb}{m m' m1 m2:List ae}{h h' h1 h2:MH}{H H' H1 H2:Hp}{X:Cx}{E:ag->ai->Prop}{EX:St->Prop}{σ:MSt}{σ':St}
theorem Inv.turnedL{pins:List (ae×az)}{s:ai}{fp:List ae}{hp:aG}{t:Nat}(I:Inv X pins σ' H s)(f:∀b∈fp,gv X pins H b)(k:∀c o,c∉fp->s.heap.get? c=some o->hp.get? c=some o):Inv X pins σ' H { s with heap:=hp,toks:=t }:=by
 have nit:∀b u,H b=some u->b∉fp:=λb u e z=>by rw[(f b z).1]at e;cases e
 refine I.step (g':=s.gens) (d':=s.drawn) (ch:=fp) (λb hb=>⟨(f b hb).2.2.2.1,(f b hb).2.1,(f b hb).2.2.2.2.1,(f b hb).2.2.2.2.2⟩) (λb o _ _ hc e _=>k b o hc e) (λb o _ _ hc e _=>⟨o.slots,k b o hc e⟩) (λ_ _ _ _ n=>n)
  (λb o hc e=>⟨o,k b o hc e⟩) (λ_ _ e=>e) (λ_ _ _ e=>e) (λb ps e=>⟨#[],by rw[e];simp⟩) (λmm hm=>?_) (λb u e=>?_) I.bare
 ·obtain⟨o,es,ep,ho,r⟩:=hm;exact⟨o,es,ep,k _ o (λz=>(f _ z).2.1 rfl) ho,r⟩
 ·refine(I.hok b u e).stay (λc v hc q=>k c v ?_ q) (λ_ q=>q) λ_ _ q=>q;rcases hc with z|z
  ·rw[z];exact nit b u e
  ·exact nit c _ z
theorem Inv.trackO{pins:List (ae×az)}{s:ai}{a:ae}{v:HO}(I:Inv X pins σ' H s)(f:Fp X pins H a)(ok:bG X.prog X.w (upd H a v) s.heap a v):Inv X pins σ' (upd H a v) s:=by
 have na:∀b u,H b=some u->b≠a:=λb u e z=>by rw[z,f.un]at e;cases e
 refine⟨I.ok,I.os,I.bare,⟨I.base.keep,I.base.slot,λb o e n hx=>?_,I.base.there,λb xs e=>?_,λb o u e=>?_,λb ps e=>?_⟩,I.loc,I.cell,?_,λx c e=>?_,λp hp=>?_,λb u e=>?_,I.len⟩
 ·rw[aQ]
  ·exact I.base.free b o e n hx
  ·intro z;rcases f.new with y|y
   ·exact hx (z▸y)
   ·rw[z,y]at e;cases e
 ·have q:=I.base.tups b xs e;rw[aQ (na b _ q)];exact q
 ·have q:=I.base.frzs b o u e;rw[aQ (na b _ q)];exact q
 ·obtain⟨mo,q⟩:=I.base.tbls b ps e;exact⟨mo,by rw[aQ (na b _ q)];exact q⟩
 ·rw[aQ (Ne.symm f.loc)];exact I.free
 ·rw[aQ (f.ce x c e)];exact I.freeC x c e
 ·obtain⟨a1,a2,a3,a4,a5⟩:=I.pin p hp;exact⟨a1,by rw[aQ (f.pin p hp)];exact a2,a3,a4,a5⟩
 ·by_cases z:b=a
  ·subst z;rw[cG]at e;cases e;exact ok
  ·rw[aQ z]at e;refine(I.hok b u e).stay (λ_ _ _ q=>q) (λc q=>?_) λc xs q=>?_
   ·rw[aQ (na c _ q)];exact q
   ·rw[aQ (na c _ q)];exact q
def Itz(K:PySem.W.Frag)(l1 l2:ae):It where
 go:=λi H=>∃xs ys x y,SqL K H l1 xs/\SqL K H l2 ys/\xs[i]?=some x/\ys[i]?=some y
 yld:=λi H v H'=>∃T x y,v=.ref T/\H T=none/\H'=upd H T (.tup [x,y])/\(∀xs,SqL K H l1 xs->xs[i]?=some x)/\∀ys,SqL K H l2 ys->ys[i]?=some y
 stop:=λi H=>∃xs ys,SqL K H l1 xs/\SqL K H l2 ys/\(xs.length≤i∨ys.length≤i)
theorem mem5{a b c d e x:ae}(h:x∉[a,b,c,d,e]):x≠a/\x≠b/\x≠c/\x≠d/\x≠e:=by simpa using h
theorem D9{P:bf}{w:aU}{K:PySem.W.Frag}{elts:List av}{x1:Nat}{tp:Pos}{z TI TO i1 i2 l1 l2:ae}(D:ZipApart z TI TO i1 i2 l1 l2) :
  Turn P w K (.Tuple elts x1 tp) (Itz K l1 l2) [z,TI,TO,i1,i2] z (λi h=>IsZip h z TI TO .none/\IsPair h TI (.ref i1) (.ref i2)/\(∃a b,IsPair h TO a b)/\h.IsListIter i1 l1 i/\h.IsListIter i2 l2 i) where
 mem:=by simp
 obj:=λi h ⟨hz,hTI,⟨a,b,hTO⟩,h1,h2⟩ c hc=>by
  simp only[bW,gA,or_false]at hc;rcases hc with rfl|rfl|rfl|rfl|rfl
  ·exact⟨_,hz,λv y=>by cases(show Data.fields _=Data.cell v from y)⟩
  ·exact⟨_,hTI,λv y=>by cases(show Data.seq _ _=Data.cell v from y)⟩
  ·exact⟨_,hTO,λv y=>by cases(show Data.seq _ _=Data.cell v from y)⟩
  ·obtain⟨o,e,q1,q2⟩:=h1;exact⟨o,e,λv y=>by rw[q2]at y;cases y⟩
  ·obtain⟨o,e,q1,q2⟩:=h2;exact⟨o,e,λv y=>by rw[q2]at y;cases y⟩
 keep:=λi h h' ⟨hz,hTI,⟨a,b,hTO⟩,h1,h2⟩ k=>⟨k z (by simp) _ hz,k TI (by simp) _ hTI,⟨a,b,k TO (by simp) _ hTO⟩,h1.at λo e=>k i1 (by simp) o e,h2.at λo e=>k i2 (by simp) o e⟩
 item:=by
  rintro X hP hw hK hc i pins s σ H E I hf ⟨hz,hTI,⟨a,b,hTO⟩,h1,h2⟩ ⟨xs,ys,x,y,q1,q2,e1,e2⟩;subst hP hw hK;obtain⟨its,rv,p,hzz⟩:=I.list q1;obtain⟨its2,rv2,p2,hzz2⟩:=I.list q2;obtain⟨u,hu,ru⟩:=rv.get e1;obtain⟨u2,hu2,ru2⟩:=rv2.get e2;refine wpAny_pyNext_zip_item D hz hTI hTO h1 h2 p.isList p2.isList (x:=u) (y:=u2) (by simpa using hu) (by simpa using hu2) λhp' a1 a2 a3 a4 a5 a6 kk=>?_;refine⟨_,rfl,wpAny_letOwnedTupleGo_zip a1 λhp2 b1 b2=>?_⟩;have kz:∀c o,c≠z->c≠TO->c≠i1->c≠i2->s.heap.get? c=some o->hp2.get? c=some o:=λc o c1 c2 c3 c4 e=>b2.extBut _ _ c1 (kk c o c1 c2 c3 c4 e);have I1:Inv X pins σ H { s with heap:=hp2,toks:=s.toks }:=Inv.turnedL I hf λc o hc' e=>by
   obtain⟨n1,n2,n3,n4,n5⟩:=mem5 hc';exact kz c o n1 n3 n4 n5 e
  have nT:∀c o,s.heap.get? c=some o->s.heap.objs.size≠c:=λc o e=>c9 (bc e);have zT:s.heap.objs.size≠z:=nT z _ hz;have gT:hp2.get? s.heap.objs.size=some { cls:=.type "tuple",data:=.seq #[u,u2] }:=b2.extBut _ _ zT a5;have fT:Fp X pins H s.heap.objs.size:=Fp.of I (i4 (aY _)) (I.hok.fresh (aY _));have I2:=Inv.trackO (v:=.tup [x,y]) I1 fT ⟨by show 2≤aZ;decide,[u,u2],.cons ru (.cons ru2 .nil),⟨_,gT,rfl,0,rfl⟩⟩;refine⟨.ref s.heap.objs.size,_,I2,rfl,⟨s.heap.objs.size,x,y,rfl,fT.un,rfl,λws hw=>by rw[I.list_inj hw q1];exact e1,λws hw=>by rw[I.list_inj hw q2];exact e2⟩,⟨b1,?_,⟨u,u2,b2.extBut _ _ D.TOz a2⟩,a3.extBut b2.extBut D.i1z,a4.extBut b2.extBut D.i2z⟩,λc hc'=>?_⟩
  ·exact kz _ _ D.TIz D.TITO D.TIi1 D.TIi2 hTI
  ·rw[aQ]
   ·exact(hf c hc').1
   ·simp only[bW,gA,or_false]at hc';rcases hc' with rfl|rfl|rfl|rfl|rfl
    ·exact(nT _ _ hz).symm
    ·exact(nT _ _ hTI).symm
    ·exact(nT _ _ hTO).symm
    ·obtain⟨o,e,_⟩:=h1;exact(nT _ _ e).symm
    ·obtain⟨o,e,_⟩:=h2;exact(nT _ _ e).symm
 done:=by
  rintro X hP hw hK hc i pins s σ H E I hf ⟨hz,hTI,⟨a,b,hTO⟩,h1,h2⟩ ⟨xs,ys,q1,q2,e1⟩;subst hP hw hK;obtain⟨its,rv,p,hzz⟩:=I.list q1;obtain⟨its2,rv2,p2,hzz2⟩:=I.list q2;have l1:=rv.length;have l2:=rv2.length;refine wpAny_pyNext_zip_end (I.ok.hd hc) D hz hTI hTO h1 h2 p.isList p2.isList ?_ λhp' kk=>⟨rfl,Inv.turnedL (t:=s.toks) I hf λc o hc' e=>?_⟩
  ·rcases e1 with e1|e1
   ·exact .inl (by simp;lia)
   ·exact .inr (by simp;lia)
  ·obtain⟨n1,n2,n3,n4,n5⟩:=mem5 hc';exact kk c o n1 n3 n4 n5 e
 self:=λ_ _ _ _ _ st h=>wpAny_pyIter_zip st.1 h
theorem Bn{a b:av}{ta:TA}{elts:List av}{x1:Nat}{tp p pos:Pos}(hg:Gl X "zip")(hm:X.mg "zip"=none)(ha:PA X [a,b] ta)(hs:aH [a,b] X.env=[(false,aE a X.env),(false,aE b X.env)]:=by rfl)(hs2:aH [b] X.env=[(false,aE b X.env)]:=by rfl) :
  PI X (.Tuple elts x1 tp) (.Call (.Name "zip" p) [a,b] [] pos) (λσ H R=>ta σ H λvs H1=>∃l1 l2 xs ys,vs=[.ref l1,.ref l2]/\SqL X.K H1 l1 xs/\SqL X.K H1 l2 ys/\R (Itz X.K l1 l2) H1):=by
 intro pins s σ H R I t;refine Call_ (hV I hg hm PyProof.Rows.Boot.«zip» (PyProof.Rows.callWith_type1 (thn (ha pos pins s σ H _ I t) λus s1 e0=>bo e0 λvs H1 I1 r1 q1=>?_) (by rw[hs,hs2]) (by rw[hs2];rfl)));obtain⟨l1,l2,xs,ys,rfl,q1,q2,q⟩:=q1;obtain⟨v,w,rfl,rx,ry⟩:=vals2 r1;cases rx;cases ry;obtain⟨its,rv,p1,hz1⟩:=I1.list q1;obtain⟨its2,rv2,p2,hz2⟩:=I1.list q2;have a1:l1<s1.heap.objs.size:=by obtain⟨_,e,_⟩:=p1.isList;exact bc e
 have a2:l2<s1.heap.objs.size:=by obtain⟨_,e,_⟩:=p2.isList;exact bc e
 refine call_zip_2 p1.isList p2.isList λhp hz hTI hTO hi1 hi2 hsz hk=>?_;refine wpAny_pyIter_zip (s:={ s1 with heap:=hp }) hz ?_;refine⟨_,[s1.heap.objs.size+4,s1.heap.objs.size+2,s1.heap.objs.size+3,s1.heap.objs.size,s1.heap.objs.size+1],_,_,H1,rfl,I1.kept (t':=s1.toks) hk,D9 (zipApart_new a1 a2),⟨hz,hTI,⟨_,_,hTO⟩,hi1,hi2⟩,λb hb=>?_,q⟩;have lb:s1.heap.objs.size≤b:=by
  simp only[bW,gA,or_false]at hb;rcases hb with rfl|rfl|rfl|rfl|rfl <;> lia
 exact I1.fpOk lb (I1.hok.fresh lb)
theorem wB:∀{xs ys:List MV}{i:Nat}{r:List MV},(dC xs ys)[i]?=some r->∃x y,xs[i]?=some x/\ys[i]?=some y/\r=[x,y]
 |[],ys,i,r,e=>by simp[dC]at e
 |_::_,[],i,r,e=>by simp[dC]at e
 |x::xs,y::ys,0,r,e=>by simp[dC]at e;exact⟨x,y,rfl,rfl,e.symm⟩
 |x::xs,y::ys,i+1,r,e=>by
   obtain⟨a,b,h1,h2,h3⟩:=wB (xs:=xs) (ys:=ys) (i:=i) (by simpa[dC] using e);exact⟨a,b,by simpa using h1,by simpa using h2,h3⟩
theorem xw:∀(xs ys:List MV),(dC xs ys).length=min xs.length ys.length
 |[],ys=>by simp[dC]
 |_::_,[]=>by simp[dC]
 |x::xs,y::ys=>by simp[dC,xw xs ys]
theorem EU{n k:Nat}{a b:ae}{xs ys:List MV}(ea:m[n]?=some a)(eb:m[k]?=some b):JOk G (Itz G.K a b) ⟨dC xs ys,[(n,xs),(k,ys)]⟩ false 2 m H:=by
 intro m2 h2 H2 pre R ok;have ea2:m2[n]?=some a:=pre.get ea;have eb2:m2[k]?=some b:=pre.get eb;have eo:h2[n]?=some (.lst xs)/\h2[k]?=some (.lst ys):=by simpa[Src.okIn,gH] using ok
 obtain⟨vs,r,z⟩:=R.ob n a _ ea2 eo.1;obtain⟨ws,r2,z2⟩:=R.ob k b _ eb2 eo.2;refine⟨λi row ei=>?_,⟨vs,ws,SqL.of z,SqL.of z2,?_⟩⟩
 ·obtain⟨x,y,e1,e2,rfl⟩:=wB ei;obtain⟨v,e3,rv⟩:=eR r e1;obtain⟨w,e4,rw'⟩:=eR r2 e2;refine⟨rfl,⟨vs,ws,v,w,SqL.of z,SqL.of z2,e3,e4⟩,λu H' yy=>?_⟩;obtain⟨T,x',y',rfl,hT,rfl,f1,f2⟩:=yy;have q1:=f1 vs (SqL.of z);have q2:=f2 ws (SqL.of z2);rw[e3]at q1;rw[e4]at q2;cases q1;cases q2;have xx:Ext m2 H2 m2 (upd H2 T (.tup [v,w])):=Ext.side hT;exact⟨xx,R.side hT,T,[v,w],rfl,R.fresh hT,cG,VRl.of (.cons (xx.vr rv) (.cons (xx.vr rw') .nil))⟩
 ·show vs.length≤(dC xs ys).length∨ws.length≤(dC xs ys).length;rw[xw,←Paired.length r,←Paired.length r2];lia
theorem zQ{a b:av}{ga gb:ME}{elts:List av}{x1:Nat}{tp p pos:Pos}(ha:GE G X a ga)(hb:GE G X b gb)(hm:X.mg "zip"=none)(hg:Gl X "zip":=by rfl)(hs:aH [a,b] X.env=[(false,aE a X.env),(false,aE b X.env)]:=by rfl)
  (hs2:aH [b] X.env=[(false,aE b X.env)]:=by rfl) (hK:X.K=G.K:=by rfl):GI G X (.Tuple elts x1 tp) (.Call (.Name "zip" p) [a,b] [] pos) false 2 (ng ga gb):=λE EX=>by
 refine⟨_,Bn (X:=X.wish E) hg hm (fg (X:=X.wish E) (ha E EX) (hb.a1 hs2 E EX) (by show aH [a,b] X.env=(false,aE a X.env)::aH [b] X.env;rw[hs,hs2])) hs hs2,λσ' H R e0=>bL e0 λm h σ ex S Rr P=>?_⟩;refine sub ex S Rr P λv m1 h1 H1 v' x1 R1 r1 P1=>sub ex (S.mono x1) R1 P1 λw m2 h2 H2 w' x2 R2 r2 P2=>?_;cases v with
 |ref n=>cases w with
   |ref k=>
     obtain⟨aa,ea,rfl⟩:=x2.vr r1;obtain⟨bb,eb,rfl⟩:=r2;obtain⟨oa,e1,q1,P3⟩:=bM R2 ea P2;obtain⟨ob,e2,q2,P4⟩:=bM R2 eb P3;cases oa with
     |lst xs=>cases ob with
       |lst ys=>
         obtain⟨vs,r,z⟩:=q1;obtain⟨ws,r',z'⟩:=q2;refine⟨aa,bb,vs,ws,rfl,SqL.of z,SqL.of z',?_⟩;have J:=Post.here R2 P4 (Itz G.K aa bb) (EU ea eb);rw[←hK]at J;exact J
       |_=>exact P4.elim
     |_=>exact P4.elim
   |_=>exact P2.elim
 |_=>exact P2.elim
def zG(K:PySem.W.Frag):V->V->Hp->VK->Prop:=λx y H Q=>sU K x y H Q∨uB x y H Q
theorem Hn(hu:X.A.units+1<cLine):PGet X (zG X.K):=by
 intro pins s σ H x y v u Q I rx ry q;rcases q with⟨p,xs,i,z,rfl,rfl,hq,he,q⟩|⟨a,w,ex,g,q⟩
 ·cases rx;obtain⟨t,rfl⟩:=ry;obtain⟨its,r,pl,hz⟩:=I.list hq;obtain⟨j,h1,h2,h3,h4,h5⟩:=o0 he;obtain⟨w,ew,rw'⟩:=r.get h2;have hl:=r.length;have hn:=j9;have fin:EP X pins σ Q w s:=⟨z,H,I,rw',q⟩
  by_cases h0:0≤i
  ·have hj:i.toNat=j:=by
    rw[seqIndex_of h0 h5]at h1;exact Option.some.inj h1
   exact wpAny_getItem_list pl.isList h0 (by lia) (by rw[hj];simpa using ew) fin
  ·have hj:(i+(its.toArray.size:Int)).toNat=j:=by
    rw[seqIndex_neg (by lia) h4]at h1;rw[cf,←hl];exact Option.some.inj h1
   exact wpAny_getItem_list_neg pl.isList (by lia) (by rw[cf] <;> lia) (by lia) (by rw[hj];simpa using ew) fin
 ·subst ex;cases rx;exact vR hu I g ry λw' s3 I3 rw'=>⟨w,H,I3,rw',q⟩
theorem Ha{β:Type}{k:MV->M β}{Q:β->List ae->MH->Hp->Prop}{x y:MV}{x' y':V}{K:PySem.W.Frag}(R:HR G m h H)(rx:VR G m H x x')(ry:VR G m H y y')(P:Post G X E EX m H (bnd (oJ x y) k h) Q) :
  zG K x' y' H λv' H'=>H'=H/\∃v,VR G m H v v'/\Post G X E EX m H (k v h) Q:=by
 have P:=Post.bind P;cases x with
 |ref n=>cases y with
   |int i=>
     obtain⟨aa,ea,rfl⟩:=rx;obtain⟨oa,e1,q1,P1⟩:=bM R ea P;cases oa with
     |lst xs=>
       obtain⟨vs,r,z⟩:=q1;dsimp only at P1;cases e:atN xs i with
       |none=>simp only[e]at P1;exact P1.elim
       |some v=>
         simp only[e]at P1;obtain⟨v',e',rv⟩:=ue r e;exact .inl ⟨aa,vs,i,v',rfl,ry,SqL.of z,by rw[nY];exact e',rfl,v,rv,Post.here R P1⟩
     |_=>exact P1.elim
   |str i=>
     obtain⟨aa,ea,rfl⟩:=rx;obtain⟨oa,e1,q1,P1⟩:=bM R ea P;cases oa with
     |dct kvs=>
       obtain⟨ws,r,z⟩:=q1;dsimp only at P1;cases e:dget i kvs with
       |none=>simp only[e]at P1;exact P1.elim
       |some v=>
         simp only[e]at P1;obtain⟨v',e',rv⟩:=(kO (k:=i) r).1 v e;cases(show y'=V.str i from ry);exact .inr ⟨aa,v',rfl,e'▸DGet.k (k:=Sum.inr i) z,rfl,v,rv,Post.here R P1⟩
     |_=>exact P1.elim
   |_=>exact P.elim
 |_=>exact P.elim
theorem ipA{op:Operator}{g:Int->Int->Int}{f:Op2}(hv:∀i j h,f (.int i) (.int j) h=.ok (.int (g i j)) h){β:Type}{k:MV->M β}{Q:β->List ae->MH->Hp->Prop}{x y:MV}{x' y':V}(ii:∀h,(∃i,x=.int i)/\(∃j,y=.int j)∨bnd (f x y) k h=.stuck)(R:HR G m h H)(rx:VR G m H x x')(ry:VR G m H y y')(P:Post G X E EX m H (bnd (f x y) k h) Q) :
  ∃i j,x'=.int i/\y'=.int j/\Post G X E EX m H (k (.int (g i j)) h) Q:=by
 rcases ii h with⟨⟨i,rfl⟩,⟨j,rfl⟩⟩|e
 ·refine⟨i,j,rx,ry,?_⟩;have P1:=Post.bind P;rw[hv i j h]at P1;exact Post.here R P1
 ·rw[e]at P;exact P.elim
theorem FF{x y:MV}{β:Type}{k:MV->M β}(h:MH):((∃i,x=.int i)/\(∃j,y=.int j))∨bnd (iJ x y) k h=.stuck:=by
 cases x <;> cases y <;> first|exact .inl ⟨⟨_,rfl⟩,⟨_,rfl⟩⟩|exact .inr rfl
theorem ur{x y:MV}{β:Type}{k:MV->M β}(h:MH):((∃i,x=.int i)/\(∃j,y=.int j))∨bnd (l0 x y) k h=.stuck:=by
 cases x <;> cases y <;> first|exact .inl ⟨⟨_,rfl⟩,⟨_,rfl⟩⟩|exact .inr rfl
section
variable {o i e:av}{go gi ge:ME}{pos tpos:Pos}{op:Operator}{g:Int->Int->Int}{f:Op2}
theorem za(hu:X.A.units+1<cLine)(hip:∀E,PIp (X.wish E) op (ipI g))(hv:∀i j h,f (.int i) (.int j) h=.ok (.int (g i j)) h)(hi2:∀(x y:MV) (k:MV->M MF) (h:MH),((∃i,x=.int i)/\(∃j,y=.int j))∨bnd (f x y) k h=.stuck)
  (ho:GE G X o go) (hi:GE G X i gi) (he:GE G X e ge) (hK:X.K=G.K:=by rfl) (ha:∀ov iv new,augStore i ov iv new=(do holding [new,ov,iv] (setItem ov iv new);release [new,ov,iv] [];pure .next):=by intros;rfl) :
  GS G EX X (.AugAssign (.Subscript o i tpos) op e pos) (l7 f go gi ge):=λE hp=>
 gG (Fm (X:=X.wish E) (ho E EX) (hi E EX) (Hn hu) (he E EX) (hip E) (ij hu) ha) λD σ' H e0=>bL e0 λm h σ ex S R P=>sub ex S R P λx m1 h1 H1 x' x1 R1 r1 P1=>sub ex (S.mono x1) R1 P1 λy m2 h2 H2 y' x2 R2 r2 P2=>by
  have fin:∀v' H',(H'=H2/\∃v,VR G m2 H2 v v'/\Post G X E EX m2 H2 (bnd (ge σ) (λw=>bnd (f v w) λz=>bnd (ib x y z) λ_=>ret (MF.next σ)) h2) (QD G D))->TGe G X E EX ge σ' H' λy_1 H4=>ipI g v' y_1 H4 λz H5=>oG x' y' z H5 λH6=>D.nx σ' H6:=by
   rintro v' H' ⟨rfl,v,rv,P3⟩;refine sub ex ((S.mono x1).mono x2) R2 P3 λw m4 h4 H4 w' x4 R4 r4 P4=>?_;obtain⟨i,j,e1,e2,P5⟩:=ipA (op:=op) (g:=g) hv (hi2 v w _) R4 (x4.vr rv) r4 P4;refine⟨i,j,e1,e2,?_⟩;rcases ze R4 (x4.vr (x2.vr r1)) (x4.vr r2) (show VR G m4 H4 (.int (g i j)) (.int (g i j)) from rfl) P5 with q|q
   ·obtain⟨p,xs,k,j,e1,e2,e3,e4,h4,x5,R5,P6⟩:=q;exact .inl ⟨p,xs,k,j,e1,e2,e3,e4,Post.here R5 P6 σ' ((((S.mono x1).mono x2).mono x4).mono x5)⟩
   ·obtain⟨a,H4,e1,g,h4,x5,R5,P6⟩:=q;exact .inr ⟨a,H4,e1,g,Post.here R5 P6 σ' ((((S.mono x1).mono x2).mono x4).mono x5)⟩
  rcases Ha (K:=G.K) R2 (x2.vr r1) r2 P2 with q|q
  ·obtain⟨p,xs,i,v',e1,e2,e3,e4,q⟩:=q;refine .inl ⟨p,xs,i,v',e1,e2,?_,e4,fin v' H2 q⟩;show SqL X.K H2 p xs;rw[hK];exact e3
  ·obtain⟨a,v',e1,g,q⟩:=q;exact .inr ⟨a,v',e1,g,fin v' H2 q⟩
theorem xl{fl:String}{cs:List Nat}{rd:V->V->Hp->VK->Prop}(hin:∀E,uA (X.wish E) op rd)(hrd:∀x y H Q,ipI g x y H Q->rd x y H Q)(hv:∀i j h,f (.int i) (.int j) h=.ok (.int (g i j)) h)(hi2:∀(x y:MV) (k:MV->M MF) (h:MH),((∃i,x=.int i)/\(∃j,y=.int j))∨bnd (f x y) k h=.stuck)
  (ho:GE G X o go) (he:GE G X e ge) (hf:aX G cs fl) (hK:X.K=G.K:=by rfl):GS G EX X (.AugAssign (.Attribute o (aF fl) tpos) op e pos) (lY f go cs fl ge):=λE hp=>
 gG (Bl (X:=X.wish E) (ho E EX) (he E EX) (hin E)) λD σ' H e0=>bL e0 λm h σ ex S R P=>sub ex S R P λx m1 h1 H1 x' x1 R1 r1 P1=>by
  cases x with
  |ref n=>
    obtain⟨aa,ea,rfl⟩:=r1;obtain⟨oa,e1,q1,P2⟩:=bM R1 ea P1;cases oa with
    |ins c fs=>
      obtain⟨dx,ws,r,z⟩:=q1;dsimp only at P2;split at P2
      ·rename_i hc;cases ew:fs.lookup fl with
       |none=>simp only[ew]at P2;exact P2.elim
       |some w=>
         simp only[ew]at P2;obtain⟨w',ew',rw'⟩:=vM r ew;have k:=hf c (by simpa using hc);rw[←hK]at k;refine⟨aa,_,dx,ws,w',rfl,z,k.1,k.2,ew',?_⟩;refine sub ex (S.mono x1) R1 P2 λv m2 h2 H2 v' x2 R2 r2 P3=>hrd _ _ _ _ ?_;obtain⟨i,j,e1,e2,P4⟩:=ipA (op:=op) (g:=g) hv (hi2 w v _) R2 (x2.vr rw') r2 P3;refine⟨i,j,e1,e2,?_⟩;have ea2:=x2.get ea;obtain⟨ob,eo,qo,P5⟩:=bM R2 ea2 P4;cases ob with
         |ins c' fs'=>
           obtain⟨dx',ws',r',z'⟩:=qo;dsimp only at P5;split at P5
           ·rename_i hl;obtain⟨ec,hl⟩:=hl;subst ec;refine⟨dx',ws',z',by rw[←Paired.length r'];exact hl,?_⟩;have P6:=jQ R2 ea2 P5;have x3:Ext m2 H2 m2 (upd H2 aa (.ins (G.cl c') dx' (L2.putF (aF fl) (.int (g i j)) ws'))):=Ext.upd ea2 z';exact P6 _ _ x3 (R2.upd ea2 (λo' ys zz=>by rw[z']at zz;cases zz) ⟨dx',_,FR.mono x3.mn (ut (show VR G m2 H2 (.int (g i j)) (.int (g i j)) from rfl) r'),cG⟩) σ' (((S.mono x1).mono x2).mono x3)
           ·exact P5.elim
         |_=>exact P5.elim
      ·exact P2.elim
    |_=>exact P2.elim
  |_=>exact P1.elim
end
def Itd(lo:Int)(n:Nat):It:=⟨λi _=>i<n,λi H x H'=>H'=H/\x=.int (lo-i),λi _=>n≤i⟩
theorem DH{P:bf}{w:aU}{K:PySem.W.Frag}{tg:av}(it:ae)(lo:Int)(n:Nat):Turn P w K tg (Itd lo n) [it] it (λi h=>IsRangeIter h it (lo+(i:Nat)*(-1)) ((n:Int)-(i:Nat)) (-1)) where
 mem:=by simp
 obj:=λi h st b hb=>by
  have e:b=it:=by simpa using hb
  subst e;exact⟨_,st,λv z=>by cases(show Data.fields _=Data.cell v from z)⟩
 keep:=λi h h' st k=>k it (by simp) _ st
 item:=by
  intro X hP hw hK hc i pins s σ H E I hf st hg;subst hP hw hK;obtain⟨f0,f1,f2,f3,f4,f5⟩:=hf it (by simp);have W:=Walks.range (prog:=X.prog) (w:=X.w) (I.ok.hd hc) it lo (-1) n;refine W.item i s _ _ hg st λv h' tk hv st' kk=>?_;obtain⟨t,rfl⟩:=hv;have I1:Inv X pins σ H { s with heap:=h',toks:=tk }:=I.turned (λb o hb e=>kk b o (by simpa using hb) e) f0 f1 f3 f4 f5;refine⟨_,rfl,tD (s:={ s with heap:=h',toks:=tk }) (n:="range_iterator") st' rfl rfl (by decide) ⟨.int (lo-i),H,I1,⟨t,?_⟩,⟨rfl,rfl⟩,st',λb hb=>(hf b hb).1⟩⟩;congr 1
  lia
 done:=by
  intro X hP hw hK hc i pins s σ H E I hf st hg;subst hP hw hK;obtain⟨f0,f1,f2,f3,f4,f5⟩:=hf it (by simp);exact wpAny_pyNext_range_end (I.ok.hd hc) st (by have:n≤i:=hg;lia) λh' eb=>⟨rfl,I.turned (t':=s.toks) (λb o hb e=>eb b o hb e) f0 f1 f3 f4 f5⟩
 self:=λ_ _ _ _ _ st h=>wpAny_pyIter_rangeiter st h
theorem CU{a b c:av}{ta:TA}{tg:av}{p pos:Pos}(hg:Gl X "range")(hm:X.mg "range"=none)(ha:PA X [a,b,c] ta)(hs:aH [a,b,c] X.env=(false,aE a X.env)::aH [b,c] X.env:=by rfl)(hpl:(backTo pos (aH [b,c] X.env)).any (·.1)=false:=by rfl) :
  PI X tg (.Call (.Name "range" p) [a,b,c] [] pos) (λσ H R=>ta σ H λvs H1=>∃i j:Int,vs=[.int i,.int j,.int (-1)]/\(-1000000≤i/\i<1000000/\-1000000≤j/\j<1000000)/\R (Itd i (i-j).toNat) H1):=by
 intro pins s σ H R I t;refine Call_ (hV I hg hm boot_range (PyProof.Rows.callWith_type1 (thn (ha pos pins s σ H _ I t) λus s1 e0=>bo e0 λvs H1 I1 r1 q1=>?_) hs hpl));obtain⟨i,j,rfl,bd,q⟩:=q1;cases r1 with
 |cons ra r1=>cases r1 with
   |cons rb r1=>cases r1 with
     |cons rc r1=>
       cases r1;obtain⟨t1,rfl⟩:=ra;obtain⟨t2,rfl⟩:=rb;obtain⟨t3,rfl⟩:=rc;refine call_range_3 (by decide) ?_ (Or.inl (PyProof.noPylong_small (by lia)))
       refine wpAny_pyIter_range (IsRange.new ..) (PySem.W.small_down (by lia) (by lia) (by lia) (by lia)) ?_;have I2:Inv X pins σ H1 { s1 with heap:=s1.heap.push { cls:=.type "range",data:=.fields #[.int i t1,.int j t2,.int (-1) t3] },toks:=s1.toks }:=I1.kept λb o e=>bv _ e;refine ⟨(s1.heap.push { cls:=.type "range",data:=.fields #[.int i t1,.int j t2,.int (-1) t3] }).objs.size,[(s1.heap.push { cls:=.type "range",data:=.fields #[.int i t1,.int j t2,.int (-1) t3] }).objs.size],_,_,H1,rfl,
        I2.kept (t':=s1.toks) λb o e=>bv _ e,DH _ i (i - j).toNat,?_,λb hb=>?_,q⟩
       ·have e1:i+((0:Nat):Int)*(-1)=i:=by simp
        have e2:(((i-j).toNat:Nat):Int)-((0:Nat):Int)=Builtin.Range.rangeSize i j (-1):=by rw[PySem.W.rangeSize_downNat];lia
        show IsRangeIter _ _ (i+((0:Nat):Int)*(-1)) ((((i-j).toNat:Nat):Int)-((0:Nat):Int)) (-1);rw[e1,e2];exact cR _ rfl
       ·have e:b=(s1.heap.push { cls:=.type "range",data:=.fields #[.int i t1,.int j t2,.int (-1) t3] }).objs.size:=by simpa using hb
        subst e;exact I2.fpOk (aY _) (I2.hok.fresh (aY _))
theorem DP{lo:Int}{n:Nat}:JOk G (Itd lo n) ⟨hX lo n,[]⟩ true 1 m H:=by
 intro m2 h2 H2 _ R ok;refine⟨λi vs ei=>?_,by simp[hX,Itd]⟩;have hi:i<n:=by
  have:=(bF.mp ei).1;simpa[hX] using this
 unfold hX at ei;rw[bz,hG hi]at ei;cases ei;refine⟨rfl,hi,λx H' y=>?_⟩;obtain⟨rfl,y2⟩:=y;exact⟨.refl,R,_,rfl,y2⟩
theorem BU{tg a b:av}{ga gb:ME}{j:Nat}{p pos p1 p2:Pos}(ha:GE G X a ga)(hb:GE G X b gb)(hm:X.mg "range"=none)(hg:Gl X "range":=by rfl)
  (hs:aH [a,b,.UnaryOp .USub (.Constant (.int 1) j p1) p2] X.env=(false,aE a X.env)::aH [b,.UnaryOp .USub (.Constant (.int 1) j p1) p2] X.env:=by rfl)
  (hs2:aH [b,.UnaryOp .USub (.Constant (.int 1) j p1) p2] X.env=(false,aE b X.env)::aH [.UnaryOp .USub (.Constant (.int 1) j p1) p2] X.env:=by rfl)
  (hs3:aH [.UnaryOp .USub (.Constant (.int 1) j p1) p2] X.env=[(false,aE (.UnaryOp .USub (.Constant (.int 1) j p1) p2) X.env)]:=by rfl) (hpl:(backTo pos (aH [b,.UnaryOp .USub (.Constant (.int 1) j p1) p2] X.env)).any (·.1)=false:=by rfl) :
  GI G X tg (.Call (.Name "range" p) [a,b,.UnaryOp .USub (.Constant (.int 1) j p1) p2] [] pos) true 1 (pD ga gb):=λE EX=>by
 refine⟨_,CU (X:=X.wish E) hg hm (fg (X:=X.wish E) (ha E EX) (fg (X:=X.wish E) (hb E EX) (fg (X:=X.wish E) (xX yA yp) pU hs3) hs2) hs) hs hpl,λσ' H R e0=>bL e0 λm h σ ex S Rr P=>?_⟩;refine sub ex S Rr P λv m1 h1 H1 v' x1 R1 r1 P1=>sub ex (S.mono x1) R1 P1 λw m2 h2 H2 w' x2 R2 r2 P2=>?_;cases v with
 |int i=>cases w with
   |int j=>
     cases(show v'=V.int i from r1);cases(show w'=V.int j from r2);dsimp only at P2
     split at P2
     ·rename_i c;exact⟨1,rfl,i,j,rfl,c,Post.here R2 P2 _ DP⟩
     ·exact P2.elim
   |_=>exact P2.elim
 |_=>exact P2.elim
end L2.Rv
namespace L2.Rv
open PySem PySem.Spec PyProof.Rows PySem.W
section
variable {prog:bf}{w:aU}{A:bh}{E:ag->ai->Prop}{s:ai}{b fin:Bool}{Q:Bool->ai->Prop}
theorem n9{i:Int}{u:ag}(h:(cg prog w).is (.inl i) u=true):∃t,u=Value.int i t:=by
 rcases gM (show iV (.inl i) u=true from h) with⟨_,t,e,q⟩|⟨_,_,e,_⟩
 ·cases e;exact⟨t,q⟩
 ·cases e
theorem kf{i:Str}{u:ag}(h:(cg prog w).is (.inr i) u=true):∃t,u=Value.str i t:=by
 rcases gM (show iV (.inr i) u=true from h) with⟨_,_,e,_⟩|⟨_,t,e,q⟩
 ·cases e
 ·cases e;exact⟨t,q⟩
theorem FL{x y:List Key}{us vs:List ag}{i:Nat}{c:Bool}(hx:PySem.ItemsAre (cg prog w) x us)(hy:PySem.ItemsAre (cg prog w) y vs)(hl:ltK x y=some c)(hf:fin=decide (us.length<vs.length))(h:Q c s) :
  KatLex prog w A b fin Q (us.zip vs) i s:=by
 induction hx generalizing y vs i with
 |nil=>
   have:c=fin:=by
    rw[hf];cases hy with
    |nil=>simpa[ltK] using hl.symm
    |cons _ _=>simpa[ltK] using hl.symm
   subst this;exact h
 |@cons k u x us hu hx ih=>
  cases hy with
  |nil=>
   have:c=fin:=by rw[hf];simpa[ltK] using hl.symm
   subst this;exact h
  |@cons l v y vs hv hy=>
   rw[mj];refine kat_cons ?_;unfold ltK at hl;have go:∀e:Bool,e=decide (k=l)->KatGo prog w A b fin Q u v (us.zip vs) i e s:=λe he=>by
    by_cases hkl:k=l
    ·rw[if_pos hkl]at hl;have:e=true:=by rw[he];simpa using hkl
     subst this;exact kat_yes (ih hy hl (by rw[hf];simp))
    ·rw[if_neg hkl]at hl;have:e=false:=by rw[he];simpa using hkl
     subst this;refine kat_no ?_;cases k with
     |inl a=>cases l with
       |inl a'=>
         obtain⟨t,rfl⟩:=n9 hu;obtain⟨t',rfl⟩:=n9 hv;have ec:decide (a<a')=c:=by simpa using hl
         subst ec;cases hb:(b&&i == 0) with
         |true=>exact oneLt_int h
         |false=>exact kat_one _ _ (wpAny_lt_int h)
       |inr a'=>simp at hl
     |inr a=>cases l with
       |inl a'=>simp at hl
       |inr a'=>
         obtain⟨t,rfl⟩:=kf hu;obtain⟨t',rfl⟩:=kf hv;have ec:decide (a.cps.toList<a'.cps.toList)=c:=by simpa using hl
         subst ec;cases hb:(b&&i == 0) with
         |true=>exact oneLt_str h
         |false=>exact kat_one _ _ (PyProof.Rows.lt_str h)
   exact(cg prog w).eqBool (a:=k) (b:=l) hu hv (go _ rfl)
theorem HX{x y:List Key}{a a':ae}{c:Bool}(hx:PySem.IsTupleKey (cg prog w) s.heap x a)(hy:PySem.IsTupleKey (cg prog w) s.heap y a')(hl:ltK x y=some c)(h:Q c s) :
  aq (aw prog w) A (keyLt' (tuples' b) (.ref a) (.ref a')) Q E s:=by
 obtain⟨ox,us,n,e1,_,d1,i1⟩:=hx;obtain⟨oy,vs,n',e2,_,d2,i2⟩:=hy;exact kat_lt e1 d1 e2 d2 (FL i1 i2 hl (by simp) h)
theorem EH{x y:List Key}{a a':ae}{c:Bool}{P:PySem.Fin->ai->Prop}(hx:PySem.IsTupleKey (cg prog w) s.heap x a)(hy:PySem.IsTupleKey (cg prog w) s.heap y a')(hl:ltK x y=some c)
  (h:P (.done (.ret (.bool c))) s):aq (aw prog w) A (Builtin.«tuple.__lt__» ⟨[.ref a,.ref a'],[]⟩) P E s:=by
 have hTb:=hy.typeIs;obtain⟨oa,xs,na,hoa,_,hda,hia⟩:=hx;obtain⟨ob,ys,nb,hob,_,hdb,hib⟩:=hy;show aq _ _ (isInstance (.ref a') (.type "tuple") >>= _) _ _ s;refine ak (wpAny_isInstance hTb isSubtype_tuple_tuple ?_);simp only[k8,dh,if_false];refine ak (wpAny_tupleItemsOf hoa hda ?_);refine ak (wpAny_tupleItemsOf hob hdb ?_);refine ak ?_;refine wpAny_forIn_list _
  (λrest r s'=>r.1=none/\s'=s/\∃x' y' xs' ys',rest=List.zip xs' ys'/\PySem.ItemsAre (cg prog w) x' xs'/\PySem.ItemsAre (cg prog w) y' ys'/\ltK x' y'=some c/\decide (xs'.length<ys'.length)=decide (xs.size<ys.size))
  _ ?_ ?_ _ _ ⟨rfl,rfl,x,y,xs.toList,ys.toList,rfl,hia,hib,hl,by simp⟩
 ·rintro⟨u,v⟩ rest r s' ⟨hr,rfl,x',y',xs',ys',hz,hx',hy',hdec,hlen⟩;cases hx' with
  |nil=>simp at hz
  |@cons k1 u' x'' xs'' h1 hx''=>
    cases hy' with
    |nil=>simp at hz
    |@cons k2 v' y'' ys'' h2 hy''=>
      simp only[mj,List.cons.injEq,Prod.mk.injEq]at hz;obtain⟨⟨rfl,rfl⟩,rfl⟩:=hz;refine ak ((cg prog w).eqBool (a:=k1) (b:=k2) h1 h2 ?_);unfold ltK at hdec;by_cases hk:k1=k2
      ·rw[if_pos hk]at hdec;rw[decide_eq_true hk];simp only[k8,dh,if_false];exact aI ⟨rfl,rfl,x'',y'',xs'',ys'',rfl,hx'',hy'',hdec,by simpa using hlen⟩
      ·rw[if_neg hk]at hdec;rw[decide_eq_false hk];simp only[Bool.not_false,if_true];refine ak (wpAny_rule (ak ?_));cases k1 with
       |inl i=>cases k2 with
         |inl j=>
           obtain⟨t,rfl⟩:=n9 h1;obtain⟨t',rfl⟩:=n9 h2;have ec:decide (i<j)=c:=by simpa using hdec
           subst ec;exact(show aq (aw prog w) A (dm .Lt (.int i t) (.int j t')) _ _ s' from wpAny_lt_int (ak (aI (aI (aI h)))))
         |inr j=>simp at hdec
       |inr i=>cases k2 with
         |inl j=>simp at hdec
         |inr j=>
           obtain⟨t,rfl⟩:=kf h1;obtain⟨t',rfl⟩:=kf h2;have ec:decide (i.cps.toList<j.cps.toList)=c:=by simpa using hdec
           subst ec;exact(show aq (aw prog w) A (dm .Lt (.str i t) (.str j t')) _ _ s' from PyProof.Rows.lt_str (ak (aI (aI (aI h)))))
 ·rintro⟨r1,r2⟩ s' ⟨hr,rfl,x',y',xs',ys',hz,hx',hy',hdec,hlen⟩;simp only at hr;subst hr;refine aI ?_;have hfin:decide (xs.size<ys.size)=c:=by
   rw[←hlen];cases hx' with
   |nil=>
     cases hy' with
     |nil=>simpa[ltK] using hdec
     |cons _ _=>simpa[ltK] using hdec
   |cons _ _=>
     cases hy' with
     |nil=>simpa[ltK] using hdec
     |cons _ _=>simp at hz
  show P (.done (.ret (.bool (decide (xs.size<ys.size))))) s';rw[hfin];exact h
theorem Fe{x y:List Key}{a a':ae}{c:Bool}{Q:ag->ai->Prop}(hu:A.units<cLine)(hx:PySem.IsTupleKey (cg prog w) s.heap x a)(hy:PySem.IsTupleKey (cg prog w) s.heap y a')(hl:ltK x y=some c)
  (h:Q (.bool c) s):aq (aw prog w) A (dm .Lt (.ref a) (.ref a')) Q E s:=
 show aq (aw prog w) A (richCompare .Lt (.ref a) (.ref a')) Q E s from
 wpAny_richCompare_same_room (op:=.Lt) hx.typeIs hy.typeIs PySem.F.slot_tuple_lt (wpAny_call_entry PySem.F.slot_tuple_lt hx.typeIs PySem.F.entry_tuple_lt (EH hx hy hl ⟨_,rfl,(λe=>nomatch e),h⟩) (PySem.F.args_tuple_lt_2 _ _)) hu
theorem Bg{x y:List Key}{a a' p p':ae}{o o':az}{us vs:List ag}{n n':Nat}{c:Bool}(hu:A.units<cLine)(e1:s.heap.get? a=some o)(d1:o.data=.seq (.ref p::us).toArray n)(e2:s.heap.get? a'=some o')(d2:o'.data=.seq (.ref p'::vs).toArray n')
  (hx:PySem.IsTupleKey (cg prog w) s.heap x p) (hy:PySem.IsTupleKey (cg prog w) s.heap y p') (hne:x≠y) (hl:ltK x y=some c) (h:Q c s):aq (aw prog w) A (keyLt' (tuples' false) (.ref a) (.ref a')) Q E s:=by
 refine kat_lt e1 d1 e2 d2 ?_;rw[vI,vI,mj];refine kat_cons (PySem.wpAny_eqBool_tuple hu hx hy ?_);rw[decide_eq_false hne];exact kat_no (kat_one _ _ (Fe hu hx hy hl h))
end
theorem An{α:Type}{ask:Nat->Nat->Option Bool}{cmp:Nat->Nat->(Bool->ai->Prop)->ai->Prop}{s:ai}{G:α->ai->Prop}(hc:∀i j b (C:Bool->ai->Prop),ask i j=some b->C b s->cmp i j C s) :
  ∀{t:KasT α}{a:α},cT ask t=some a->G a s->t.kasWp cmp G s
 |.ret a,a',e,g=>by
   have:a=a':=by simpa[cT] using e
   subst this;exact g
 |.ask i j k,a',e,g=>by
   unfold cT at e;cases ea:ask i j with
   |none=>rw[ea]at e;cases e
   |some b=>
     rw[ea]at e;exact hc i j b _ ea (An hc (t:=k b) e g)
section
variable {prog:bf}{w:aU}{A:bh}{E:ag->ai->Prop}{s:ai}{a kS:ae}{vs ks:List ag}{f:ag}
abbrev jB(a:ae)(h h':aG):Prop:=∀b o,b≠a->h.get? b=some o->h'.get? b=some o
def lD(prog:bf)(w:aU)(A:bh)(ks:List ag)(ix:List Nat)(s:ai):Prop:=
 (ks.length < 2/\ix=cz ks.length)∨(2≤ks.length/\ks.length < 64/\∃κ p ask,ix=Array.toList p/\(∀Q:SortKind->ai->Prop,Q κ s->aq (aw prog w) A (keyKind' ks.toArray) Q (λ_ _=>False) s) /\
  (∀i j b (C:Bool->ai->Prop),ask i j=some b->C b s->kas_ask prog w A κ ks i j C s)/\cT ask (kas_sort ks.length)=some p)
abbrev picked(vs:List ag)(ix:List Nat):List ag:=ix.map λi=>vs.getD i Value.none
theorem Bb:∀(vs:List ag),picked vs (cz vs.length)=vs:=λvs=>by
 apply iK;intro i;simp only[picked,bz];by_cases h:i<vs.length
 ·rw[hG h];simp[h]
 ·simp[kg h]
abbrev qP(vs:List ag)(ix:List Nat)(st:SortSt):Prop:=(arrOf st).map (·.2)=(picked vs ix).toArray/\(picked vs ix).length=vs.length/\failedOf st=none
theorem yX{ix:List Nat}(hl:ks.length=vs.length)(so:lD prog w A ks ix s) :
  (vs.toArray.size < 2/\qP vs ix (SortSt.mk' general' (ks.toArray.zip vs.toArray) #[] 7 none))∨(¬vs.toArray.size < 2/\∃κ,(∀Q:SortKind->ai->Prop,Q κ s->aq (aw prog w) A (keyKind' ks.toArray) Q (λ_ _=>False) s) /\
   ∀(E:ag->ai->Prop) (Q:Unit × SortSt->ai->Prop),(∀st,qP vs ix st->Q ((),st) s)->aq (aw prog w) A (sortRuns'.run (SortSt.mk' κ (ks.toArray.zip vs.toArray) #[] 7 none)) Q E s):=by
 have hz:vs.toArray.size=vs.length:=by simp
 rcases so with⟨h2,rfl⟩|⟨h2,h64,κ,p,ask,rfl,kd,cm,run⟩
 ·refine .inl ⟨by rw[hz];lia,?_,by simp[picked,hl],rfl⟩;rw[hl,Bb];show(ks.toArray.zip vs.toArray).map (·.2)=_;apply Array.toList_inj.mp;rw[Array.toList_map,Array.toList_zip];exact List.map_snd_zip (qw hl.symm)
 ·refine .inr ⟨by rw[hz];lia,κ,kd,λE Q q=>?_⟩;have run':cT ask (kas_sort vs.length)=some p:=by rw[←hl];exact run
  refine cn (kat_run (Q:=λst' s''=>s''=s/\p.size=vs.length/\arrOf st'=p.map (kas_item (ks.toArray.zip vs.toArray))/\failedOf st'=none) (G:=λp' s''=>p'=p/\s''=s) hl (by lia) (by lia)
   (λp' st' s'' a1 a2 a3 a4=>by obtain ⟨e1,e2⟩:=a4;subst e1;exact ⟨e2,a1,a2,a3⟩) (An cm run' ⟨rfl,rfl⟩)) ?_ λ_ _ e=>e
  rintro⟨⟨⟩,st'⟩ s'' ⟨rfl,hp,har,hf⟩;exact q st' ⟨kat_snds hl har,by simp[picked,hp],hf⟩
theorem vN(h:aG)(a:ae)(g:az->az):jB a h (h.update a g):=λb o hb e=>by rw[kP _ _ _ _ hb];exact e
theorem A5{ix:List Nat}{n:Nat}{P:PySem.Fin->ai->Prop}(ho:s.heap.get? a=some (seqObj "list" vs.toArray n))(hz:vs.length≤100000)
  (so:∀h1,jB a s.heap h1->lD prog w A vs ix { s with heap:=h1 })
  (h:∀h2 c,jB a s.heap h2->s.heap.objs.size≤h2.objs.size->(picked vs ix).length=vs.length->h2.get? a=some (seqObj "list" (picked vs ix).toArray c)->P (.done (.ret .none)) { s with heap:=h2 }) :
  aq (aw prog w) A (Builtin.«list.sort» ⟨[.ref a],[]⟩) P E s:=by
 have ha:a<s.heap.objs.size:=bc ho;have hL:vs.length≤aZ:=cF hz (by rw[sizeLine_eq];lia);obtain⟨e1,ho1⟩:∃e1,(s.heap.update a (Obj.mapSeq λ_=>(#[]:Array ag))).get? a=some (seqObj "list" #[] e1):=⟨_,get?_update_seq ho λ_=>#[]⟩
 have k3:jB a s.heap (((s.heap.update a (Obj.mapSeq λ_=>(#[]:Array ag))).push (seqObj "tuple" vs.toArray 0)).push (seqObj "list" #[] 0)):=λb o hb e=>
  bv _ (bv _ (vN _ _ _ b o hb e))
 have o3:(((s.heap.update a (Obj.mapSeq λ_=>(#[]:Array ag))).push (seqObj "tuple" vs.toArray 0)).push (seqObj "list" #[] 0)).get? a=some (seqObj "list" #[] e1):=bv _ (bv _ ho1);rw[list_sort_plain];refine ak (listItems_at ho rfl ?_);refine ak (listUpdate_at ho rfl ?_ (by rw[cf];exact hL) (d9 _));refine ak (seqEpoch_at ho1 rfl ?_);refine ak (wpAny_newTuple ?_ (by show vs.length≤_;exact hL));refine ak (wpAny_newList ?_ (d9 _));refine wpAny_holding ?_;show aq (aw prog w) A _ P E { s with heap:=((s.heap.update a (Obj.mapSeq λ_=>(#[]:Array ag))).push (seqObj "tuple" vs.toArray 0)).push (seqObj "list" #[] 0) };have fin:∀st,qP vs ix st->aq (aw prog w) A (do
   let sorted:=(arrOf st).map (·.2)
   let touched:=(←seqEpoch a) != e1
   Builtin.List.listUpdate (.ref a) λ_=>sorted
   if let some e:=failedOf st then rule "list.sort.comparison-raised";throw e
   if touched then rule "list.sort.modified";raiseError "ValueError" "list modified during sort"
   PySem.ret .none) P E { s with heap:=((s.heap.update a (Obj.mapSeq λ_=>(#[]:Array ag))).push (seqObj "tuple" vs.toArray 0)).push (seqObj "list" #[] 0) }:=λst e0=>e0.elim λhout e1=>e1.elim λhlen hf=>by
  dsimp only;rw[hout];obtain⟨c2,hc2⟩:∃c2,((((s.heap.update a (Obj.mapSeq λ_=>(#[]:Array ag))).push (seqObj "tuple" vs.toArray 0)).push (seqObj "list" #[] 0)).update a (Obj.mapSeq λ_=>(picked vs ix).toArray)).get? a=some (seqObj "list" (picked vs ix).toArray c2):=
   ⟨_,get?_update_seq o3 λ_=>(picked vs ix).toArray⟩
  refine ak (seqEpoch_at o3 rfl ?_);refine ak (listUpdate_at o3 rfl ?_ (d9 _) (by show(picked vs ix).toArray.size≤_;rw[cf,hlen];lia));rw[hf];simp only[bne_self_eq_false,dh,if_false];refine aI (h _ c2 (λb o hb e=>?_) ?_ hlen hc2)
  ·rw[kP _ _ _ _ hb];exact k3 b o hb e
  ·rw[iI,size_push',size_push',iI];lia
 dsimp only;rcases yX (ks:=vs) rfl (so _ k3) with⟨h2,st⟩|⟨h2,κ,kd,run⟩
 ·rw[if_pos h2,if_pos h2];refine ak (aI ?_);rw[StateT.run_pure];refine ak (aI ?_);exact fin _ st
 ·rw[if_neg h2,if_neg h2];refine ak (cn (kd (λκ' s'=>κ'=κ/\s'=_) ⟨rfl,rfl⟩) (λκ' s' e0=>e0.elim λe1 e2=>?_) λ_ _ z=>z.elim);subst e1;subst e2;exact ak (run E _ λst q=>fin st q)
def iP(prog:bf)(w:aU)(A:bh)(f:ag)(kS:ae)(Fin:List ag->ai->Prop):List ag->List ag->ai->Prop
 |[],ks,s=>Fin ks s
 | v::r,ks,s=>aq (aw prog w) A (call f [v]) (λk s'=>∃e,s'.heap.get? kS=some (seqObj "list" ks.toArray e) /\
   ∀h' c,jB kS s'.heap h'->h'.get? kS=some (seqObj "list" (ks++[k]).toArray c)->iP prog w A f kS Fin r (ks++[k]) { s' with heap:=h' }) (λ_ _=>False) s
def ua(prog:bf)(w:aU)(A:bh)(vs:List ag)(a kS:ae)(e1:Nat)(C:ai->Prop)(ks:List ag)(s:ai):Prop:=
 ∃e ix,s.heap.get? kS=some (seqObj "list" ks.toArray e)/\s.heap.get? a=some (seqObj "list" #[] e1)/\kS≠a/\lD prog w A ks ix s /\
  ∀h2 c,(∀b o,b≠a->b≠kS->s.heap.get? b=some o->h2.get? b=some o)->s.heap.objs.size≤h2.objs.size->(picked vs ix).length=vs.length->h2.get? a=some (seqObj "list" (picked vs ix).toArray c)->C { s with heap:=h2 }
theorem uH{Fin Fin':List ag->ai->Prop}{n:Nat}(hf:∀ks s,ks.length=n->Fin ks s->Fin' ks s):∀{r ks:List ag}{s:ai},ks.length+r.length=n->iP prog w A f kS Fin r ks s->iP prog w A f kS Fin' r ks s
 |[],ks,s,hl,h=>hf ks s (by simpa using hl) h
 |v::r,ks,s,hl,h=>by
   refine cn (show aq (aw prog w) A (call f [v]) _ _ s from h) (λk s' e0=>e0.elim λe e1=>e1.elim λhe q=>⟨e,he,λh' c hk hc=>uH hf (by simp at hl ⊢;lia) (q h' c hk hc)⟩) λ_ _ z=>z
theorem yo{Fin:List ag->ai->Prop}{body:ag->PUnit->Sem (ForInStep PUnit)}
  (hb:∀x ks (s:ai) (C:ag->ai->Prop),oi ks < 64->aq (aw prog w) A (call f [x]) (λk s'=>∃e,s'.heap.get? kS=some (seqObj "list" ks.toArray e) /\
    ∀h' c,jB kS s'.heap h'->h'.get? kS=some (seqObj "list" (ks++[k]).toArray c)->C k { s' with heap:=h' }) (λ_ _=>False) s ->
   aq (aw prog w) A (body x ⟨⟩) (λr s'=>r=.yield ⟨⟩/\∃k,C k s') E s):∀(r ks:List ag) (s:ai),ks.length + r.length < 64 ->
   iP prog w A f kS Fin r ks s->aq (aw prog w) A (forIn r PUnit.unit body) (λ_ s'=>∃ks,Fin ks s') E s
 |[],ks,s,hl,h=>by
   rw[jN];exact aI ⟨ks,h⟩
 |x::r,ks,s,hl,h=>by
   rw[eQ]at hl;rw[lM];refine ak (cn (hb x ks s (λk s'=>iP prog w A f kS Fin r (ks++[k]) s') (by lia) h) (λq s' hq=>?_) λ_ _ z=>z);obtain⟨rfl,k,h2⟩:=hq;exact yo hb r (ks++[k]) s' (by rw[iF,List.length_singleton];lia) h2
theorem DB{n:Nat}{P:PySem.Fin->ai->Prop}(ho:s.heap.get? a=some (seqObj "list" vs.toArray n))(h64:vs.length<64)
  (h:∀kS e1 h1,jB a s.heap h1->h1.get? a=some (seqObj "list" #[] e1)->h1.get? kS=some (seqObj "list" #[] 0)->s.heap.objs.size≤kS ->
   iP prog w A f kS (ua prog w A vs a kS e1 λs'=>P (.done (.ret .none)) s') vs [] { s with heap:=h1 }) :
  aq (aw prog w) A (ksk_tree a f false) P E s:=by
 have ha:a<s.heap.objs.size:=bc ho;have hL:vs.length≤aZ:=by rw[sizeLine_eq];lia
 obtain⟨e1,ho1⟩:∃e1,(s.heap.update a (Obj.mapSeq λ_=>(#[]:Array ag))).get? a=some (seqObj "list" #[] e1):=⟨_,get?_update_seq ho λ_=>#[]⟩
 have hk:=h ((s.heap.update a (Obj.mapSeq λ_=>(#[]:Array ag))).push (seqObj "tuple" vs.toArray 0)).objs.size e1 (((s.heap.update a (Obj.mapSeq λ_=>(#[]:Array ag))).push (seqObj "tuple" vs.toArray 0)).push (seqObj "list" #[] 0))
  (λb o hb e=>bv _ (bv _ (vN _ _ _ b o hb e))) (bv _ (bv _ ho1)) (cR _ rfl) (by rw[size_push',iI];lia)
 unfold ksk_tree;refine ak (listItems_at ho rfl ?_);refine ak (listUpdate_at ho rfl ?_ (by rw[cf];exact hL) (d9 _));refine ak (seqEpoch_at ho1 rfl ?_);refine ak (wpAny_newTuple ?_ (by show vs.length≤_;exact hL));refine ak (wpAny_newList ?_ (d9 _));refine wpAny_holding ?_;generalize ((s.heap.update a (Obj.mapSeq λ_=>(#[]:Array ag))).push (seqObj "tuple" vs.toArray 0)).objs.size=kS at hk;unfold ksk_rest;refine ak (wpAny_rule ?_)
 first
  |rw[uZ]
  |(rw[←Array.forIn_toList];simp only[vI])
  |rw[←Array.forIn_toList]
 refine ak (cn (yo (Fin:=λks s'=>ks.length=vs.length/\ua prog w A vs a kS e1 (λs''=>P (.done (.ret .none)) s'') ks s') (λx ks s' C hz hx=>?_) vs [] _ (by simpa using h64) (uH (n:=vs.length) (λks s' e q=>⟨e,q⟩) (by simp) hk)) (λ_ s' hd=>?_) λ_ _ z=>z)
 ·refine ak (wpAny_attempt (cn hx (λk s'' hk=>?_) λ_ _ hF=>hF.elim));obtain⟨e,hK,q⟩:=hk;have ea:(List.toArray ks).push k=List.toArray (ks++[k]):=by simp
  obtain⟨c2,hc2⟩:∃c2,(s''.heap.update kS (Obj.mapSeq (·.push k))).get? kS=some (seqObj "list" (List.toArray (ks++[k])) c2):=⟨_,by rw[←ea];exact get?_update_seq hK (·.push k)⟩
  try dsimp only
  refine ak (listUpdate_at hK rfl ?_ (by rw[cf,sizeLine_eq];lia) (cF (qw (Array.size_push ..)) (by rw[cf,sizeLine_eq];lia)));exact aI ⟨rfl,k,q _ c2 (vN _ _ _) hc2⟩
 ·obtain⟨ks,hl,e,ix,hK,hA,hne,so,fin⟩:=hd
  try dsimp only
  refine ak (listItems_at hK rfl ?_);have tail:∀st,qP vs ix st->aq (aw prog w) A (ksk_tail a false e1 (.ref kS) st) P E s':=λst ⟨hout,hlen,hf⟩=>by
   unfold ksk_tail
   try dsimp only
   simp only[dh,if_false];rw[hout];have kA:(s'.heap.update kS (Obj.mapSeq λ_=>(#[]:Array ag))).get? a=some (seqObj "list" #[] e1):=by rw[kP _ _ _ _ (Ne.symm hne)];exact hA
   obtain⟨c2,hc2⟩:∃c2,((s'.heap.update kS (Obj.mapSeq λ_=>(#[]:Array ag))).update a (Obj.mapSeq λ_=>(picked vs ix).toArray)).get? a=some (seqObj "list" (picked vs ix).toArray c2):=⟨_,get?_update_seq kA λ_=>(picked vs ix).toArray⟩
   refine ak (listUpdate_at hK rfl ?_ (by rw[cf,sizeLine_eq];lia) (d9 _));refine ak (wpAny_letGo ?_);refine ak (seqEpoch_at kA rfl ?_);refine ak (listUpdate_at kA rfl ?_ (d9 _) (by show(picked vs ix).toArray.size≤_;rw[cf,hlen];lia));rw[hf];simp only[bne_self_eq_false,dh,if_false];refine aI (fin _ c2 (λb o hb hb2 e=>?_) ?_ hlen hc2)
   ·rw[kP _ _ _ _ hb,kP _ _ _ _ hb2];exact e
   ·rw[iI,iI];exact aY _
  unfold ksk_end
  try dsimp only
  simp only[dh,if_false];rcases yX hl so with⟨h2,st⟩|⟨h2,κ,kd,run⟩
  ·rw[if_pos h2,if_pos h2];refine ak (aI ?_);rw[StateT.run_pure];refine ak (aI ?_);exact tail _ st
  ·rw[if_neg h2,if_neg h2];refine ak (cn (kd (λκ' s''=>κ'=κ/\s''=_) ⟨rfl,rfl⟩) (λκ' s'' ⟨e1,e2⟩=>?_) λ_ _ z=>z.elim);subst e1;subst e2;exact ak (run E _ λst q=>tail st q)
theorem GK{l:ae}{ix:List Nat}{Q:ag->ai->Prop}(hl:s.heap.IsList l vs.toArray)(hz:vs.length≤100000)
  (so:∀h1,(∀b o,s.heap.get? b=some o->h1.get? b=some o)->lD prog w A.in1.in1 vs ix { s with heap:=h1 })
  (h:∀D h2 c,(∀b o,s.heap.get? b=some o->h2.get? b=some o)->s.heap.get? D=none->(picked vs ix).length=vs.length->h2.get? D=some (seqObj "list" (picked vs ix).toArray c)->Q (.ref D) { s with heap:=h2 }) :
  aq (aw prog w) A (call (.builtin "sorted") [.ref l]) Q E s:=by
 have hL:vs.length≤aZ:=cF hz (by rw[sizeLine_eq];lia);refine Calls.call_function_entry kind_sorted plain_sorted entry_sorted (args_sorted1 _) ?_;unfold Builtin.«sorted»;refine ak (m:=checkCount "sorted" 1 1 _) (aI ?_);refine ak (collect_list hl ?_ hL);refine ak (wpAny_newList ?_ hL);have hsz:((s.heap.push (seqObj "list" #[] 0)).update s.heap.objs.size (Obj.mapSeq (·++vs.toArray))).objs.size=s.heap.objs.size+1:=by
  rw[iI,size_push']
 have hoL:(((s.heap.push (seqObj "list" #[] 0)).update s.heap.objs.size (Obj.mapSeq (·++vs.toArray))).push (seqObj "list" vs.toArray 0)).get? (s.heap.objs.size+1)=some (seqObj "list" vs.toArray 0):=by
  rw[←hsz];exact cR _ rfl
 have keep:∀b o,s.heap.get? b=some o->(((s.heap.push (seqObj "list" #[] 0)).update s.heap.objs.size (Obj.mapSeq (·++vs.toArray))).push (seqObj "list" vs.toArray 0)).get? b=some o:=λb o q=>by
  have hlt:b<s.heap.objs.size:=bc q;rw[Heap.get?_push_ne _ _ _ (by rw[hsz];exact cU (lf hlt)),kP _ _ _ _ (cU hlt),Heap.get?_push_ne _ _ _ (cU hlt)];exact q
 have nb:∀b o,s.heap.get? b=some o->b≠s.heap.objs.size+1:=λb o e=>cU (lf (bc e));show aq _ _ _ _ _ { s with heap:=((s.heap.push (seqObj "list" #[] 0)).update s.heap.objs.size (Obj.mapSeq (·++vs.toArray))).push (seqObj "list" vs.toArray 0) };rw[hsz];refine ak (wpAny_holding (wpAny_call_entry slot_list_sort ⟨_,hoL,rfl⟩ entry_list_sort ?body (args_list_sort _)))
 case body=>
  refine A5 (s:={ s with heap:=((s.heap.push (seqObj "list" #[] 0)).update s.heap.objs.size (Obj.mapSeq (·++vs.toArray))).push (seqObj "list" vs.toArray 0) }) (ix:=ix) hoL hz (λh1 k=>so h1 λb o e=>k b o (nb b o e) (keep b o e)) λh2 c k _ hlen e=>?_;exact⟨_,rfl,aI ⟨_,rfl,h _ h2 c (λb o q=>k b o (nb b o q) (keep b o q)) (i4 (Nat.le_succ _)) hlen e⟩⟩
theorem Bt{q d:ae}{T:String}{n:Nat}{Pi:Nat->ag->Prop}{OK:aG->Prop}{Q:ag->ai->Prop}(K:KdlSrc prog w T d d n Pi OK)(hh:A.handled=none)(hok:OK s.heap)(hn:n<64)
  (h:∀(vs:List ag) h' tk D kS e1,(∀b o,s.heap.get? b=some o->h'.get? b=some o)->ItemsOf Pi vs.toArray n->h'.get? D=some (seqObj "list" #[] e1)->h'.get? kS=some (seqObj "list" #[] 0)->s.heap.get? D=none->s.heap.get? kS=none->D≠kS ->
   iP prog w A.in1.in1 (.ref q) kS (ua prog w A.in1.in1 vs D kS e1 λs'=>Q (.ref D) s') vs [] { s with heap:=h',toks:=tk }) :
  aq (aw prog w) A (call (.builtin "sorted") [.ref d] [(aF "key",.ref q)]) Q E s:=by
 refine call_function_entry_kw kind_sorted plain_sorted entry_sorted (by ksk_a1) ?_;unfold Builtin.«sorted»;refine ak (m:=checkCount "sorted" 1 1 _) (aI ?_);refine ak (kdu_collect K hh hok (by rw[sizeLine_eq];lia) λh' tk acc hk hit=>?_);have hl:acc.toList.length=n:=by rw[rA];exact hit.1
 have hL:acc.toList.length≤aZ:=by rw[hl,sizeLine_eq];lia
 refine ak (wpAny_newList ?_ hL);have hoL:(h'.push (seqObj "list" acc.toList.toArray 0)).get? h'.objs.size=some (seqObj "list" acc.toList.toArray 0):=cR _ rfl;have keep:∀b o,s.heap.get? b=some o->(h'.push (seqObj "list" acc.toList.toArray 0)).get? b=some o:=λb o e=>bv _ (hk b o e);have nD:s.heap.get? h'.objs.size=none:=by
  cases e:s.heap.get? h'.objs.size with
  |none=>rfl
  |some o=>exact absurd (bc (hk _ o e)) (g7 _)
 have nb:∀b o,s.heap.get? b=some o->b≠h'.objs.size:=λb o e z=>by rw[z,nD]at e;cases e
 refine ak (wpAny_holding (wpAny_call_entry_kw slot_list_sort ⟨_,hoL,rfl⟩ entry_list_sort ?body (by ksk_a2)))
 case body=>
  show aq (aw prog w) A.in1.in1 (Builtin.«list.sort» ⟨[.ref h'.objs.size],[(aF "key",.ref q)]⟩) _ _ _;rw[ksk_t1];refine DB (s:={ s with heap:=h'.push (seqObj "list" acc.toList.toArray 0),toks:=tk }) hoL (by rw[hl];exact hn) λkS e1 h1 k1 eD eK nK=>?_;have nk:∀b o,s.heap.get? b=some o->b≠kS:=λb o e z=>by
   subst z;exact absurd (bc (keep _ o e)) (sS nK)
  have nKs:s.heap.get? kS=none:=by
   cases e:s.heap.get? kS with
   |none=>rfl
   |some o=>exact absurd rfl (nk _ o e)
  have hne:h'.objs.size≠kS:=λz=>by
   have:h'.objs.size<(h'.push (seqObj "list" acc.toList.toArray 0)).objs.size:=bc hoL;rw[z]at this;exact absurd this (sS nK)
  refine uH (n:=acc.toList.length) (λks s' _ z=>?_) (by simp) (h acc.toList h1 tk h'.objs.size kS e1 (λb o e=>k1 b o (nb b o e) (keep b o e)) (by rw[Array.toArray_toList];exact hit) eD eK nD nKs hne);obtain⟨e,ix,z1,z2,z3,z4,z5⟩:=z;exact⟨e,ix,z1,z2,z3,z4,λh2 c y1 y2 y3 y4=>⟨_,rfl,aI ⟨_,rfl,z5 h2 c y1 y2 y3 y4⟩⟩⟩
end
end L2.Rv
namespace L2.Rv
open PySem PySem.Spec PyProof.Rows PySem.W
variable {G:Gb}{m m' m1 m2:List ae}{h h' h1 h2:MH}{H H' H1 H2:Hp}{X:Cx}{E:ag->ai->Prop}{EX:St->Prop}{σ:MSt}{σ':St}
theorem bG.there{P:bf}{w:aU}{hp:aG}{a:ae}{o:HO}(x:bG P w H hp a o):∃ob,hp.get? a=some ob:=by
 cases o with
 |lst xs=>obtain⟨_,_,_,_,e⟩:=x;exact⟨_,e⟩
 |tup xs=>obtain⟨_,_,_,ob,e,_⟩:=x;exact⟨_,e⟩
 |dK kvs=>obtain⟨_,_,_,_,o,_,_,e,_⟩:=x;exact⟨_,e⟩
 |dT kvs=>obtain⟨_,_,_,_,o,_,_,e,_⟩:=x;exact⟨_,e⟩
 |set S n=>obtain⟨o,_,_,_,e,_⟩:=x;exact⟨_,e⟩
 |ins C dx fs=>obtain⟨_,_,_,e,_⟩:=x;exact⟨_,e⟩
 |own y=>exact x
 |xd fs=>obtain⟨_,⟨_,_,_,e,_⟩,_⟩:=x;exact⟨_,e⟩
 |rng lo hi=>obtain⟨_,_,_,e⟩:=x;exact⟨_,e⟩
 |frz ob u=>obtain⟨e,_⟩:=x;exact⟨_,e⟩
 |tbl ps=>exact⟨_,x⟩
 |met f y=>exact⟨_,x⟩
 |ext φ=>obtain⟨_,e,_⟩:=x;exact e
theorem HOk.none{P:bf}{w:aU}{hp:aG}{a:ae}(x:HOk P w H hp)(e:hp.get? a=none):H a=none:=by
 cases q:H a with
 |none=>rfl
 |some u=>obtain⟨o,z⟩:=bG.there (x a u q);rw[e]at z;cases z
abbrev qt(H:Hp):V->List MKey->Prop:=λx r=>∃a,x=.ref a/\H a=some (.tup (r.map kV))
abbrev sB(H:Hp):V->List MKey->Prop:=λx r=>∃a p vs,x=.ref a/\H a=some (.tup (.ref p::vs))/\H p=some (.tup (r.map kV))
section
variable {P:bf}{w:aU}{A:bh}{s:ai}
theorem mi{α β:Type}{R:α->β->Prop}:∀{xs:List α}{ys:List β}{i:Nat}{y:β},cx R xs ys->ys[i]?=some y->∃x,xs[i]?=some x/\R x y
 |_,_,_,_,.nil,e=>by simp at e
 |_,_,0,_,.cons r _,e=>by simp at e;subst e;exact⟨_,rfl,r⟩
 |_,_,i+1,y,.cons _ t,e=>by
   obtain⟨u,h1,h2⟩:=mi (i:=i) (y:=y) t (by simpa using e);exact⟨u,by simpa using h1,h2⟩
theorem sY{x:V}{xs:List V}{ws:List ag}(v:Vals (x::xs) ws):∃u us,ws=u::us/\aP x u/\Vals xs us:=by
 cases v with
 |cons r q=>exact⟨_,_,rfl,r,q⟩
theorem Ar(ok:HOk P w H s.heap):∀{xs:List V}{rows:List (List MKey)}{us:List ag},cx (qt H) xs rows->Vals xs us->rows.all gr=true ->
  ∃fs:List ag,fs.length=rows.length/\KatTups s.heap us fs/\∀v∈fs,Looks (aw P w) s.heap (typeOf v) (.type "int")
 |_,_,_,.nil,.nil,_=>⟨[],rfl,trivial,λ_ z=>nomatch z⟩
 |_,_,_,@Paired.cons _ _ _ _ row _ rows ⟨a,ex,e⟩ t,v,hf=>by
   subst ex;obtain⟨u,us,rfl,r,q⟩:=sY v;rw[iR,d8]at hf;obtain⟨f1,f2⟩:=hf;obtain⟨fs,hl,kt,ht⟩:=Ar ok t q f2;obtain rfl:u=Value.ref a:=r;obtain⟨_,its,rv,o,h1,hc,n,h3⟩:=(show bG P w H s.heap a (.tup _) from ok a _ e);cases row with
   |nil=>simp[gr]at f1
   |cons k ks=>
     cases k with
     |inr _=>simp[gr]at f1
     |inl i=>
       rw[bS]at rv;cases rv with
       |cons ri rr=>
         obtain⟨t0,rfl⟩:=(show ∃t,_=Value.int i t from ri);refine⟨.int i t0::fs,by simp[hl],⟨⟨a,o,_,n,rfl,h1,hc,h3,by simp⟩,kt⟩,λv hv=>?_⟩;rcases bW.mp hv with rfl|hv
         ·exact Looks.of_pure rfl
         ·exact ht v hv
theorem xG(ok:HOk P w H s.heap):∀{xs:List V}{rows:List (List MKey)}{us:List ag},cx (sB H) xs rows->Vals xs us ->
  ∃fs:List ag,fs.length=rows.length/\KatTups s.heap us fs/\∀v∈fs,Looks (aw P w) s.heap (typeOf v) (.type "tuple")
 |_,_,_,.nil,.nil=>⟨[],rfl,trivial,λ_ z=>nomatch z⟩
 |_,_,_,.cons (l₂:=rows) ⟨a,p,vs,ex,e,e2⟩ t,v=>by
   subst ex;obtain⟨u,us,rfl,r,q⟩:=sY v;obtain⟨fs,hl,kt,ht⟩:=xG ok t q;obtain rfl:u=Value.ref a:=r;obtain⟨_,its,rv,o,h1,hc,n,h3⟩:=(show bG P w H s.heap a (.tup _) from ok a _ e);obtain⟨_,its2,rv2,o2,h12,hc2,n2,h32⟩:=(show bG P w H s.heap p (.tup _) from ok p _ e2);cases rv with
   |cons ri rr=>
     obtain rfl:=(show _=Value.ref p from ri);refine⟨.ref p::fs,by simp[hl],⟨⟨a,o,_,n,rfl,h1,hc,h3,by simp⟩,kt⟩,λv hv=>?_⟩;rcases bW.mp hv with rfl|hv
     ·rw[←hc2];exact(Looks.ld h12).andThen .now
     ·exact ht v hv
theorem wH{rows:List (List MKey)}{i j:Nat}{b:Bool}(e:ie rows i j=some b):∃x y,rows[i]?=some x/\rows[j]?=some y/\x≠y/\ltK x y=some b:=by
 unfold ie at e;cases ei:rows[i]? with
 |none=>rw[ei]at e;cases e
 |some x=>cases ej:rows[j]? with
   |none=>rw[ei,ej]at e;cases e
   |some y=>
     rw[ei,ej]at e;dsimp only at e;split at e
     ·cases e
     ·exact⟨x,y,rfl,rfl,by assumption,e⟩
theorem sM{rows:List (List MKey)}{ix:List Nat}(e:cW rows=some ix):(rows.length<2/\ix=cz rows.length)∨(2≤rows.length/\rows.length<64/\∃p,ix=Array.toList p/\cT (ie rows) (kas_sort rows.length)=some p):=by
 unfold cW at e;split at e
 ·rename_i h2;cases e;exact .inl ⟨h2,rfl⟩
 ·split at e
  ·rename_i h2 h64;split at e
   ·rename_i p hp;cases e;exact .inr ⟨by lia,h64,p,rfl,hp⟩
   ·cases e
  ·cases e
theorem getD_some{us:List ag}{i:Nat}{u:ag}(e:us[i]?=some u):us.getD i Value.none=u:=by simp[e]
theorem vX{xs:List V}{rows:List (List MKey)}{us:List ag}{ix:List Nat}(ok:HOk P w H s.heap)(r:cx (qt H) xs rows)(v:Vals xs us)(hf:rows.all gr=true)(e:cW rows=some ix):lD P w A us ix s:=by
 have hl:us.length=rows.length:=by rw[←v.length];exact Paired.length r
 rcases sM e with⟨h2,rfl⟩|⟨h2,h64,p,rfl,run⟩
 ·exact .inl ⟨by lia,by rw[hl]⟩
 ·obtain⟨fs,fl,kt,ht⟩:=Ar ok r v hf;refine .inr ⟨by lia,by lia,_,p,ie rows,rfl,λQ q=>kat_kind kt (by lia) ht rfl q,λi j b C ea hc=>?_,by rw[hl];exact run⟩;obtain⟨x,y,ex,ey,_,lt⟩:=wH ea;obtain⟨xv,gx,ax,rfl,hx⟩:=mi r ex;obtain⟨yv,gy,ay,rfl,hy⟩:=mi r ey;obtain⟨ux,wx,qx⟩:=v.get gx;obtain⟨uy,wy,qy⟩:=v.get gy;obtain rfl:ux=Value.ref ax:=qx;obtain rfl:uy=Value.ref ay:=qy;unfold kas_ask;rw[getD_some wx,getD_some wy];exact HX (hI ok hx) (hI ok hy) lt hc
theorem Eo{xs:List V}{rows:List (List MKey)}{us:List ag}{ix:List Nat}(hu:A.units<cLine)(ok:HOk P w H s.heap)(r:cx (sB H) xs rows)(v:Vals xs us)(e:cW rows=some ix):lD P w A us ix s:=by
 have hl:us.length=rows.length:=by rw[←v.length];exact Paired.length r
 rcases sM e with⟨h2,rfl⟩|⟨h2,h64,p,rfl,run⟩
 ·exact .inl ⟨by lia,by rw[hl]⟩
 ·obtain⟨fs,fl,kt,ht⟩:=xG ok r v;refine .inr ⟨by lia,by lia,_,p,ie rows,rfl,λQ q=>kat_kind kt (by lia) ht rfl q,λi j b C ea hc=>?_,by rw[hl];exact run⟩;obtain⟨x,y,ex,ey,ne,lt⟩:=wH ea;obtain⟨xv,gx,ax,px,vx,rfl,hx,hx2⟩:=mi r ex;obtain⟨yv,gy,ay,py,vy,rfl,hy,hy2⟩:=mi r ey;obtain⟨ux,wx,qx⟩:=v.get gx;obtain⟨uy,wy,qy⟩:=v.get gy;obtain rfl:ux=Value.ref ax:=qx;obtain rfl:uy=Value.ref ay:=qy;unfold kas_ask;rw[getD_some wx,getD_some wy];obtain⟨_,i1,r1,o1,b1,c1,n1,d1⟩:=(show bG P w H s.heap ax (.tup _) from ok ax _ hx);obtain⟨_,i2,r2,o2,b2,c2,n2,d2⟩:=(show bG P w H s.heap ay (.tup _) from ok ay _ hy);cases r1 with
  |cons q1 t1=>cases r2 with
    |cons q2 t2=>
      obtain rfl:=(show _=Value.ref px from q1);obtain rfl:=(show _=Value.ref py from q2);exact Bg hu b1 d1 b2 d2 (hI ok hx2) (hI ok hy2) ne lt hc
end
def iw(xs:List V)(ix:List Nat):List V:=ix.map λi=>xs.getD i .non
def yU:List V->Hp->VK->Prop:=λvs H Q=>∃l xs rows ix,vs=[V.ref l]/\H l=some (.lst xs)/\cW rows=some ix/\((cx (qt H) xs rows/\rows.all gr=true)∨cx (sB H) xs rows) /\
 ∀D,H D=none->Q (.ref D) (upd H D (.lst (iw xs ix)))
theorem vt{xs:List V}{us:List ag}(v:Vals xs us):∀(ix:List Nat),Vals (iw xs ix) (picked us ix)
 |[]=>.nil
 |i::r=>by
   refine .cons ?_ (vt v r);show aP (xs.getD i .non) (us.getD i Value.none);by_cases hi:i<xs.length
   ·obtain⟨u,e,q⟩:=v.get (i:=i) (x:=xs[i]) (by simp[hi]);have e1:xs.getD i .non=xs[i]:=by simp[hi]
    rw[e1,getD_some e];exact q
   ·have e1:xs.getD i .non=.non:=by simp[kg hi]
    have e2:us.getD i Value.none=Value.none:=by
     have:=v.length;simp[show us.length≤i by lia]
    rw[e1,e2];rfl
theorem C0{rows:List (List MKey)}{ix:List Nat}(e:cW rows=some ix):rows.length<64:=by
 rcases sM e with⟨h2,_⟩|⟨_,h,_⟩ <;> lia
theorem BM(hu:X.A.units+64<cLine):d4 X (.builtin "sorted") yU:=by
 rintro pins s σ H vs us Q I rv ⟨l,xs,rows,ix,ev,el,es,rr,hq⟩;subst ev;cases rv with
 |cons q t=>
   cases t;obtain rfl:=(show _=Value.ref l from q);obtain⟨hz,its,n,r,eo⟩:=(show bG X.prog X.w H s.heap l (.lst xs) from I.hok l _ el);have hlen:xs.length=rows.length:=by rcases rr with⟨a,_⟩|a <;> exact Paired.length a
   have h64:=C0 es;have hu2:X.A.in1.in1.units<cLine:=by show X.A.units+1+1<cLine;lia
   refine GK (vs:=its) (ix:=ix) ⟨_,eo,rfl,n,rfl⟩ (by rw[←r.length];lia) (λh1 k=>?_) λD h2 c k nD hlen eD=>?_
   ·have ok:HOk X.prog X.w H h1:=I.hok.kept k;rcases rr with⟨a,b⟩|a
    ·exact vX (s:={ s with heap:=h1 }) ok a r b es
    ·exact Eo (s:={ s with heap:=h1 }) hu2 ok a r es
   ·have fD:H D=none:=HOk.none I.hok nD;have fp:Fp X pins H D:=Fp.of I nD fD;have I1:Inv X pins σ H { s with heap:=h2 }:=I.kept (t':=s.toks) k;have fp1:Fp X pins H D:=fp;have I2:=Inv.trackO (v:=.lst (iw xs ix)) I1 fp1 ⟨by
     have:(iw xs ix).length=its.length:=by rw[←hlen];simp[iw,picked]
     rw [this,←r.length];exact hz,_,c,vt r ix,eD⟩
    exact⟨.ref D,_,I2,rfl,hq D fD⟩
theorem xO:∀{ys:List MV}{r:List MKey}{vs:List V},jy ys=some r->VRs G m H ys vs->vs=r.map kV
 |[],r,vs,e,q=>by cases e;cases q;rfl
 |y::ys,r,vs,e,q=>by
   unfold jy at e;cases ey:pF y with
   |none=>rw[ey]at e;cases e
   |some k=>cases er:jy ys with
     |none=>rw[ey,er]at e;cases e
     |some ks=>
       rw[ey,er]at e;cases e;cases q with
       |@cons _ v' _ vs' q1 q2=>
         have e2:=xO er q2;cases y <;> first|cases ey|skip
         ·rw[show v'=V.int _ from q1,e2];rfl
         ·rw[show v'=V.str _ from q1,e2];rfl
theorem sG{x:MV}{r:List MKey}{v:V}(e:fL x=some r)(q:VR G m H x v):qt H v r:=by
 cases x <;> first|cases e|skip
 obtain⟨a,vs,e1,_,e2,t⟩:=q;subst e1;exact⟨a,rfl,by rw[e2,xO e t.to]⟩
theorem Fi{x:MV}{r:List MKey}{v:V}(e:uk x=some r)(q:VR G m H x v):sB H v r:=by
 cases x <;> first|cases e|skip
 rename_i xs;cases xs with
 |nil=>cases e
 |cons y ys=>
   obtain⟨a,vs,e1,_,e2,t⟩:=q;subst e1;obtain⟨z,zs,e3,q1,_⟩:=(show ∃z zs,vs=z::zs/\VR G m H y z/\VRl G m H ys zs from t);subst e3;obtain⟨p,e4,e5⟩:=sG (show fL y=some r from e) q1;subst e4;exact⟨a,p,zs,rfl,e2,e5⟩
theorem pV{f:MV->Option (List MKey)}{Rr:V->List MKey->Prop}(hf:∀x r v,f x=some r->VR G m H x v->Rr v r):∀{xs:List MV}{rows:List (List MKey)}{vs:List V},eJ f xs=some rows->VRs G m H xs vs->cx Rr vs rows
 |[],rows,vs,e,q=>by cases e;cases q;exact .nil
 |y::ys,rows,vs,e,q=>by
   unfold eJ at e;cases ey:f y with
   |none=>rw[ey]at e;cases e
   |some k=>cases er:eJ f ys with
     |none=>rw[ey,er]at e;cases e
     |some ks=>
       rw[ey,er]at e;cases e;cases q with
       |cons q1 q2=>exact .cons (hf _ _ _ ey q1) (pV hf er q2)
theorem sg{xs:List MV}{vs:List V}(v:VRs G m H xs vs):∀(ix:List Nat),VRs G m H (pick xs ix) (iw vs ix)
 |[]=>.nil
 |i::r=>by
   refine .cons ?_ (sg v r);show VR G m H (xs.getD i .non) (vs.getD i .non);by_cases hi:i<xs.length
   ·obtain⟨u,e,q⟩:=eR v (i:=i) (x:=xs[i]) (by simp[hi]);have e1:xs.getD i .non=xs[i]:=by simp[hi]
    have e2:vs.getD i .non=u:=by simp[e]
    rw[e1,e2];exact q
   ·have hl:=Paired.length v;have e1:xs.getD i .non=.non:=by simp[kg hi]
    have e2:vs.getD i .non=.non:=by simp[show vs.length≤i by lia]
    rw[e1,e2];rfl
theorem A4:VO1 G lX yU:=by
 intro X E EX m h H x x' Q R rx P;cases x <;> first|exact P.elim|skip
 rename_i n;obtain⟨a,ea,rfl⟩:=rx;obtain⟨oa,e1,q1,P1⟩:=bM R ea P;cases oa <;> first|exact P1.elim|skip
 rename_i xs;obtain⟨vs,rv,z⟩:=q1;dsimp only at P1;cases er:eJ fL xs with
 |some rows=>
   rw[er]at P1;dsimp only at P1;split at P1
   ·rename_i hall;cases es:cW rows with
    |none=>rw[es]at P1;exact P1.elim
    |some ix=>
      rw[es]at P1;exact⟨a,vs,rows,ix,rfl,z,es,.inl ⟨pV (λ_ _ _=>sG) er rv,hall⟩,λD hD=>iH R (sg rv ix) P1 hD⟩
   ·exact P1.elim
 |none=>
   rw[er]at P1;dsimp only at P1;cases eh:eJ uk xs with
   |none=>rw[eh]at P1;exact P1.elim
   |some rows=>
     rw[eh]at P1;dsimp only at P1;cases es:cW rows with
     |none=>rw[es]at P1;exact P1.elim
     |some ix=>
       rw[es]at P1;exact⟨a,vs,rows,ix,rfl,z,es,.inr (pV (λ_ _ _=>Fi) eh rv),λD hD=>iH R (sg rv ix) P1 hD⟩
structure tw(K:Frag)(mg:Str->Option ag)(cl:Nat->ae)(cdv:ag):Prop where
 on:cl 996≠0
 code:∃c,cdv=.ref c/\∃o vs file tf flags tg inF text tt,K.lookup c=some o/\o.cls=.type "code"/\o.data=.fields vs/\vs[11]?=some (.ref (cl 999))/\vs.getD 11 .none=.ref (cl 999)/\vs.getD 18 .none=.str file tf /\
  vs.getD 7 .none=.int flags tg/\vs.getD 9 .none=.bool inF/\vs.getD 10 .none=.int text tt
 blt:∃bm ob,mg "__builtins__"=some (.ref bm)/\bm≠builtinsNs/\bm≠c8/\K.lookup bm=some ob/\ob.cls=.type "module"/\ob.dict=some builtinsNs/\ob.data=.plain
section
variable {M:Model}{A:bh}{pins:List (ae×az)}{s:ai}{params:Arguments}{body:av}{scope:Scope}{pos:Pos}{cls:List (Str×ae)}{Q:ag->ai->Prop}
abbrev iG(params:Arguments)(body:av)(scope:Scope)(cls:List (Str×ae))(pm:ag)(c':ae)(ctv:ag):az:=kla_obj "<lambda>" gY params body scope cls pm c' ctv
theorem Inv.addPin{f:ae}{o:az}(I:Inv X pins σ' H s)(e:s.heap.get? f=some o)(n:H f=none)(l:f≠X.env.locals)(fs:f∉X.fs)(d:∀v,o.data≠.cell v):Inv X ((f,o)::pins) σ' H s:=
 I.pins_of λp hp=>by
  rcases bW.mp hp with z|z
  ·subst z;exact⟨e,n,l,fs,d⟩
  ·exact I.pin p (dH _ z)
theorem Fb(hL:tw X.K X.mg G.cl X.env.code)(I:Inv X pins σ' H s)(R:HR G m h H)(hp1:(pos.line:Int)=G.cl 998)(hp2:(pos.col:Int)=G.cl 997)(hcl:closureFor scope X.env=pure cls)(hdef:defaultsOf params X.env=([],[]))(hq:X.env.qual++"<lambda>"=gY)
  (k:∀f c' pm ctv H2 s2,Inv X ((f,iG params body scope cls pm c' ctv)::pins) σ' H2 s2->Ext m H m H2->HR G m h H2->H2 c'=some (.ext (LamΦ c'))->c'∉m->Q (.ref f) s2) :
  aq M A (aE (.Lambda params body scope pos) X.env) Q E s:=by
 refine kla_eval hdef ?_;rw[hq];obtain⟨c,ec,o,vs,file,tf,flags,tg,inF,text,tt,a1,a2,a3,a4,a5,a6,a7,a8,a9⟩:=hL.code;obtain⟨bm,ob,b1,b2,b3,b4,b5,b6,b7⟩:=hL.blt;have hg:s.heap.Ns c8 X.mg:=I.mod.glob.keeps I.bk;have hbm:=I.bs bm ob (I.ok.mod.kin _ _ b4);have hc:=I.bs c o (I.ok.mod.kin _ _ a1);have hgn:H c8=none:=by
  obtain⟨og,es,ep,e,_⟩:=I.mod.glob;exact(I.bs c8 og e).2
 rcases R.tab with t|⟨nP,t⟩
 ·exact absurd t hL.on
 have nn:∀b,H b=none->b≠G.cl 999:=λb e z=>by
  rw[z]at e;rcases t with t|⟨_,_,_,t⟩ <;> (rw[e]at t;cases t)
 have hb:s.heap.BuiltinsAt X.mg (G.cl 999):=⟨bm,ob,b1,b2,b3,nn bm hbm.2,hbm.1,b5,b6,b7⟩;have C:CodeHd s.heap c (G.cl 999):=⟨o,vs,file,tf,flags,tg,inF,text,tt,hc.1,a2,a3,a4,a5,a6,a7,a8,a9,nn c hc.2⟩;rcases t with t|⟨c',nc,ec',t⟩
 ·have hP:s.heap.get? (G.cl 999)=some (tabObj #[]):=I.hok _ _ t;refine kla_makeFunction hcl I.ok.glob hg ec C hP trivial rfl (nn _ hgn) hb λc' ctv h' tk hx hge hlt hrec htb=>?_;have hPs:G.cl 999<s.heap.objs.size:=bc hP;have ncP:c'≠G.cl 999:=λz=>by rw[z]at hge;exact absurd (cJ hPs hge) (g7 _)
  have fc:H c'=none:=I.hok.fresh hge;have fcm:c'∉m:=R.fresh fc;have e2:#[]++#[cw pos.line,cw pos.col,Value.ref c']=#[cw (G.cl 998),cw (G.cl 997),Value.ref c']:=by rw[hp1,hp2];simp
  rw[e2]at htb
  let H2:Hp:=upd (upd H c' (.ext (LamΦ c'))) (G.cl 999) (.tbl #[cw (G.cl 998),cw (G.cl 997),.ref c'])
  have hH2:∀b,b≠G.cl 999->b≠c'->H2 b=H b:=λb z1 z2=>by show upd _ _ _ b=_;rw[aQ z1,aQ z2]
  have hH2P:H2 (G.cl 999)=some (.tbl #[cw (G.cl 998),cw (G.cl 997),.ref c']):=cG;have hH2c:H2 c'=some (.ext (LamΦ c')):=by show upd _ _ _ c'=_;rw[aQ ncP,cG]
  have some_ne:∀b u,H b=some u->(∀ps,u≠.tbl ps)->H2 b=some u:=λb u e nt=>by
   rw[hH2 b (λz=>by rw[z,t]at e;cases e;exact nt _ rfl) (di e fc)];exact e
  have keepU:∀b u,H b=none->s.heap.get? b=some u->(h'.push (iG params body scope cls ((X.mg "__name__").getD .none) c' ctv)).get? b=some u:=λb u n e=>bv _ (hx b u (nn b n) e);have hfs:s.heap.objs.size≤h'.objs.size:=cF hge (lK hlt);have hPh:G.cl 999<h'.objs.size:=bc htb;have I2:Inv X pins σ' H2 { s with heap:=h'.push (iG params body scope cls ((X.mg "__name__").getD .none) c' ctv),toks:=tk }:=by
   refine I.step (ch:=[]) (g':=s.gens) (d':=s.drawn) (λ_ z=>nomatch z) (λb u _ _ _ e n=>keepU b u n e) (λb u _ _ _ e n=>⟨u.slots,keepU b u n e⟩) (λb u _ e n=>?_) (λb u _ e=>?_) (λb xs e=>some_ne b _ e λ_ z=>nomatch z) (λb o u e=>some_ne b _ e λ_ z=>nomatch z) (λb ps e=>?_) (λmm hm=>?_) (λb u e=>?_) I.bare
   ·rw[hH2 b (nn b n) (λz=>by subst z;exact absurd (bc e) (sS hge))];exact n
   ·by_cases hbP:b=G.cl 999
    ·subst hbP;exact⟨_,bv _ htb⟩
    ·exact⟨u,bv _ (hx b u hbP e)⟩
   ·by_cases hbP:b=G.cl 999
    ·subst hbP;rw[t]at e;cases e;exact⟨_,by rw[hH2P,←e2]⟩
    ·exact⟨#[],by rw[hH2 b hbP (di e fc),e];simp⟩
   ·obtain⟨oo,es,ep,ho,r⟩:=hm;exact⟨oo,es,ep,keepU _ oo I.free ho,r⟩
   ·by_cases hbP:b=G.cl 999
    ·subst hbP;rw[hH2P]at e;cases e;exact bv _ htb
    ·by_cases hbc:b=c'
     ·subst hbc;rw[hH2c]at e;cases e;obtain⟨c₂,oc,ws,tq,z1,z2,z3,z4⟩:=hrec;cases z1;exact⟨⟨oc,ws,tq,bv _ z2,z3,z4⟩,⟨oc,bv _ z2⟩,λp1 p2 ⟨o1,w1,t1,y1,y2,y3⟩ kk=>⟨o1,w1,t1,kk o1 y1,y2,y3⟩⟩
     ·rw[hH2 b hbP hbc]at e;refine(I.hok b u e).stay (λd v hd q=>bv _ (hx d v ?_ q)) (λd q=>some_ne d _ q λ_ z=>nomatch z) λd xs q=>some_ne d _ q λ_ z=>nomatch z;rcases hd with z|z
      ·rw[z];exact hbP
      ·exact λy=>by rw[y,t]at z;cases z
  have x2:Ext m H m H2:=⟨⟨[],by simp⟩,λa u e n nt=>⟨some_ne a u e nt,n⟩,λa o u e=>some_ne a _ e λ_ z=>nomatch z⟩
  have mn:Mn m H m H2:=x2.mn;have R2:HR G m h H2:=⟨R.len,R.nd,λn a ob ea eo=>OR.mono mn (hH2 a (λz=>nP (z▸dF ea)) (λz=>fcm (z▸dF ea))) (R.ob n a ob ea eo),by
   rcases R.scr with⟨o',z⟩|z
   ·exact .inl ⟨o',some_ne _ _ z λ_ y=>nomatch y⟩
   ·exact .inr z,.inr ⟨nP,.inr ⟨c',fcm,hH2c,hH2P⟩⟩⟩
  refine k h'.objs.size c' _ ctv H2 _ (Inv.addPin I2 (cR _ rfl) ?_ (c9 (cJ I.lt hfs)) (I.nofs hfs) λv z=>nomatch z) x2 R2 hH2c fcm;rw[hH2 _ (c9 hPh) (c9 hlt)];exact I.hok.fresh hfs
 ·have hP:s.heap.get? (G.cl 999)=some (tabObj #[cw (G.cl 998),cw (G.cl 997),.ref c']):=I.hok _ _ t;refine kla_makeFunctionHit (cv:=.ref c') hcl I.ok.glob hg ec C hP trivial ?_ hb λctv h' tk hk hsz=>?_
  ·rw[←hp1,←hp2];simp[codeAmong,cw]
  ·have I2:Inv X pins σ' H { s with heap:=h'.push (iG params body scope cls ((X.mg "__name__").getD .none) c' ctv),toks:=tk }:=I.kept λb u e=>bv _ (hk b u e);exact k h'.objs.size c' _ ctv H _ (Inv.addPin I2 (cR _ rfl) (I.hok.fresh hsz) (c9 (cJ I.lt hsz)) (I.nofs hsz) λv z=>nomatch z) .refl R ec' nc
end
section
variable {pins:List (ae×az)}{s:ai}
theorem Fp.turnedL{bs:List ae}{h':aG}{t':Nat}(f:∀b∈bs,Fp X pins H b)(I:Inv X pins σ' H s)(k:∀c o,c∉bs->s.heap.get? c=some o->h'.get? c=some o):Inv X pins σ' H { s with heap:=h',toks:=t' }:=by
 have n0:∀c o,X.s₀.heap.get? c=some o->c∉X.ex->c∉bs:=λc o q hx z=>by
  rcases(f c z).new with y|y
  ·exact hx y
  ·rw[y]at q;cases q
 have ck:∀x c v,X.env.cells.lookup x=some c->s.heap.IsCell c v->h'.IsCell c v:=λx c v q e0=>e0.elim λo e1=>e1.elim λho hd=>⟨o,k c o (λz=>(f c z).ce x c q rfl) ho,hd⟩;refine⟨I.ok,I.os,I.bare,⟨λc o q n hb hx=>k c o (n0 c o q hx) (I.base.keep c o q n hb hx),λc o q n hb hx=>?_,λc o q n hx=>I.base.free c o q n hx,λc o q hx=>?_,I.base.tups,I.base.frzs,I.base.tbls⟩,?_,λx c q=>?_,I.free,I.freeC,λp hp=>?_,λc u e=>?_,I.len⟩
 ·obtain⟨sl,z⟩:=I.base.slot c o q n hb hx;exact⟨sl,k c _ (n0 c o q hx) z⟩
 ·obtain⟨o',z⟩:=I.base.there c o q hx;exact⟨o',k c o' (n0 c o q hx) z⟩
 ·obtain⟨mm,⟨o,es,ep,ho,r⟩,hl⟩:=I.loc;refine⟨mm,⟨o,es,ep,k _ o (λz=>(f _ z).loc rfl) ho,r⟩,λi x v e1 e2 e3=>?_⟩;obtain⟨u,ru,l⟩:=hl i x v e1 e2 e3;refine⟨u,ru,?_⟩;rcases l with l|⟨kk,c,e,z⟩
  ·exact .inl l
  ·exact .inr ⟨kk,c,e,ck x c _ e z⟩
 ·obtain⟨v,z⟩:=I.cell x c q;exact⟨v,ck x c v q z⟩
 ·obtain⟨a1,a2,a3,a4,a5⟩:=I.pin p hp;exact⟨k _ _ (λz=>(f _ z).pin p hp rfl) a1,a2,a3,a4,a5⟩
 ·refine(I.hok c u e).stay (λd v hd q=>k d v ?_ q) (λ_ q=>q) λ_ _ q=>q;rcases hd with z|z
  ·rw[z];exact λy=>by rw[(f c y).un]at e;cases e
  ·exact λy=>by rw[(f d y).un]at z;cases z
def j3(X:Cx)(A:bh)(N:List Str)(s:ai)(H:Hp)(env:Env):Cx:=
 { X with A:=A.deeper env,N:=N,s₀:=s,H₀:=H,env:=env,outer:=X.stack,stack:=env::X.stack,ex:=[],calm:=true,fn:=λ_=>false,pn:=[],xe:=λ_ _=>False }
structure su(X:Cx)(scope:Scope)(nm fv:Str)(i:Nat)(c:ae):Prop where
 kind:scope.kind=.function
 co:scope.isCoroutine=false
 gen:scope.isGenerator=false
 loc:scope.names.lookup nm=some .local
 fr:scope.names.lookup fv=some .free
 only:∀x∈scope.names,x.2≠.cell
 one:∀x,scope.names.lookup x=some .free->x=fv
 cl:X.env.cells.lookup fv=some c
 kc:X.env.kindOf fv=some .cell
 ix:X.N[i]?=some fv
 cls:closureFor scope X.env=pure [(fv,c)]
theorem F3{A:bh}{scope:Scope}{nm fv:Str}{i:Nat}{c c' f:ae}{v:V}{u:ag}{hp:aG}{t:Nat}(L:su X scope nm fv i c)(I:Inv X pins σ' H s)(hh:A.handled=none)(hA:A.frames=X.A.frames)
  (ns:hp.Ns s.heap.objs.size (λx=>[(nm,u)].reverse.lookup x)) (k:∀b o,s.heap.get? b=some o->hp.get? b=some o) (ru:aP v u) :
  Inv (j3 X A [nm,fv] s H (envX gY scope s.heap.objs.size f (.ref c') [(fv,c)])) [] [some v,(σ'[i]?).getD none] H { s with heap:=hp,toks:=t }:=by
 have look1:∀x d,([(fv,c)]:List (Str×ae)).lookup x=some d->x=fv/\d=c:=λx d e=>by
  rw[bK]at e;cases hx:(x == fv) with
  |true=>rw[hx]at e;cases e;exact⟨eq_of_beq hx,rfl⟩
  |false=>rw[hx]at e;cases e
 obtain ⟨v0,hv0⟩:=I.cell fv c L.cl;have kc:∀w,s.heap.IsCell c w->hp.IsCell c w:=λw e0=>e0.elim λo e1=>e1.elim λho hd=>⟨o,k c o ho,hd⟩;refine ⟨⟨I.ok.mod,L.kind,rfl,rfl,aY _,λx y d h1 h2=>?_,λx hx=>?_,(λx d z=>nomatch z),λ_=>hh,Around.frames_deeper (hA.trans I.ok.frames),.inr ⟨rfl,rfl⟩,(λb z=>nomatch z),I.bs,cF I.ok.bsz I.sz,(λb _ _ z=>nomatch z),(λb z=>nomatch z),I.stack,I.stkFree⟩,
  rfl,I.bare,Un.kept k,⟨_,ns,λj x w e1 e2 e3=>?_⟩,λx d e=>?_,I.hok.fresh (aY _),λx d e=>?_,(λp hp=>nomatch hp),I.hok.kept k,rfl⟩
 ·rw[(look1 x d h1).1,(look1 y d h2).1]
 ·have hx:scope.names.lookup x=some .cell∨scope.names.lookup x=some .free:=hx;rcases hx with hx|hx
  ·exact absurd rfl (L.only _ (PySem.mem_of_lookup hx))
  ·rw[L.one x hx];exact⟨c,by show dB fv [(fv,c)]=some c;simp⟩
 ·match j,e1,e2 with
  |0,e1,e2=>
    have e1':nm=x:=by simpa[j3] using e1
    subst e1';have e2':v=w:=by simpa using e2
    subst e2';exact⟨u,ru,.inl ⟨L.loc,by show dB nm [(nm,u)]=some u;simp⟩⟩
  |1,e1,e2=>
    have e1':fv=x:=by simpa[j3] using e1
    subst e1';have e2':(σ'[i]?).getD none=some w:=by simpa using e2
    have e3':σ'[i]?=some (some w):=by
     cases q:σ'[i]? with
     |none=>rw[q]at e2';cases e2'
     |some z=>rw[q]at e2';rw[show z=some w from e2']
    obtain⟨mm,hn,hl⟩:=I.loc;obtain⟨u1,r1,l1⟩:=hl i fv w L.ix e3' (.inr (.inl L.kc));refine⟨u1,r1,?_⟩;rcases l1 with⟨z,_⟩|⟨_,d,e,z⟩
    ·rw[L.kc]at z;cases z
    ·rw[L.cl]at e;cases e;exact .inr ⟨.inr L.fr,c,by show dB fv [(fv,c)]=some c;simp,kc _ z⟩
  |j+2,e1,_=>simp[j3]at e1
 ·obtain⟨e1,e2⟩:=look1 x d e;rw[e2];exact⟨v0,kc _ hv0⟩
 ·obtain⟨e1,e2⟩:=look1 x d e;rw[e2];exact I.freeC fv c L.cl
theorem EC{A:bh}{params:Arguments}{body:av}{scope:Scope}{nm fv:Str}{i:Nat}{c c' f:ae}{pm ctv:ag}{ke:ME}{k:Str}{t:Tok}{kv:MV}(L:su X scope nm fv i c)(I:Inv X pins σ' H s)(S:SR G m H σ σ')(R:HR G m h H)
  (hf:(f,iG params body scope [(fv,c)] pm c' ctv)∈pins) (hc':H c'=some (.ext (LamΦ c'))) (hh:A.handled=none) (hA:A.frames=X.A.frames) (hroom:A.depth<recursionLimit)
  (hbind:∀(fd:aW) (v:ag),fd.params=params->fd.defaults=.none->fd.kwdefaults=.none->bindArgs fd ⟨[v],[]⟩=pure [(nm,v)])
  (hbody:∀(L f:ae) (cdv:ag) (s:ai) (H:Hp),GE G (j3 X A [nm,fv] s H (envX gY scope L f cdv [(fv,c)])) body ke) (he:ke [some (.str k),(σ[i]?).getD none] h=.ok kv h) :
  aq (aw X.prog X.w) A (call (.ref f) [.str k t]) (λu s'=>∃v' H',Inv X pins σ' H' s'/\Ext m H m H'/\HR G m h H'/\aP v' u/\VR G m H' kv v') (λ_ _=>False) s:=by
 have hpf:=I.pin _ (dH _ hf);obtain⟨⟨oc,ws,tq,z1,z2,z3⟩,_,_⟩:=I.hok c' _ hc';refine wpAny_call (kla_callFunE hroom hpf.1 rfl L.co L.gen rfl ⟨c',oc,ws,tq,rfl,z1,z2,z3⟩ ?_);rw[hbind _ _ rfl rfl rfl];refine aI (wpAny_newFunctionEnv L.only (λx hx=>by rw[c6.mp hx];exact L.loc) (λh₁ hns hsb=>⟨I.nolimit.fresh _ hsb,?_⟩) L.kind);have hk₁:∀b o,s.heap.get? b=some o->h₁.get? b=some o:=λb o e=>hsb.extBut b o (cU (bc e)) (bv _ e);have I1:=F3 (A:=A) (f:=f) (c':=c') (v:=.str k) (t:=s.toks+1) L I hh hA hns hk₁ ⟨t,rfl⟩;refine kla_codeExpr ?_;have S1:SR G m H [some (.str k),(σ[i]?).getD none] [some (.str k),(σ'[i]?).getD none]:=by
  refine⟨rfl,λj v e=>?_⟩
  match j,e with
  |0,e=>
    have e':MV.str k=v:=by simpa using e
    subst e';exact⟨.str k,rfl,rfl⟩
  |1,e=>
    have e':(σ[i]?).getD none=some v:=by simpa using e
    have e3:σ[i]?=some (some v):=by
     cases q:σ[i]? with
     |none=>rw[q]at e';cases e'
     |some z=>rw[q]at e';rw[show z=some v from e']
    obtain⟨v',q1,q2⟩:=S.sl i v e3;exact⟨v',by simp[q1],q2⟩
  |j+2,e=>simp at e
 refine cn (hbody s.heap.objs.size f (.ref c') s H (λ_ _=>False) ET [] _ _ H (λv' H'=>∃m',Ext m H m' H'/\HR G m' h H'/\VR G m' H' kv v') (I1.wish _) ⟨m,h,_,trivial,S1,R,by rw[he];exact λm' H' y R' v' r=>⟨m',y,R',r⟩⟩) (λu s' hq=>?_) λ_ _ z=>z.elim;obtain⟨v',H',I',r,m',x,R',rv⟩:=hq;have em:m'=m:=by
  obtain⟨e,pe⟩:=x.pre;have:e.length=0:=by
   have h1:=R'.len;have h2:=R.len;rw[pe,iF]at h1;lia
  rw[pe,List.eq_nil_of_length_eq_zero this,tz]
 subst em;exact⟨v',H',I.call' (s':=s') (ch:=[]) I'.os I'.base I'.hok I'.bare (λb z=>nomatch z),x,R',r,rv⟩
end
end L2.Rv
namespace L2.Rv
open PySem PySem.Spec PyProof.Rows PySem.W
variable {G:Gb}{m m' m1 m2:List ae}{h h' h1 h2:MH}{H H' H0 H1 H2:Hp}{X:Cx}{E:ag->ai->Prop}{EX:St->Prop}{σ:MSt}{σ':St}
section
variable {pins:List (ae×az)}{s:ai}{f c' D kS:ae}{fo:az}{e1:Nat}
structure LS(G:Gb)(X:Cx)(σ':St)(m:List ae)(h:MH)(H0:Hp)(pins:List (ae×az))(f:ae)(fo:az)(c' D:ae)(e1:Nat)(kS:ae)(done:List MV)(us:List ag)(H:Hp)(s:ai):Prop where
 inv:∃e,Inv X ((kS,seqObj "list" us.toArray e)::(D,seqObj "list" #[] e1)::(f,fo)::pins) σ' H s
 ext:Ext m H0 m H
 hr:HR G m h H
 vals:∃vs,VRs G m H done vs/\Vals vs us
 cd:H c'=some (.ext (LamΦ c'))
 cm:c'∉m
structure KSt(X:Cx)(pins:List (ae×az))(kS:ae):Prop where
 new:kS∈X.ex∨X.s₀.heap.get? kS=none
 ce:∀x c,X.env.cells.lookup x=some c->c≠kS
 pin:∀p∈X.pn++pins,p.1≠kS
theorem KSt.fp{o:az}(k:KSt X pins kS)(I:Inv X ((kS,o)::pins) σ' H s):Fp X pins H kS:=by
 obtain⟨_,a2,a3,a4,_⟩:=I.pin (kS,o) (dH _ (.head _));exact⟨a2,λz=>a3 z,a4,k.new,λx c e=>k.ce x c e,k.pin⟩
theorem Inv.dropPin{o:az}(I:Inv X ((kS,o)::pins) σ' H s):Inv X pins σ' H s:=I.pins_of λp hp=>I.pin p (dH _ (.tail _ hp))
theorem vV{ke:ME}{fr:MSt}{k:Str}{r:List Str}{more:List MV}{hE:MH}(e:dQ ke fr (k::r) h=.ok more hE):∃kv more',ke (some (.str k)::fr) h=.ok kv h/\dQ ke fr r h=.ok more' hE/\more=kv::more':=by
 unfold dQ at e;cases ek:ke (some (.str k)::fr) h with
 |ok kv h1=>
   rw[ek]at e;dsimp only at e;split at e
   ·rename_i hh;subst hh;unfold bnd at e;cases er:dQ ke fr r h1 with
    |ok more' h2=>
      rw[er]at e;injection e with e1 e2;subst e1;subst e2;exact⟨kv,more',rfl,rfl,rfl⟩
    |exc c h2=>rw[er]at e;cases e
    |stuck=>rw[er]at e;cases e
   ·cases e
 |exc c h1=>rw[ek]at e;cases e
 |stuck=>rw[ek]at e;cases e
theorem Ab{ke:ME}{fr:MSt}:∀{r:List Str}{more:List MV}{hE:MH},dQ ke fr r h=.ok more hE->hE=h
 |[],more,hE,e=>by unfold dQ at e;injection e with _ e2;exact e2.symm
 |k::r,more,hE,e=>by
   obtain⟨_,_,_,e2,_⟩:=vV e;exact Ab e2
theorem xu{ke:ME}{fr:MSt}:∀{r:List Str}{c:Nat}{hE:MH},dQ ke fr r h≠.exc c hE
 |[],c,hE,e=>by unfold dQ at e;cases e
 |k::r,c,hE,e=>by
   unfold dQ at e;cases ek:ke (some (.str k)::fr) h with
   |ok kv h1=>
     rw[ek]at e;dsimp only at e;split at e
     ·unfold bnd at e;cases er:dQ ke fr r h with
      |ok more' h2=>rw[er]at e;cases e
      |exc c' h2=>exact xu er
      |stuck=>rw[er]at e;cases e
     ·cases e
   |exc c h1=>rw[ek]at e;cases e
   |stuck=>rw[ek]at e;cases e
theorem Ac{A:bh}{params:Arguments}{body:av}{scope:Scope}{nm fv:Str}{i:Nat}{c:ae}{pm ctv:ag}{ke:ME}{Fin:List ag->ai->Prop}(L:su X scope nm fv i c)(hfo:fo=iG params body scope [(fv,c)] pm c' ctv)
  (hh:A.handled=none) (hA:A.frames=X.A.frames) (hroom:A.depth<recursionLimit) (hbind:∀(fd:aW) (v:ag),fd.params=params->fd.defaults=.none->fd.kwdefaults=.none->bindArgs fd ⟨[v],[]⟩=pure [(nm,v)])
  (hbody:∀(L f:ae) (cdv:ag) (s:ai) (H:Hp),GE G (j3 X A [nm,fv] s H (envX gY scope L f cdv [(fv,c)])) body ke) (S:SR G m H0 σ σ')
  (K:KSt X ((D,seqObj "list" #[] e1)::(f,fo)::pins) kS):∀{r:List Str}{rv:List ag}{done more:List MV}{us:List ag}{H:Hp}{s:ai},cx (λk v=>∃t,v=Value.str k t) r rv->dQ ke [(σ[i]?).getD none] r h=.ok more h ->
   LS G X σ' m h H0 pins f fo c' D e1 kS done us H s->(∀us' H' s',LS G X σ' m h H0 pins f fo c' D e1 kS (done++more) us' H' s'->Fin us' s')->iP X.prog X.w A (.ref f) kS Fin rv us s
 |[],_,done,more,us,H,s,.nil,e,l,fin=>by
   unfold dQ at e;injection e with e1 _;subst e1;exact fin us H s (by simpa using l)
 |k::r,_,done,more,us,H,s,.cons ⟨t,ev⟩ q,e,l,fin=>by
   subst ev;obtain⟨kv,more',e2,e3,rfl⟩:=vV e;obtain⟨e0,I⟩:=l.inv;refine cn (EC (pm:=pm) (ctv:=ctv) L I (S.mono l.ext) l.hr (by rw[←hfo];exact .tail _ (.tail _ (.head _))) l.cd hh hA hroom hbind hbody e2) (λu s' hq=>?_) λ_ _ z=>z;obtain⟨v',H',I',x,R',ru,rv⟩:=hq;obtain⟨vs,z1,z2⟩:=l.vals;refine⟨e0,(I'.pin (kS,_) (dH _ (.head _))).1,λhp cc kb ek=>?_⟩;have fp:=K.fp I';have I2:=fp.turned (t':=s'.toks) (h':=hp) (Inv.dropPin I') kb;refine Ac L hfo hh hA hroom hbind hbody S K q e3 ⟨⟨cc,Inv.addPin I2 ek fp.un fp.loc fp.fs λv z=>nomatch z⟩,l.ext.trans x,R',⟨vs++[v'],iE (x.vrs z1) (.cons rv .nil),iE z2 (.cons ru .nil)⟩,(x.fr c' _ l.cd l.cm λ_ z=>nomatch z).1,l.cm⟩ λus' H'' s'' l'=>fin us' H'' s'' (by simpa using l')
end
theorem Dt{kvs:List (Str×MV)}{ws:List (Key×V)}(r:DR G m H kvs ws):ws.map (·.1)=kvs.map λkv=>(Sum.inr kv.1:Key):=by
 induction r with
 |nil=>rfl
 |cons q _ ih=>rw[bS,bS,ih,q.1]
theorem Fu{ws:List (Key×V)}{us:List (Key×ag)}(r:KV ws us):us.map (·.1)=ws.map (·.1):=by
 induction r with
 |nil=>rfl
 |cons q _ ih=>rw[bS,bS,ih,q.1]
theorem xg:∀(l:List (Str×MV)),VRs G m H (l.map λkv=>MV.str kv.1) (l.map λkv=>V.str kv.1)
 |[]=>.nil
 |_::l=>.cons rfl (xg l)
theorem DJ{k:Nat}{o:av}{go ke:ME}{params:Arguments}{body:av}{scope:Scope}{lpos p pos kp:Pos}{nm fv:Str}{i:Nat}{c:ae}(hL:tw X.K X.mg G.cl X.env.code)(ho:GE G X o go)(L:su X scope nm fv i c)(hm:X.mg "sorted"=none)(hr:Room (k+2) X.A)
  (hp1:(lpos.line:Int)=G.cl 998) (hp2:(lpos.col:Int)=G.cl 997) (hbind:∀(fd:aW) (v:ag),fd.params=params->fd.defaults=.none->fd.kwdefaults=.none->bindArgs fd ⟨[v],[]⟩=pure [(nm,v)])
  (hbody:∀(L f:ae) (cdv:ag) (s:ai) (H:Hp),Room k (X.A.in1.in1.deeper (envX gY scope L f cdv [(fv,c)]))->GE G (j3 X X.A.in1.in1 [nm,fv] s H (envX gY scope L f cdv [(fv,c)])) body ke)
  (hdef:defaultsOf params X.env=([],[]):=by rfl) (hq:X.env.qual++"<lambda>"=gY:=by rfl) (hg:Gl X "sorted":=by rfl) (hs:aH [o] X.env=[(false,aE o X.env)]:=by rfl) :
  GE G X (.Call (.Name "sorted" p) [o] [⟨some "key",.Lambda params body scope lpos,kp⟩] pos) (rY go i ke):=λE EX pins s σ' H Q I ⟨m,h,σ,ex,S,R,P⟩=>by
 have hrb:∀(L f:ae) (cdv:ag),Room k (X.A.in1.in1.deeper (envX gY scope L f cdv [(fv,c)])):=λL f cdv=>⟨hr.hd,by have:=hr.dp;show X.A.depth+1+3*k+5<_;lia,by have:=hr.un;show X.A.units+1+1+3+16*k+200<_;lia⟩
 refine wpAny_Call_Name_kw (hV I hg hm boot_sorted ?_ (by decide) (by decide));refine callWith_kw (thn ((ho.a1 hs E EX) pos pins s σ' H (λvs H1=>∃(d:ae) (n:Nat) (kvs:List (Str × MV)) (m1:List ae) (h1:MH),vs=[V.ref d]/\m1[n]? = some d/\Ext m H m1 H1/\HR G m1 h1 H1/\h1[n]? = some (.dct kvs)/\kvs.length < 64 /\
   Post G X E EX m1 H1 (bnd (dQ ke [(σ[i]?).getD none] (kvs.map (·.1))) (λks=>(match eJ fL ks with
    | some rows=>if rows.all gr=true then (match cW rows with
      |some ix=>new (.lst (pick (kvs.map λkv=>.str kv.1) ix))
      | none=>stk) else stk
    | none=>stk)) h1) λv m' _ H'=>∀v',VR G m' H' v v'->Q v' H') I (sub ex S R P λv m1 h1 H1 v' x1 R1 r1 P1=>?_)) λus s1 ⟨vs,H1,I1,r,d,n,kvs,m1,h1,ev,en,x1,R1,eh,h64,P1⟩=>?_) (by rw [hs];rfl) (by rw [hs];rfl) rfl rfl
 ·cases v <;> first|exact P1.elim|skip
  rename_i n;obtain⟨d,ea,rfl⟩:=r1;obtain⟨oa,e1,q1,P2⟩:=bM R1 ea P1;cases oa <;> first|exact P2.elim|skip
  rename_i kvs;dsimp only at P2;split at P2
  ·rename_i h64;exact⟨d,n,kvs,m1,h1,rfl,ea,x1,R1,e1,h64,P2⟩
  ·exact P2.elim
 ·subst ev;obtain⟨u,us',rfl,ru,rr⟩:=sY r;cases rr;obtain rfl:u=Value.ref d:=ru;have I1':Inv X pins σ' H1 s1:=I1.unwish;refine kws_cons (Fb (X:=X) (M:=aw X.prog X.w) (A:=X.A) (E:=E) hL I1' R1 hp1 hp2 L.cls hdef hq λf c' pm ctv H2 s2 I2 x2 R2 hc cm=>kws_nil ?_);show aq (aw X.prog X.w) X.A (call (.builtin "sorted") [.ref d] [(aF "key",.ref f)]) _ E s2
  obtain⟨ws,dr,ed⟩:=R2.ob n d _ en eh;obtain⟨_,lo,vs2,kv2,dd⟩:=oY I2.hok ed;have hkeys:vs2.map (·.1)=kvs.map λkv=>(Sum.inr kv.1:Key):=(Fu kv2).trans (Dt dr);have hlen2:vs2.length=kvs.length:=by have:=congrArg oi hkeys;simpa using this
  obtain⟨od,es,ep,dd⟩:=dd;have da:s2.heap.DictAt (cg X.prog X.w) d vs2 ep:=⟨od,es,dd⟩;refine Bt (kdl_dict (knd:=cg X.prog X.w) (kvs:=vs2) (ep:=ep) lo) hr.hd da (by rw[hlen2];exact h64) λvs hp tk D kS e1 hk hit eD eK nD nK hne=>?_;have prd:cx (λk v=>∃t,v=Value.str k t) (kvs.map (·.1)) vs:=by
   refine yS _ _ (by have:=hit.1;simp only[cf]at this;simp[this,hlen2]) λj kk v ek ev=>?_;obtain⟨k2,xx,g1,g2⟩:=hit.2 j v (by simpa using ev);have g3:(vs2.map (·.1))[j]?=some k2:=by rw[bz,g1];rfl
   rw[hkeys,bz]at g3;rw[bz]at ek;cases e0:kvs[j]? with
   |none=>rw[e0]at ek;cases ek
   |some kv=>
     rw[e0]at ek g3;cases ek;cases g3;exact kf g2
  have fD:H2 D=none:=HOk.none I2.hok nD;have fK:H2 kS=none:=HOk.none I2.hok nK;have FD:Fp X _ H2 D:=Fp.of I2 nD fD;have FK:Fp X _ H2 kS:=Fp.of I2 nK fK;have I3:Inv X _ σ' H2 { s2 with heap:=hp,toks:=tk }:=I2.kept hk;have I4:=Inv.addPin (Inv.addPin I3 eD fD FD.loc FD.fs λv z=>nomatch z) eK fK FK.loc FK.fs λv z=>nomatch z;have KK:KSt X ((D,seqObj "list" #[] e1)::(f,iG params body scope [(fv,c)] pm c' ctv)::pins) kS:=⟨FK.new,λx c e=>FK.ce x c e,λp hp=>by
   rcases fY.mp hp with z|z
   ·exact FK.pin p (i7 _ z)
   ·rcases bW.mp z with y|y
    ·subst y;exact hne
    ·exact FK.pin p (dH _ y)⟩
  cases ek:dQ ke [(σ[i]?).getD none] (kvs.map (·.1)) h1 with
  |exc c2 hE=>exact absurd ek xu
  |stuck=>unfold bnd at P1;rw[ek]at P1;exact P1.elim
  |ok more hE=>
    obtain rfl:=Ab ek;unfold bnd at P1;rw[ek]at P1;dsimp only at P1;cases er:eJ fL more with
    |none=>rw[er]at P1;exact P1.elim
    |some rows=>
      rw[er]at P1;dsimp only at P1;split at P1
      case isFalse=>exact P1.elim
      case isTrue hall=>
      cases es2:cW rows with
      |none=>rw[es2]at P1;exact P1.elim
      |some ix=>
        rw[es2]at P1;refine Ac (A:=X.A.in1.in1) (done:=[]) (us:=[]) L rfl hr.hd rfl (by show X.A.depth<_;exact hr.depth) hbind (λL f cdv s H=>hbody L f cdv s H (hrb L f cdv)) (S.mono (x1.trans x2)) KK prd ek ⟨⟨0,I4⟩,.refl,R2,⟨[],.nil,.nil⟩,hc,cm⟩ λus' H' s' l=>?_;obtain⟨e0,I5⟩:=l.inv;obtain⟨vsk,z1,z2⟩:=l.vals;have gK:=I5.pin (kS,_) (dH _ (.head _));have gD:=I5.pin (D,_) (dH _ (.tail _ (.head _)));refine⟨e0,ix,gK.1,gD.1,Ne.symm hne,vX I5.hok (pV (λ_ _ _=>sG) er (by simpa using z1)) z2 hall es2,λh2 cc kb _ hln eD2=>?_⟩;have I6:=Inv.dropPin (Inv.dropPin I5);have FD':Fp X ((f,iG params body scope [(fv,c)] pm c' ctv)::pins) H' D:=⟨gD.2.1,FD.loc,FD.fs,FD.new,FD.ce,FD.pin⟩;have FK':Fp X ((f,iG params body scope [(fv,c)] pm c' ctv)::pins) H' kS:=⟨gK.2.1,FK.loc,FK.fs,FK.new,FK.ce,FK.pin⟩;have I7:Inv X _ σ' H' { s' with heap:=h2 }:=Fp.turnedL (bs:=[D,kS]) (t':=s'.toks) (λb hb=>by
         rcases bW.mp hb with z|z
         ·subst z;exact FD'
         ·rw [c6.mp z];exact FK') I6 λb o hb e=>kb b o (λz=>hb (by simp [z])) (λz=>hb (by simp [z])) e
        have vv:Vals (kvs.map λkv=>V.str kv.1) vs:=by
         have:∀{l:List (Str×MV)}{us:List ag},cx (λk v=>∃t,v=Value.str k t) (l.map (·.1)) us->Vals (l.map λkv=>V.str kv.1) us:=by
          intro l
          induction l with
          |nil=>intro us q;cases q;exact .nil
          |cons a l ih=>intro us q;cases q with|cons q1 q2=>exact .cons q1 (ih q2)
         exact this prd
        have vr:VRs G m1 H' (kvs.map λkv=>MV.str kv.1) (kvs.map λkv=>V.str kv.1):=xg kvs;have I8:=Inv.trackO (v:=.lst (iw (kvs.map λkv=>V.str kv.1) ix)) I7 FD' ⟨by
         have:(iw (kvs.map λkv=>V.str kv.1) ix).length=vs.length:=by rw[←hln];simp[iw,picked]
         rw [this,←vv.length,cY];exact small (by lia),_,cc,vt vv ix,eD2⟩
        exact⟨.ref D,_,(Inv.dropPin I8).wish E,rfl,iH l.hr (sg vr ix) (P1.ext (x2.trans l.ext)) gD.2.1⟩
end L2.Rv
namespace L2.Rv
open PySem PySem.Spec PyProof.Rows
variable {G:Gb}{m m' m1 m2:List ae}{h h' h1 h2:MH}{H H' H1 H2:Hp}{X:Cx}{E:ag->ai->Prop}{EX:St->Prop}{σ:MSt}{σ':St}
theorem kG{pos:Pos}:GE G X (.Dict [] [] pos) iX:=λE EX=>dg Bi λσ' H Q e0=>bL e0 λm h σ ex S R P=>λp hp=>by
 have x:=Ext.new (u:=.dK []) R hp;refine P (m++[p]) (upd H p (.dK [])) x (R.new hp ⟨[],.nil,cG⟩) (.ref p) ⟨p,?_,rfl⟩;rw[←R.len];simp
theorem w9{xs:List MV}{vs:List V}{lo hi:Option Int}(r:VRs G m H xs vs):VRs G m H (kW xs lo hi) (jn vs lo hi):=by
 have hl:=Paired.length r;have e:∀(n d:Nat) (o:Option Int),HT.sIx n d o=dM n d o:=λn d o=>by
  unfold HT.sIx dM;cases o with
  |none=>rfl
  |some v=>rfl
 unfold kW jn;rw[e,e,hl];have dr:∀(k:Nat) {xs:List MV} {vs:List V},VRs G m H xs vs->VRs G m H (xs.drop k) (vs.drop k):=by
  intro k
  induction k with
  |zero=>intro xs vs q;exact q
  |succ k ih=>intro xs vs q;cases q with
    |nil=>exact .nil
    |cons q1 q2=>exact ih q2
 have tk:∀(k:Nat) {xs:List MV} {vs:List V},VRs G m H xs vs->VRs G m H (xs.take k) (vs.take k):=by
  intro k
  induction k with
  |zero=>intro xs vs q;exact .nil
  |succ k ih=>intro xs vs q;cases q with
    |nil=>exact .nil
    |cons q1 q2=>exact .cons q1 (ih q2)
 exact tk _ (dr _ r)
def xY:V->Option Int->Option Int->Hp->VK->Prop:=λx lo hi H Q=>∃y:Str,x=.str y/\y.length≤aZ/\Q (.str (Txt.slice y lo hi)) H
theorem Ew:SlR X xY:=by
 rintro pins s σ H x v vl vu lo hi sl Q I rx hs pl pu ⟨y,e,hz,q⟩;subst e;obtain⟨t,rfl⟩:=rx;obtain⟨l,el,ml⟩:∃l:Option (Int×Tok),vl=partValue l/\l.map (·.1)=lo:=by
  cases pl with
  |none=>exact⟨none,rfl,rfl⟩
  |int i t=>exact⟨some (i,t),rfl,rfl⟩
 obtain⟨u,eu,mu⟩:∃l:Option (Int×Tok),vu=partValue l/\l.map (·.1)=hi:=by
  cases pu with
  |none=>exact⟨none,rfl,rfl⟩
  |int i t=>exact⟨some (i,t),rfl,rfl⟩
 subst el;subst eu;subst ml;subst mu;refine⟨"str",_,PySem.F.slot_str_getitem.lookup,typeIs_str _ _ _,wpAny_getItem_str_slice (l:=l) (u:=u) (st:=none) (by obtain⟨o,a1,a2,a3⟩:=hs;exact⟨o,a1,a2,a3⟩) rfl ?_⟩;exact post_val_or_str ⟨cF (Txt.slice_le y _ _) hz,λt' k=>⟨.str _,H,I.tok _,⟨_,rfl⟩,q⟩⟩
def tGo(G:Gb)(X:Cx)(E:ag->ai->Prop)(EX:St->Prop):Option ME->TO
 |none=>yu
 |some g=>zn (TGe G X E EX g)
def GO(G:Gb)(X:Cx):Option av->Option ME->Prop
 |none,none=>True
 |some e,some g=>GE G X e g
 |_,_=>False
theorem yJ{e:Option av}{ge:Option ME}(he:GO G X e ge):PO (X.wish E) e (tGo G X E EX ge):=by
 cases e with
 |none=>cases ge with
   |none=>exact BV
   |some _=>exact he.elim
 |some e=>cases ge with
   |none=>exact he.elim
   |some g=>exact DY (he E EX)
theorem yj{β:Type}{ge:Option ME}{k:Option Int->M β}{Q:β->List ae->MH->Hp->Prop}(ex:EX σ')(S:SR G m H σ σ')(R:HR G m h H)(P:Post G X E EX m H (bnd (part ge σ) k h) Q){Rr:Option Int->Hp->Prop}
  (hk:∀v m1 h1 H1,Ext m H m1 H1->HR G m1 h1 H1->Post G X E EX m1 H1 (k v h1) Q->Rr v H1):tGo G X E EX ge σ' H Rr:=by
 cases ge with
 |none=>exact hk none m h H .refl R P
 |some g=>
   have P':Post G X E EX m H (bnd (bnd (g σ) λv=>match v with
    |.int i=>ret (some i)
    | _=>stk) k h) Q:=P
   rw[jl]at P';refine sub ex S R P' λv m1 h1 H1 v' x1 R1 r1 P1=>?_;cases v with
   |int i=>cases(show v'=V.int i from r1);exact⟨i,rfl,hk (some i) m1 h1 H1 x1 R1 P1⟩
   |_=>exact P1.elim
def De(K:PySem.W.Frag):V->Option Int->Option Int->Hp->VK->Prop:=λx lo hi H Q=>wm K x lo hi H Q∨(zt K x lo hi H Q∨xY x lo hi H Q)
theorem wz(n d:Nat)(o:Option Int):HT.sIx n d o=dM n d o:=by
 unfold HT.sIx dM;cases o <;> rfl
theorem tZ{a:av}{lo hi:Option av}{ga:ME}{gl gh:Option ME}{pos p2:Pos}(ha:GE G X a ga)(hl:GO G X lo gl)(hh:GO G X hi gh)(hK:X.K=G.K:=by rfl) :
  GE G X (.Subscript a (.Slice lo hi none p2) pos) (eSl ga gl gh):=λE EX=>dg (HA (X:=X.wish E) (r:=De X.K) (Dx.or (Hm.or Ew)) (ha E EX) (yJ (EX:=EX) hl) (yJ (EX:=EX) hh)) λσ' H Q e0=>bL e0 λm h σ ex S R P=>
 sub ex S R P λv m1 h1 H1 v' x1 R1 r1 P1=>yj ex (S.mono x1) R1 P1 λl m2 h2 H2 x2 R2 P2=>yj ex ((S.mono x1).mono x2) R2 P2 λu m3 h3 H3 x3 R3 P3=>by
  have r3:=x3.vr (x2.vr r1);rw[hK];cases v with
  |ref n=>
    obtain⟨aa,ea,rfl⟩:=r3;obtain⟨ob,eo,qo,P4⟩:=bM R3 ea P3;cases ob with
    |lst xs=>
      obtain⟨vs,rr,z⟩:=qo;exact .inl ⟨aa,vs,rfl,SqL.of z,λp hp=>iH R3 (w9 rr) P4 hp⟩
    |_=>exact P4.elim
  |tup xs=>
    obtain⟨aa,vs,rfl,na,z,rr⟩:=r3;have rr':=rr.to;have hlen:=Paired.length rr';unfold j6 at P3;dsimp only at P3;split at P3
    ·exact P3.elim
    ·rename_i hw;refine .inr (.inl ⟨aa,vs,rfl,.inl (.inl z),?_,λp hp=>zi R3 (w9 rr') P3 hp⟩);rw[wz,wz,←hlen];exact hw
  |str y=>
    cases(show v'=V.str y from r3);unfold j6 at P3;dsimp only at P3
    split at P3
    ·rename_i hz;exact .inr (.inr ⟨y,rfl,big hz,Post.here R3 P3 _ rfl⟩)
    ·exact P3.elim
  |_=>exact P3.elim
theorem qA{o e f:av}{go gk gx:ME}{apos cpos:Pos}(hu:X.A.units+1<cLine)(ho:GE G X o go)(he:GE G X e gk)(hf:GE G X f gx)(mm:M2 X o "get" apos e f cpos:=by exact⟨rfl,rfl,rfl,rfl⟩) :
  GE G X (.Call (.Attribute o "get" apos) [e,f] [] cpos) (jZ go gk gx):=λE EX=>dg (Fw (X:=X.wish E) hu (ho E EX) (he E EX) (hf E EX) ⟨mm.base,mm.few,mm.line,mm.trees⟩) λσ' H Q e0=>bL e0 λm h σ ex S R P=>
 sub ex S R P λv m1 h1 H1 v' x1 R1 r1 P1=>by
  cases v with
  |ref n=>
    obtain⟨aa,ea,rfl⟩:=r1;obtain⟨ob,eo,qo,P2⟩:=bM R1 ea P1;cases ob with
    |dct kvs=>
      obtain⟨ws,rr,z⟩:=qo;refine⟨aa,rfl,.inl ⟨ws,.inl z⟩,sub ex (S.mono x1) R1 P2 λy m2 h2 H2 y' x2 R2 r2 P3=>sub ex ((S.mono x1).mono x2) R2 P3 λw m3 h3 H3 w' x3 R3 r3 P4=>?_⟩;cases y with
      |str k=>
        cases(show y'=V.str k from r2);have ea3:=x3.get (x2.get ea);obtain⟨ob3,eo3,qo3,P5⟩:=bM R3 ea3 P4;cases ob3 with
        |dct kvs3=>
          obtain⟨ws3,rr3,z3⟩:=qo3;refine⟨eA ws3 (Sum.inr k),.inl ⟨ws3,Sum.inr k,.inl z3,rfl,rfl⟩,?_⟩;dsimp only at P5;obtain⟨d1,d2⟩:=kO (k:=k) rr3;cases ed:dget k kvs3 with
          |some v0=>
            obtain⟨v0',e1,e2⟩:=d1 v0 ed;rw[e1];rw[ed]at P5;exact Post.here R3 P5 _ e2
          |none=>
            rw[d2 ed];rw[ed]at P5;exact Post.here R3 P5 _ r3
        |_=>exact P5.elim
      |_=>exact P4.elim
    |_=>exact P2.elim
  |_=>exact P1.elim
theorem BG{o e:av}{go gk:ME}{apos cpos:Pos}(ho:GE G X o go)(he:GE G X e gk)(mm:M1 X o "pop" apos e cpos:=by exact⟨rfl,rfl,rfl,rfl⟩) :
  GE G X (.Call (.Attribute o "pop" apos) [e] [] cpos) (xL go gk):=λE EX=>dg (Dg (X:=X.wish E) (ho E EX) (he E EX) ⟨mm.base,mm.few,mm.line,mm.trees⟩) λσ' H Q e0=>bL e0 λm h σ ex S R P=>
 sub ex S R P λv m1 h1 H1 v' x1 R1 r1 P1=>by
  cases v with
  |ref n=>
    obtain⟨aa,ea,rfl⟩:=r1;obtain⟨ob,eo,qo,P2⟩:=bM R1 ea P1;cases ob with
    |dct kvs=>
      obtain⟨ws,rr,z⟩:=qo;refine⟨aa,rfl,.inl ⟨ws,.inl z⟩,sub ex (S.mono x1) R1 P2 λy m2 h2 H2 y' x2 R2 r2 P3=>?_⟩;cases y with
      |str k=>
        cases(show y'=V.str k from r2);have ea2:=x2.get ea;obtain⟨ob3,eo3,qo3,P5⟩:=bM R2 ea2 P3;cases ob3 with
        |dct kvs3=>
          obtain⟨ws3,rr3,z3⟩:=qo3;obtain⟨d1,d2⟩:=kO (k:=k) rr3;dsimp only at P5;cases ed:dget k kvs3 with
          |some v0=>
            obtain⟨v0',e1,e2⟩:=d1 v0 ed;rw[ed]at P5;dsimp only at P5;refine⟨ws3,Sum.inr k,v0',z3,rfl,e1,?_⟩;have P6:=jQ R2 ea2 P5;have x3:Ext m2 H2 m2 (upd H2 aa (.dK (jb ws3 (Sum.inr k)))):=Ext.upd ea2 z3;exact P6 _ _ x3 (R2.upd ea2 (λo' yy zz=>by rw[z3]at zz;cases zz) ⟨_,DR.mono x3.mn (D5 rr3),cG⟩) _ (x3.vr e2)
          |none=>rw[ed]at P5;exact P5.elim
        |_=>exact P5.elim
      |_=>exact P3.elim
    |_=>exact P2.elim
  |_=>exact P1.elim
inductive GF(G:Gb)(X:Cx):av->FP->Prop where
 |lit {x:Str} {j:Nat} {pos:Pos}:GF G X (.Constant (.str x) j pos) (.lit x)
 |pl {e:av} {g:ME} {pos:Pos} (he:GE G X e g):GF G X (.FormattedValue e (-1) none pos) (.pl g)
 |rp {e:av} {g:ME} {pos:Pos} (he:GE G X e g):GF G X (.FormattedValue e 114 none pos) (.rp g)
theorem HW{e:av}{es:List av}{env:Env}:evalEach (e::es) env=aE e env::evalEach es env:=rfl
theorem F8{e:av}{p:FP}{β:Type}{k:Option Str->M β}{Q:β->List ae->MH->Hp->Prop}(g:GF G X e p){pins:List (ae×az)}{s:ai}(I:Inv (X.wish E) pins σ' H s)(ex:EX σ')(S:SR G m H σ σ')(R:HR G m h H)(P:Post G X E EX m H (bnd (iM p σ) k h) Q)
  {W:ag->ai->Prop} (hk:∀(o:Option Str) (y:Str) (t:Tok) m1 h1 H1 s1,Ext m H m1 H1->HR G m1 h1 H1->Inv (X.wish E) pins σ' H1 s1->(∀z,o=some z->y=z)->y.length≤10002->Post G X E EX m1 H1 (k o h1) Q->W (.str y t) s1) :
  aq (aw X.prog X.w) X.A (aE e X.env) W E s:=by
 cases g with
 |@lit x j pos=>
   have P':Post G X E EX m H (bnd (if x.length≤1000 then ret (some x) else stk) k h) Q:=P;split at P'
   ·rename_i hz;refine thn (wL (X:=X.wish E) (x:=x) (j:=j) (pos:=pos) pins s σ' H (λv H1=>v=.str x/\H1=H) I ⟨rfl,rfl⟩) λu s1 ⟨v,H1,I1,r,e1,e2⟩=>?_;subst e1;subst e2;obtain⟨t,rfl⟩:=r;exact hk (some x) x t m h H1 s1 .refl R I1 (λz e=>by injection e) (by lia) P'
   ·exact P'.elim
 |@pl e g pos he=>
   refine wpAny_FormattedValue_plain (thn (he E EX pins s σ' H (λv' H1=>∃v m1 h1,Ext m H m1 H1/\HR G m1 h1 H1/\VR G m1 H1 v v'/\Post G X E EX m1 H1 (bnd ((λv=>match v with
     |.str s=>if s.length≤10000 then ret (some s) else stk
     |.int i=>if i.natAbs.log2<100 then ret (some (aF (toString i))) else stk
     | _=>stk:MV->M (Option Str)) v) k h1) Q) I (sub ex S R (k:=λv=>bnd ((λv=>match v with
     |.str s=>if s.length≤10000 then ret (some s) else stk
     |.int i=>if i.natAbs.log2<100 then ret (some (aF (toString i))) else stk
     | _=>stk:MV->M (Option Str)) v) k) (by
       have P':Post G X E EX m H (bnd (bnd (g σ) (λv=>match v with
        |.str s=>if s.length≤10000 then ret (some s) else stk
        |.int i=>if i.natAbs.log2<100 then ret (some (aF (toString i))) else stk
        | _=>stk:MV->M (Option Str))) k h) Q:=P
       rw [jl] at P';exact P') λv m1 h1 H1 v' x1 R1 r1 P1=>⟨v,m1,h1,x1,R1,r1,P1⟩)) λu s1 ⟨v',H1,I1,ru,v,m1,h1,x1,R1,r1,P1⟩=>?_)
   cases v with
   |str y=>
     cases(show v'=V.str y from r1);obtain⟨t,rfl⟩:=ru;dsimp only at P1
     split at P1
     ·rename_i hz;exact formatField_str (λt' tk=>hk (some y) y t' m1 h1 H1 _ x1 R1 (I1.tok _) (λz e=>by injection e) (by lia) P1) (cF hz (by decide))
     ·exact P1.elim
   |int i=>
     cases(show v'=V.int i from r1);obtain⟨t,rfl⟩:=ru;dsimp only at P1
     split at P1
     ·rename_i hz;refine wpAny_formatField_int (by lia) ?_;refine hk (some (aF (toString i))) _ _ m1 h1 H1 _ x1 R1 (I1.tok _) (λz e=>by injection e) ?_ P1;have:=int_text_len_1921 (i:=i) (by lia)
      lia
     ·exact P1.elim
   |_=>exact P1.elim
 |@rp e g pos he=>
   refine wpAny_FormattedValue_repr (thn (he E EX pins s σ' H (λv' H1=>∃v m1 h1,Ext m H m1 H1/\HR G m1 h1 H1/\VR G m1 H1 v v'/\Post G X E EX m1 H1 (bnd ((λv=>match v with
     |.str s=>if kh s=true then ret none else stk
     | _=>stk:MV->M (Option Str)) v) k h1) Q) I (sub ex S R (k:=λv=>bnd ((λv=>match v with
     |.str s=>if kh s=true then ret none else stk
     | _=>stk:MV->M (Option Str)) v) k) (by
       have P':Post G X E EX m H (bnd (bnd (g σ) (λv=>match v with
        |.str s=>if kh s=true then ret none else stk
        | _=>stk:MV->M (Option Str))) k h) Q:=P
       rw [jl] at P';exact P') λv m1 h1 H1 v' x1 R1 r1 P1=>⟨v,m1,h1,x1,R1,r1,P1⟩)) λu s1 ⟨v',H1,I1,ru,v,m1,h1,x1,R1,r1,P1⟩=>?_)
   cases v with
   |str y=>
     cases(show v'=V.str y from r1);obtain⟨t,rfl⟩:=ru;dsimp only at P1
     split at P1
     ·rename_i hz;unfold kh at hz;rw[d8,decide_eq_true_eq,rM]at hz;have hl:=PySem.StrLaws.reprText_len y (λc hc=>by simpa using hz.2 c hc);refine pyReprObj_str ?_ (cF (show(reprText y).length≤10002 by lia) (by decide));exact formatField_str (λt' tk=>hk none (reprText y) t' m1 h1 H1 _ x1 R1 (I1.tok _) (λz e=>nomatch e) (by lia) P1) (cF (show(reprText y).length≤10002 by lia) (by decide))
     ·exact P1.elim
   |_=>exact P1.elim
theorem ya{pins:List (ae×az)}{W:Str->ai->Prop}:∀{es:List av}{ps:List FP},cx (GF G X) es ps->∀{β:Type}{k:List (Option Str)->M β}{Q:β->List ae->MH->Hp->Prop}{s:ai}{m:List ae}{h:MH}{H:Hp} (acc:Str) (n:Nat) (oa:Option Str),
  Inv (X.wish E) pins σ' H s->EX σ'->SR G m H σ σ'->HR G m h H->Post G X E EX m H (bnd (fX ps σ) k h) Q->acc.length≤10002*n->n+ps.length≤100->(∀z,oa=some z->acc=z) ->
  (∀(xs:List (Option Str)) (out:Str) m1 h1 H1 s1,Ext m H m1 H1->HR G m1 h1 H1->Inv (X.wish E) pins σ' H1 s1->(∀z a,oa=some a->jm a xs=some z->out=z)->out.length≤aZ->Post G X E EX m1 H1 (k xs h1) Q->W out s1) ->
  Joins (aw X.prog X.w) X.A E (evalEach es X.env) acc W s
 |_,_,.nil,β,k,Q,s,m,h,H,acc,n,oa,I,ex,S,R,P,hl,hn,ho,hk=>by
   refine hk [] acc m h H s .refl R I (λz a e1 e2=>?_) (cF hl (cF (Nat.mul_le_mul_left _ (show n≤100 by simp at hn;lia)) (by decide))) P;have:=ho a e1;simp only[jm,Option.some.injEq]at e2;rw[this,e2]
 |_,_,.cons (a:=e) (b:=p) (l₁:=es) (l₂:=ps) g tt,β,k,Q,s,m,h,H,acc,n,oa,I,ex,S,R,P,hl,hn,ho,hk=>by
   rw[HW];have P':Post G X E EX m H (bnd (iM p σ) (λx=>bnd (fX ps σ) λxs=>k (x::xs)) h) Q:=by
    have P0:Post G X E EX m H (bnd (bnd (iM p σ) λx=>bnd (fX ps σ) λxs=>ret (x::xs)) k h) Q:=P;rw[jl]at P0;have e0:(λx=>bnd (bnd (fX ps σ) λxs=>ret (x::xs)) k)=λx=>bnd (fX ps σ) λxs=>k (x::xs):=by
     funext x;rw[jl];rfl
    rw[e0]at P0;exact P0
   refine F8 g I ex S R P' λo y t m1 h1 H1 s1 x1 R1 I1 ho1 hy P1=>?_;have hla:(acc++y).length≤10002*(n+1):=by rw[strLen_append];lia
   refine⟨y,t,rfl,cF hla (cF (Nat.mul_le_mul_left _ (show n+1≤100 by simp at hn;lia)) (by decide)),?_⟩;refine ya tt (acc++y) (n+1) (match oa,o with|some a,some z=>some (a++z)|_,_=>none) I1 ex (S.mono x1) R1 P1 hla (by simp at hn;lia) (λz e=>?_) λxs out m2 h2 H2 s2 x2 R2 I2 hg hz P2=>?_
   ·cases oa with
    |none=>cases e
    |some a=>cases o with
      |none=>cases e
      |some z0=>injection e with e;rw[←e,ho a rfl,ho1 z0 rfl]
   ·refine hk (o::xs) out m2 h2 H2 s2 (x1.trans x2) R2 I2 (λz a e1 e2=>?_) hz P2;subst e1;cases o with
    |none=>simp[jm]at e2
    |some z0=>exact hg z (a++z0) rfl (by simpa[jm] using e2)
theorem mf{e1 e2:av}{es:List av}{ps:List FP}{pos:Pos}(hp:cx (GF G X) (e1::e2::es) ps):GE G X (.JoinedStr (e1::e2::es) pos) (iC ps):=λE EX pins s σ' H Q I e0=>bL e0 λm h σ ex S R P=>by
 unfold iC at P;split at P
 ·rename_i hn;refine wpAny_JoinedStr (ya hp Str.empty 0 (some Str.empty) I ex S R P (by decide) (by lia) (λz e=>by injection e) λxs out m1 h1 H1 s1 x1 R1 I1 hg hz P1=>⟨hz,.str out,H1,I1.tok _,⟨_,rfl⟩,?_⟩);cases eg:jm Str.empty xs with
  |some z=>
    rw[eg]at P1;rw[hg z _ rfl eg];exact Post.here R1 P1 _ rfl
  |none=>
    rw[eg]at P1;exact Post.here R1 P1 _ trivial
 ·exact P.elim
end L2.Rv
namespace L2.Rv
noncomputable section
open PySem (Str)
def ft(h:MH)(w:PySem.PyData):List MV->Option Nat
 |[]=>none
 |y::r=>match dat h 6 y with
   | some d=>if PySem.SeqAt.shaped d=true then (if PySem.PyData.eqv d w=true then some 0 else (match ft h w r with
     |some j=>some (j+1)
     | none=>none)) else none
   |none=>none
def lV(n:Nat)(v:MV):M Nat:=λh=>match h[n]? with
 | some (.lst ys)=>(match dat h 6 v with
   | some d=>if PySem.SeqAt.shaped d=true then (match ft h d ys with
     |some j=>.ok j h
     | none=>.stuck) else .stuck
   | none=>.stuck)
 |_=>.stuck
def ju(o e:ME)(f:Nat->MV->M MV):ME:=λσ=>bnd (o σ) λx=>match x with
 |.ref n=>bnd (look n) λob=>match ob with
   |.lst _=>bnd (e σ) λv=>f n v
   |_=>stk
 |_=>stk
def mZ(n:Nat)(v:MV):M MV:=bnd (lV n v) λj=>ret (.int j)
def pO(n:Nat)(v:MV):M MV:=match v with
 | .int i=>bnd (look n) λob=>(match ob with
   | .lst ys=>if -1000000≤i/\i≤1000000 then (match ixN ys.length i with
     | some j=>(match ys[j]? with
       |some y=>bnd (put n (.lst (ys.eraseIdx j))) λ_=>ret y
       | none=>stk)
     | none=>stk) else stk
   | _=>stk)
 |_=>stk
def vE(o e:ME):ME:=ju o e mZ
def sH(o e:ME):ME:=ju o e pO
def jC(n:Nat)(i:Int):Nat:=if i<0 then(i+(n:Int)).toNat else min i.toNat n
def eB{α:Type}(xs:List α)(k:Nat)(v:α):List α:=xs.take k++v::xs.drop k
def pJ(o e f:ME):ME:=λσ=>bnd (o σ) λx=>match x with
 |.ref n=>bnd (look n) λob=>match ob with
   |.lst _=>bnd (e σ) λi=>bnd (f σ) λv=>match i with
     | .int i=>bnd (look n) λob'=>(match ob' with
       |.lst ys=>if ys.length<100000/\-1000000≤i/\i≤1000000 then bnd (put n (.lst (eB ys (jC ys.length i) v))) λ_=>ret .non else stk
       | _=>stk)
     |_=>stk
   |_=>stk
 |_=>stk
end
end L2.Rv
namespace L2.Rv
open PySem PySem.Spec PyProof.Rows
variable {G:Gb}{m m' m1 m2:List ae}{h h' h1 h2:MH}{H H' H1 H2:Hp}{X:Cx}{E:ag->ai->Prop}{EX:St->Prop}{σ:MSt}{σ':St}
theorem u70{k:Nat}{A:bh}(r:Room k A):A.units+70<cLine:=by have:=r.un;lia
section
open PySem.SeqAt PySem.MeetsSeq
open PySem.AutoSeq1 (wpAny_loadPart')
abbrev jx(ys:Array ag)(c:Nat):az:={ cls:=.type "list",dict:=none,data:=.seq ys c,slots:=#[] }
theorem E2(a:ae)(ys:Array ag)(c:Nat)(q:ag)(b:Nat->Bool)(to:Int)(p:Nat)(hp:p<ys.size)(hto:(p:Int)<to)(yes:b p=true)(d:Nat) :
  ∀t:Nat,p-t=d->t≤p->(∀k,k<ys.size->t≤k->k<p->b k=false)->Meets (Builtin.«list.index.loop» ⟨[.ref a,q,cw t,cw to],[]⟩)
   (λA R s=>s.heap.get? a=some (jx ys c)/\(∀k (hk:k<ys.size),k≤p->EqAt A.in1 s ys[k] q (b k))/\R (.ok (.ret (.int p s.toks))) { s with toks:=s.toks+1 }):=by
 induction d with
 |zero=>
   intro t e1 e2 no prog w A R s z;obtain⟨hh,gg,dd,tt,oo⟩:=s;obtain⟨ga,eq,fin⟩:=z;obtain rfl:t=p:=by lia
   wp_walk using wpAny_loadPart' ga
   have at':(if(t:Int)<to then ys[((t:Nat):Int).toNat]? else none)=some ys[t]:=by simp[hto,hp]
   rw[at'];refine ak (eq t hp (aY _) prog w _ _ ?_);rw[yes]
   wp_walk
   exact fin
 |succ d ih=>
   intro t e1 e2 no prog w A R s z;obtain⟨hh,gg,dd,tt,oo⟩:=s;obtain⟨ga,eq,fin⟩:=z;have ht:t<ys.size:=by lia
   have ht2:(t:Int)<to:=by lia
   wp_walk using wpAny_loadPart' ga
   have at':(if(t:Int)<to then ys[((t:Nat):Int).toNat]? else none)=some ys[t]:=by simp[ht2,ht]
   have up:((t:Int)+1)=((t+1:Nat):Int):=by push_cast;rfl
   rw[at'];refine ak (eq t ht (by lia) prog w _ _ ?_);rw[no t ht (aY _) (by lia)]
   wp_walk
   rw [up];exact ⟨plainId_quiet plain_index_loop _,codeAny_builtin entry_index_loop (by
    rw [Around.under_plainId plain_index_loop _];exact ih (t + 1) (by lia) (by lia) (λk k1 k2 k3=>no k k1 (by lia) k3) prog w A R _ ⟨ga,eq,fin⟩)⟩
theorem B7(a:ae)(ys:Array ag)(c:Nat)(q:ag)(b:Nat->Bool)(p:Nat)(hp:p<ys.size)(yes:b p=true)(no:∀k,k<ys.size->k<p->b k=false)(hto:(p:Int)<2 ^ 63-1) :
  Meets (Builtin.«list.index» ⟨[.ref a,q],[]⟩)
   (λA R s=>s.heap.get? a=some (jx ys c)/\(∀k (hk:k<ys.size),k≤p->EqAt A.in1 s ys[k] q (b k))/\R (.ok (.ret (.int p s.toks))) { s with toks:=s.toks+1 }):=by
 intro prog w A R s z;obtain⟨hh,gg,dd,tt,oo⟩:=s;obtain⟨ga,eq,fin⟩:=z
 wp_walk using wpAny_loadPart' ga
 have lo:((λi:Int=>if i<0 then max 0 (i+(ys.size:Int)) else i) ((none:Option Int).getD 0))=((0:Nat):Int):=by simp
 have hi:((λi:Int=>if i<0 then max 0 (i+(ys.size:Int)) else i) ((none:Option Int).getD (2 ^ 63-1)))=2 ^ 63-1:=by simp
 rw [lo,hi];exact ⟨plainId_quiet plain_index_loop _,codeAny_builtin entry_index_loop (by
  rw [Around.under_plainId plain_index_loop _];exact E2 a ys c q b (2 ^ 63 - 1) p hp hto yes _ 0 rfl (d9 _) (λk k1 _ k3=>no k k1 k3) prog w A R _ ⟨ga,eq,fin⟩)⟩
end
theorem AS{pins:List (ae×az)}{s:ai}{σ2:St}(I:Inv X pins σ2 H s)(R:HR G m h H){A:bh}(hu:A.units+64<cLine){w:MV}{w':V}{u:ag}{d:PyData}(rw':VR G m H w w')(ru:aP w' u)(dw:dat h 6 w=some d)(sw:SeqAt.shaped d=true) :
  ∀{ys:List MV}{ws:List V}{us:List ag}{j:Nat},VRs G m H ys ws->Vals ws us->ft h d ys=some j->∃b:Nat->Bool,j<us.length/\b j=true/\(∀i,i<j->b i=false)/\∀i v,i≤j->us[i]?=some v->SeqAt.EqAt A s v u (b i)
 |[],_,_,j,.nil,.nil,e=>by cases e
 |y::ys,_,_,j,.cons r t,.cons q tt,e=>by
   obtain⟨bs,r2⟩:=ki I R 6 w w' u d rw' ru dw;unfold ft at e;cases ey:dat h 6 y with
   |none=>rw[ey]at e;cases e
   |some dy=>
     rw[ey]at e;dsimp only at e;obtain⟨as,r1⟩:=ki I R 6 y _ _ dy r q ey;split at e
     case isFalse=>cases e
     case isTrue sy=>
      have EQ:∀v,_=v->SeqAt.EqAt A s v u (PyData.eqv dy d):=λv ev=>ev▸SeqAt.eqAt_reads dy d A s _ u as bs r1 r2 (SeqAt.canLay_of_shaped sy) (SeqAt.canLay_of_shaped sw) (SeqAt.room_of_shaped sy hu);split at e
      ·rename_i ht;cases e;refine⟨λ_=>true,by simp,rfl,λi hi=>absurd hi (oH _),λi v hi ev=>?_⟩
       obtain rfl:i=0:=by lia
       have:=EQ v (by simpa using ev);rw[ht]at this;exact this
      ·rename_i ht;cases ef:ft h d ys with
       |none=>rw[ef]at e;cases e
       |some j'=>
         rw [ef] at e;cases e;obtain ⟨b,b1,b2,b3,b4⟩:=AS I R hu rw' ru dw sw t tt ef;refine ⟨λi=>match i with
          |0=>false
          | i + 1=>b i,by simpa using b1,b2,λi hi=>?_,λi v hi ev=>?_⟩
         ·cases i with
          |zero=>rfl
          |succ i=>exact b3 i (by lia)
         ·cases i with
          |zero=>
            have:=EQ v (by simpa using ev);rw[Bool.eq_false_iff.mpr ht]at this;exact this
          |succ i=>exact b4 i v (by lia) (by simpa using ev)
def G7(K:ae->List V->Nat->Prop)(x:V)(vs:List V)(H:Hp):Prop:=∃(G:Gb) (m:List ae) (h:MH) (l:ae) (ys:List MV) (ws:List V) (w:MV) (w':V) (d:PyData) (j:Nat),x=.ref l/\vs=[w']/\HR G m h H/\H l=some (.lst ws)/\VRs G m H ys ws/\VR G m H w w'/\dat h 6 w=some d/\SeqAt.shaped d=true/\ft h d ys=some j/\K l ws j
def zA:V->List V->Hp->VK->Prop:=λx vs H Q=>G7 (λ_ _ j=>Q (.int j) H) x vs H
theorem xW(hu:X.A.units+70<cLine):MtM X "list.index" zA:=by
 rintro pins s σ H x vs v us Q I rx rv ⟨G,m,h,l,ys,ws,w,w',d,j,e1,e2,R,hH,r1,r2,dw,sw,fj,q⟩;subst e1;subst e2;cases rx;obtain⟨u,rfl,ru⟩:=rv.one;obtain⟨z,its,n,r,hl,e⟩:=I.lstM hH;obtain⟨b,lj,bj,bn,be⟩:=AS (A:=X.A.in1) I R (by show X.A.units+1+64<cLine;lia) r2 ru dw sw r1 r fj
 have hsz:(j:Int)<2 ^ 63-1:=by
  have:aZ≤2 ^ 62:=by decide
  lia
 refine call_meets F.slot_list_index ⟨_,e,rfl⟩ F.entry_list_index (F.args_list_index_2 _ _) (B7 l its.toArray n u b j (by simpa using lj) bj (λi _ hi=>bn i hi) hsz) ⟨e,λi hi hij=>be i _ hij ?_,?_⟩
 ·rw[bF];exact⟨by simpa using hi,by simp⟩
 ·exact⟨.int j,H,I.tok _,⟨_,rfl⟩,q⟩
def Fh:V->List V->Hp->VK->Prop:=λx vs H Q=>∃l xs i y,x=.ref l/\vs=[.int i,y]/\H l=some (.lst xs)/\xs.length<aZ/\-1000000≤i/\i≤1000000/\Q .non (upd H l (.lst (eB xs (jC xs.length i) y)))
theorem Br{α:Type}(xs:List α)(k:Nat)(v:α):(eB xs k v).length=xs.length+1:=by
 unfold eB;simp;lia
theorem Vals.take'{xs:List V}{us:List ag}(r:Vals xs us):∀(k:Nat),Vals (xs.take k) (us.take k):=by
 induction r with
 |nil=>intro k;simp;exact .nil
 |cons q _ ih=>intro k;cases k with
   |zero=>exact .nil
   |succ k=>exact .cons q (ih k)
theorem Vals.drop'{xs:List V}{us:List ag}(r:Vals xs us):∀(k:Nat),Vals (xs.drop k) (us.drop k):=by
 induction r with
 |nil=>intro k;simp;exact .nil
 |cons q t ih=>intro k;cases k with
   |zero=>exact .cons q t
   |succ k=>exact ih k
theorem A8:MtM X "list.insert" Fh:=by
 rintro pins s σ H x vs v us Q I rx rv ⟨l,xs,i,y,e1,e2,hH,hz,b1,b2,q⟩;subst e1;subst e2;cases rx;obtain⟨u,w,rfl,⟨t,rfl⟩,rw'⟩:=vals2 rv;obtain⟨z,its,n,r,hl,e⟩:=I.lstM hH;have fit:¬(!Builtin.List.listFitsIndex i)=true:=by
  have:=fitsIndex_both (k:=i) (by lia) (by lia);rw[this];exact bT
 refine call_meets F.slot_list_insert ⟨_,e,rfl⟩ F.entry_list_insert (F.args_list_insert_3 _ _ _) (AutoSeq1.list_insert_list_int_val_1 l its.toArray n i t w fit (by rw[cf];lia)) ⟨e,?_⟩;refine⟨.non,_,I.lset (its':=eB its (jC xs.length i) w) hH e ?_ ?_ ?_,rfl,q⟩
 ·unfold eB jC;rw[hl];simp;rw[mH (by rw[u9];exact aY _)]
 ·unfold eB;exact(Vals.take' r _).append (.cons rw' (Vals.drop' r _))
 ·rw[Br];lia
def VOL(G:Gb)(f:Nat->MV->M MV)(r:V->List V->Hp->VK->Prop):Prop:=∀(X:Cx) (E:ag->ai->Prop) (EX:St->Prop) (m:List ae) (h:MH) (H:Hp) (n:Nat) (aa:ae) (w:MV) (w':V) (Q:VK),HR G m h H->m[n]?=some aa->VR G m H w w' ->
 Post G X E EX m H (f n w h) (λv m' _ H'=>∀v',VR G m' H' v v'->Q v' H')->r (.ref aa) [w'] H Q
theorem CZ{β:Type}{n:Nat}{aa:ae}{v:MV}{k:Nat->M β}{Q:β->List ae->MH->Hp->Prop}(R:HR G m h H)(ea:m[n]?=some aa)(P:Post G X E EX m H (bnd (lV n v) k h) Q) :
  ∃ys ws d j,VRs G m H ys ws/\h[n]?=some (.lst ys)/\H aa=some (.lst ws)/\dat h 6 v=some d/\SeqAt.shaped d=true/\ft h d ys=some j/\Post G X E EX m H (k j h) Q:=by
 obtain⟨o,eo,qo⟩:=R.get ea;unfold bnd lV at P;rw[eo]at P;cases o with
 |lst ys=>
   obtain⟨ws,r,z⟩:=qo;dsimp only at P;cases ed:dat h 6 v with
   |none=>rw[ed]at P;exact P.elim
   |some d=>
     rw[ed]at P;dsimp only at P;by_cases c:SeqAt.shaped d=true
     ·rw[if_pos c]at P;cases ej:ft h d ys with
      |none=>rw[ej]at P;exact P.elim
      |some j=>rw[ej]at P;exact⟨ys,ws,d,j,r,eo,z,rfl,c,ej,P⟩
     ·rw[if_neg c]at P;exact P.elim
 |_=>exact P.elim
theorem AE:VOL G mZ zA:=by
 intro X E EX m h H n aa w w' Q R ea rw' P;obtain⟨ys,ws,d,j,r,en,z,dw,sw,fj,P1⟩:=CZ R ea P;exact⟨G,m,h,aa,ys,ws,w,w',d,j,rfl,rfl,R,z,r,rw',dw,sw,fj,Post.here R P1 _ rfl⟩
theorem yW:∀{xs:List MV}{vs:List V}(j:Nat),VRs G m H xs vs->VRs G m H (xs.eraseIdx j) (vs.eraseIdx j)
 |_,_,_,.nil=>by simp;exact .nil
 |_,_,0,.cons _ t=>t
 |_,_,j+1,.cons q t=>.cons q (yW j t)
theorem tu?{n k:Nat}{i:Int}(e:ixN n i=some k):seqIndex? i n=some k/\-(n:Int)≤i/\i<n:=by
 unfold ixN at e;unfold seqIndex?;by_cases h1:0≤i
 ·rw[if_pos h1]at e;by_cases h2:i<n
  ·rw[if_pos h2]at e;cases e;have h3:¬i<0:=by lia
   refine⟨?_,by lia,by lia⟩;simp[h1,h2,h3]
  ·rw[if_neg h2]at e;cases e
 ·rw[if_neg h1]at e;by_cases h2:-(n:Int)≤i
  ·rw[if_pos h2]at e;cases e;have h3:i<0:=by lia
   have h4:0≤i+(n:Int):=by lia
   refine⟨?_,by lia,by lia⟩;simp[h3,h4];lia
  ·rw[if_neg h2]at e;cases e
theorem Cm:VOL G pO xZ:=by
 intro X E EX m h H n aa w w' Q R ea rw' P;cases w with
 |int i=>
   cases(show w'=V.int i from rw');obtain⟨ob,eo,qo,P1⟩:=bM R ea P;cases ob with
   |lst ys=>
     obtain⟨ws,r,z⟩:=qo;dsimp only at P1;have hl:=Paired.length r;split at P1
     case isFalse=>exact P1.elim
     case isTrue fit=>
     cases ei:ixN ys.length i with
     |none=>rw[ei]at P1;exact P1.elim
     |some k=>
       rw[ei]at P1;dsimp only at P1;obtain⟨s1,s2,s3⟩:=tu? ei;cases ey:ys[k]? with
       |none=>rw[ey]at P1;exact P1.elim
       |some y=>
         rw[ey]at P1;obtain⟨y',ey',ry⟩:=eR r ey;have P3:=jQ R ea P1;have x3:Ext m H m (upd H aa (.lst (ws.eraseIdx k))):=Ext.upd ea z;exact⟨aa,ws,i,k,y',rfl,rfl,z,by lia,by lia,by rw[←hl];exact s1,ey',P3 _ _ x3 (R.upd ea (λo' yy zz=>by rw[z]at zz;cases zz) ⟨_,x3.vrs (yW k r),cG⟩) _ (x3.vr ry)⟩
   |_=>exact P1.elim
 |_=>exact P.elim
section
variable {o e f:av}{go ge gf:ME}{apos cpos:Pos}
theorem uU{mn id:String}{g:Nat->MV->M MV}{r:V->List V->Hp->VK->Prop}(slot:Slot "list" (aF mn) id)(ty:typeOf (.builtin id)=pure (.type "method_descriptor"))(mt:∀E,MtM (X.wish E) id r)(vo:VOL G g r)(ho:GE G X o go)(he:GE G X e ge)
  (hbase:attributeBase o (aF mn) X.env (aE o X.env)=aE o X.env:=by rfl)
  (hfew:((backTo cpos (aH [e] X.env)).all (λx=>!x.1) && (backToKw cpos (keywordEach [] X.env)).all (λx=>x.1.isSome)
   && decide ([e].length + ([]:List Keyword).length + (if ([]:List Keyword).isEmpty then 0 else 1) < 30))=true:=by rfl)
  (hline:(apos.endLine == cpos.line)=true:=by rfl) (hs:aH [e] X.env=[(false,aE e X.env)]:=by rfl):GE G X (.Call (.Attribute o (aF mn) apos) [e] [] cpos) (ju go ge g):=λE EX=>
 dg (tH (X:=X.wish E) uP slot ty (mt E) (ho E EX) (he.a1 hs E EX) hbase hfew hline hs rfl) λσ' H Q e0=>bL e0 λm h σ ex S R P=>
  sub ex S R P λv m1 h1 H1 v' x1 R1 r1 P1=>by
   cases v with
   |ref n=>
     obtain⟨aa,ea,rfl⟩:=r1;obtain⟨ob,eo,qo,P2⟩:=bM R1 ea P1;cases ob with
     |lst xs=>
       obtain⟨vs,rr,z⟩:=qo;exact⟨.inl ⟨rfl,vs,SqL.of z⟩,sub ex (S.mono x1) R1 P2 λw m2 h2 H2 w' x2 R2 r2 P3=>vo _ _ _ _ _ _ _ _ _ _ _ R2 (x2.get ea) r2 P3⟩
     |_=>exact P2.elim
   |_=>exact P1.elim
theorem Em{w:MV}{w':V}(q:VR G m H w w'){xs:List MV}{vs:List V}(k:Nat)(r:VRs G m H xs vs):VRs G m H (eB xs k w) (eB vs k w'):=by
 have dr:∀(k:Nat) {xs:List MV} {vs:List V},VRs G m H xs vs->VRs G m H (xs.take k) (vs.take k)/\VRs G m H (xs.drop k) (vs.drop k):=by
  intro k
  induction k with
  |zero=>intro xs vs q;exact⟨.nil,q⟩
  |succ k ih=>intro xs vs q;cases q with
    |nil=>exact⟨.nil,.nil⟩
    |cons q1 q2=>exact⟨.cons q1 (ih q2).1,(ih q2).2⟩
 unfold eB;exact iE (dr k r).1 (.cons q (dr k r).2)
theorem Dr(ho:GE G X o go)(he:GE G X e ge)(hf:GE G X f gf)(hbase:attributeBase o (aF "insert") X.env (aE o X.env)=aE o X.env:=by rfl)
  (hfew:((backTo cpos (aH [e,f] X.env)).all (λx=>!x.1) && (backToKw cpos (keywordEach [] X.env)).all (λx=>x.1.isSome)
   && decide ([e,f].length + ([]:List Keyword).length + (if ([]:List Keyword).isEmpty then 0 else 1) < 30))=true:=by rfl)
  (hline:(apos.endLine == cpos.line)=true:=by rfl) (hs:aH [e,f] X.env=[(false,aE e X.env),(false,aE f X.env)]:=by rfl) (hs2:aH [f] X.env=[(false,aE f X.env)]:=by rfl):GE G X (.Call (.Attribute o (aF "insert") apos) [e,f] [] cpos) (pJ go ge gf):=λE EX=>
 dg (tH (X:=X.wish E) uP PySem.F.slot_list_insert PySem.F.type_list_insert A8 (ho E EX) (fg (X:=X.wish E) (he E EX) (hf.a1 hs2 E EX) (by show aH [e,f] X.env=(false,aE e X.env)::aH [f] X.env;rw[hs,hs2])) hbase hfew hline (by show aH [e,f] X.env=(false,aE e X.env)::aH [f] X.env;rw[hs,hs2]) (by show(backTo cpos (aH [f] X.env)).any (·.1)=false;rw[hs2];rfl)) λσ' H Q e0=>bL e0 λm h σ ex S R P=>
  sub ex S R P λv m1 h1 H1 v' x1 R1 r1 P1=>by
   cases v with
   |ref n=>
     obtain⟨aa,ea,rfl⟩:=r1;obtain⟨ob,eo,qo,P2⟩:=bM R1 ea P1;cases ob with
     |lst xs=>
       obtain⟨vs,rr,z⟩:=qo;refine⟨.inl ⟨rfl,vs,SqL.of z⟩,sub ex (S.mono x1) R1 P2 λi m2 h2 H2 i' x2 R2 r2 P3=>sub ex ((S.mono x1).mono x2) R2 P3 λw m3 h3 H3 w' x3 R3 r3 P4=>?_⟩;have ea3:=x3.get (x2.get ea);cases i with
       |int i=>
         cases(show i'=V.int i from r2);obtain⟨ob3,eo3,qo3,P5⟩:=bM R3 ea3 P4;cases ob3 with
         |lst ys=>
           obtain⟨ws,rs,z3⟩:=qo3;dsimp only at P5;split at P5
           ·rename_i hz;have hl:=Paired.length rs;have P6:=jQ R3 ea3 P5;have x4:Ext m3 H3 m3 (upd H3 aa (.lst (eB ws (jC ws.length i) w'))):=Ext.upd ea3 z3;refine⟨aa,ws,i,w',rfl,rfl,z3,by rw[←hl];exact cJ hz.1 (big (aY _)),hz.2.1,hz.2.2,?_⟩;exact P6 _ _ x4 (R3.upd ea3 (λo' yy zz=>by rw[z3]at zz;cases zz) ⟨_,x4.vrs (by rw[hl];exact Em r3 _ rs),cG⟩) _ rfl
           ·exact P5.elim
         |_=>exact P5.elim
       |_=>exact P4.elim
     |_=>exact P2.elim
   |_=>exact P1.elim
end
def VO2(G:Gb)(f:Op2)(r:List V->Hp->VK->Prop):Prop:=∀(X:Cx) (E:ag->ai->Prop) (EX:St->Prop) (m:List ae) (h:MH) (H:Hp) (x y:MV) (x' y':V) (Q:VK),HR G m h H->VR G m H x x'->VR G m H y y' ->
 Post G X E EX m H (f x y h) (λv m' _ H'=>∀v',VR G m' H' v v'->Q v' H')->r [x',y'] H Q
section
variable {a b:av}{ga gb:ME}{x:Str}{p pos:Pos}{id:String}{f:Op2}{r:List V->Hp->VK->Prop}
theorem Cj(hc:∀E,d4 (X.wish E) (.builtin id) r)(vo:VO2 G f r)(ha:GE G X a ga)(hb:GE G X b gb)(hm:X.mg x=none)(hv:bootBuiltins x=some (.builtin id))(hg:Gl X x:=by rfl)(hn:x≠"__name__":=by decide)(hdb:(x == ("__debug__":Str))=false:=by decide)
  (hs:aH [a,b] X.env=[(false,aE a X.env),(false,aE b X.env)]:=by rfl) (hs2:aH [b] X.env=[(false,aE b X.env)]:=by rfl):GE G X (.Call (.Name x p) [a,b] [] pos) (aA f ga gb):=λE EX=>
 dg (uT (X:=X.wish E) (hc E) hg hm hv (fg (X:=X.wish E) (ha E EX) (hb.a1 hs2 E EX) (by show aH [a,b] X.env=(false,aE a X.env)::aH [b] X.env;rw[hs,hs2])) hn hdb (by show aH [a,b] X.env=(false,aE a X.env)::aH [b] X.env;rw[hs,hs2]) (by show(backTo pos (aH [b] X.env)).any (·.1)=false;rw[hs2];rfl)) λσ' H Q e0=>bL e0 λm h σ ex S R P=>
  sub ex S R P λv m1 h1 H1 v' x1 R1 r1 P1=>sub ex (S.mono x1) R1 P1 λw m2 h2 H2 w' x2 R2 r2 P2=>vo _ _ _ _ _ _ _ _ _ _ _ R2 (x2.vr r1) r2 P2
end
def wM:List V->Hp->VK->Prop:=λxs H Q=>∃i j,xs=[.int i,.int j]/\Q (.int (if j<i then j else i)) H
theorem EN(hd:X.A.handled=none):d4 X (.builtin "min") wM:=by
 rintro pins s σ H xs us Q I r ⟨i,j,e,q⟩;subst e;obtain⟨u,w',rfl,⟨t,rfl⟩,⟨t',rfl⟩⟩:=vals2 r;refine min_two_ints hd λh' tk k=>⟨_,H,I.kept k,?_,q⟩
 by_cases hj:j<i
 ·rw[if_pos hj,if_pos hj];exact⟨_,rfl⟩
 ·rw[if_neg hj,if_neg hj];exact⟨_,rfl⟩
theorem BP:VO2 G vf wM:=by
 intro X E EX m h H x y x' y' Q R rx ry P;cases x with
 |int i=>cases y with
   |int j=>
     cases(show x'=V.int i from rx);cases(show y'=V.int j from ry);exact⟨i,j,rfl,Post.here R P _ rfl⟩
   |_=>exact P.elim
 |_=>exact P.elim
theorem ym:∀{xs:List MV}{is:List Int}{vs:List V},ik xs=some is->VRs G m H xs vs->vs=is.map V.int
 |[],is,vs,e,q=>by cases e;cases q;rfl
 |x::xs,is,vs,e,q=>by
   cases x <;> first|cases e|skip
   rename_i y;cases er:ik xs with
   |none=>simp[ik,er]at e
   |some ks=>
     simp only[ik,er,Option.some.injEq]at e;subst e;cases q with
     |@cons _ v' _ vs' q1 q2=>rw[show v'=V.int y from q1,ym er q2];rfl
theorem yi:∀{is:List Int}{us:List ag},Vals (is.map V.int) us->∃xs:List (Int×Tok),us.toArray=intItems xs.toArray/\xs.map (·.1)=is
 |[],_,.nil=>⟨[],by simp[intItems],rfl⟩
 |i::is,_,.cons q t=>by
   obtain⟨t0,rfl⟩:=(show ∃t,_=Value.int i t from q);obtain⟨xs,e1,e2⟩:=yi t;refine⟨(i,t0)::xs,?_,by simp[e2]⟩;have e3:∀(l:List ag),(Value.int i t0::l).toArray=#[Value.int i t0]++l.toArray:=λl=>by simp
   rw[e3,e1];simp[intItems]
theorem zc{f:Nat->Int}:∀(k:Nat),f (argBest (λi j=>decide (f i<f j)) k)=fi (f 0) ((cz k).map λi=>f (i+1))
 |0=>rfl
 |k+1=>by
   have app:∀(l:List Int) (a b:Int),fi a (l++[b])=if b<fi a l then b else fi a l:=by
    intro l
    induction l with
    |nil=>intro a b;rfl
    |cons c l ih=>intro a b;exact ih _ _
   rw[List.range_succ,jc,bS,jS,app,←zc k];show f (if decide (f (k+1)<f (argBest (λi j=>decide (f i<f j)) k))=true then k+1 else argBest (λi j=>decide (f i<f j)) k)=_;by_cases c:f (k+1)<f (argBest (λi j=>decide (f i<f j)) k)
   ·rw[if_pos (by simpa using c),if_pos c]
   ·rw[if_neg (by simpa using c),if_neg c]
def AH:List V->Hp->VK->Prop:=λvs H Q=>∃(l:ae) (i:Int) (is:List Int),vs=[.ref l]/\H l=some (.lst ((i::is).map V.int))/\Q (.int (fi i is)) H
theorem Gr(hd:X.A.handled=none):d4 X (.builtin "min") AH:=by
 rintro pins s σ H vs us Q I r ⟨l,i,is,e,hH,q⟩;subst e;obtain⟨u,rfl,ru⟩:=vals1 r;cases ru;obtain⟨z,its,n,rr,hl,e⟩:=I.lstM hH;obtain⟨xs,e1,e2⟩:=yi rr;have sz:xs.length=is.length+1:=by have:=congrArg oi e2;simpa using this
 rw[e1]at e;refine min_intList (xs:=xs.toArray) hd ⟨_,e,rfl,n,rfl⟩ (by simp;lia) λv hp tk ev kk=>?_;obtain⟨t,rfl⟩:=intItems_at ev;have na:∀k,k<is.length+1->numAt xs.toArray k=(i::is).getD k 0:=λk hk=>by
  rw[←e2];unfold numAt;simp[List.getD]
 have em:fi (numAt xs.toArray 0) ((cz (xs.toArray.size-1)).map λk=>numAt xs.toArray (k+1))=fi i is:=by
  have a0:numAt xs.toArray 0=i:=by rw[na 0 (by lia)];rfl
  have a1:(cz (xs.toArray.size-1)).map (λk=>numAt xs.toArray (k+1))=is:=by
   apply iK;intro k;by_cases hk:k<is.length
   ·rw[bz,hG (by simp;lia)];simp only[sI];rw[na (k+1) (by lia)];simp[hk]
   ·rw[iD (by simp;lia),iD (by lia)]
  rw[a0,a1]
 have bst:=zc (f:=numAt xs.toArray) (xs.toArray.size-1);exact⟨.int (fi i is),H,I.kept kk,⟨t,by rw[bst,em]⟩,q⟩
theorem FX:VO1 G qZ AH:=by
 intro X E EX m h H x x' Q R rx P;cases x with
 |ref a=>
   obtain⟨aa,ea,rfl⟩:=rx;obtain⟨o,eo,qo,P1⟩:=bM R ea P;cases o with
   |lst xs=>
     obtain⟨vs,r,z⟩:=qo;dsimp only at P1;cases ei:ik xs with
     |none=>rw[ei]at P1;exact P1.elim
     |some is=>
       rw[ei]at P1;cases is with
       |nil=>exact P1.elim
       |cons i is=>
         dsimp only at P1;split at P1
         ·have:=ym ei r;subst this;exact⟨aa,i,is,rfl,z,Post.here R P1 _ rfl⟩
         ·exact P1.elim
   |_=>exact P1.elim
 |_=>exact P.elim
section
variable {a b c:av}{ga gb gc:ME}{f g:Op2}{r r':R2}{pos:Pos}
end
theorem aX.two{c d:Nat}{f:String}(a:Cls G.K (G.cl c))(b:cQ G.K (G.cl c) (aF f))(a':Cls G.K (G.cl d))(b':cQ G.K (G.cl d) (aF f)):aX G [c,d] f:=λc' q=>by
 rcases bW.mp q with z|z
 ·subst z;exact⟨a,b⟩
 ·cases c6.mp z;exact⟨a',b'⟩
end L2.Rv
namespace L2.Rv
open PySem PySem.Spec PyProof.Rows
abbrev kN(u:ag)(f:Bool)(P O:ae):az:={ cls:=.type "zip",dict:=none,data:=.fields #[u,.bool f,.bool false,.ref P,.ref O],slots:=#[] }
section
variable {prog:bf}{w:aU}{A:bh}{E:ag->ai->Prop}{s:ai}{zo P O T j1 j2 l1 l2:ae}{k1 k2:Nat}{xs ys:Array ag}{x y:ag}{f:Bool}{oT:az}
theorem xn{Q:Bool->ai->Prop}(gz:s.heap.get? zo=some (kN (cw T) f P O))(gT:s.heap.get? T=some oT)
  (fin:∀hp,hp.get? zo=some (kN (cw T) true P O)->jJ zo s.heap hp->Q false { s with heap:=hp }):aq (aw prog w) A (Builtin.SmallTypes.ownedTupleIsFree (.ref zo)) Q E s:=by
 unfold Builtin.SmallTypes.ownedTupleIsFree;refine ak (de gz rfl (x:=cw T) rfl ?_);show aq _ _ (loadIfAlive ((T:Int).toNat) >>= _) _ E s;rw[Int.toNat_natCast];refine ak (PySem.W.kdx_alive gT ?_);simp only[Option.isNone_some,dh,if_false];refine ak (de gz rfl (x:=.bool f) rfl ?_);cases f with
 |true=>
   have nb:¬((Value.bool true != Value.bool true)=true):=bT;rw[if_neg nb];exact aI (fin s.heap gz (Heap.SameBut.refl _ _))
 |false=>
   have yb:(Value.bool false != Value.bool true)=true:=rfl;rw[if_pos yb];refine ak (wpAny_setField_rec gz (by simp) λh1 g1 s1=>?_);exact aI (fin h1 g1 s1)
theorem BR{Q:ag->ai->Prop}(D:ZipApart zo P O j1 j2 l1 l2)(gz:s.heap.get? zo=some (kN (cw T) f P O))(gT:s.heap.get? T=some oT)(gP:IsPair s.heap P (.ref j1) (.ref j2))
  (g1:s.heap.IsListIter j1 l1 k1) (g2:s.heap.IsListIter j2 l2 k2) (q1:s.heap.IsList l1 xs) (q2:s.heap.IsList l2 ys) (ex:xs[k1]?=some x) (ey:ys[k2]?=some y)
  (fin:∀hp,hp.get? zo=some (kN (cw T) true P O)->hp.IsListIter j1 l1 (k1+1)->hp.IsListIter j2 l2 (k2+1)->IsPair hp s.heap.objs.size x y->(∀c o,c≠zo->c≠j1->c≠j2->s.heap.get? c=some o->hp.get? c=some o)->Q (.ref s.heap.objs.size) { s with heap:=hp }) :
  aq (aw prog w) A (Builtin.«zip.__next__» ⟨[.ref zo],[]⟩) (λr s'=>∃v,r=.done (.ret v)/\Q v s') E s:=by
 show aq _ _ (field (.ref zo) 2 >>= _) _ E s;refine ak (de gz rfl (x:=.bool false) rfl ?_);show aq _ _ (field (.ref zo) 3 >>= _) _ E s;refine ak (de gz rfl (x:=.ref P) rfl ?_);refine ak (wpAny_seqItems gP rfl ?_);show aq _ _ (Builtin.SmallTypes.ownedTupleIsFree (.ref zo) >>= _) _ E s;refine ak (xn gz gT λh1 z1 s1=>?_);simp only[dh,if_false,uZ,lM,jN];have e1:=s1.1;refine ak (ak (ak (wpAny_holding ?_)));show aq _ _ (Builtin.SmallTypes.nextOf (.ref j1) >>= _) _ E _;refine ak (wpAny_nextOf_list_item (g1.extBut s1.extBut D.i1z) (q1.extBut s1.extBut D.l1z) ex λh2 a2 s2=>aI ?_);have e2:=s2.1;refine aI ?_;refine ak (ak (wpAny_holding ?_));show aq _ _ (Builtin.SmallTypes.nextOf (.ref j2) >>= _) _ E _;refine ak (wpAny_nextOf_list_item ((g2.extBut s1.extBut D.i2z).extBut s2.extBut D.i12.symm) ((q2.extBut s1.extBut D.l2z).extBut s2.extBut D.l2i1) ey λh3 a3 s3=>aI ?_);have e3:=s3.1;refine aI ?_;refine aI ?_;show aq _ _ (newTuple [x,y] >>= _) _ E _;refine ak (wpAny_newTuple ?_);have sz:h3.objs.size=s.heap.objs.size:=by rw[e3,e2,e1]
 refine aI ⟨_,rfl,?_⟩;show Q (.ref h3.objs.size) _;have up:∀c o,c≠zo->c≠j1->c≠j2->s.heap.get? c=some o->h3.get? c=some o:=λc o c1 c2 c3 e=>s3.extBut _ _ c3 (s2.extBut _ _ c2 (s1.extBut _ _ c1 e));have new:(h3.push { cls:=.type "tuple",data:=.seq #[x,y] }).get? h3.objs.size=some { cls:=.type "tuple",data:=.seq #[x,y] }:=cR _ rfl;rw[sz]at new;rw[sz];exact fin _ (bv _ (s3.extBut _ _ D.i2z.symm (s2.extBut _ _ D.i1z.symm z1))) (((a2.extBut s3.extBut D.i12)).at λo e=>bv _ e) (a3.at λo e=>bv _ e) new λc o c1 c2 c3 e=>bv _ (up c o c1 c2 c3 e)
theorem Gc{Q:Fin->ai->Prop}(hh:A.handled=none)(D:ZipApart zo P O j1 j2 l1 l2)(gz:s.heap.get? zo=some (kN (cw T) f P O))(gT:s.heap.get? T=some oT)(gP:IsPair s.heap P (.ref j1) (.ref j2))
  (g1:s.heap.IsListIter j1 l1 k1) (g2:s.heap.IsListIter j2 l2 k2) (q1:s.heap.IsList l1 xs) (q2:s.heap.IsList l2 ys) (no:xs[k1]?=none∨ys[k2]?=none)
  (fin:∀hp e,(∀c o,c≠zo->c≠j1->c≠j2->s.heap.get? c=some o->hp.get? c=some o)->(∃o,hp.get? e=some o/\o.cls=.type "StopIteration")->E (.ref e) { s with heap:=hp }) :
  aq (aw prog w) A (Builtin.«zip.__next__» ⟨[.ref zo],[]⟩) Q E s:=by
 show aq _ _ (field (.ref zo) 2 >>= _) _ E s;refine ak (de gz rfl (x:=.bool false) rfl ?_);show aq _ _ (field (.ref zo) 3 >>= _) _ E s;refine ak (de gz rfl (x:=.ref P) rfl ?_);refine ak (wpAny_seqItems gP rfl ?_);show aq _ _ (Builtin.SmallTypes.ownedTupleIsFree (.ref zo) >>= _) _ E s;refine ak (xn gz gT λh1 z1 s1=>?_);simp only[dh,if_false,uZ,lM,jN];refine ak (ak (ak (wpAny_holding ?_)));show aq _ _ (Builtin.SmallTypes.nextOf (.ref j1) >>= _) _ E _;cases ex:xs[k1]? with
 |none=>
   refine ak (wpAny_nextOf_list_end hh (g1.extBut s1.extBut D.i1z) (q1.extBut s1.extBut D.l1z) ex λh2 e s2 oe=>?_);exact fin h2 e (λc o c1 c2 c3 z=>s2 _ _ c2 (s1.extBut _ _ c1 z)) oe
 |some x0=>
   have ey:ys[k2]?=none:=by
    rcases no with z|z
    ·rw[ex]at z;cases z
    ·exact z
   refine ak (wpAny_nextOf_list_item (g1.extBut s1.extBut D.i1z) (q1.extBut s1.extBut D.l1z) ex λh2 a2 s2=>aI ?_);refine aI ?_;refine ak (ak (wpAny_holding ?_));show aq _ _ (Builtin.SmallTypes.nextOf (.ref j2) >>= _) _ E _;refine ak (wpAny_nextOf_list_end hh ((g2.extBut s1.extBut D.i2z).extBut s2.extBut D.i12.symm) ((q2.extBut s1.extBut D.l2z).extBut s2.extBut D.l2i1) ey λh3 e s3 oe=>?_);exact fin h3 e (λc o c1 c2 c3 z=>s3 _ _ c3 (s2.extBut _ _ c2 (s1.extBut _ _ c1 z))) oe
structure ZS(zo P O j1 j2 l1 l2 S:ae)(xs ys:Array ag)(i:Nat)(hp:aG):Prop where
 pz:IsZip hp zo P O .none∨∃(T:ae) (f:Bool) (oT:az),hp.get? zo=some (kN (cw T) f P O)/\hp.get? T=some oT/\T≠zo/\T≠O/\T≠j1/\T≠j2/\T≠S
 gP:IsPair hp P (.ref j1) (.ref j2)
 gO:∃a b,IsPair hp O a b
 g1:hp.IsListIter j1 l1 i
 g2:hp.IsListIter j2 l2 i
 q1:hp.IsList l1 xs
 q2:hp.IsList l2 ys
variable {S:ae}{i:Nat}
theorem ZS.item{Q:Option ag->ai->Prop}(D:ZipApart zo P O j1 j2 l1 l2)(Z:ZS zo P O j1 j2 l1 l2 S xs ys i s.heap)(hS:S<s.heap.objs.size)(ex:xs[i]?=some x)(ey:ys[i]?=some y)
  (fin:∀hp,ZS zo P O j1 j2 l1 l2 S xs ys (i+1) hp->IsPair hp s.heap.objs.size x y->(∀c o,c≠zo->c≠O->c≠j1->c≠j2->s.heap.get? c=some o->hp.get? c=some o)->Q (some (.ref s.heap.objs.size)) { s with heap:=hp }):aq (aw prog w) A (pyNext (.ref zo)) Q E s:=by
 obtain⟨a,b,gO⟩:=Z.gO;have lt:∀{c o},s.heap.get? c=some o->s.heap.objs.size≠c:=λe=>c9 (bc e);have n1:s.heap.objs.size≠j1:=by obtain⟨_,e,_⟩:=Z.g1;exact lt e
 have n2:s.heap.objs.size≠j2:=by obtain⟨_,e,_⟩:=Z.g2;exact lt e
 rcases Z.pz with gz|⟨T,f,oT,gz,gT,t1,t2,t3,t4,t5⟩
 ·refine wpAny_pyNext_zip_item D gz Z.gP gO Z.g1 Z.g2 Z.q1 Z.q2 ex ey λhp a1 a2 a3 a4 a5 a6 kk=>?_;exact fin hp ⟨.inr ⟨_,false,_,a1,a5,lt gz,lt gO,n1,n2,c9 hS⟩,kk _ _ D.TIz D.TITO D.TIi1 D.TIi2 Z.gP,⟨_,_,a2⟩,a3,a4,Z.q1.at λo e=>kk _ o D.l1z D.l1TO D.l1i1 D.l1i2 e,Z.q2.at λo e=>kk _ o D.l2z D.l2TO D.l2i1 D.l2i2 e⟩ a5 kk
 ·have ty:s.TypeIs (.ref zo) "zip":=⟨_,gz,rfl⟩
  unfold pyNext;refine ak (wpAny_attempt (wpAny_callSpecial?_slot (name:=aF "__next__") ty F.slot_zip_next (wpAny_call_entry F.slot_zip_next ty F.entry_zip_next (BR D gz gT Z.gP Z.g1 Z.g2 Z.q1 Z.q2 ex ey λhp a1 a2 a3 a4 kk=>aI ?_) (F.args_zip_next_1 _))));exact fin hp ⟨.inr ⟨T,true,oT,a1,kk _ _ t1 t3 t4 gT,t1,t2,t3,t4,t5⟩,kk _ _ D.TIz D.TIi1 D.TIi2 Z.gP,⟨a,b,kk _ _ D.TOz D.TOi1 D.TOi2 gO⟩,a2,a3,Z.q1.at λo e=>kk _ o D.l1z D.l1i1 D.l1i2 e,Z.q2.at λo e=>kk _ o D.l2z D.l2i1 D.l2i2 e⟩ a4 λc o c1 _ c3 c4 e=>kk c o c1 c3 c4 e
theorem ZS.end{Q:Option ag->ai->Prop}(hh:A.handled=none)(D:ZipApart zo P O j1 j2 l1 l2)(Z:ZS zo P O j1 j2 l1 l2 S xs ys i s.heap)(no:xs[i]?=none∨ys[i]?=none)
  (fin:∀hp,(∀c o,c≠zo->c≠O->c≠j1->c≠j2->s.heap.get? c=some o->hp.get? c=some o)->Q none { s with heap:=hp }):aq (aw prog w) A (pyNext (.ref zo)) Q E s:=by
 obtain⟨a,b,gO⟩:=Z.gO;rcases Z.pz with gz|⟨T,f,oT,gz,gT,t1,t2,t3,t4,t5⟩
 ·exact wpAny_pyNext_zip_end hh D gz Z.gP gO Z.g1 Z.g2 Z.q1 Z.q2 no fin
 ·have ty:s.TypeIs (.ref zo) "zip":=⟨_,gz,rfl⟩
  unfold pyNext;refine ak (wpAny_attempt (wpAny_callSpecial?_slot (name:=aF "__next__") ty F.slot_zip_next (wpAny_call_entry F.slot_zip_next ty F.entry_zip_next (Gc hh D gz gT Z.gP Z.g1 Z.g2 Z.q1 Z.q2 no λhp e kk oe=>?_) (F.args_zip_next_1 _))));obtain⟨o,go,co⟩:=oe;refine ak (wpAny_isInstance (T:="StopIteration") (b:=true) ⟨o,go,co⟩ isSubtype_stop ?_);exact aI (fin _ λc o c1 _ c3 c4 e=>kk c o c1 c3 c4 e)
theorem ZS.frame{hp hp':aG}(nS:S≠zo/\S≠P/\S≠O/\S≠j1/\S≠j2/\S≠l1/\S≠l2)(Z:ZS zo P O j1 j2 l1 l2 S xs ys i hp)(k:∀c o,c≠S->hp.get? c=some o->hp'.get? c=some o):ZS zo P O j1 j2 l1 l2 S xs ys i hp':=by
 obtain⟨n1,n2,n3,n4,n5,n6,n7⟩:=nS;obtain⟨a,b,gO⟩:=Z.gO;refine⟨?_,k _ _ n2.symm Z.gP,⟨a,b,k _ _ n3.symm gO⟩,Z.g1.at λo e=>k _ o n4.symm e,Z.g2.at λo e=>k _ o n5.symm e,Z.q1.at λo e=>k _ o n6.symm e,Z.q2.at λo e=>k _ o n7.symm e⟩;rcases Z.pz with gz|⟨T,f,oT,gz,gT,t1,t2,t3,t4,t5⟩
 ·exact .inl (k _ _ n1.symm gz)
 ·exact .inr ⟨T,f,oT,k _ _ n1.symm gz,k _ _ t5 gT,t1,t2,t3,t4,t5⟩
def Pairs(xs ys:Array ag)(lo:Nat)(us:List ae)(hp:aG):Prop:=us.Nodup/\∀(j:Nat) (t:ae),us[j]?=some t->lo≤t/\∃x y,xs[j]?=some x/\ys[j]?=some y/\IsPair hp t x y
theorem Pairs.push{lo t:Nat}{us:List ae}{hp hp':aG}(p:Pairs xs ys lo us hp)(k:∀(j:Nat) (t:ae) (o:az),us[j]?=some t->hp.get? t=some o->hp'.get? t=some o)(hn:t∉us)(hl:lo≤t)(ex:xs[us.length]?=some x)(ey:ys[us.length]?=some y)(g:IsPair hp' t x y):Pairs xs ys lo (us++[t]) hp':=by
 refine⟨iQ.mpr ⟨p.1,by simp,λa ha b hb z=>hn ?_⟩,λj u e=>?_⟩
 ·rw[c6.mp hb]at z;exact z▸ha
 ·by_cases hj:j<us.length
  ·rw[fq hj]at e;obtain⟨a1,a,b,a2,a3,a4⟩:=p.2 j u e;exact⟨a1,a,b,a2,a3,k j u _ e a4⟩
  ·rw[jw (by lia)]at e;have hj':j=us.length:=by
    have:=(bF.mp e).1;simp at this;lia
   subst hj';simp at e;subst e;exact⟨hl,x,y,ex,ey,g⟩
theorem Do{R:Result->ai->Prop}{res:ag}{lo:Nat}(hh:A.handled=none)(D:ZipApart zo P O j1 j2 l1 l2)(nS:S≠zo/\S≠P/\S≠O/\S≠j1/\S≠j2/\S≠l1/\S≠l2)(few:min xs.size ys.size≤aZ)(hlo:S<lo/\zo<lo/\O<lo/\j1<lo/\j2<lo) :
  ∀(k i:Nat) (s:ai) (us:List ae) (c:Nat),min xs.size ys.size-i=k->i≤min xs.size ys.size->ZS zo P O j1 j2 l1 l2 S xs ys i s.heap->s.heap.get? S=some (jx (us.map Value.ref).toArray c)->us.length=i->Pairs xs ys lo us s.heap->lo≤s.heap.objs.size ->
  (∀hp us c,hp.get? S=some (jx (us.map Value.ref).toArray c)->us.length=min xs.size ys.size->Pairs xs ys lo us hp->(∀c o,c≠S->c≠zo->c≠O->c≠j1->c≠j2->s.heap.get? c=some o->hp.get? c=some o)->R (.ok (.ret res)) { s with heap:=hp }) ->
  codeAny (aw prog w) A (.builtin "list.extend.loop" ⟨[.ref S,.ref zo,res],[]⟩) R s:=by
 intro k
 induction k with
 |zero=>
   intro i s us c e1 e2 Z gS lu pr ls fin;have no:xs[i]?=none∨ys[i]?=none:=by
    rcases Nat.le_total xs.size ys.size with z|z
    ·exact .inl (Array.getElem?_eq_none (by lia))
    ·exact .inr (Array.getElem?_eq_none (by lia))
   refine codeAny_builtin F.entry_extend_loop ?_;rw[Around.under_plainId F.plain_extend_loop _];show aq _ A.in1 (pyNext (.ref zo) >>= _) _ _ s;refine ak (Z.end (A:=A.in1) hh D no λhp kk=>?_);refine aI (fin hp us c (kk _ _ nS.1 nS.2.2.1 nS.2.2.2.1 nS.2.2.2.2.1 gS) (by lia) ⟨pr.1,λj t e=>?_⟩ λc o _ c1 c2 c3 c4 e=>kk c o c1 c2 c3 c4 e);obtain⟨a1,a,b,a2,a3,a4⟩:=pr.2 j t e;have nt:∀{c:ae},c<lo->t≠c:=λhc=>c9 (cJ hc a1);exact⟨a1,a,b,a2,a3,kk _ _ (nt hlo.2.1) (nt hlo.2.2.1) (nt hlo.2.2.2.1) (nt hlo.2.2.2.2) a4⟩
 |succ k ih=>
   intro i s us c e1 e2 Z gS lu pr ls fin;have hx:i<xs.size:=by lia
   have hy:i<ys.size:=by lia
   refine codeAny_builtin F.entry_extend_loop ?_;rw[Around.under_plainId F.plain_extend_loop _];show aq _ A.in1 (pyNext (.ref zo) >>= _) _ _ s;refine ak (Z.item (A:=A.in1) D (bc gS) (oO hx) (oO hy) λhp Z1 g1 kk=>?_);have gS1:=kk _ _ nS.1 nS.2.2.1 nS.2.2.2.1 nS.2.2.2.2.1 gS;show aq _ A.in1 (updateSeq S (·.push (.ref s.heap.objs.size)) >>= _) _ _ _;have sz:(us.map Value.ref).toArray.size=i:=by simp[lu]
   refine ak (wpAny_updateSeq gS1 rfl (aI ⟨plainId_quiet F.plain_extend_loop _,?_⟩) (by rw[sz];lia) (by show((us.map Value.ref).toArray.push _).size≤_;rw[Array.size_push,sz];lia));have gS2:=im (Obj.mapSeq (·.push (.ref s.heap.objs.size))) gS1 rfl;have oth:∀c o,c≠S->hp.get? c=some o->(hp.update S (Obj.mapSeq (·.push (.ref s.heap.objs.size)))).get? c=some o:=λc o hc e=>(gj _ _ (Ne.symm hc)).trans e;have nT:s.heap.objs.size≠S:=c9 (bc gS);have ap:(us.map Value.ref).toArray.push (.ref s.heap.objs.size)=((us++[s.heap.objs.size]).map Value.ref).toArray:=by simp
   refine ih (i+1) { s with heap:=hp.update S (Obj.mapSeq (·.push (.ref s.heap.objs.size))) } (us++[s.heap.objs.size]) _ (by lia) (by lia) (Z1.frame nS oth) (by rw[←ap];exact gS2) (by simp[lu]) ?_ ?_ λhp2 us2 c2 a1 a2 a3 a4=>?_
   ·refine Pairs.push (x:=xs[i]) (y:=ys[i]) pr (λj t o e g=>?_) (λz=>?_) ls (by rw[lu];exact oO hx) (by rw[lu];exact oO hy) (oth _ _ nT g1)
    ·have lt:=(pr.2 j t e).1;have nt:∀{c:ae},c<lo->t≠c:=λhc=>c9 (cJ hc lt);exact oth _ _ (nt hlo.1) (kk _ _ (nt hlo.2.1) (nt hlo.2.2.1) (nt hlo.2.2.2.1) (nt hlo.2.2.2.2) g)
    ·obtain⟨j,ej⟩:=my.mp z;obtain⟨_,_,_,_,_,g⟩:=pr.2 j _ ej;exact absurd (bc g) (g7 _)
   ·show lo≤(hp.update S _).objs.size;exact cF ls (lK (bc (oth _ _ nT g1)))
   ·exact fin hp2 us2 c2 a1 a2 a3 λc o c1 c2 c3 c4 c5 e=>a4 c o c1 c2 c3 c4 c5 (oth c o c1 (kk c o c2 c3 c4 c5 e))
theorem Cn:typeLookup (.type "zip") "__len__"=pure none:=by rw[typeLookup_type,builtinLookup_eq_fast];kernel_rfl
theorem DC:typeLookup (.type "zip") "__length_hint__"=pure none:=by rw[typeLookup_type,builtinLookup_eq_fast];kernel_rfl
theorem BF{R:Result->ai->Prop}{res:ag}{lo:Nat}(hh:A.handled=none)(D:ZipApart zo P O j1 j2 l1 l2)(nS:S≠zo/\S≠P/\S≠O/\S≠j1/\S≠j2/\S≠l1/\S≠l2)(few:min xs.size ys.size≤aZ)(hlo:S<lo/\zo<lo/\O<lo/\j1<lo/\j2<lo){c0:Nat}
  (Z:ZS zo P O j1 j2 l1 l2 S xs ys 0 s.heap) (fresh:IsZip s.heap zo P O .none) (gS:s.heap.get? S=some (jx #[] c0)) (ls:lo≤s.heap.objs.size)
  (fin:∀hp us c,hp.get? S=some (jx (us.map Value.ref).toArray c)->us.length=min xs.size ys.size->Pairs xs ys lo us hp->(∀c o,c≠S->c≠zo->c≠O->c≠j1->c≠j2->s.heap.get? c=some o->hp.get? c=some o)->R (.ok (.ret res)) { s with heap:=hp }) :
  aq (aw prog w) A.in1 (Builtin.List.listExtendWith (.ref S) (.ref zo) res)
   (λr s'=>match r with|.done f=>R (.ok f) s'|.again c'=>c'.quiet=true/\codeAny (aw prog w) A c' R s') (λe s'=>R (.error e) s') s:=by
 have ty:s.TypeIs (.ref zo) "zip":=⟨_,fresh,rfl⟩
 unfold Builtin.List.listExtendWith;refine ak (wpAny_typeOf ty ?_);have b1:Builtin.List.listSameRef (.ref S) (.ref zo)=false:=by simp[Builtin.List.listSameRef,nS.1]
 have b2:(Value.type "zip" == Value.type "list")=false:=by decide
 have b3:(Value.type "zip" == Value.type "tuple")=false:=by decide
 simp only[b1,b2,b3,Bool.or_false,dh,if_false];refine ak (wpAny_pyIter_zip fresh ?_);refine ak (wpAny_holding ?_);unfold Builtin.List.listLengthHint;refine ak (wpAny_specialOf ty Cn ?_);show aq _ A.in1 (specialOf (Value.ref zo) (aF "__length_hint__") >>= _) _ _ s;refine ak (wpAny_specialOf ty DC ?_);refine aI ?_;show aq _ A.in1 (rule "list.extend.makes-room" >>= λ_=>Builtin.List.listTouch (.ref S) >>= λ_=>again (.builtin "list.extend.loop" ⟨[.ref S,.ref zo,res],[]⟩)) _ _ s;refine ak (wpAny_rule ?_);refine ak ?_;show aq _ A.in1 (updateSeq S (·.push .none) >>= λ_=>updateSeq S (·.pop)) _ _ s;refine ak (wpAny_updateSeq gS rfl ?_);have g2:=im (Obj.mapSeq (·.push Value.none)) gS rfl;refine wpAny_updateSeq (hz:=by seq_fits) g2 rfl ?_;have g3:=im (Obj.mapSeq (·.pop)) g2 rfl;have oth:∀b o,b≠S->s.heap.get? b=some o->((s.heap.update S (Obj.mapSeq (·.push Value.none))).update S (Obj.mapSeq (·.pop))).get? b=some o:=λb o hb e=>(gj _ _ (Ne.symm hb)).trans ((gj _ _ (Ne.symm hb)).trans e);refine aI ⟨plainId_quiet F.plain_extend_loop _,Do hh D nS few hlo _ 0 _ [] _ rfl (d9 _) (Z.frame nS oth) g3 rfl ⟨List.nodup_nil,λj t e=>by simp at e⟩ ?_ λhp us c a1 a2 a3 a4=>?_⟩
 ·show lo≤((s.heap.update S _).update S _).objs.size;rw[iI,iI];exact ls
 ·exact fin hp us c a1 a2 a3 λc o c1 c2 c3 c4 c5 e=>a4 c o c1 c2 c3 c4 c5 (oth c o c1 e)
theorem GV{Q:ag->ai->Prop}(hh:A.handled=none)(D:ZipApart zo P O j1 j2 l1 l2)(few:min xs.size ys.size≤aZ)(gz:IsZip s.heap zo P O .none)(gP:IsPair s.heap P (.ref j1) (.ref j2))(gO:∃a b,IsPair s.heap O a b)(g1:s.heap.IsListIter j1 l1 0)(g2:s.heap.IsListIter j2 l2 0)(q1:s.heap.IsList l1 xs)(q2:s.heap.IsList l2 ys)
  (fin:∀hp us c,hp.get? s.heap.objs.size=some (jx (us.map Value.ref).toArray c)->us.length=min xs.size ys.size->Pairs xs ys (s.heap.objs.size+1) us hp->(∀c o,c≠zo->c≠O->c≠j1->c≠j2->s.heap.get? c=some o->hp.get? c=some o)->Q (.ref s.heap.objs.size) { s with heap:=hp }) :
  aq (aw prog w) A (call (.type "list") [.ref zo]) Q E s:=by
 refine callType_codes (Q₁:=λobj s1=>obj=.ref s.heap.objs.size/\s1={ s with heap:=s.heap.push { cls:=.type "list",data:=.seq #[] } }) F.called_list (F.typeCall_list_1 _) F.entry_list_init (code_list_new _ ⟨rfl,rfl⟩) λobj s1 ho=>?_;obtain⟨rfl,rfl⟩:=ho;have gS:(s.heap.push { cls:=.type "list",data:=.seq #[] }).get? s.heap.objs.size=some { cls:=.type "list",data:=.seq #[] }:=cR _ rfl;have lt:∀{c o},s.heap.get? c=some o->c<s.heap.objs.size:=λe=>bc e;obtain⟨a,b,gO⟩:=gO;have z1:=lt gz;have z2:=lt gP;have z3:=lt gO;have z4:j1<s.heap.objs.size:=by obtain⟨_,e,_⟩:=g1;exact lt e
 have z5:j2<s.heap.objs.size:=by obtain⟨_,e,_⟩:=g2;exact lt e
 have z6:l1<s.heap.objs.size:=by obtain⟨_,e,_⟩:=q1;exact lt e
 have z7:l2<s.heap.objs.size:=by obtain⟨_,e,_⟩:=q2;exact lt e
 have nS:s.heap.objs.size≠zo/\s.heap.objs.size≠P/\s.heap.objs.size≠O/\s.heap.objs.size≠j1/\s.heap.objs.size≠j2/\s.heap.objs.size≠l1/\s.heap.objs.size≠l2:=⟨c9 z1,c9 z2,c9 z3,c9 z4,c9 z5,c9 z6,c9 z7⟩;refine⟨⟨_,gS,rfl⟩,F.args_list_init_2 _ _,?_⟩;show aq _ A.in1.in1 (do let old ←Builtin.List.listItems (.ref s.heap.objs.size);Builtin.List.listUpdate (.ref s.heap.objs.size) (λ_=>#[]);letGo old.toList.reverse;Builtin.List.listExtendWith (.ref s.heap.objs.size) (.ref zo) .none) _ _ _;refine ak ?_;unfold Builtin.List.listItems;refine ak (wpAny_seqItems gS rfl (aI ?_));show aq _ A.in1.in1 (updateSeq s.heap.objs.size (λ_=>#[]) >>= λ_=>letGo (#[]:Array ag).toList.reverse >>= λ_=>Builtin.List.listExtendWith (.ref s.heap.objs.size) (.ref zo) .none) _ _ _;refine ak (wpAny_updateSeq gS rfl ?_);have gS2:=im (Obj.mapSeq (λ_=>(#[]:Array ag))) gS rfl;have oth:∀b o,s.heap.get? b=some o->((s.heap.push { cls:=.type "list",data:=.seq #[] }).update s.heap.objs.size (Obj.mapSeq (λ_=>(#[]:Array ag)))).get? b=some o:=λb o e=>(gj _ _ (Ne.symm (cU (lt e)))).trans (bv _ e);refine ak (wpAny_letGo ?_);refine BF (A:=A.in1) (lo:=s.heap.objs.size+1) hh D nS few ⟨qp _,lf z1,lf z3,lf z4,lf z5⟩ (s:={ s with heap:=(s.heap.push { cls:=.type "list",data:=.seq #[] }).update s.heap.objs.size (Obj.mapSeq (λ_=>(#[]:Array ag))) })
  ⟨.inl (oth _ _ gz),oth _ _ gP,⟨a,b,oth _ _ gO⟩,g1.at λo e=>oth _ o e,g2.at λo e=>oth _ o e,q1.at λo e=>oth _ o e,q2.at λo e=>oth _ o e⟩ (oth _ _ gz) gS2 ?_ λhp us c a1 a2 a3 a4=>?_
 ·show s.heap.objs.size+1≤((s.heap.push _).update _ _).objs.size;rw[iI,jr];exact aY _
 ·exact⟨rfl,fin hp us c a1 a2 a3 λc o c2 c3 c4 c5 e=>a4 c o (cU (lt e)) c2 c3 c4 c5 (oth c o e)⟩
end
variable {G:Gb}{m m' m1 m2:List ae}{h h' h1 h2:MH}{H H' H1 H2:Hp}{X:Cx}{E:ag->ai->Prop}{EX:St->Prop}{σ:MSt}{σ':St}
theorem yM{pins:List (ae×az)}{s:ai}:∀(us:List ae) (xs ys:List MV) (vs ws:List V) (its its2:List ag) (H:Hp),Inv X pins σ' H s->HR G m h H->VRs G m H xs vs->VRs G m H ys ws->Vals vs its->Vals ws its2->us.length=min its.length its2.length->us.Nodup ->
  (∀(j:Nat) (t:ae),us[j]?=some t->∃x y,its[j]?=some x/\its2[j]?=some y/\IsPair s.heap t x y)->(∀t∈us,Fp X pins H t)->∃H',Inv X pins σ' H' s/\HR G m h H'/\Ext m H m H'/\VRs G m H' (mL xs ys) (us.map V.ref)/\∀a,a∉us->H' a=H a
 |[],xs,ys,vs,ws,its,its2,H,I,R,r1,r2,v1,v2,hl,nd,pr,fp=>by
   refine⟨H,I,R,.refl,?_,λ_ _=>rfl⟩;have l1:=Paired.length r1;have l2:=Paired.length r2;have l3:=v1.length;have l4:=v2.length;have:mL xs ys=[]:=by
    cases xs with
    |nil=>rfl
    |cons x xs=>cases ys with
      |nil=>rfl
      |cons y ys=>simp at l1 l2 hl;lia
   rw[this];exact .nil
 |t::us,xs,ys,vs,ws,its,its2,H,I,R,r1,r2,v1,v2,hl,nd,pr,fp=>by
   obtain⟨x0,y0,e1,e2,g⟩:=pr 0 t rfl;cases v1 with
   |nil=>simp at e1
   |@cons v u vs' its' q1 t1=>cases v2 with
     |nil=>simp at e2
     |@cons w u2 ws' its2' q2 t2=>cases r1 with
       |@cons x _ xs' _ p1 s1=>cases r2 with
         |@cons y _ ys' _ p2 s2=>
           simp at e1 e2;subst e1;subst e2;obtain⟨nt,nd'⟩:=iy.mp nd;have F:=fp t gE;have I1:=Inv.trackO (v:=.tup [v,w]) I F ⟨by show 2≤aZ;decide,[u,u2],.cons q1 (.cons q2 .nil),⟨_,g,rfl,0,rfl⟩⟩;have x1:Ext m H m (upd H t (.tup [v,w])):=Ext.side F.un;obtain ⟨H',a1,a2,a3,a4,a5⟩:=yM us xs' ys' vs' ws' its' its2' (upd H t (.tup [v,w])) I1 (R.side F.un) (x1.vrs s1) (x1.vrs s2) t1 t2 (by simp at hl;lia) nd' (λj t' e=>by
            obtain⟨a,b,b1,b2,b3⟩:=pr (j+1) t' (by simpa using e);exact ⟨a,b,by simpa using b1,by simpa using b2,b3⟩) λt' ht=>by
             have F':=fp t' (eY _ ht);have ne:t'≠t:=λz=>nt (z▸ht);exact⟨by rw[aQ ne];exact F'.un,F'.loc,F'.fs,F'.new,F'.ce,F'.pin⟩
           refine⟨H',a1,a2,x1.trans a3,.cons ⟨t,[v,w],rfl,R.fresh F.un,?_,VRl.of (.cons (a3.vr (x1.vr p1)) (.cons (a3.vr (x1.vr p2)) .nil))⟩ a4,λa ha=>?_⟩
           ·rw[a5 t nt,cG]
           ·simp only[bW,not_or]at ha;rw[a5 a ha.2,aQ ha.1]
theorem Hl{a b:av}{ga gb:ME}{p q pos pos':Pos}(ha:GE G X a ga)(hb:GE G X b gb)(hm:X.mg "zip"=none)(hl:X.mg "list"=none)(hd:X.A.handled=none)(hg:Gl X "zip":=by rfl)(hg2:Gl X "list":=by rfl)(hs:aH [a,b] X.env=[(false,aE a X.env),(false,aE b X.env)]:=by rfl)
  (hs2:aH [b] X.env=[(false,aE b X.env)]:=by rfl) (hs3:aH [.Call (.Name "zip" q) [a,b] [] pos'] X.env=[(false,aE (.Call (.Name "zip" q) [a,b] [] pos') X.env)]:=by rfl):GE G X (.Call (.Name "list" p) [.Call (.Name "zip" q) [a,b] [] pos'] [] pos) (aA xJ ga gb):=λE EX pins s σ' H Q I ⟨m,h,σ,ex,S,R,P⟩=>by
 refine wpAny_Call_Name_kw (hV I hg2 hl PyProof.Rows.Boot.«list» ?_ (by decide) (by decide));refine PyProof.Rows.callWith_type1 ?_ hs3 rfl;show aq _ _ (spliced (backTo pos (aH [.Call (.Name "zip" q) [a,b] [] pos'] X.env))) _ _ s;rw[hs3];refine Calls.spliced_cons ?_;have hpa:PA (X.wish E) [a,b] (me (TGe G X E EX ga) (me (TGe G X E EX gb) oW)):=fg (X:=X.wish E) (ha E EX) (hb.a1 hs2 E EX) (by show aH [a,b] X.env=(false,aE a X.env)::aH [b] X.env;rw[hs,hs2]);refine Call_ (hV I hg hm PyProof.Rows.Boot.«zip» (PyProof.Rows.callWith_type1 (thn (hpa pos' pins s σ' H (λvs H2=>∃m2 h2 aa bb xs ys vs1 vs2,vs=[V.ref aa,V.ref bb]/\HR G m2 h2 H2/\VRs G m2 H2 xs vs1/\H2 aa=some (.lst vs1)/\VRs G m2 H2 ys vs2/\H2 bb=some (.lst vs2)/\(xs.length≤10000/\ys.length≤10000)/\Post G X E EX m2 H2 (new (.lst (mL xs ys)) h2) (λv m' _ H'=>∀v',VR G m' H' v v'->Q v' H')) I ?_) λus s1 ⟨vs,H1,I1,r1,m2,h2,aa,bb,xs,ys,vs1,vs2,ev,R2,rx,zx,ry,zy,hz,P4⟩=>?_) (by rw[hs,hs2]) (by rw[hs2];rfl)))
 ·refine sub ex S R P λv m1 h1 H1 v' x1 R1 r1 P1=>sub ex (S.mono x1) R1 P1 λw m2 h2 H2 w' x2 R2 r2 P2=>?_;cases v with
  |ref n=>cases w with
    |ref k=>
      obtain⟨aa,ea,rfl⟩:=x2.vr r1;obtain⟨bb,eb,rfl⟩:=r2;obtain⟨oa,e1,q1,P3⟩:=bM R2 ea P2;obtain⟨ob,e2,q2,P4⟩:=bM R2 eb P3;cases oa with
      |lst xs=>cases ob with
        |lst ys=>
          obtain⟨vs,r,z⟩:=q1;obtain⟨ws,r',z'⟩:=q2;dsimp only at P4;split at P4
          ·rename_i hz;exact⟨m2,h2,aa,bb,xs,ys,vs,ws,rfl,R2,r,z,r',z',hz,P4⟩
          ·exact P4.elim
        |_=>exact P4.elim
      |_=>exact P4.elim
    |_=>exact P2.elim
  |_=>exact P2.elim
 ·subst ev;obtain⟨u1,u2,rfl,rr1,rr2⟩:=vals2 r1;cases rr1;cases rr2;obtain⟨z1,its,n1,v1,hl1,e1⟩:=I1.lstM zx;obtain⟨z2,its2,n2,v2,hl2,e2⟩:=I1.lstM zy;have a1:aa<s1.heap.objs.size:=bc e1;have a2:bb<s1.heap.objs.size:=bc e2;have q1:s1.heap.IsList aa its.toArray:=⟨_,e1,rfl,n1,rfl⟩;have q2:s1.heap.IsList bb its2.toArray:=⟨_,e2,rfl,n2,rfl⟩;refine call_zip_2 q1 q2 λhp hz hTI hTO hi1 hi2 hsz hk=>?_;refine Calls.spliced_nil ?_;have lx:=Paired.length rx;have ly:=Paired.length ry;have few:min its.toArray.size its2.toArray.size≤aZ:=by
   rw[cf,cf];lia
  refine GV (s:={ s1 with heap:=hp }) hd (zipApart_new a1 a2) few hz hTI ⟨_,_,hTO⟩ hi1 hi2 (q1.at λo e=>hk _ o e) (q2.at λo e=>hk _ o e) λhp2 us c g len pr kk=>?_;have kept:∀c o,s1.heap.get? c=some o->hp2.get? c=some o:=λc o e=>by
   have lt:=bc e;have ne:∀{d:Nat},s1.heap.objs.size≤d->c≠d:=λhd=>cU (cJ lt hd);exact kk c o (ne (mV _ _)) (ne (mV _ _)) (ne (aY _)) (ne (mV _ _)) (hk c o e)
  have I2:Inv X pins σ' H1 { s1 with heap:=hp2 }:=I1.unwish.kept (t':=s1.toks) kept;have nn:∀t,s1.heap.objs.size≤t->Fp X pins H1 t:=λt ht=>Fp.of I1.unwish (i4 ht) (I1.hok.fresh ht);have hS:({ s1 with heap:=hp }:ai).heap.objs.size=s1.heap.objs.size + 5:=hsz;rw [hS] at g pr ⊢;obtain ⟨H3,b1,b2,b3,b4,b5⟩:=yM us xs ys vs1 vs2 its its2 H1 I2 R2 rx ry v1 v2 (by simpa using len) pr.1 (λj t e=>by
   obtain ⟨_,x,y,c1,c2,c3⟩:=pr.2 j t e;exact ⟨x,y,by simpa using c1,by simpa using c2,c3⟩) λt ht=>by
    obtain⟨j,ej⟩:=my.mp ht;exact nn t (cF (cF (mV _ 5) (Nat.le_succ _)) (pr.2 j t ej).1)
  have nS:s1.heap.objs.size+5∉us:=λz=>by
   obtain⟨j,ej⟩:=my.mp z;exact absurd (pr.2 j _ ej).1 (Nat.not_succ_le_self _)
  have F0:=nn (s1.heap.objs.size+5) (mV _ _);have FS:Fp X pins H3 (s1.heap.objs.size+5):=⟨by rw[b5 _ nS];exact F0.un,F0.loc,F0.fs,F0.new,F0.ce,F0.pin⟩
  have vv:∀(l:List ae),Vals (l.map V.ref) (l.map Value.ref):=by
   intro l
   induction l with
   |nil=>exact .nil
   |cons a l ih=>exact .cons rfl ih
  have I4:=Inv.trackO (v:=.lst (us.map V.ref)) b1 FS ⟨by rw[cY,len];exact few,us.map Value.ref,c,vv us,g⟩;exact⟨.ref (s1.heap.objs.size+5),_,I4.wish E,rfl,iH b2 b4 (P4.ext b3) FS.un⟩
end L2.Rv
namespace L2.Rv
noncomputable section
end
end L2.Rv
namespace L2.Rv
open PySem PySem.Spec PyProof.Rows
variable {G:Gb}{m m' m1 m2:List ae}{h h' h1 h2:MH}{H H' H1 H2:Hp}{X:Cx}{E:ag->ai->Prop}{EX:St->Prop}{σ:MSt}{σ':St}
end L2.Rv
namespace L2.Rv
noncomputable section
end
end L2.Rv
namespace L2.Rv
open PySem PySem.Spec PyProof.Rows
variable {G:Gb}{m m' m1 m2:List ae}{h h' h1 h2:MH}{H H' H1 H2:Hp}{X:Cx}{E:ag->ai->Prop}{EX:St->Prop}{σ:MSt}{σ':St}
section
open PySem.SeqAt PySem.MeetsSeq PySem.MeetsSeq2 PySem.SeqRoads2
open PySem.AutoSeq1 (wpAny_loadPart')
end
end L2.Rv
namespace L2.Rv
noncomputable section
def d7:List MV->List MV->List MV->List (List MV)
 |x::xs,y::ys,z::zs=>[x,y,z]::d7 xs ys zs
 |_,_,_=>[]
def xU(e e' e'':ME):MI:=λσ=>bnd (e σ) λx=>bnd (e' σ) λy=>bnd (e'' σ) λz=>match x,y,z with
 |.ref n,.ref k,.ref j=>bnd (look n) λo=>bnd (look k) λo'=>bnd (look j) λo''=>match o,o',o'' with
   |.lst xs,.lst ys,.lst zs=>ret ⟨d7 xs ys zs,[(n,xs),(k,ys),(j,zs)]⟩
   |_,_,_=>stk
 |_,_,_=>stk
end
end L2.Rv
namespace L2.Rv
open PySem PySem.Spec PyProof.Rows
abbrev Tri(h:aG)(T:ae)(a b c:ag):Prop:=h.get? T=some { cls:=.type "tuple",data:=.seq #[a,b,c] }
structure Ap3(z U T p q r l m n:ae):Prop where
 nd:[z,U,T,p,q,r].Nodup
 a:l∉[z,T,p,q,r]
 b:m∉[z,T,p,q,r]
 c:n∉[z,T,p,q,r]
section
variable {prog:bf}{w:aU}{A:bh}{E:ag->ai->Prop}{s:ai}{z U T p q r l m n:ae}
theorem Ap3.all(D:Ap3 z U T p q r l m n):(z≠U/\z≠T/\z≠p/\z≠q/\z≠r)/\(U≠T/\U≠p/\U≠q/\U≠r)/\(T≠p/\T≠q/\T≠r)/\(p≠q/\p≠r)/\q≠r:=by
 have:=D.nd;simp only[iy,bW,gA,or_false,not_or,not_false_eq_true,List.nodup_nil,and_true]at this;obtain⟨h1,h2,h3,h4,h5⟩:=this;exact⟨h1,h2,h3,h4,h5⟩
theorem off5{x a b c d e:ae}(h:x∉[a,b,c,d,e]):x≠a/\x≠b/\x≠c/\x≠d/\x≠e:=by simpa using h
theorem m7{a b c x:ag}{k:Nat}{Q:Unit->ai->Prop}(eT:Tri s.heap T a b c)
  (f:∀h',h'.get? T=some { cls:=.type "tuple",data:=.seq ((#[a,b,c]:Array ag).setIfInBounds k x) }->jJ T s.heap h'->Q () { s with heap:=h' }):aq (aw prog w) A (updateSeq T (·.setIfInBounds k x)) Q E s:=by
 refine wpAny_updateSeq eT rfl (f _ ?_ (Heap.SameBut.update ..));rw[im _ eT rfl];simp[Obj.mapSeq]
theorem B5{j:Nat}{xs ys us:Array ag}{x y u a b c:ag}{Q:ag->ai->Prop}(D:Ap3 z U T p q r l m n)
  (ez:IsZip s.heap z U T .none) (eU:Tri s.heap U (.ref p) (.ref q) (.ref r)) (eT:Tri s.heap T a b c) (ep:s.heap.IsListIter p l j) (eq:s.heap.IsListIter q m j) (er:s.heap.IsListIter r n j)
  (el:s.heap.IsList l xs) (em:s.heap.IsList m ys) (en:s.heap.IsList n us) (gx:xs[j]?=some x) (gy:ys[j]?=some y) (gu:us[j]?=some u)
  (f:∀h',IsZip h' z U T (cw s.heap.objs.size)->Tri h' T x y u->h'.IsListIter p l (j + 1)->h'.IsListIter q m (j + 1)->h'.IsListIter r n (j + 1)->Tri h' s.heap.objs.size x y u ->
   (∀k o,k∉[z,T,p,q,r]->s.heap.get? k=some o->h'.get? k=some o)->Q (.ref s.heap.objs.size) { s with heap:=h' }) :
  aq (aw prog w) A (Builtin.«zip.__next__» ⟨[.ref z],[]⟩) (λfin s'=>∃v,fin=.done (.ret v)/\Q v s') E s:=by
 obtain⟨⟨zU,zT,zp,zq,zr⟩,⟨UT,Up,Uq,Ur⟩,⟨Tp,Tq,Tr⟩,⟨pq,pr⟩,qr⟩:=D.all;obtain⟨lz,lT,lp,lq,lr⟩:=off5 D.a;obtain⟨mz,mT,mp,mq,mr⟩:=off5 D.b;obtain⟨nz,nT,np,nq,nr⟩:=off5 D.c;show aq _ _ (field (.ref z) 2 >>= _) _ _ _;refine ak (de ez rfl (x:=.bool false) rfl ?_);show aq _ _ (field (.ref z) 3 >>= _) _ _ _;refine ak (de ez rfl (x:=.ref U) rfl ?_);refine ak (wpAny_seqItems eU rfl ?_);show aq _ _ (Builtin.SmallTypes.ownedTupleIsFree (.ref z) >>= _) _ _ _;refine ak ?_;unfold Builtin.SmallTypes.ownedTupleIsFree;refine ak (de ez rfl (x:=.none) rfl (aI ?_));simp only[if_true];refine ak (wpAny_rule ?_);refine ak (de ez rfl (x:=.ref T) rfl ?_);refine ak (wpAny_setField_rec ez (by simp) λh1 ez1 b1=>?_);replace ez1:IsZip h1 z U T .ellipsis:=ez1;refine ak ?_;simp only[List.zipIdx_cons,List.zipIdx_nil,lM,jN];refine ak (ak (wpAny_onRaise ?_));show aq _ _ (Builtin.SmallTypes.nextOf (.ref p) >>= _) _ _ _;refine ak (wpAny_nextOf_list_item (ep.extBut b1.extBut zp.symm) (el.extBut b1.extBut lz) gx λh2 ep2 b2=>aI ?_);have eT2:Tri h2 T a b c:=b2.extBut _ _ Tp (b1.extBut _ _ zT.symm eT);refine ak (wpAny_seqItems eT2 rfl ?_);refine ak (m7 eT2 λh3 eT3 b3=>?_);replace eT3:Tri h3 T x b c:=eT3;refine ak (wpAny_letGo (aI ?_));refine ak (ak (wpAny_onRaise ?_));show aq _ _ (Builtin.SmallTypes.nextOf (.ref q) >>= _) _ _ _;have k3:∀{k:ae}{o:az},k≠z->k≠p->k≠T->s.heap.get? k=some o->h3.get? k=some o:=λc1 c2 c3 e=>b3.extBut _ _ c3 (b2.extBut _ _ c2 (b1.extBut _ _ c1 e));refine ak (wpAny_nextOf_list_item (eq.at λo e=>k3 zq.symm pq.symm Tq.symm e) (em.at λo e=>k3 mz mp mT e) gy λh4 eq4 b4=>aI ?_);have eT4:Tri h4 T x b c:=b4.extBut _ _ Tq eT3;refine ak (wpAny_seqItems eT4 rfl ?_);refine ak (m7 eT4 λh5 eT5 b5=>?_);replace eT5:Tri h5 T x y c:=eT5;refine ak (wpAny_letGo (aI ?_));refine ak (ak (wpAny_onRaise ?_));show aq _ _ (Builtin.SmallTypes.nextOf (.ref r) >>= _) _ _ _;have k5:∀{k:ae}{o:az},k≠z->k≠p->k≠T->k≠q->s.heap.get? k=some o->h5.get? k=some o:=λc1 c2 c3 c4 e=>b5.extBut _ _ c3 (b4.extBut _ _ c4 (k3 c1 c2 c3 e));refine ak (wpAny_nextOf_list_item (er.at λo e=>k5 zr.symm pr.symm Tr.symm qr.symm e) (en.at λo e=>k5 nz np nT nq e) gu λh6 er6 b6=>aI ?_);have eT6:Tri h6 T x y c:=b6.extBut _ _ Tr eT5;refine ak (wpAny_seqItems eT6 rfl ?_);refine ak (m7 eT6 λh7 eT7 b7=>?_);replace eT7:Tri h7 T x y u:=eT7;refine ak (wpAny_letGo (aI (aI ?_)));refine ak (wpAny_seqItems eT7 rfl ?_);refine ak (wpAny_newTuple ?_);have sz:h7.objs.size=s.heap.objs.size:=by rw[b7.1,b6.1,b5.1,b4.1,b3.1,b2.1,b1.1]
 have ez7:IsZip h7 z U T .ellipsis:=b7.extBut _ _ zT (b6.extBut _ _ zr (b5.extBut _ _ zT (b4.extBut _ _ zq (b3.extBut _ _ zT (b2.extBut _ _ zp ez1)))));have k7:∀k o,k∉[z,T,p,q,r]->s.heap.get? k=some o->h7.get? k=some o:=λk o nk e=>by
  obtain⟨c1,c2,c3,c4,c5⟩:=off5 nk;exact b7.extBut _ _ c2 (b6.extBut _ _ c5 (k5 c1 c3 c2 c4 e))
 have ep7:h7.IsListIter p l (j+1):=ep2.at λo e=>b7.extBut _ _ Tp.symm (b6.extBut _ _ pr (b5.extBut _ _ Tp.symm (b4.extBut _ _ pq (b3.extBut _ _ Tp.symm e))));have eq7:h7.IsListIter q m (j+1):=eq4.at λo e=>b7.extBut _ _ Tq.symm (b6.extBut _ _ qr (b5.extBut _ _ Tq.symm e));have er7:h7.IsListIter r n (j+1):=er6.at λo e=>b7.extBut _ _ Tr.symm e;have lz7:z<h7.objs.size:=bc ez7;show aq _ _ (Builtin.SmallTypes.ownedTupleHandOut (.ref z) (.ref h7.objs.size) >>= _) _ _ _;refine ak ?_;unfold Builtin.SmallTypes.ownedTupleHandOut;have ez8:IsZip (h7.push { cls:=.type "tuple",data:=.seq #[x,y,u] }) z U T .ellipsis:=bv _ ez7;refine ak (wpAny_setField_rec ez8 (by simp) λh9 ez9 b9=>?_);replace ez9:IsZip h9 z U T (cw h7.objs.size):=ez9;refine wpAny_setField_rec ez9 (by simp) λhA ezA bA=>?_;replace ezA:IsZip hA z U T (cw h7.objs.size):=ezA;have up:∀k o,k≠z->h7.get? k=some o->hA.get? k=some o:=λk o c1 e=>bA.extBut _ _ c1 (b9.extBut _ _ c1 (bv _ e));have eN:Tri hA h7.objs.size x y u:=bA.extBut _ _ (c9 lz7) (b9.extBut _ _ (c9 lz7) (cR _ rfl));rw[sz]at ezA eN;refine aI ⟨_,rfl,?_⟩;show Q (.ref h7.objs.size) _;rw[sz];exact f hA ezA (up _ _ zT.symm eT7) (ep7.at λo e=>up _ o zp.symm e) (eq7.at λo e=>up _ o zq.symm e) (er7.at λo e=>up _ o zr.symm e) eN λk o nk e=>up k o (off5 nk).1 (k7 k o nk e)
theorem D1{j:Nat}{xs ys us:Array ag}{a b c:ag}{Q:PySem.Fin->ai->Prop}(hh:A.handled=none)(D:Ap3 z U T p q r l m n)
  (ez:IsZip s.heap z U T .none) (eU:Tri s.heap U (.ref p) (.ref q) (.ref r)) (eT:Tri s.heap T a b c) (ep:s.heap.IsListIter p l j) (eq:s.heap.IsListIter q m j) (er:s.heap.IsListIter r n j)
  (el:s.heap.IsList l xs) (em:s.heap.IsList m ys) (en:s.heap.IsList n us) (out:xs[j]?=none∨ys[j]?=none∨us[j]?=none)
  (f:∀h' e,(∀k o,k∉[z,T,p,q,r]->s.heap.get? k=some o->h'.get? k=some o)->(∃o,h'.get? e=some o/\o.cls=.type "StopIteration")->E (.ref e) { s with heap:=h' }) :
  aq (aw prog w) A (Builtin.«zip.__next__» ⟨[.ref z],[]⟩) Q E s:=by
 obtain⟨⟨zU,zT,zp,zq,zr⟩,⟨UT,Up,Uq,Ur⟩,⟨Tp,Tq,Tr⟩,⟨pq,pr⟩,qr⟩:=D.all;obtain⟨lz,lT,lp,lq,lr⟩:=off5 D.a;obtain⟨mz,mT,mp,mq,mr⟩:=off5 D.b;obtain⟨nz,nT,np,nq,nr⟩:=off5 D.c;show aq _ _ (field (.ref z) 2 >>= _) _ _ _;refine ak (de ez rfl (x:=.bool false) rfl ?_);show aq _ _ (field (.ref z) 3 >>= _) _ _ _;refine ak (de ez rfl (x:=.ref U) rfl ?_);refine ak (wpAny_seqItems eU rfl ?_);show aq _ _ (Builtin.SmallTypes.ownedTupleIsFree (.ref z) >>= _) _ _ _;refine ak ?_;unfold Builtin.SmallTypes.ownedTupleIsFree;refine ak (de ez rfl (x:=.none) rfl (aI ?_));simp only[if_true];refine ak (wpAny_rule ?_);refine ak (de ez rfl (x:=.ref T) rfl ?_);refine ak (wpAny_setField_rec ez (by simp) λh1 ez1 b1=>?_);replace ez1:IsZip h1 z U T .ellipsis:=ez1;refine ak ?_;simp only[List.zipIdx_cons,List.zipIdx_nil,lM,jN];have last:∀(h2:aG) (e:ae),IsZip h2 z U T .ellipsis->(∀k o,k∉[z,T,p,q,r]->s.heap.get? k=some o->h2.get? k=some o)->(∃o,h2.get? e=some o/\o.cls=.type "StopIteration")->aq (aw prog w) A (setField (.ref z) 0 .none) (λ_ s'=>E (.ref e) s') E { s with heap:=h2 }:=λh2 e e2 k2 he=>by
  obtain⟨oe,ge,ce⟩:=he;have ne:e≠z:=λx=>by subst x;rw[e2]at ge;cases ge;simp at ce
  exact wpAny_setField_rec e2 (by simp) λh3 _ b3=>f h3 e (λk o nk x=>b3.extBut _ _ (off5 nk).1 (k2 k o nk x)) ⟨oe,b3.extBut _ _ ne ge,ce⟩
 refine ak (ak (wpAny_onRaise ?_));show aq _ _ (Builtin.SmallTypes.nextOf (.ref p) >>= _) _ _ _;cases gx:xs[j]? with
 |none=>
   refine ak (wpAny_nextOf_list_end hh (ep.extBut b1.extBut zp.symm) (el.extBut b1.extBut lz) gx λh2 e b2 he=>?_);exact last h2 e (b2 _ _ zp ez1) (λk o nk x=>b2 _ _ (off5 nk).2.2.1 (b1.extBut _ _ (off5 nk).1 x)) he
 |some x=>
   refine ak (wpAny_nextOf_list_item (ep.extBut b1.extBut zp.symm) (el.extBut b1.extBut lz) gx λh2 ep2 b2=>aI ?_);have eT2:Tri h2 T a b c:=b2.extBut _ _ Tp (b1.extBut _ _ zT.symm eT);refine ak (wpAny_seqItems eT2 rfl ?_);refine ak (m7 eT2 λh3 eT3 b3=>?_);replace eT3:Tri h3 T x b c:=eT3;refine ak (wpAny_letGo (aI ?_));refine ak (ak (wpAny_onRaise ?_));show aq _ _ (Builtin.SmallTypes.nextOf (.ref q) >>= _) _ _ _;have k3:∀{k:ae}{o:az},k≠z->k≠p->k≠T->s.heap.get? k=some o->h3.get? k=some o:=λc1 c2 c3 e=>b3.extBut _ _ c3 (b2.extBut _ _ c2 (b1.extBut _ _ c1 e));have ez3:IsZip h3 z U T .ellipsis:=b3.extBut _ _ zT (b2.extBut _ _ zp ez1);cases gy:ys[j]? with
   |none=>
     refine ak (wpAny_nextOf_list_end hh (eq.at λo e=>k3 zq.symm pq.symm Tq.symm e) (em.at λo e=>k3 mz mp mT e) gy λh4 e b4 he=>?_);exact last h4 e (b4 _ _ zq ez3) (λk o nk x=>by obtain⟨c1,c2,c3,c4,c5⟩:=off5 nk;exact b4 _ _ c4 (k3 c1 c3 c2 x)) he
   |some y=>
     have gu:us[j]?=none:=by
      rcases out with h|h|h
      ·rw[gx]at h;cases h
      ·rw[gy]at h;cases h
      ·exact h
     refine ak (wpAny_nextOf_list_item (eq.at λo e=>k3 zq.symm pq.symm Tq.symm e) (em.at λo e=>k3 mz mp mT e) gy λh4 eq4 b4=>aI ?_);have eT4:Tri h4 T x b c:=b4.extBut _ _ Tq eT3;refine ak (wpAny_seqItems eT4 rfl ?_);refine ak (m7 eT4 λh5 eT5 b5=>?_);refine ak (wpAny_letGo (aI ?_));refine ak (ak (wpAny_onRaise ?_));show aq _ _ (Builtin.SmallTypes.nextOf (.ref r) >>= _) _ _ _;have k5:∀{k:ae}{o:az},k≠z->k≠p->k≠T->k≠q->s.heap.get? k=some o->h5.get? k=some o:=λc1 c2 c3 c4 e=>b5.extBut _ _ c3 (b4.extBut _ _ c4 (k3 c1 c2 c3 e));have ez5:IsZip h5 z U T .ellipsis:=b5.extBut _ _ zT (b4.extBut _ _ zq ez3);refine ak (wpAny_nextOf_list_end hh (er.at λo e=>k5 zr.symm pr.symm Tr.symm qr.symm e) (en.at λo e=>k5 nz np nT nq e) gu λh6 e b6 he=>?_);exact last h6 e (b6 _ _ zr ez5) (λk o nk x=>by obtain⟨c1,c2,c3,c4,c5⟩:=off5 nk;exact b6 _ _ c5 (k5 c1 c3 c2 c4 x)) he
theorem EG{j:Nat}{xs ys us:Array ag}{x y u a b c:ag}{Q:Option ag->ai->Prop}(D:Ap3 z U T p q r l m n)
  (ez:IsZip s.heap z U T .none) (eU:Tri s.heap U (.ref p) (.ref q) (.ref r)) (eT:Tri s.heap T a b c) (ep:s.heap.IsListIter p l j) (eq:s.heap.IsListIter q m j) (er:s.heap.IsListIter r n j)
  (el:s.heap.IsList l xs) (em:s.heap.IsList m ys) (en:s.heap.IsList n us) (gx:xs[j]?=some x) (gy:ys[j]?=some y) (gu:us[j]?=some u)
  (f:∀h',IsZip h' z U T (cw s.heap.objs.size)->Tri h' T x y u->h'.IsListIter p l (j + 1)->h'.IsListIter q m (j + 1)->h'.IsListIter r n (j + 1)->Tri h' s.heap.objs.size x y u ->
   (∀k o,k∉[z,T,p,q,r]->s.heap.get? k=some o->h'.get? k=some o)->Q (some (.ref s.heap.objs.size)) { s with heap:=h' }):aq (aw prog w) A (pyNext (.ref z)) Q E s:=by
 have ty:s.TypeIs (.ref z) "zip":=⟨_,ez,rfl⟩
 unfold pyNext;exact ak (wpAny_attempt (wpAny_callSpecial?_slot (name:=aF "__next__") ty F.slot_zip_next (wpAny_call_entry F.slot_zip_next ty F.entry_zip_next
  (B5 D ez eU eT ep eq er el em en gx gy gu λh' a1 a2 a3 a4 a5 a6 a7=>aI (f h' a1 a2 a3 a4 a5 a6 a7)) (F.args_zip_next_1 _))))
theorem Du{j:Nat}{xs ys us:Array ag}{a b c:ag}{Q:Option ag->ai->Prop}(hh:A.handled=none)(D:Ap3 z U T p q r l m n)
  (ez:IsZip s.heap z U T .none) (eU:Tri s.heap U (.ref p) (.ref q) (.ref r)) (eT:Tri s.heap T a b c) (ep:s.heap.IsListIter p l j) (eq:s.heap.IsListIter q m j) (er:s.heap.IsListIter r n j)
  (el:s.heap.IsList l xs) (em:s.heap.IsList m ys) (en:s.heap.IsList n us) (out:xs[j]?=none∨ys[j]?=none∨us[j]?=none)
  (f:∀h',(∀k o,k∉[z,T,p,q,r]->s.heap.get? k=some o->h'.get? k=some o)->Q none { s with heap:=h' }):aq (aw prog w) A (pyNext (.ref z)) Q E s:=by
 have ty:s.TypeIs (.ref z) "zip":=⟨_,ez,rfl⟩
 unfold pyNext;refine ak (wpAny_attempt (wpAny_callSpecial?_slot (name:=aF "__next__") ty F.slot_zip_next (wpAny_call_entry F.slot_zip_next ty F.entry_zip_next
  (D1 hh D ez eU eT ep eq er el em en out λh' e k he=>?_) (F.args_zip_next_1 _))))
 obtain⟨o,go,co⟩:=he;exact ak (wpAny_isInstance (T:="StopIteration") (b:=true) ⟨o,go,co⟩ isSubtype_stop (aI (f _ k)))
end
theorem ty3(a b c:ag):checkTypeCall "zip" ⟨[a,b,c],[]⟩=pure ():=by kernel_rfl
theorem new3(a b c:ag):checkBuiltinCall "zip.__new__" ⟨[.type "zip",a,b,c],[]⟩=pure ():=by kernel_rfl
theorem obj4(a b c d:ag):argsOk "object.__init__" ⟨[a,b,c,d],[]⟩:=by
 unfold argsOk;rw[signature?_of (id:="object.__init__") (n:=['_','_','t','i','n','i','_','_']) (o:=['t','c','e','j','b','o']) (by kernel_rfl) F.owner_object];kernel_rfl
abbrev lIt(l:ae):az:={ cls:=.type "list_iterator",data:=.fields #[.ref l,.int 0 0] }
abbrev rX(h:aG)(l m n:ae):aG:=((h.push (lIt l)).push (lIt m)).push (lIt n)
abbrev qd(h:aG)(l m n:ae):aG:=(rX h l m n).push { cls:=.type "tuple",data:=.seq #[.ref h.objs.size,.ref (h.push (lIt l)).objs.size,.ref ((h.push (lIt l)).push (lIt m)).objs.size] }
abbrev qz(h:aG)(l m n:ae):aG:=(qd h l m n).push { cls:=.type "tuple",data:=.seq #[.none,.none,.none] }
abbrev jz(h:aG)(l m n:ae):aG:=(qz h l m n).push { cls:=.type "zip",data:=.fields #[.none,.bool false,.bool false,.ref (rX h l m n).objs.size,.ref (qd h l m n).objs.size] }
set_option maxHeartbeats 1000000 in
theorem Gf(l m n:ae)(xs ys us:Array ag):Meets (Builtin.«zip.__new__» ⟨[.type "zip",.ref l,.ref m,.ref n],[]⟩) (λ_ R s=>s.heap.IsList l xs/\s.heap.IsList m ys/\s.heap.IsList n us/\R (.ok (.ret (.ref (qz s.heap l m n).objs.size))) { s with heap:=jz s.heap l m n }):=
 .of_wp λprog w A R s h=>by
  obtain⟨hp,g,d,tk,os⟩:=s;obtain⟨el,em,en,h⟩:=h;have hsub:=sub_zip;have L1:Heap.IsList (Shared.heap ⟨hp,g,d,tk,os⟩) l xs:=el;have L2:Heap.IsList (Shared.heap ⟨hp.push { cls:=.type "list_iterator",data:=.fields #[.ref l,.int 0 0] },g,d,tk,os⟩) m ys:=Heap.IsList.push em _;have L3:Heap.IsList (Shared.heap ⟨(hp.push { cls:=.type "list_iterator",data:=.fields #[.ref l,.int 0 0] }).push { cls:=.type "list_iterator",data:=.fields #[.ref m,.int 0 0] },g,d,tk,os⟩) n us:=Heap.IsList.push (Heap.IsList.push en _) _
  wp_walk using wpAny_pyIter_list L1,wpAny_pyIter_list L2,wpAny_pyIter_list L3
  exact⟨_,rfl,h⟩
theorem Ev{prog:bf}{w:aU}{A:bh}{E:ag->ai->Prop}{s:ai}{l m n:ae}{xs ys us:Array ag}{Q:ag->ai->Prop}(el:s.heap.IsList l xs)(em:s.heap.IsList m ys)(en:s.heap.IsList n us)
  (f:∀h',IsZip h' (s.heap.objs.size + 5) (s.heap.objs.size + 3) (s.heap.objs.size + 4) .none->Tri h' (s.heap.objs.size + 3) (.ref s.heap.objs.size) (.ref (s.heap.objs.size + 1)) (.ref (s.heap.objs.size + 2))->Tri h' (s.heap.objs.size + 4) .none .none .none ->
   h'.IsListIter s.heap.objs.size l 0->h'.IsListIter (s.heap.objs.size + 1) m 0->h'.IsListIter (s.heap.objs.size + 2) n 0->(∀c o,s.heap.get? c=some o->h'.get? c=some o)->Q (.ref (s.heap.objs.size + 5)) { s with heap:=h' }) :
  aq (aw prog w) A (call (.type "zip") [.ref l,.ref m,.ref n]) Q E s:=by
 refine callType_new F.called_zip (by decide) (ty3 _ _ _) (new3 _ _ _) (λobj=>obj4 obj _ _ _) F.entry_zip_new (Gf l m n xs ys us) ⟨el,em,en,?_⟩;have s1:(s.heap.push (lIt l)).objs.size=s.heap.objs.size+1:=jr ..;have s2:((s.heap.push (lIt l)).push (lIt m)).objs.size=s.heap.objs.size+2:=by rw[jr,s1]
 have s3:(rX s.heap l m n).objs.size=s.heap.objs.size+3:=by rw[jr,s2]
 have s4:(qd s.heap l m n).objs.size=s.heap.objs.size+4:=by rw[jr,s3]
 have s5:(qz s.heap l m n).objs.size=s.heap.objs.size+5:=by rw[jr,s4]
 have up:∀{h:aG}{c:ae}{o o':az},h.get? c=some o->(h.push o').get? c=some o:=λe=>bv _ e;have g6:(jz s.heap l m n).get? (qz s.heap l m n).objs.size=some _:=cR _ rfl;have g5:(jz s.heap l m n).get? (qd s.heap l m n).objs.size=some _:=up (cR _ rfl);have g4:(jz s.heap l m n).get? (rX s.heap l m n).objs.size=some _:=up (up (cR _ rfl));have g3:(jz s.heap l m n).get? ((s.heap.push (lIt l)).push (lIt m)).objs.size=some _:=up (up (up (cR _ rfl)));have g2:(jz s.heap l m n).get? (s.heap.push (lIt l)).objs.size=some _:=up (up (up (up (cR _ rfl))));have g1:(jz s.heap l m n).get? s.heap.objs.size=some _:=up (up (up (up (up (cR _ rfl)))));show _/\_;rw[s3,s4,s5]at g6;rw[s1,s2,s3]at g4;rw[s4]at g5;rw[s2]at g3;rw[s1]at g2;rw[s5];exact⟨⟨_,g6,rfl⟩,f _ g6 g4 g5 ⟨_,g1,rfl,rfl⟩ ⟨_,g2,rfl,rfl⟩ ⟨_,g3,rfl,rfl⟩ λc o x=>up (up (up (up (up (up x)))))⟩
end L2.Rv
namespace L2.Rv
open PySem PySem.Spec PyProof.Rows
variable {G:Gb}{m m' m1 m2:List ae}{h h' h1 h2:MH}{H H' H1 H2:Hp}{X:Cx}{E:ag->ai->Prop}{EX:St->Prop}{σ:MSt}{σ':St}
def Itz3(K:PySem.W.Frag)(l1 l2 l3:ae):It where
 go:=λi H=>∃xs ys us x y u,SqL K H l1 xs/\SqL K H l2 ys/\SqL K H l3 us/\xs[i]?=some x/\ys[i]?=some y/\us[i]?=some u
 yld:=λi H v H'=>∃T x y u,v=.ref T/\H T=none/\H'=upd H T (.tup [x,y,u])/\(∀xs,SqL K H l1 xs->xs[i]?=some x)/\(∀ys,SqL K H l2 ys->ys[i]?=some y)/\∀us,SqL K H l3 us->us[i]?=some u
 stop:=λi H=>∃xs ys us,SqL K H l1 xs/\SqL K H l2 ys/\SqL K H l3 us/\(xs.length≤i∨ys.length≤i∨us.length≤i)
theorem off6{a b c d e f x:ae}(h:x∉[a,b,c,d,e,f]):x∉[a,c,d,e,f]:=λz=>h (by
 simp only [bW,gA,or_false] at z ⊢;rcases z with z | z | z | z | z <;> simp [z])
theorem B6{P:bf}{w:aU}{K:PySem.W.Frag}{elts:List av}{x1:Nat}{tp:Pos}{z U T p q r l1 l2 l3:ae}(D:Ap3 z U T p q r l1 l2 l3) :
  Turn P w K (.Tuple elts x1 tp) (Itz3 K l1 l2 l3) [z,U,T,p,q,r] z (λi h=>IsZip h z U T .none/\Tri h U (.ref p) (.ref q) (.ref r)/\(∃a b c,Tri h T a b c)/\h.IsListIter p l1 i/\h.IsListIter q l2 i/\h.IsListIter r l3 i) where
 mem:=by simp
 obj:=λi h e0 c hc=>by
  obtain⟨ez,eU,⟨a,b,d,eT⟩,k1,k2,k3⟩:=e0;simp only[bW,gA,or_false]at hc;rcases hc with rfl|rfl|rfl|rfl|rfl|rfl
  ·exact⟨_,ez,λv y=>by cases(show Data.fields _=Data.cell v from y)⟩
  ·exact⟨_,eU,λv y=>by cases(show Data.seq _ _=Data.cell v from y)⟩
  ·exact⟨_,eT,λv y=>by cases(show Data.seq _ _=Data.cell v from y)⟩
  ·obtain⟨o,e,q1,q2⟩:=k1;exact⟨o,e,λv y=>by rw[q2]at y;cases y⟩
  ·obtain⟨o,e,q1,q2⟩:=k2;exact⟨o,e,λv y=>by rw[q2]at y;cases y⟩
  ·obtain⟨o,e,q1,q2⟩:=k3;exact⟨o,e,λv y=>by rw[q2]at y;cases y⟩
 keep:=λi h h' e0 k=>by
  obtain⟨ez,eU,⟨a,b,d,eT⟩,k1,k2,k3⟩:=e0;exact⟨k z (by simp) _ ez,k U (by simp) _ eU,⟨a,b,d,k T (by simp) _ eT⟩,k1.at λo e=>k p (by simp) o e,k2.at λo e=>k q (by simp) o e,k3.at λo e=>k r (by simp) o e⟩
 item:=by
  rintro X hP hw hK hc i pins s σ H E I hf ⟨ez,eU,⟨a,b,d,eT⟩,k1,k2,k3⟩ ⟨xs,ys,us,x,y,u,q1,q2,q3,e1,e2,e3⟩;subst hP hw hK;obtain⟨⟨zU,zT,zp,zq,zr⟩,⟨UT,Up,Uq,Ur⟩,⟨Tp,Tq,Tr⟩,⟨pq,pr⟩,qr⟩:=D.all;obtain⟨is1,rv1,p1,_⟩:=I.list q1;obtain⟨is2,rv2,p2,_⟩:=I.list q2;obtain⟨is3,rv3,p3,_⟩:=I.list q3;obtain⟨v1,g1,r1⟩:=rv1.get e1;obtain⟨v2,g2,r2⟩:=rv2.get e2;obtain⟨v3,g3,r3⟩:=rv3.get e3;refine EG D ez eU eT k1 k2 k3 p1.isList p2.isList p3.isList (x:=v1) (y:=v2) (u:=v3) (by simpa using g1) (by simpa using g2) (by simpa using g3) λhp' a1 a2 a3 a4 a5 a6 kk=>?_;refine⟨_,rfl,wpAny_letOwnedTupleGo_zip a1 λhp2 b1 b2=>?_⟩;have kz:∀c o,c∉[z,T,p,q,r]->s.heap.get? c=some o->hp2.get? c=some o:=λc o nc e=>b2.extBut _ _ (off5 nc).1 (kk c o nc e);have I1:Inv X pins σ H { s with heap:=hp2,toks:=s.toks }:=Inv.turnedL I hf λc o hc' e=>kz c o (off6 hc') e;have nT:∀c o,s.heap.get? c=some o->s.heap.objs.size≠c:=λc o e=>c9 (bc e);have gT:hp2.get? s.heap.objs.size=some { cls:=.type "tuple",data:=.seq #[v1,v2,v3] }:=b2.extBut _ _ (nT z _ ez) a6;have fT:Fp X pins H s.heap.objs.size:=Fp.of I (i4 (aY _)) (I.hok.fresh (aY _));have I2:=Inv.trackO (v:=.tup [x,y,u]) I1 fT ⟨by show 3≤aZ;decide,[v1,v2,v3],.cons r1 (.cons r2 (.cons r3 .nil)),⟨_,gT,rfl,0,rfl⟩⟩;refine⟨.ref s.heap.objs.size,_,I2,rfl,⟨s.heap.objs.size,x,y,u,rfl,fT.un,rfl,λws hw=>by rw[I.list_inj hw q1];exact e1,λws hw=>by rw[I.list_inj hw q2];exact e2,λws hw=>by rw[I.list_inj hw q3];exact e3⟩,⟨b1,?_,⟨v1,v2,v3,b2.extBut _ _ zT.symm a2⟩,a3.extBut b2.extBut zp.symm,a4.extBut b2.extBut zq.symm,a5.extBut b2.extBut zr.symm⟩,λc hc'=>?_⟩
  ·exact kz _ _ (by simp[zU.symm,UT,Up,Uq,Ur]) eU
  ·rw[aQ]
   ·exact(hf c hc').1
   ·simp only[bW,gA,or_false]at hc';rcases hc' with rfl|rfl|rfl|rfl|rfl|rfl
    ·exact(nT _ _ ez).symm
    ·exact(nT _ _ eU).symm
    ·exact(nT _ _ eT).symm
    ·obtain⟨o,e,_⟩:=k1;exact(nT _ _ e).symm
    ·obtain⟨o,e,_⟩:=k2;exact(nT _ _ e).symm
    ·obtain⟨o,e,_⟩:=k3;exact(nT _ _ e).symm
 done:=by
  rintro X hP hw hK hc i pins s σ H E I hf ⟨ez,eU,⟨a,b,d,eT⟩,k1,k2,k3⟩ ⟨xs,ys,us,q1,q2,q3,e1⟩;subst hP hw hK;obtain⟨is1,rv1,p1,_⟩:=I.list q1;obtain⟨is2,rv2,p2,_⟩:=I.list q2;obtain⟨is3,rv3,p3,_⟩:=I.list q3;have n1:=rv1.length;have n2:=rv2.length;have n3:=rv3.length;refine Du (I.ok.hd hc) D ez eU eT k1 k2 k3 p1.isList p2.isList p3.isList ?_ λhp' kk=>⟨rfl,Inv.turnedL (t:=s.toks) I hf λc o hc' e=>kk c o (off6 hc') e⟩;rcases e1 with e1|e1|e1
  ·exact .inl (by simp;lia)
  ·exact .inr (.inl (by simp;lia))
  ·exact .inr (.inr (by simp;lia))
 self:=λ_ _ _ _ _ st h=>wpAny_pyIter_zip st.1 h
theorem vals3{a b c:V}{us:List ag}(r:Vals [a,b,c] us):∃u v w,us=[u,v,w]/\aP a u/\aP b v/\aP c w:=by
 cases r with
 |cons q t=>cases t with
   |cons q2 t2=>cases t2 with
     |cons q3 t3=>cases t3;exact⟨_,_,_,rfl,q,q2,q3⟩
theorem nd6(n:Nat):[n+5,n+3,n+4,n,n+1,n+2].Nodup:=by simp
theorem uN{l n:Nat}(h:l<n):l∉[n+5,n+4,n,n+1,n+2]:=by simp;lia
theorem Ce{a b c:av}{ta:TA}{elts:List av}{x1:Nat}{tp p pos:Pos}(hg:Gl X "zip")(hm:X.mg "zip"=none)(ha:PA X [a,b,c] ta)(hs:aH [a,b,c] X.env=[(false,aE a X.env),(false,aE b X.env),(false,aE c X.env)]:=by rfl)(hs2:aH [b,c] X.env=[(false,aE b X.env),(false,aE c X.env)]:=by rfl) :
  PI X (.Tuple elts x1 tp) (.Call (.Name "zip" p) [a,b,c] [] pos) (λσ H R=>ta σ H λvs H1=>∃l1 l2 l3 xs ys us,vs=[.ref l1,.ref l2,.ref l3]/\SqL X.K H1 l1 xs/\SqL X.K H1 l2 ys/\SqL X.K H1 l3 us/\R (Itz3 X.K l1 l2 l3) H1):=by
 intro pins s σ H R I t;refine Call_ (hV I hg hm PyProof.Rows.Boot.«zip» (PyProof.Rows.callWith_type1 (thn (ha pos pins s σ H _ I t) λus s1 e0=>bo e0 λvs H1 I1 r1 q1=>?_) (by rw[hs,hs2]) (by rw[hs2];rfl)));obtain⟨l1,l2,l3,xs,ys,ws,rfl,q1,q2,q3,qq⟩:=q1;obtain⟨v,w,u,rfl,rx,ry,rz⟩:=vals3 r1;cases rx;cases ry;cases rz;obtain⟨is1,rv1,p1,_⟩:=I1.list q1;obtain⟨is2,rv2,p2,_⟩:=I1.list q2;obtain⟨is3,rv3,p3,_⟩:=I1.list q3;have a1:l1<s1.heap.objs.size:=by obtain⟨_,e,_⟩:=p1.isList;exact bc e
 have a2:l2<s1.heap.objs.size:=by obtain⟨_,e,_⟩:=p2.isList;exact bc e
 have a3:l3<s1.heap.objs.size:=by obtain⟨_,e,_⟩:=p3.isList;exact bc e
 refine Ev p1.isList p2.isList p3.isList λhp hz hU hT k1 k2 k3 hk=>?_;refine wpAny_pyIter_zip (s:={ s1 with heap:=hp }) hz ?_;have D:Ap3 (s1.heap.objs.size+5) (s1.heap.objs.size+3) (s1.heap.objs.size+4) s1.heap.objs.size (s1.heap.objs.size+1) (s1.heap.objs.size+2) l1 l2 l3:=by
  exact⟨nd6 _,uN a1,uN a2,uN a3⟩
 refine⟨_,[s1.heap.objs.size+5,s1.heap.objs.size+3,s1.heap.objs.size+4,s1.heap.objs.size,s1.heap.objs.size+1,s1.heap.objs.size+2],_,_,H1,rfl,I1.kept (t':=s1.toks) hk,B6 D,⟨hz,hU,⟨_,_,_,hT⟩,k1,k2,k3⟩,λb hb=>?_,qq⟩;have lb:s1.heap.objs.size≤b:=by
  simp only[bW,gA,or_false]at hb;rcases hb with rfl|rfl|rfl|rfl|rfl|rfl <;> lia
 exact I1.fpOk lb (I1.hok.fresh lb)
theorem xN:∀{xs ys zs:List MV}{i:Nat}{r:List MV},(d7 xs ys zs)[i]?=some r->∃x y z,xs[i]?=some x/\ys[i]?=some y/\zs[i]?=some z/\r=[x,y,z]
 |[],ys,zs,i,r,e=>by simp[d7]at e
 |_::_,[],zs,i,r,e=>by simp[d7]at e
 |_::_,_::_,[],i,r,e=>by simp[d7]at e
 |x::xs,y::ys,z::zs,0,r,e=>by simp[d7]at e;exact⟨x,y,z,rfl,rfl,rfl,e.symm⟩
 |x::xs,y::ys,z::zs,i+1,r,e=>by
   obtain⟨a,b,c,h1,h2,h3,h4⟩:=xN (xs:=xs) (ys:=ys) (zs:=zs) (i:=i) (by simpa[d7] using e);exact⟨a,b,c,by simpa using h1,by simpa using h2,by simpa using h3,h4⟩
theorem wV:∀(xs ys zs:List MV),(d7 xs ys zs).length=min xs.length (min ys.length zs.length)
 |[],ys,zs=>by simp[d7]
 |_::_,[],zs=>by simp[d7]
 |_::_,_::_,[]=>by simp[d7]
 |x::xs,y::ys,z::zs=>by simp[d7,wV xs ys zs]
theorem Fz{n k j:Nat}{a b c:ae}{xs ys zs:List MV}(ea:m[n]?=some a)(eb:m[k]?=some b)(ec:m[j]?=some c):JOk G (Itz3 G.K a b c) ⟨d7 xs ys zs,[(n,xs),(k,ys),(j,zs)]⟩ false 3 m H:=by
 intro m2 h2 H2 pre R ok;have ea2:m2[n]?=some a:=pre.get ea;have eb2:m2[k]?=some b:=pre.get eb;have ec2:m2[j]?=some c:=pre.get ec;have eo:h2[n]?=some (.lst xs)/\h2[k]?=some (.lst ys)/\h2[j]?=some (.lst zs):=by simpa[Src.okIn,gH] using ok
 obtain⟨vs,r1,z1⟩:=R.ob n a _ ea2 eo.1;obtain⟨ws,r2,z2⟩:=R.ob k b _ eb2 eo.2.1;obtain⟨us,r3,z3⟩:=R.ob j c _ ec2 eo.2.2;refine⟨λi row ei=>?_,⟨vs,ws,us,SqL.of z1,SqL.of z2,SqL.of z3,?_⟩⟩
 ·obtain⟨x,y,z,e1,e2,e3,rfl⟩:=xN ei;obtain⟨v,g1,rv⟩:=eR r1 e1;obtain⟨w,g2,rw'⟩:=eR r2 e2;obtain⟨u,g3,ru⟩:=eR r3 e3;refine⟨rfl,⟨vs,ws,us,v,w,u,SqL.of z1,SqL.of z2,SqL.of z3,g1,g2,g3⟩,λuu H' yy=>?_⟩;obtain⟨T,x',y',u',rfl,hT,rfl,f1,f2,f3⟩:=yy;have q1:=f1 vs (SqL.of z1);have q2:=f2 ws (SqL.of z2);have q3:=f3 us (SqL.of z3);rw[g1]at q1;rw[g2]at q2;rw[g3]at q3;cases q1;cases q2;cases q3;have xx:Ext m2 H2 m2 (upd H2 T (.tup [v,w,u])):=Ext.side hT;exact⟨xx,R.side hT,T,[v,w,u],rfl,R.fresh hT,cG,VRl.of (.cons (xx.vr rv) (.cons (xx.vr rw') (.cons (xx.vr ru) .nil)))⟩
 ·show vs.length≤(d7 xs ys zs).length∨ws.length≤(d7 xs ys zs).length∨us.length≤(d7 xs ys zs).length;rw[wV,←Paired.length r1,←Paired.length r2,←Paired.length r3];lia
theorem ES{a b c:av}{ga gb gc:ME}{elts:List av}{x1:Nat}{tp p pos:Pos}(ha:GE G X a ga)(hb:GE G X b gb)(hc:GE G X c gc)(hm:X.mg "zip"=none)(hg:Gl X "zip":=by rfl)(hs:aH [a,b,c] X.env=[(false,aE a X.env),(false,aE b X.env),(false,aE c X.env)]:=by rfl)
  (hs2:aH [b,c] X.env=[(false,aE b X.env),(false,aE c X.env)]:=by rfl) (hs3:aH [c] X.env=[(false,aE c X.env)]:=by rfl) (hK:X.K=G.K:=by rfl):GI G X (.Tuple elts x1 tp) (.Call (.Name "zip" p) [a,b,c] [] pos) false 3 (xU ga gb gc):=λE EX=>by
 refine⟨_,Ce (X:=X.wish E) hg hm (fg (X:=X.wish E) (ha E EX) (fg (X:=X.wish E) (hb E EX) (hc.a1 hs3 E EX) (by show aH [b,c] X.env=(false,aE b X.env)::aH [c] X.env;rw[hs2,hs3])) (by show aH [a,b,c] X.env=(false,aE a X.env)::aH [b,c] X.env;rw[hs,hs2])) hs hs2,λσ' H R e0=>bL e0 λm h σ ex S Rr P=>?_⟩;refine sub ex S Rr P λv m1 h1 H1 v' x1 R1 r1 P1=>sub ex (S.mono x1) R1 P1 λw m2 h2 H2 w' x2 R2 r2 P2=>sub ex ((S.mono x1).mono x2) R2 P2 λu m3 h3 H3 u' x3 R3 r3 P3=>?_;cases v with
 |ref n=>cases w with
   |ref k=>cases u with
     |ref j=>
       obtain⟨aa,ea,rfl⟩:=x3.vr (x2.vr r1);obtain⟨bb,eb,rfl⟩:=x3.vr r2;obtain⟨cc,ec,rfl⟩:=r3;obtain⟨oa,e1,q1,P4⟩:=bM R3 ea P3;obtain⟨ob,e2,q2,P5⟩:=bM R3 eb P4;obtain⟨oc,e3,q3,P6⟩:=bM R3 ec P5;cases oa with
       |lst xs=>cases ob with
         |lst ys=>cases oc with
           |lst zs=>
             obtain⟨vs,r,z⟩:=q1;obtain⟨ws,r',z'⟩:=q2;obtain⟨us,r'',z''⟩:=q3;refine⟨aa,bb,cc,vs,ws,us,rfl,SqL.of z,SqL.of z',SqL.of z'',?_⟩;have J:=Post.here R3 P6 (Itz3 G.K aa bb cc) (Fz ea eb ec);rw[←hK]at J;exact J
           |_=>exact P6.elim
         |_=>exact P6.elim
       |_=>exact P6.elim
     |_=>exact P3.elim
   |_=>exact P3.elim
 |_=>exact P3.elim
end L2.Rv
namespace L2.Rv
noncomputable section
open PySem (Str)
end
end L2.Rv
namespace L2.Rv
open PySem PySem.Spec PyProof.Rows
variable {G:Gb}{m m' m1 m2:List ae}{h h' h1 h2:MH}{H H' H1 H2:Hp}{X:Cx}{E:ag->ai->Prop}{EX:St->Prop}{σ:MSt}{σ':St}
end L2.Rv
namespace L2.Rv
noncomputable section
end
end L2.Rv
namespace L2.Rv
open PySem PySem.Spec PyProof.Rows
variable {G:Gb}{X:Cx}{E:ag->ai->Prop}{EX:St->Prop}
end L2.Rv
namespace L2.Rv
noncomputable section
open PySem (Str)
end
end L2.Rv
namespace L2.Rv
open PySem PySem.Spec PyProof.Rows
variable {G:Gb}
end L2.Rv
namespace L2.Rv
noncomputable section
open PySem (Str)
def kT(e:ME):MI:=λσ=>bnd (e σ) λx=>match x with
 |.ref n=>bnd (look n) λo=>match o with
   |.dct kvs=>bnd (put n (.frz kvs)) λ_=>ret ⟨kvs.map λkv=>[.str kv.1,kv.2],[.d n kvs]⟩
   |_=>stk
 |_=>stk
def thaw(s:Src)(f:MF):M MF:=match f,s.stays with
 |.next σ,[.d n kvs]=>bnd (look n) λo=>match o with
   |.frz ks=>bnd (put n (.dct ks)) λ_=>ret (.next σ)
   |_=>stk
 |_,_=>stk
def qb(is:List Nat)(src:MI)(body:MS):MS:=λσ=>bnd (src σ) λs=>bnd (dj s is body s.items σ) λf=>thaw s f
end
end L2.Rv
namespace L2.Rv
open PySem PySem.Spec PyProof.Rows
variable {G:Gb}{m m' m1 m2:List ae}{h h' h1 h2:MH}{H H' H1 H2:Hp}{X:Cx}{E:ag->ai->Prop}{EX:St->Prop}{σ:MSt}{σ':St}
theorem Inv.swapO{pins:List (ae×az)}{s:ai}{a:ae}{u v:HO}(I:Inv X pins σ' H s)(e:H a=some u)(n1:∀xs,u≠.tup xs)(n2:∀b,u≠.own b)(n3:∀ps,u≠.tbl ps)(n4:∀o w,X.H₀ a≠some (.frz o w))(ok:bG X.prog X.w (upd H a v) s.heap a v):Inv X pins σ' (upd H a v) s:=by
 have na:∀b,H b=none->b≠a:=λb q z=>by rw[z,e]at q;cases q
 refine⟨I.ok,I.os,I.bare,⟨I.base.keep,I.base.slot,λb o q n hx=>?_,I.base.there,λb xs q=>?_,λb o w q=>?_,λb ps q=>?_⟩,I.loc,I.cell,?_,λx c q=>?_,λp hp=>?_,λb w q=>?_,I.len⟩
 ·have z:=I.base.free b o q n hx;rw[aQ (na b z)];exact z
 ·have z:=I.base.tups b xs q;rw[aQ (show b≠a from λy=>n1 xs (Option.some.inj (e.symm.trans (y▸z))))];exact z
 ·have z:=I.base.frzs b o w q;rw[aQ (show b≠a from λy=>n4 o w (y▸q))];exact z
 ·obtain⟨mo,z⟩:=I.base.tbls b ps q;exact⟨mo,by rw[aQ (show b≠a from λy=>n3 _ (Option.some.inj (e.symm.trans (y▸z))))];exact z⟩
 ·rw[aQ (na _ I.free)];exact I.free
 ·rw[aQ (na _ (I.freeC x c q))];exact I.freeC x c q
 ·obtain⟨a1,a2,a3,a4,a5⟩:=I.pin p hp;exact⟨a1,by rw[aQ (na _ a2)];exact a2,a3,a4,a5⟩
 ·by_cases z:b=a
  ·subst z;rw[cG]at q;cases q;exact ok
  ·rw[aQ z]at q;refine(I.hok b w q).stay (λ_ _ _ q=>q) (λc q=>?_) λc xs q=>?_
   ·rw[aQ (show c≠a from λy=>n2 b (Option.some.inj (e.symm.trans (y▸q))))];exact q
   ·rw[aQ (show c≠a from λy=>n1 xs (Option.some.inj (e.symm.trans (y▸q))))];exact q
theorem yq{P:bf}{w:aU}{H H':Hp}{hp:aG}{a:ae}{ws:List (Key×V)}(x:bG P w H hp a (.dK ws)):bG P w H' hp a (.dK ws):=x
theorem Inv.freeze{pins:List (ae×az)}{s:ai}{a:ae}{ws:List (Key×V)}{o:az}(I:Inv X pins σ' H s)(e:H a=some (.dK ws))(g:s.heap.get? a=some o):Inv X pins σ' (upd H a (.frz o (.dK ws))) s:=
 Inv.swapO I e (λ_ z=>nomatch z) (λ_ z=>nomatch z) (λ_ z=>nomatch z) (λo w z=>by have:=I.base.frzs a o w z;rw[e]at this;cases this) ⟨g,yq (show bG X.prog X.w H s.heap a (.dK ws) from I.hok a _ e)⟩
theorem Inv.thaw{pins:List (ae×az)}{s:ai}{a:ae}{ws:List (Key×V)}{o:az}(I:Inv X pins σ' H s)(f:∀o w,X.H₀ a≠some (.frz o w))(e:H a=some (.frz o (.dK ws))):Inv X pins σ' (upd H a (.dK ws)) s:=
 Inv.swapO I e (λ_ z=>nomatch z) (λ_ z=>nomatch z) (λ_ z=>nomatch z) f (yq (show bG X.prog X.w H s.heap a (.frz o (.dK ws)) from I.hok a _ e).2)
def Itm(d:ae)(o:az)(ws:List (Key×V)):It where
 go:=λi H=>H d=some (.frz o (.dK ws))/\i<ws.length
 yld:=λi H v H'=>∃T k x,v=.ref T/\H T=none/\H'=upd H T (.tup [kV k,x])/\ws[i]?=some (k,x)
 stop:=λi H=>H d=some (.frz o (.dK ws))/\ws.length≤i
theorem wN{P:bf}{w:aU}{H:Hp}{s:ai}{d:ae}{o:az}{ws:List (Key×V)}{es:Array DictEntry}{ep:Nat}(ok:HOk P w H s.heap)(e:H d=some (.frz o (.dK ws)))(ho:o.data=.dict es ep):∃vs,KV ws vs/\s.heap.DictAt (cg P w) d vs ep:=by
 obtain⟨g,_,_,vs,r,o',es',ep',g',x1,x2,x3⟩:=(show bG P w H s.heap d (.frz o (.dK ws)) from ok d _ e);rw[g]at g';cases g';rw[ho]at x2;cases x2;exact⟨vs,r,o,es,g,x1,ho,x3⟩
theorem Bp{P:bf}{w:aU}{K:PySem.W.Frag}{elts:List av}{x1:Nat}{tp:Pos}{it d:ae}{o:az}{ws:List (Key×V)}{es:Array DictEntry}{ep:Nat}(ho:o.data=.dict es ep)(nd:d≠it) :
  Turn P w K (.Tuple elts x1 tp) (Itm d o ws) [it] it (λi h=>∃ok ov,IsItemIter h it d i ws.length ep ok ov) where
 mem:=by simp
 obj:=λi h ⟨ok,ov,hz⟩ c hc=>by
  cases c6.mp hc;exact⟨_,hz,λv y=>by cases(show Data.fields _=Data.cell v from y)⟩
 keep:=λi h h' ⟨ok,ov,hz⟩ k=>⟨ok,ov,k it (by simp) _ hz⟩
 item:=by
  rintro X hP hw hK hc i pins s σ H E I hf ⟨ok,ov,hz⟩ ⟨q1,q2⟩;subst hP hw hK;obtain⟨vs,rv,hm⟩:=wN I.hok q1 ho;have ln:=KV.length rv;obtain⟨⟨k,x⟩,ek⟩:∃p,ws[i]?=some p:=⟨ws[i],by simp[q2]⟩
  obtain⟨⟨k',u⟩,eu,rk,ru⟩:=eR rv ek;dsimp only at rk ru;subst rk;refine wpAny_pyNext_items_item (ln▸hz) hm eu λkey hp' a1 a2 a3 a4 a5=>?_;refine⟨_,rfl,wpAny_letOwnedTupleGo_items a2 λhp2 b1 b2=>?_⟩;have kz:∀c o,c≠it->s.heap.get? c=some o->hp2.get? c=some o:=λc o c1 e=>b2.extBut _ _ c1 (a5 c o c1 e);have I1:Inv X pins σ H { s with heap:=hp2,toks:=s.toks }:=Inv.turnedL I hf λc o hc' e=>kz c o (by simpa using hc') e;have nT:∀c o,s.heap.get? c=some o->s.heap.objs.size≠c:=λc o e=>c9 (bc e);have zT:s.heap.objs.size≠it:=nT it _ hz;have gT:hp2.get? s.heap.objs.size=some { cls:=.type "tuple",data:=.seq #[key,u] }:=b2.extBut _ _ zT a3;have fT:Fp X pins H s.heap.objs.size:=Fp.of I (i4 (aY _)) (I.hok.fresh (aY _));have rkey:aP (kV k) key:=by
   cases k with
   |inl n=>exact n9 a1
   |inr n=>exact kf a1
  have I2:=Inv.trackO (v:=.tup [kV k,x]) I1 fT ⟨by show 2≤aZ;decide,[key,u],.cons rkey (.cons ru .nil),⟨_,gT,rfl,0,rfl⟩⟩;refine⟨.ref s.heap.objs.size,_,I2,rfl,⟨s.heap.objs.size,k,x,rfl,fT.un,rfl,ek⟩,⟨key,u,ln▸b1⟩,λc hc'=>?_⟩;cases c6.mp hc';rw[aQ zT.symm];exact(hf it (by simp)).1
 done:=by
  rintro X hP hw hK hc i pins s σ H E I hf ⟨ok,ov,hz⟩ ⟨q1,q2⟩;subst hP hw hK;obtain⟨vs,rv,hm⟩:=wN I.hok q1 ho;have ln:=KV.length rv;refine wpAny_pyNext_items_end (I.ok.hd hc) (ln▸hz) hm (iD (by lia)) λhp' kk=>⟨rfl,Inv.turnedL (t:=s.toks) I hf λc o hc' e=>kk c o (by simpa using hc') e⟩
 self:=λ_ _ _ _ _ ⟨_,_,hz⟩ h=>PySem.W.kcp_self hz h
theorem By{o:av}{to:TE}{elts:List av}{x1:Nat}{tp apos cpos:Pos}(ho:PE X o to)(hbase:attributeBase o (aF "items") X.env (aE o X.env)=aE o X.env)(hline:(apos.endLine == cpos.line)=true) :
  PI X (.Tuple elts x1 tp) (.Call (.Attribute o (aF "items") apos) [] [] cpos) (λσ H R=>to σ H λx H1=>∃a ws,x=.ref a/\H1 a=some (.dK ws)/\∀ob,(∀o w,X.H₀ a≠some (.frz o w))->R (Itm a ob ws) (upd H1 a (.frz ob (.dK ws)))):=by
 intro pins s σ H R I t;refine wpAny_Call_method0_late hbase hline (thn (ho pins s σ H _ I t) λu s1 e0=>bo e0 λx H1 I1 rx e4=>?_);obtain⟨a,ws,rfl,ea,q⟩:=e4;obtain rfl:u=Value.ref a:=rx;obtain⟨t1,t2,t3⟩:=vJ I1 (.inl ⟨ws,.inl ea⟩);obtain⟨z,hd,vs,rel,dd⟩:=oY I1.hok ea;refine⟨"dict","dict.items",uR,PySem.F.slot_dict_items,PySem.F.type_dict_items,t1,t2,Calls.callWith_builtin rfl (PySem.evalArgs_none ?_)⟩;refine call_meetsIn PySem.F.slot_dict_items dd.typeIs PySem.F.entry_dict_items (PySem.F.args_dict_items_1 _) (meets_dict_items (cg X.prog X.w) a hd) ⟨⟨vs,dd⟩,?_⟩;obtain⟨ob,es,ep,g,x1,x2,x3⟩:=dd;have la:a<s1.heap.objs.size:=bc g;have g2:(s1.heap.push { cls:=.type "dict_items",data:=.fields #[.ref a] }).get? a=some ob:=bv _ g;refine wpAny_pyIter_items (s:={ s1 with heap:=s1.heap.push { cls:=.type "dict_items",data:=.fields #[.ref a] } }) (knd:=cg X.prog X.w) (kvs:=vs) (ep:=ep) ⟨_,cR _ rfl,rfl,rfl⟩ ⟨ob,es,g2,x1,x2,x3⟩ ?_;have n4:∀o w,X.H₀ a≠some (.frz o w):=λo w z=>by have:=I1.base.frzs a o w z;rw[ea]at this;cases this
 have I2:=Inv.freeze (I1.kept (t':=s1.toks) (h':=(s1.heap.push { cls:=.type "dict_items",data:=.fields #[.ref a] }).push { cls:=.type "dict_itemiterator",data:=.fields #[.none,.bool false,.ref a,.int 0 0,.int vs.length 0,.int ep 0,.none,.none] }) λb o e=>bv _ (bv _ e)) ea (bv _ g2);have sz:s1.heap.objs.size≤(s1.heap.push { cls:=.type "dict_items",data:=.fields #[.ref a] }).objs.size:=by simp[Heap.push]
 have ln:=KV.length rel;have gi:=cR (s1.heap.push { cls:=.type "dict_items",data:=.fields #[.ref a] }) (o:={ cls:=.type "dict_itemiterator",data:=.fields #[.none,.bool false,.ref a,.int 0 0,.int vs.length 0,.int ep 0,.none,.none] }) rfl;have np:a≠(s1.heap.push { cls:=.type "dict_items",data:=.fields #[.ref a] }).objs.size:=cU (cJ la sz);generalize (s1.heap.push { cls:=.type "dict_items",data:=.fields #[.ref a] }).objs.size=p at sz gi np;have un:(upd H1 a (.frz ob (.dK ws))) p=none:=by
  rw[aQ np.symm];exact I1.hok.fresh sz
 refine⟨p,[p],_,_,_,rfl,I2,Bp x2 np,⟨.none,.none,?_⟩,λb hb=>?_,q ob n4⟩
 ·rw[ln];exact gi
 ·cases c6.mp hb;exact I1.fpOk sz un
def Thw(X:Cx)(q:St->Hp->Prop):St->Hp->Prop:=λσ H=>∃a o ws,(∀o w,X.H₀ a≠some (.frz o w))/\H a=some (.frz o (.dK ws))/\q σ (upd H a (.dK ws))
theorem Cc{st:aO}{t:TS}(hp:PS X st t):PS X st (λD σ H=>t { nx:=Thw X D.nx,rt:=λ_ _=>False } σ H):=λpins s σ H D I ht=>by
 refine thn (hp pins s σ H _ I ht) λf s' q=>?_;cases f with
 |next=>
   obtain⟨σ1,H1,I1,a,o,ws,f1,e1,d⟩:=q;exact⟨σ1,_,Inv.thaw I1 f1 e1,d⟩
 |brk=>obtain⟨_,_,_,z⟩:=q;exact z.elim
 |cont=>obtain⟨_,_,_,z⟩:=q;exact z.elim
 |ret u=>obtain⟨_,_,_,_,_,z⟩:=q;exact z.elim
theorem Post.bind0{α β:Type}{a:M α}{k:α->M β}{Q:β->List ae->MH->Hp->Prop}(P:Post G X E EX m H (bnd a k h) Q):Post G X E EX m H (a h) λv _ h1 _=>Post G X E EX m H (k v h1) Q:=by
 unfold bnd at P;cases e:a h with
 |ok v h1=>
   rw[e]at P;exact λm' H' y _=>P
 |exc c h1=>rw[e]at P;exact P
 |stuck=>rw[e]at P;exact P
theorem Ext.thaw{n:Nat}{a:ae}{u v:HO}{ws:List (Key×V)}(x1:Ext m H m1 H1)(ea:m1[n]?=some a)(z:H1 a=some (.dK ws))(x2:Ext m1 (L2.upd H1 a u) m2 H2):Ext m H m2 (L2.upd H2 a v):=by
 obtain⟨e,pe⟩:=x1.pre;obtain⟨f,pf⟩:=x2.pre;refine⟨⟨e++f,by rw[pf,pe];simp⟩,λb o q nb nt=>?_,λb o w q=>?_⟩
 ·obtain⟨q1,n1⟩:=x1.fr b o q nb nt;have ne:b≠a:=λy=>n1 (y▸dF ea);obtain⟨q3,n3⟩:=x2.fr b o (by rw[aQ ne];exact q1) n1 nt;exact⟨by rw[aQ ne];exact q3,n3⟩
 ·have q1:=x1.fz b o w q;have ne:b≠a:=λy=>by rw[y,z]at q1;cases q1
  rw[aQ ne];exact x2.fz b o w (by rw[aQ ne];exact q1)
theorem BB{o:av}{go:ME}{elts:List av}{x1:Nat}{tp apos cpos pos:Pos}{body:List aO}{gb:MS}{is:List Nat}(ho:GE G X o go)(hg:GTg G X (.Tuple elts x1 tp) false is)(hb:GSs G ET X body gb)(hl2:is.length=2:=by rfl)(hc:X.calm=true:=by rfl)(hs:∀x,foldedSetIterable (.Call (.Attribute o (aF "items") apos) [] [] cpos) X.env x=pure x:=by intro _;rfl)
  (hbase:attributeBase o (aF "items") X.env (aE o X.env)=aE o X.env:=by rfl) (hline:(apos.endLine == cpos.line)=true:=by rfl) :
  GS G ET X (.For (.Tuple elts x1 tp) (.Call (.Attribute o (aF "items") apos) [] [] cpos) body [] pos) (qb is (kT go) gb):=λE hp=>by
 obtain⟨g,pg,hg⟩:=hg E;refine gG (Cc (X:=X.wish E) (xa (X:=X.wish E) hp hc (By (X:=X.wish E) (ho E ET) hbase hline) pg (hb E hp) hs)) λD σ' H e0=>bL e0 λm h σ ex S R P=>?_
 let QD:MF->List ae->MH->Hp->Prop:=λf m' _ H'=>match f with
  |.next σ1=>∀σ1',SR G m' H' σ1 σ1'->D.nx σ1' H'
  |.brk σ1=>∀σ1',SR G m' H' σ1 σ1'->D.bk σ1' H'
  |.cnt σ1=>∀σ1',SR G m' H' σ1 σ1'->D.ct σ1' H'
  |.ret v=>∀v',VR G m' H' v v'->D.rt v' H'
 have P0:Post G X E ET m H (kT go σ h) λs _ h' _=>Post G X E ET m H ((bnd (dj s is gb s.items σ) λf=>thaw s f) h') QD:=Post.bind0 P;refine sub ex S R P0 λv m1 h1 H1 v' x1 R1 r1 P1=>?_;cases v with
 |ref n=>
   obtain⟨aa,ea,rfl⟩:=r1;obtain⟨oa,eo,q1,P2⟩:=bM R1 ea P1;cases oa with
   |dct kvs=>
     obtain⟨ws,dr,z⟩:=q1;have P3:=jQ R1 ea P2;refine⟨aa,ws,rfl,z,λob n4=>?_⟩;have x3:Ext m1 H1 m1 (upd H1 aa (.frz ob (.dK ws))):=Ext.upd ea z;have R3:HR G m1 (h1.set n (.frz kvs)) (upd H1 aa (.frz ob (.dK ws))):=R1.upd ea (λo' ys z'=>by rw[z]at z';cases z') ⟨ws,ob,DR.mono x3.mn dr,cG⟩;have P4:=P3 m1 _ x3 R3;generalize hs:(⟨kvs.map λkv=>[.str kv.1,kv.2],[.d n kvs]⟩:Src)=src at P4;have hit:src.items=kvs.map λkv=>[.str kv.1,kv.2]:=by rw[←hs]
     have P5:=Post.bind0 P4;have lw:kvs.length=ws.length:=Paired.length dr;have li:src.items.length=kvs.length:=by rw[hit,cY]
     have fz:∀{m2 H2},Ext m1 (upd H1 aa (.frz ob (.dK ws))) m2 H2->H2 aa=some (.frz ob (.dK ws)):=λx=>x.fz aa ob _ cG;have fin:∀{m2 h2 H2 σ2 σ2'},Ext m1 (upd H1 aa (.frz ob (.dK ws))) m2 H2->SR G m2 H2 σ2 σ2'->HR G m2 h2 H2->Post G X E ET m H (thaw src (.next σ2) h2) QD->Thw (X.wish E) D.nx σ2' H2:=λ{m2 h2 H2 σ2 σ2'} xx S2 R2 Pt=>by
      have ea2:=xx.get ea;obtain⟨oo,e1,q⟩:=R2.get ea2;have zz:=fz xx;rw[←hs]at Pt;unfold thaw at Pt;simp only[bnd,look,e1]at Pt;cases oo with
      |frz ks=>
        obtain⟨ws',o',dr',z'⟩:=q;rw[zz]at z';cases z';have hn:n<h2.length:=by rw[←R2.len];exact(bF.mp ea2).1
        simp only[bnd,put,hn,if_true]at Pt;have mn:Mn m2 H2 m2 (upd H2 aa (.dK ws)):=⟨λ_ _ q=>q,λc vs z nc=>⟨by rw[aQ (show c≠aa from λy=>nc (by rw[y];exact dF ea2))];exact z,nc⟩⟩
        exact⟨aa,ob,ws,n4,zz,Pt m2 _ (Ext.thaw x1 ea z xx) (R2.upd ea2 (λo' ys z'=>by rw[zz]at z';cases z') ⟨ws,DR.mono mn dr',cG⟩) σ2' (S2.mn mn)⟩
      |_=>exact Pt.elim
     refine ⟨λk n' σ2' H2=>n'=src.items.length - k/\k≤src.items.length/\∃m2 h2 σ2,Ext m1 (upd H1 aa (.frz ob (.dK ws))) m2 H2/\SR G m2 H2 σ2 σ2'/\HR G m2 h2 H2/\Post G X E ET m H (dj src is gb (src.items.drop k) σ2 h2) λf _ h' _=>Post G X E ET m H (thaw src f h') QD,
      ⟨src.items.length,rfl,d9 _,m1,_,σ,.refl,S.mono (x1.trans x3),R3,P5⟩,?_⟩
     rintro k n' σ2' H2 ⟨rfl,hk,m2,h2,σ2,pre2,S2,R2,P2⟩;by_cases hlt:k<src.items.length
     ·have ed:src.items.drop k=src.items[k]::src.items.drop (k+1):=(rW hlt);rw[ed]at P2;unfold dj at P2;split at P2
      ·rename_i hok;refine .inr ⟨⟨fz pre2,by lia⟩,λσ4' H4=>∃m4 h4 σ4,Ext m1 (upd H1 aa (.frz ob (.dK ws))) m4 H4/\SR G m4 H4 σ4 σ4'/\HR G m4 h4 H4/\Post G X E ET m H (dj src is gb (src.items.drop (k+1)) σ4 h4) λf _ h' _=>Post G X E ET m H (thaw src f h') QD,λσ4' H4 q=>⟨src.items.length-(k+1),by lia,rfl,hlt,q⟩,λx H' y=>?_⟩;obtain⟨T,ky,xv,rfl,hT,rfl,ek⟩:=y;have hkk:k<kvs.length:=by lia
       obtain⟨⟨s0,v0⟩,e0⟩:∃p,kvs[k]?=some p:=⟨kvs[k],by simp[hkk]⟩
       have eit:src.items[k]=[.str s0,v0]:=by
        have:src.items[k]?=some [.str s0,v0]:=by rw[hit,bz,e0];rfl
        simpa[hlt] using this
       have ea2:=pre2.get ea;have eo2:h2[n]?=some (.frz kvs):=by
        rw[←hs]at hok;simpa[Src.okIn,gH] using hok
       obtain⟨ws',o',dr',z'⟩:=R2.ob n aa _ ea2 eo2;rw[fz pre2]at z';cases z';obtain⟨⟨k1,v1⟩,e1,r1,r2⟩:=eR dr' e0;rw[ek]at e1;cases e1;dsimp only at r1 r2;subst r1;have xx:Ext m2 H2 m2 (upd H2 T (.tup [kV (Sum.inr s0),xv])):=Ext.side hT;have rx:Row G m2 (upd H2 T (.tup [kV (Sum.inr s0),xv])) false [.str s0,v0] (.ref T):=⟨T,[.str s0,xv],rfl,R2.fresh hT,cG,VRl.of (.cons rfl (.cons (xx.vr r2) .nil))⟩;refine hg m2 _ _ _ σ2 σ2' _ (S2.mono xx) rx (by rw[hl2];rfl) λσ3' S3=>?_
       have x02:Ext m H m2 H2:=(x1.trans x3).trans pre2;rw[eit]at P2;refine⟨m2,h2,cL is [.str s0,v0] σ2,trivial,S3,R2.side hT,(((Post.bind0 P2).ext x02).ext xx).mono λf m4 h4 H4 x4 R4 P4=>?_⟩;have pre4:Ext m1 (upd H1 aa (.frz ob (.dK ws))) m4 H4:=pre2.trans (xx.trans x4);have x04:Ext m H m4 H4:=x02.trans (xx.trans x4);cases f with
       |next σ4=>exact λσ4' S4=>⟨m4,h4,σ4,pre4,S4,R4,P4⟩
       |cnt σ4=>exact λσ4' S4=>⟨m4,h4,σ4,pre4,S4,R4,P4⟩
       |brk σ4=>exact λσ4' S4=>fin pre4 S4 R4 (P4 m4 H4 x04 R4)
       |ret v=>
         intro v' rv;have P9:=P4 m4 H4 x04 R4;unfold thaw at P9;exact P9.elim
      ·exact P2.elim
     ·have e:k=src.items.length:=by lia
      subst e;rw[pG]at P2;unfold dj at P2;split at P2
      ·exact .inl ⟨⟨fz pre2,by lia⟩,fin pre2 S2 R2 (P2 m2 H2 ((x1.trans x3).trans pre2) R2)⟩
      ·exact P2.elim
   |_=>exact P2.elim
 |_=>exact P1.elim
end L2.Rv
namespace L2.Rv
open PySem PySem.Spec PyProof.Rows PySem.W
def ou(P:ae)(H:Hp):Prop:=∀b,H b=none∨(∃o xs,H b=some (.frz o (.lst xs)))∨(b=P/\H b=some (.tbl #[]))
theorem HM{P:bf}{w:aU}{K:Frag}{mg mb:Str->Option ag}{CX:CXT}{k:Nat}{fa a c tb:ae}{fd:aW}{x:Str}{sp:Sp}{s₁:ai}{vs:List ag}{ns:List Int}
  (KX:K.In s₁.heap) (hT:s₁.heap.TableAt c tb #[]) (hKP:K.lookup tb=none) (hns:s₁.heap.Ns c8 mg) (hb:s₁.heap.Ns builtinsNs mb) (hbb:∀x:Str,x≠"__name__"->mb x=bootBuiltins x) (hlim:s₁.heap.NoLimit) (hg:s₁.gens=#[])
  (ha:s₁.heap.get? a=some { cls:=.type "list",data:=.seq vs.toArray }) (hi:IntsAre vs ns) (hl:ns.length≤aZ) (hr:Room k callerA)
  (F:∀base:aG,K.In base->base.Ns c8 mg->ip P w K mg base CX k fa fd [x] sp) (hbind:∀(s:ai) (u:ag),BindsTo s fd ⟨[u],[]⟩ [(x,u)])
  (hsp:∀H:Hp,ou tb H->H tb=some (.tbl #[])->SqL K H a (ns.map V.int)->sp [.ref a] H (λv _=>v=.bl true) λ_ _ _=>False)
  (hCX:∀H e s',CX [] H s₁ (λ_ _ _=>False) e s'->False) :
  codeAny (aw P w) callerA (.call (.ref fa) ⟨[.ref a],[]⟩) (λr s'=>r=.ok (.ret (.bool true))/\OldK s₁.heap s'.heap/\s'.os=s₁.os/\AllBare s'.gens) s₁:=by
 have rv:=xR hi;have lenV:=hi.length;have htb:s₁.heap.get? tb=some { cls:=.none,data:=.fields #[] }:=hT.2;have hta:tb≠a:=λz=>by rw[z,ha]at htb;cases htb
 have core:∀H:Hp,ou tb H->H tb=some (.tbl #[])->SqL K H a (ns.map V.int)->HOk P w H s₁.heap->(∀b,H b≠none->b=a∨b=tb)->(H a≠none->K.lookup a=none) ->
   codeAny (aw P w) callerA (.call (.ref fa) ⟨[.ref a],[]⟩) (λr s'=>r=.ok (.ret (.bool true))/\OldK s₁.heap s'.heap/\s'.os=s₁.os/\AllBare s'.gens) s₁:=by
  intro H hO hH hS hok hA hK;have base_of:∀{b:ae}{o:az},s₁.heap.get? b=some o->H b=none->(iq s₁.heap H).get? b=some o:=λe n=>Ba e n;have noA:∀{b:ae}{o:az}{es:Array DictEntry}{ep:Nat},s₁.heap.get? b=some o->o.data=.dict es ep->H b=none:=λ{b o es ep} e d=>by
   cases q:H b with
   |none=>rfl
   |some u=>
     rcases hA b (by rw[q];simp) with e'|e'
     ·subst e';rw[ha]at e;cases e;have d':Data.seq vs.toArray _=Data.dict es ep:=d;cases d'
     ·subst e';rw[htb]at e;cases e;have d':Data.fields _=Data.dict es ep:=d;cases d'
  have nsK:∀{b:ae} {m:Str->Option ag},s₁.heap.Ns b m->(iq s₁.heap H).Ns b m:=λ{b m} e0=>e0.elim λo e1=>e1.elim λes e2=>e2.elim λep e3=>e3.elim λe e4=>e4.elim λd r=>⟨o,es,ep,base_of e (noA e d),d,r⟩;have hKb:K.In (iq s₁.heap H):=λb o e=>base_of (KX b o e) (by
   cases q:H b with
   |none=>rfl
   |some u=>
     rcases hA b (by rw[q];simp) with e'|e'
     ·subst e';rw[hK (by rw[q];simp)]at e;cases e
     ·subst e';rw [hKP] at e;cases e)
  have hM:Mod K mg (iq s₁.heap H):=⟨hKb,nsK hns,⟨mb,nsK hb,hbb⟩,let ⟨mc,h1,h2⟩:=hlim;⟨mc,nsK h1,h2⟩⟩;have e0:Env0 P w K mg (iq s₁.heap H) callerA [] s₁ H:=⟨rfl,hM,λb o e=>Gs e,qw (Dl _ _),trivial,λb hb=>absurd (show b∈([]:List ae) from hb) (by simp),hok,.of_eq hg⟩
  refine codeAny_mono ((F _ hKb (nsK hns)).run callerA [] s₁ H ⟨[.ref a],[]⟩ [.ref a] [.ref a] _ _ hr e0 (hbind s₁ (.ref a)) (.cons rfl .nil) (hsp H hO hH hS)) λr s' h=>?_;cases r with
  |error e=>exact(hCX H e s' h).elim
  |ok fl=>
    cases fl with
    |next=>exact False.elim h
    |brk=>exact False.elim h
    |cont=>exact False.elim h
    |ret u=>
      obtain⟨v,H',os,bare,un,hok',r',q⟩:=h;have q':v=.bl true:=q;subst q';obtain rfl:u=Value.bool true:=r';have kp:∀b o,b≠tb->s₁.heap.get? b=some o->s'.heap.get? b=some o:=λb o hbt e=>by
       cases q:H b with
       |none=>exact un.keep b o e q (by intro z;exact absurd (show b∈([]:List ae) from z) (by simp)) (by simp)
       |some u=>
         rcases hO b with z|⟨ob,xs,z⟩|⟨z,_⟩
         ·rw[q]at z;cases z
         ·have z2:=un.frzs b ob _ z;obtain⟨e1,_⟩:=hok b _ z;obtain⟨e2,_⟩:=hok' b _ z2;rw[e]at e1;cases e1;exact e2
         ·exact absurd z hbt
      obtain⟨more,em⟩:=un.tbls tb #[] hH;have em':s'.heap.get? tb=some { cls:=.none,data:=.fields (#[]++more) }:=hok' tb _ em;refine⟨rfl,⟨λb o e=>?_,λb o e=>?_⟩,os,bare⟩
      ·by_cases hbt:b=tb
       ·subst hbt;rw[htb]at e;cases e;exact .inr (.inl ⟨hT.isCodeTable,rfl,#[],more,rfl,em'⟩)
       ·exact .inl (kp b o hbt e)
      ·by_cases hbt:b=tb
       ·subst hbt;exact⟨_,em'⟩
       ·exact⟨o,kp b o hbt e⟩
 cases hk:K.lookup a with
 |some o=>
   have e:=KX a o hk;rw[ha]at e;cases e;refine core (λb=>if b=tb then some (.tbl #[]) else none) (λb=>?_) (if_pos rfl) (.inr ⟨_,vs.toArray,_,hk,rfl,rfl,rfl,by rw[cf,lenV];exact hl,by simpa using rv⟩) (λb u z=>?_) (λb z=>?_) λz=>?_
   ·by_cases hb:b=tb
    ·exact .inr (.inr ⟨hb,if_pos hb⟩)
    ·exact .inl (if_neg hb)
   ·by_cases hb:b=tb
    ·have z':=(if_pos hb).symm.trans z;cases z';subst hb;exact htb
    ·have z':=(if_neg hb).symm.trans z;cases z'
   ·by_cases hb:b=tb
    ·exact .inr hb
    ·exact absurd (if_neg hb) z
   ·exact absurd (if_neg (Ne.symm hta)) z
 |none=>
   refine core (λb=>if b=a then some (.frz { cls:=.type "list",data:=.seq vs.toArray } (.lst (ns.map V.int))) else if b=tb then some (.tbl #[]) else none) (λb=>?_) (by rw[if_neg hta,if_pos rfl]) (.inl (.inr ⟨{ cls:=.type "list",data:=.seq vs.toArray },if_pos rfl⟩)) (λb u z=>?_) (λb z=>?_) λ_=>hk
   ·by_cases hb:b=a
    ·exact .inr (.inl ⟨_,_,if_pos hb⟩)
    ·by_cases hb2:b=tb
     ·exact .inr (.inr ⟨hb2,by dsimp only;rw[if_neg hb,if_pos hb2]⟩)
     ·exact .inl (by dsimp only;rw[if_neg hb,if_neg hb2])
   ·by_cases hb:b=a
    ·have z':=(if_pos hb).symm.trans z;cases z';subst hb;exact⟨ha,by rw[cY];exact hl,vs,_,rv,ha⟩
    ·have z1:(if b=tb then some (HO.tbl #[]) else none)=some u:=(if_neg hb).symm.trans z;by_cases hb2:b=tb
     ·rw[if_pos hb2]at z1;cases z1;subst hb2;exact htb
     ·rw[if_neg hb2]at z1;cases z1
   ·by_cases hb:b=a
    ·exact .inl hb
    ·by_cases hb2:b=tb
     ·exact .inr hb2
     ·exact absurd (by rw[if_neg hb,if_neg hb2]) z
theorem A2{l:OpenLaw}{n k:Nat}{q:bf}{loose:List Str}{XP:(Str->Option ag)->aG->Prop}{YP:aU->aG->Prop}{d:DefRec}{K:Params->Frag}{CX:aU->CXT}{tb:ae}{sp:aU->Sp}{x:Str}
  (hn:l.most=some n) (hn2:n≤aZ) (hdf:d.params.defaults=[]) (hr:Room k callerA)
  (hY:∀(w:aU) (h:aG),YP w h->(K w.params).In h/\h.get? tb=some (tabObj #[]))
  (hK:∀w:aU,(K w.params).lookup tb=none)
  (F:∀(w:aU) (mg:Str->Option ag) (fa:ae) (h:aG),(K w.params).In h->h.Ns c8 mg->mg d.name=some (.ref fa) ->
   (∃c o vs,(K w.params).lookup c=some o/\o.cls=.type "code"/\o.data=.fields vs/\vs[11]?=some (.ref tb)) /\
   ∃fd:aW,(∀(s:ai) (u:ag),BindsTo s fd ⟨[u],[]⟩ [(x,u)]) /\
    ∀base:aG,(K w.params).In base->base.Ns c8 mg->ip l.prog w (K w.params) mg base (CX w) k fa fd [x] (sp w))
  (hsp:∀(w:aU) (H:Hp) (a:ae) (ns:List Int),ns.length≤n->ou tb H->H tb=some (.tbl #[])->SqL (K w.params) H a (ns.map V.int)->sp w [.ref a] H (λv _=>v=.bl true) λ_ _ _=>False)
  (hCX:∀(w:aU) (H:Hp) (s:ai) (e:ag) (s':ai),CX w [] H s (λ_ _ _=>False) e s'->False) :
  WalkO q loose XP YP l.row.toRowW d [] (λf vs=>PySem.call f vs):=by
 refine Att.attach_call hn hdf λw s₀ s₁ mg mb fa o pm cd doc a vs ns G Y ho hd hcd hmg hobj hints hlen hg=>?_;obtain⟨KX,ht⟩:=hY w _ Y;obtain⟨⟨c,oc,ws,z1,z2,z3,z4⟩,fd,hb,hF⟩:=F w mg fa _ KX G.T.g hmg;exact HM KX ⟨⟨oc,ws,KX _ _ z1,z2,z3,z4⟩,ht⟩ (hK w) G.T.g G.T.b G.T.builtins G.T.nolimit hg hobj hints (cF hlen hn2) hr hF hb (λH hO hH hS=>hsp w H a ns hlen hO hH hS) λH e s'=>hCX w H s₁ e s'
def KD(K':Params->Frag)(tb:ae)(P:Params):Frag:=(K' P).filter λp=>!(jj p.1 tb)
theorem vi(tb b:ae):∀K:Frag,(K.filter λp=>!(jj p.1 tb)).lookup b=if b=tb then none else K.lookup b
 |[]=>by simp
 |(a,o)::r=>by
   have ih:=vi tb b r;by_cases ha:a=tb
   ·subst ha;have:(lO (λp:ae×az=>!(jj p.1 a)) ((a,o)::r))=lO (λp=>!(jj p.1 a)) r:=by rw[ma];simp
    rw[this,ih];by_cases hb:b=a
    ·simp[hb]
    ·rw[if_neg hb,if_neg hb,bK];have:(b == a)=false:=by simpa using hb
     rw[this]
   ·have:(lO (λp:ae×az=>!(jj p.1 tb)) ((a,o)::r))=(a,o)::lO (λp=>!(jj p.1 tb)) r:=by
     rw[l6];have:jj a tb=false:=by
      cases q:jj a tb with
      |false=>rfl
      |true=>exact absurd (Nat.eq_of_beq_eq_true q) ha
     simp[this]
    rw[this,bK,bK,ih];by_cases hb:b=a
    ·subst hb;simp[ha]
    ·have:(b == a)=false:=by simpa using hb
     rw[this]
theorem KD_none{K':Params->Frag}{tb:ae}{P:Params}:(KD K' tb P).lookup tb=none:=(vi tb tb _).trans (if_pos rfl)
theorem KD_in{K':Params->Frag}{tb:ae}{P:Params}{h:aG}(x:(K' P).In h):(KD K' tb P).In h:=λb o e=>by
 have e':=(vi tb b (K' P)).symm.trans e;by_cases hb:b=tb
 ·rw[if_pos hb]at e';cases e'
 ·rw[if_neg hb]at e';exact x b o e'
theorem D7{fd:aW}{v:ag}{p:Pos}(h1:fd.params={ posonlyargs:=[],args:=[{ arg:="name",annotation:=none,pos:=p:PySem.Arg }],vararg:=none,kwonlyargs:=[],kw_defaults:=[],kwarg:=none,defaults:=[] })(h2:fd.defaults=.none)(h3:fd.kwdefaults=.none) :
  bindArgs fd ⟨[v],[]⟩=pure [(aF "name",v)]:=by
 obtain⟨a,b,c,d,e,f,g,i,j,k,l,n,o,q,r⟩:=fd;simp only at h1 h2 h3;subst h1;subst h2;subst h3;rfl
theorem E9{scope:Scope}{nm fv:Str}(h:scope.names=[(nm,.local),(fv,.free)]):∀x,scope.names.lookup x=some .free->x=fv:=λx e=>by
 rw[h]at e;simp only[bK]at e;split at e
 ·cases e
 ·split at e
  ·rename_i q;exact eq_of_beq q
  ·simp at e
end L2.Rv
namespace L2.Rv
open PySem (Str)
@[irreducible] def wp{α:Type}(m:M α)(h:MH)(Q:α->MH->Prop)(E:Nat->MH->Prop):Prop:=match m h with
 |.ok a h'=>Q a h'
 |.exc c h'=>E c h'
 |.stuck=>False
abbrev noE:Nat->MH->Prop:=λ_ _=>False
section
variable {α β:Type}{h h':MH}{E:Nat->MH->Prop}
theorem aM(m:M α)(f:α->M β)(Q:β->MH->Prop):wp (bnd m f) h Q E=wp m h (λa h'=>wp (f a) h' Q E) E:=by
 unfold wp bnd;cases m h <;> rfl
theorem bC(a:α)(Q:α->MH->Prop):wp (ret a) h Q E=Q a h:=by unfold wp;rfl
theorem cX(Q:α->MH->Prop):wp stk h Q E=False:=by unfold wp;rfl
theorem Ct(c:Nat)(Q:α->MH->Prop):wp (rse c) h Q E=E c h:=by unfold wp;rfl
theorem jv(o:MO)(Q:MV->MH->Prop):wp (new o) h Q E=Q (.ref h.length) (h++[o]):=by unfold wp;rfl
theorem cZ{c:Prop}[Decidable c](a b:M α)(Q:α->MH->Prop):wp (if c then a else b) h Q E=if c then wp a h Q E else wp b h Q E:=by
 by_cases q:c
 ·rw[if_pos q,if_pos q]
 ·rw[if_neg q,if_neg q]
theorem tN{m m':M α}{Q:α->MH->Prop}(e:m h=m' h):wp m h Q E=wp m' h Q E:=by unfold wp;rw[e]
theorem dR{m:M α}{Q Q':α->MH->Prop}{E':Nat->MH->Prop}(w:wp m h Q E)(f:∀a h',Q a h'->Q' a h')(g:∀c h',E c h'->E' c h'):wp m h Q' E':=by
 unfold wp at w ⊢;cases e:m h with
 |ok a h'=>rw[e]at w;exact f a h' w
 |exc c h'=>rw[e]at w;exact g c h' w
 |stuck=>rw[e]at w;exact w
theorem jR{m:M α}{Q:α->MH->Prop}(w:wp m h Q noE):∃a h',m h=.ok a h'/\Q a h':=by
 unfold wp at w;cases e:m h with
 |ok a h'=>rw[e]at w;exact⟨a,h',rfl,w⟩
 |exc c h'=>rw[e]at w;exact w.elim
 |stuck=>rw[e]at w;exact w.elim
theorem cN{m:M α}{a:α}{Q:α->MH->Prop}(e:m h=.ok a h')(q:Q a h'):wp m h Q E:=by
 unfold wp;rw[e];exact q
end
def Pre(h h':MH):Prop:=∃t,h'=h++t
section
variable {h h1 h2:MH}{n:Nat}{o:MO}
theorem Pre.refl:Pre h h:=⟨[],by simp⟩
theorem Pre.trans(a:Pre h h1)(b:Pre h1 h2):Pre h h2:=by
 obtain⟨t,rfl⟩:=a;obtain⟨u,rfl⟩:=b;exact⟨t++u,by simp⟩
theorem Pre.app(o:MO):Pre h (h++[o]):=⟨[o],rfl⟩
theorem Pre.snoc(a:Pre h h1)(o:MO):Pre h (h1++[o]):=a.trans (Pre.app o)
theorem bU(e:h[n]?=some o):n<h.length:=(bF.mp e).1
theorem Pre.get(a:Pre h h1)(e:h[n]?=some o):h1[n]?=some o:=by
 obtain⟨t,rfl⟩:=a;rw[fq (bU e)];exact e
theorem Pre.len(a:Pre h h1):h.length≤h1.length:=by
 obtain⟨t,rfl⟩:=a;simp
theorem Pre.set(a:Pre h h1)(hn:h.length≤n):Pre h (h1.set n o):=by
 obtain⟨t,rfl⟩:=a;exact⟨t.set (n-h.length) o,by rw[List.set_append_right _ _ hn]⟩
theorem dW{g:MH}(e:h[n]?=some o):(h++g)[n]?=some o:=by
 rw[fq (bU e)];exact e
theorem cb:(h++[o])[h.length]?=some o:=by simp
theorem fB(e:n<h.length):(h.set n o)[n]?=some o:=by simp[e]
theorem bZ{k:Nat}{o':MO}(e:h[k]?=some o')(ne:n≠k):(h.set n o)[k]?=some o':=by rw[gF ne];exact e
end
theorem bX{p n:Nat}{b:MS}{vs:List MV}{h:MH}{Q:MV->MH->Prop}{E:Nat->MH->Prop}(hl:vs.length=p)(w:wp (b (vs.map some++cr (n - vs.length) none)) h (λf h'=>match f with
   |.next _=>Q .non h'
   |.ret v=>Q v h'
   | _=>False) E):wp (fnOf p n b vs) h Q E:=by
 unfold fnOf;rw[if_pos hl,aM];refine dR w (λf h' q=>?_) λ_ _ z=>z;cases f <;> dsimp only at q ⊢ <;> first|exact q.elim|(rw[bC];exact q)
theorem fE{s:Src}{is:List Nat}{body:MS}{h:MH}{σ:MSt}{Q:MF->MH->Prop}{E:Nat->MH->Prop}{all:List (List MV)}(I:Nat->MSt->MH->Prop)(hok:∀k σ h,I k σ h->s.okIn h=true)
  (turn:∀k x σ h,all[k]? = some x->I k σ h->wp (body (cL is x σ)) h (λf h'=>match f with
   |.next σ'=>I (k+1) σ' h'
   |.cnt σ'=>I (k+1) σ' h'
   |.brk σ'=>Q (.next σ') h'
   | .ret v=>Q (.ret v) h') E) (last:∀σ h,I all.length σ h->Q (.next σ) h) (h0:I 0 σ h):wp (dj s is body all σ) h Q E:=by
 have go:∀(d k:Nat) (σ:MSt) (h:MH),all.length-k=d->k≤all.length->I k σ h->wp (dj s is body (all.drop k) σ) h Q E:=by
  intro d
  induction d with
  |zero=>
    intro k σ h hd hk i;have:k=all.length:=by lia
    subst this;rw[pG];have ok:=hok _ _ _ i;have e:dj s is body [] σ h=.ok (.next σ) h:=by simp[dj,ok]
    exact cN e (last σ h i)
  |succ d ih=>
    intro k σ h hd hk i;have hlt:k<all.length:=by lia
    have ok:=hok _ _ _ i;rw [rW hlt];have e:dj s is body (all[k]::all.drop (k + 1)) σ h=bnd (body (cL is all[k] σ)) (λf=>match f with
     |.next σ'=>dj s is body (all.drop (k+1)) σ'
     |.cnt σ'=>dj s is body (all.drop (k+1)) σ'
     |.brk σ'=>ret (.next σ')
     | .ret v=>ret (.ret v)) h:=by
     conv=>lhs;unfold dj
     rw[if_pos ok]
     try rfl
    rw[tN e,aM];refine dR (turn k all[k] σ h (by simp[hlt]) i) (λf h' q=>?_) λ_ _ z=>z;cases f with
    |next σ'=>exact ih (k+1) σ' h' (by lia) hlt q
    |cnt σ'=>exact ih (k+1) σ' h' (by lia) hlt q
    |brk σ'=>dsimp only at q ⊢;rw[bC];exact q
    |ret v=>dsimp only at q ⊢;rw[bC];exact q
 simpa using go all.length 0 σ h (by lia) (d9 _) h0
theorem Eh{t:ME}{body:MS}{σ:MSt}{h:MH}{Q:MF->MH->Prop}{E:Nat->MH->Prop}(I:Nat->MSt->MH->Prop)
  (turn:∀k σ h,I k σ h->wp (tst t σ) h (λb h'=>if b=true then wp (body σ) h' (λf h''=>match f with
   |.next σ'=>∃j,j<k/\I j σ' h''
   |.cnt σ'=>∃j,j<k/\I j σ' h''
   |.brk σ'=>Q (.next σ') h''
   | .ret v=>Q (.ret v) h'') E else Q (.next σ) h') E) {k:Nat} (hk:k < 1000) (h0:I k σ h):wp (tR t body σ) h Q E:=by
 have go:∀(n k:Nat) (σ:MSt) (h:MH),k<n->I k σ h->wp (jD t body n σ) h Q E:=by
  intro n
  induction n with
  |zero=>intro k σ h hk;lia
  |succ n ih=>
    intro k σ h hk i;rw[show jD t body (n+1) σ=bnd (tst t σ) _ from rfl,aM];refine dR (turn k σ h i) (λb h' q=>?_) λ_ _ z=>z;cases b with
    |false=>
      rw[if_neg bT]at q ⊢;rw[bC];exact q
    |true=>
      rw[if_pos rfl]at q ⊢;rw[aM];refine dR q (λf h'' q=>?_) λ_ _ z=>z;cases f with
      |next σ'=>obtain⟨j,hj,i⟩:=q;exact ih j σ' h'' (by lia) i
      |cnt σ'=>obtain⟨j,hj,i⟩:=q;exact ih j σ' h'' (by lia) i
      |brk σ'=>dsimp only at q ⊢;rw[bC];exact q
      |ret v=>dsimp only at q ⊢;rw[bC];exact q
 exact go 1000 k σ h hk h0
def ff(cond:Option ME)(σ:MSt):M Bool:=match cond with
 |none=>ret true
 |some t=>tst t σ
theorem xk{s:Src}{cond:Option ME}{elt:ME}{σ:MSt}{h:MH}{c:List MV->Bool}{F:List MV->MV->MH->Prop}(hF:∀x v h1 h2,F x v h1->Pre h1 h2->F x v h2)(hok:∀h',Pre h h'->s.okIn h'=true):∀(items:List (List MV)) (h1:MH),Pre h h1 ->
  (∀x∈items,∀h1,Pre h h1->wp (ff cond (σ++x.map some)) h1 (λb h2=>b=c x/\Pre h1 h2) noE) ->
  (∀x∈items,c x=true->∀h1,Pre h h1->wp (elt (σ++x.map some)) h1 (λv h2=>F x v h2/\Pre h1 h2) noE) ->
  wp (cM s cond elt σ items) h1 (λvs h2=>vs.length=(items.filter c).length/\(∀(i:Nat) (x:List MV) (v:MV),(items.filter c)[i]?=some x->vs[i]?=some v->F x v h2)/\Pre h1 h2) noE
 |[],h1,p,_,_=>by
   have e:cM s cond elt σ [] h1=.ok [] h1:=by simp[cM,hok h1 p]
   exact cN e ⟨rfl,λi x v a b=>by simp at a,.refl⟩
 |x::r,h1,p,a1,a2=>by
   have ih:=λh2 p2=>xk hF hok r h2 p2 (λy hy=>a1 y (eY _ hy)) (λy hy=>a2 y (eY _ hy));have e:cM s cond elt σ (x::r) h1=bnd (ff cond (σ++x.map some)) (λk=>if k=true then bnd (elt (σ++x.map some)) λv=>bnd (cM s cond elt σ r) λws=>ret (v::ws) else cM s cond elt σ r) h1:=by
    conv=>lhs;unfold cM
    rw[if_pos (hok h1 p)];cases cond <;> rfl
   rw[tN e,aM];refine dR (a1 x gE h1 p) (λb h2 e0=>e0.elim λeb p2=>?_) λ_ _ z=>z;subst eb;cases hc:c x with
   |true=>
     rw[if_pos rfl,aM];refine dR (a2 x gE hc h2 (p.trans p2)) (λv h3 e0=>e0.elim λfv p3=>?_) λ_ _ z=>z;rw[aM];refine dR (ih h3 ((p.trans p2).trans p3)) (λws h4 e0=>e0.elim λq1 e1=>e1.elim λq2 p4=>?_) λ_ _ z=>z;rw[bC];refine⟨by simp[hc,q1],λi y u ey eu=>?_,(p2.trans p3).trans p4⟩;rw[l6 hc]at ey;cases i with
     |zero=>simp at ey eu;subst ey;subst eu;exact hF _ _ _ _ fv p4
     |succ i=>exact q2 i y u (by simpa using ey) (by simpa using eu)
   |false=>
     rw[if_neg bT];refine dR (ih h2 (p.trans p2)) (λws h4 e0=>e0.elim λq1 e1=>e1.elim λq2 p4=>?_) λ_ _ z=>z;rw[ma (by simp[hc])];exact⟨q1,q2,p2.trans p4⟩
theorem wZ{α:Type}{m:M α}{h:MH}{Q:α->MH->Prop}{E:Nat->MH->Prop}(w:wp m h Q noE):wp (noExc m) h Q E:=by
 obtain⟨a,h',e,q⟩:=jR w;have e2:noExc m h=.ok a h':=by simp only[noExc,e]
 exact cN e2 q
theorem yY{src:MI}{cond:Option ME}{elt:ME}{σ:MSt}{h:MH}{Q:MV->MH->Prop}{E:Nat->MH->Prop}{s:Src}{h1:MH}(c:List MV->Bool)(f:List MV->MV)(hs:src σ h=.ok s h1)(hok:∀h',Pre h1 h'->s.okIn h'=true)(hlen:s.items.length≤100000)
  (a1:∀x∈s.items,∀h2,Pre h1 h2->wp (ff cond (σ++x.map some)) h2 (λb h3=>b=c x/\Pre h2 h3) noE)
  (a2:∀x∈s.items,c x=true->∀h2,Pre h1 h2->wp (elt (σ++x.map some)) h2 (λv h3=>v=f x/\Pre h2 h3) noE)
  (q:∀h2,Pre h1 h2->Q (.ref h2.length) (h2++[.lst ((s.items.filter c).map f)])):wp (dD src cond elt σ) h Q E:=by
 unfold dD;rw[aM];refine cN hs ?_;rw[if_pos hlen,aM];refine wZ (dR (xk (F:=λx v _=>v=f x) (λ_ _ _ _ z _=>z) hok s.items h1 .refl a1 a2) (λvs h2 e0=>e0.elim λq1 e1=>e1.elim λq2 p=>?_) λ_ _ z=>z);rw[jv];have e:vs=(s.items.filter c).map f:=by
  apply iK;intro i;rw[bz];cases ex:(s.items.filter c)[i]? with
  |none=>
    rw[mQ]at ex;rw[Option.map_none,mQ];lia
  |some x=>
    have hi:i<vs.length:=by rw[q1];exact(bF.mp ex).1
    have ev:vs[i]?=some vs[i]:=by simp[hi]
    rw[ev,q2 i x _ ex ev];rfl
 rw[e];exact q h2 p
theorem Ic{e e':ME}{σ:MSt}{h:MH}{i j:Int}{n:Nat}(h1:e σ h=.ok (.int i) h)(h2:e' σ h=.ok (.int j) h)(b1:-1000000≤i/\i≤1000000)(b2:-1000000≤j/\j≤1000000)(hn:(j-i).toNat=n):ig e e' σ h=.ok ⟨dk i n,[]⟩ h:=by
 have q:-(2 ^ 62)≤i/\i<2 ^ 62/\-(2 ^ 62)≤j/\j<2 ^ 62:=by lia
 simp only[ig,bnd,h1,h2];rw[if_pos q,hn];rfl
theorem yf{e:ME}{σ:MSt}{h h':MH}{j:Int}{n:Nat}(h1:e σ h=.ok (.int j) h')(b2:-1000000≤j/\j≤1000000)(hn:j.toNat=n):fF e σ h=.ok ⟨dk 0 n,[]⟩ h':=by
 have q:-(2 ^ 62)≤j/\j<2 ^ 62:=by lia
 simp only[fF,bnd,h1];rw[if_pos q,hn];rfl
theorem iz{e:ME}{σ:MSt}{h h':MH}{n:Nat}{xs:List MV}(h1:e σ h=.ok (.ref n) h')(h2:h'[n]?=some (.lst xs)):dY e σ h=.ok ⟨xs.map λv=>[v],[(n,xs)]⟩ h':=by
 simp only[dY,bnd,h1,look,h2];rfl
theorem AT{e e':ME}{σ:MSt}{h h1 h2:MH}{n k:Nat}{xs ys:List MV}(a1:e σ h=.ok (.ref n) h1)(a2:e' σ h1=.ok (.ref k) h2)(b1:h2[n]?=some (.lst xs))(b2:h2[k]?=some (.lst ys)):ng e e' σ h=.ok ⟨dC xs ys,[(n,xs),(k,ys)]⟩ h2:=by
 simp only[ng,bnd,a1,a2,look,b1,b2];rfl
theorem CT{e e':ME}{σ:MSt}{h h1 h2:MH}{i j:Int}{n:Nat}(a1:e σ h=.ok (.int i) h1)(a2:e' σ h1=.ok (.int j) h2)(b1:-1000000≤i/\i<1000000/\-1000000≤j/\j<1000000)(hn:(i-j).toNat=n):pD e e' σ h=.ok ⟨hX i n,[]⟩ h2:=by
 simp only[pD,bnd,a1,a2];rw[if_pos b1,hn];rfl
theorem C2{lo:Int}{n k:Nat}(h:k<n):(hX lo n)[k]?=some [.int (lo-(k:Nat))]:=by
 unfold hX;rw[bz,hG h];rfl
theorem Ad{lo:Int}{n:Nat}:(hX lo n).length=n:=by simp[hX]
theorem xt{items:List (List MV)}{h:MH}{n k:Nat}{xs ys:List MV}(e:h[n]?=some (.lst xs))(e':h[k]?=some (.lst ys)):(Src.mk items [(n,xs),(k,ys)]).okIn h=true:=by simp[Src.okIn,gH,e,e']
theorem f9{items:List (List MV)}{h:MH}{n:Nat}{xs:List MV}(e:h[n]?=some (.lst xs)):(Src.mk items [(n,xs)]).okIn h=true:=by simp[Src.okIn,gH,e]
theorem uK{lo:Int}{n k:Nat}(h:k<n):(dk lo n)[k]?=some [.int (lo+(k:Nat))]:=by
 unfold dk;rw[bz,hG h];rfl
theorem nI{lo:Int}{n:Nat}:(dk lo n).length=n:=by simp[dk]
theorem E8{lo:Int}{n:Nat}{x:List MV}(h:x∈dk lo n):∃k,k<n/\x=[.int (lo+(k:Nat))]:=by
 unfold dk at h;obtain⟨k,hk,rfl⟩:=dl.mp h;exact⟨k,kQ.mp hk,rfl⟩
theorem nU{α:Type}(xs:List α)(k:Nat):atN xs (k:Int)=xs[k]?:=by
 unfold atN;rw[if_pos (Int.natCast_nonneg k),Int.toNat_natCast]
def cell(ns:List Int)(k:Int):Int:=ns.getD k.toNat 0
section
variable {α β:Type}{h:MH}{E:Nat->MH->Prop}{σ:MSt}
theorem iT{c:Prop}[Decidable c]{p:Prop}:(if c then p else False)=(c/\p):=by
 by_cases q:c <;> simp[q]
theorem dA(n:Nat)(Q:MO->MH->Prop):wp (look n) h Q E=(match h[n]? with
  |some o=>Q o h
  | none=>False):=by
 unfold wp look;cases h[n]? <;> first|rfl|(unfold wp;rfl)
theorem lZ(n:Nat)(o:MO)(Q:Unit->MH->Prop):wp (put n o) h Q E=(n<h.length/\Q () (h.set n o)):=by
 unfold wp put;by_cases e:n<h.length <;> simp[e]
@[simp] theorem aN(i:Nat)(Q:MV->MH->Prop):wp (af i σ) h Q E=(match σ[i]? with
  |some (some v)=>Q v h
  | _=>False):=by
 unfold wp af;cases e:σ[i]? with
 |none=>first|rfl|(unfold wp;rfl)
 |some u=>cases u <;> first|rfl|(unfold wp;rfl)
@[simp] theorem w_c(v:MV)(Q:MV->MH->Prop):wp (eC v σ) h Q E=Q v h:=by unfold wp;rfl
@[simp] theorem cy(f:Op2)(a b:ME)(Q:MV->MH->Prop):wp (aA f a b σ) h Q E=wp (a σ) h (λx h1=>wp (b σ) h1 (λy h2=>wp (f x y) h2 Q E) E) E:=by
 unfold aA;simp only[aM]
@[simp] theorem fM(f:Op1)(a:ME)(Q:MV->MH->Prop):wp (eUn f a σ) h Q E=wp (a σ) h (λx h1=>wp (f x) h1 Q E) E:=by
 unfold eUn;simp only[aM]
theorem BT(g:ME)(Q:Bool->MH->Prop):wp (tst g σ) h Q E=wp (g σ) h (λv h1=>match v with
  |.bl b=>Q b h1
  | _=>False) E:=by
 unfold tst;rw[aM];congr 1;funext v h1;cases v <;> first|rfl|(unfold wp;rfl)
@[simp] theorem fh(g:ME)(Q:Bool->MH->Prop):wp (tst g σ) h Q E=wp (g σ) h (λv h1=>match v with
  |.bl b=>Q b h1
  | _=>False) E:=BT g Q
@[simp] theorem w_not(a:ME)(Q:MV->MH->Prop):wp (jP a σ) h Q E=wp (tst a σ) h (λb h1=>Q (.bl (!b)) h1) E:=by
 unfold jP;simp only[aM,bC]
@[simp] theorem Im(a b:ME)(Q:MV->MH->Prop):wp (iW a b σ) h Q E=wp (tst a σ) h (λc h1=>if c=true then wp (b σ) h1 Q E else Q (.bl false) h1) E:=by
 unfold iW;simp only[aM,cZ,bC]
@[simp] theorem Hs(a b:ME)(Q:MV->MH->Prop):wp (eOr a b σ) h Q E=wp (tst a σ) h (λc h1=>if c=true then Q (.bl true) h1 else wp (b σ) h1 Q E) E:=by
 unfold eOr;simp only[aM,cZ,bC]
@[simp] theorem aR(Q:List MV->MH->Prop):wp (au σ) h Q E=Q [] h:=by unfold wp;rfl
@[simp] theorem ba(e:ME)(r:MA)(Q:List MV->MH->Prop):wp (aj e r σ) h Q E=wp (e σ) h (λx h1=>wp (r σ) h1 (λxs h2=>Q (x::xs) h2) E) E:=by
 unfold aj;simp only[aM,bC]
@[simp] theorem lH(a:MA)(Q:MV->MH->Prop):wp (eE a σ) h Q E=wp (a σ) h (λxs h1=>xs.length≤1000/\Q (.ref h1.length) (h1++[.lst xs])) E:=by
 unfold eE;rw[aM];congr 1;funext xs h1;rw[cZ,jv,cX];by_cases c:xs.length≤1000 <;> simp[c]
@[simp] theorem pZ(a:MA)(Q:MV->MH->Prop):wp (eG a σ) h Q E=wp (a σ) h (λxs h1=>xs.length≤1000/\Q (.tup xs) h1) E:=by
 unfold eG;rw[aM];congr 1;funext xs h1;rw[cZ,bC,cX];by_cases c:xs.length≤1000 <;> simp[c]
@[simp] theorem cu(f:Fn)(a:MA)(Q:MV->MH->Prop):wp (bE f a σ) h Q E=wp (a σ) h (λxs h1=>wp (f xs) h1 Q E) E:=by
 unfold bE;simp only[aM]
@[simp] theorem zV(c:Nat)(f:Fn)(a:MA)(Q:MV->MH->Prop):wp (iS c f a σ) h Q E=wp (a σ) h (λxs h1=>wp (f (.ref h1.length::xs)) (h1++[.ins c []]) (λv h2=>v=.non/\Q (.ref h1.length) h2) E) E:=by
 unfold iS;simp only[aM,jv];congr 1;funext xs h1;congr 1;funext v h2;cases v <;> simp[bC,cX]
@[simp] theorem rq(c:Nat)(mth:String)(f:Fn)(o:ME)(a:MA)(Q:MV->MH->Prop):wp (aL c mth f o a σ) h Q E=wp (o σ) h (λx h1=>match x with
  | .ref n=>(match h1[n]? with
    |some (.ins c' fs)=>c'=c/\fs.lookup mth=none/\wp (a σ) h1 (λxs h2=>wp (f (x::xs)) h2 Q E) E
    | _=>False)
  | _=>False) E:=by
 unfold aL;rw[aM];congr 1;funext x h1;cases x with
 |ref n=>
   dsimp only;rw[aM,dA];cases h1[n]? with
   |none=>first|rfl|(unfold wp;rfl)
   |some ob=>cases ob with
     |ins c' fs=>
       dsimp only;rw[cZ,aM,cX];by_cases q:c'=c <;> by_cases q2:fs.lookup mth=none <;> simp[q,q2]
     |_=>first|rfl|(unfold wp;rfl)
 |_=>first|rfl|(unfold wp;rfl)
@[simp] theorem uJ(o:ME)(cs:List Nat)(f:String)(Q:MV->MH->Prop):wp (aV o cs f σ) h Q E=wp (o σ) h (λx h1=>match x with
  | .ref n=>(match h1[n]? with
    | some (.ins c fs)=>cs.contains c=true/\(match fs.lookup f with
      |some v=>Q v h1
      | none=>False)
    | _=>False)
  | _=>False) E:=by
 unfold aV;rw[aM];congr 1;funext x h1;cases x with
 |ref n=>
   dsimp only;rw[aM,dA];cases h1[n]? with
   |none=>first|rfl|(unfold wp;rfl)
   |some ob=>cases ob with
     |ins c' fs=>
       dsimp only;by_cases q:cs.contains c'=true
       ·rw[if_pos q];cases fs.lookup f <;> simp only[bC,cX,q,true_and,and_false]
       ·rw[if_neg q];simp only[cX,q,false_and,dh]
     |_=>first|rfl|(unfold wp;rfl)
 |_=>first|rfl|(unfold wp;rfl)
@[simp] theorem HD(i j:Int)(Q:MV->MH->Prop):wp (fH (.int i) (.int j)) h Q E=Q (.int (i+j)) h:=by unfold wp;rfl
@[simp] theorem IC(a b:Nat)(Q:MV->MH->Prop):wp (fH (.ref a) (.ref b)) h Q E=(match h[a]?,h[b]? with
  |some (.lst xs),some (.lst ys)=>xs.length+ys.length≤100000/\Q (.ref h.length) (h++[.lst (xs++ys)])
  | _,_=>False):=by
 unfold fH;dsimp only;rw[aM,dA];cases h[a]? with
 |none=>first|rfl|(unfold wp;rfl)
 |some oa=>
   dsimp only;rw[aM,dA];cases h[b]? with
   |none=>cases oa <;> first|rfl|(unfold wp;rfl)
   |some ob=>cases oa <;> cases ob <;> first|rfl|(unfold wp;rfl)|(dsimp only;rw[cZ,jv,cX];rename_i xs ys;by_cases c:xs.length+ys.length≤100000 <;> simp[c])
@[simp] theorem vH(i j:Int)(Q:MV->MH->Prop):wp (iJ (.int i) (.int j)) h Q E=Q (.int (i-j)) h:=by unfold wp;rfl
@[simp] theorem iU(i j:Int)(Q:MV->MH->Prop):wp (d0 (.int i) (.int j)) h Q E=(0<j/\Q (.int (i%j)) h):=by
 unfold d0;dsimp only;rw[cZ,bC,cX];by_cases c:0<j <;> simp[c]
@[simp] theorem Io(i j:Int)(Q:MV->MH->Prop):wp (lJ (.int i) (.int j)) h Q E=((0<j/\j<1073741824)/\Q (.int (i/j)) h):=by
 unfold lJ;dsimp only;rw[cZ,bC,cX];by_cases c:0<j/\j<1073741824 <;> simp[c]
@[simp] theorem zh(i j:Int)(Q:MV->MH->Prop):wp (j5 (.int i) (.int j)) h Q E=((0≤j/\j≤1000000/\i.natAbs<2 ^ 64)/\Q (.int (i ^ j.toNat)) h):=by
 unfold j5;dsimp only;rw[cZ,bC,cX];by_cases c:0≤j/\j≤1000000/\i.natAbs<2 ^ 64 <;> simp[c]
@[simp] theorem xS(i:Int)(Q:MV->MH->Prop):wp (r8 (.int i)) h Q E=Q (.int (-i)) h:=by unfold wp;rfl
@[simp] theorem w_lt(i j:Int)(Q:MV->MH->Prop):wp (oLt (.int i) (.int j)) h Q E=Q (.bl (decide (i<j))) h:=by unfold wp;rfl
@[simp] theorem Gv(i j:Int)(Q:MV->MH->Prop):wp (oGt (.int i) (.int j)) h Q E=Q (.bl (decide (j<i))) h:=by unfold wp;rfl
@[simp] theorem Iv(i j:Int)(Q:MV->MH->Prop):wp (oGe (.int i) (.int j)) h Q E=Q (.bl (decide (j≤i))) h:=by unfold wp;rfl
@[simp] theorem Iq(i:Int)(Q:MV->MH->Prop):wp (qI (.int i)) h Q E=Q (.bl false) h:=by unfold wp;rfl
@[simp] theorem Il(i:Int)(Q:MV->MH->Prop):wp (lN (.int i)) h Q E=Q (.bl true) h:=by unfold wp;rfl
@[simp] theorem Iw(Q:MV->MH->Prop):wp (lN .non) h Q E=Q (.bl false) h:=by unfold wp;rfl
@[simp] theorem EF(i j:Int)(Q:MV->MH->Prop):wp (oEq (.int i) (.int j)) h Q E=Q (.bl (decide (i=j))) h:=by
 unfold oEq;rw[if_pos (show nZ (.int i) (.int j)=true from rfl),bC];by_cases e:i=j <;> simp[e]
@[simp] theorem Ag(i j:Int)(Q:MV->MH->Prop):wp (oNe (.int i) (.int j)) h Q E=Q (.bl (!decide (i=j))) h:=by
 unfold oNe;rw[if_pos (show nZ (.int i) (.int j)=true from rfl),bC];by_cases e:i=j <;> simp[e]
@[simp] theorem mS(a:Nat)(i:Int)(Q:MV->MH->Prop):wp (oIx (.ref a) (.int i)) h Q E=(match h[a]? with
  | some (.lst xs)=>(match atN xs i with
    |some v=>Q v h
    | none=>False)
  | _=>False):=by
 unfold oIx;dsimp only;rw[aM,dA];cases h[a]? with
 |none=>first|rfl|(unfold wp;rfl)
 |some o=>cases o with
   |lst xs=>dsimp only;cases atN xs i <;> first|rfl|(unfold wp;rfl)
   |_=>first|rfl|(unfold wp;rfl)
@[simp] theorem jO(xs:List MV)(i:Int)(Q:MV->MH->Prop):wp (oIx (.tup xs) (.int i)) h Q E=(match atN xs i with
   |some v=>Q v h
   | none=>False):=by
 unfold oIx;dsimp only;cases atN xs i <;> first|rfl|(unfold wp;rfl)
@[simp] theorem lP(a:Nat)(Q:MV->MH->Prop):wp (dz (.ref a)) h Q E=(match h[a]? with
  |some (.lst xs)=>Q (.int xs.length) h
  |some (.dct xs)=>Q (.int xs.length) h
  | _=>False):=by
 unfold dz;dsimp only;rw[aM,dA];cases h[a]? with
 |none=>first|rfl|(unfold wp;rfl)
 |some o=>cases o <;> first|rfl|(unfold wp;rfl)
@[simp] theorem xj(a:Nat)(Q:MV->MH->Prop):wp (jK (.ref a)) h Q E=(match h[a]? with
  |some (.lst xs)=>Q (.ref h.length) (h++[.lst xs])
  | _=>False):=by
 unfold jK;dsimp only;rw[aM,dA];cases h[a]? with
 |none=>first|rfl|(unfold wp;rfl)
 |some o=>cases o <;> first|rfl|(unfold wp;rfl)
@[simp] theorem Ix(neg:Bool)(x:MV)(a:Nat)(Q:MV->MH->Prop):wp (oIn neg x (.ref a)) h Q E=(match h[a]? with
  |some (.lst xs)=>(flat x=true/\xs.all flat=true)/\Q (.bl (if neg then !inM x xs else inM x xs)) h
  | some (.dct kvs)=>(match x with
    |.str k=>Q (.bl (if neg then !(dget k kvs).isSome else(dget k kvs).isSome)) h
    | _=>False)
  | _=>False):=by
 unfold oIn;dsimp only;rw[aM,dA];cases h[a]? with
 |none=>first|rfl|(unfold wp;rfl)
 |some o=>cases o with
   |lst xs=>
     dsimp only;rw[cZ,bC,cX];by_cases c:flat x=true/\xs.all flat=true <;> simp[c]
   |dct kvs=>dsimp only;cases x <;> first|rfl|(unfold wp;rfl)
   |_=>first|rfl|(unfold wp;rfl)
@[simp] theorem HQ(a:Nat)(k:Str)(Q:MV->MH->Prop):wp (oIx (.ref a) (.str k)) h Q E=(match h[a]? with
  | some (.dct kvs)=>(match dget k kvs with
    |some v=>Q v h
    | none=>False)
  | _=>False):=by
 unfold oIx;dsimp only;rw[aM,dA];cases h[a]? with
 |none=>first|rfl|(unfold wp;rfl)
 |some o=>cases o with
   |dct xs=>dsimp only;cases dget k xs <;> first|rfl|(unfold wp;rfl)
   |_=>first|rfl|(unfold wp;rfl)
@[simp] theorem yw(a:Nat)(k:Int)(Q:MV->MH->Prop):wp (j8 (.ref a) (.int k)) h Q E=(match h[a]? with
  |some (.lst xs)=>(-1000000≤k/\k≤1000000/\xs.length*k.toNat≤100000)/\Q (.ref h.length) (h++[.lst (cr k.toNat xs).flatten])
  | _=>False):=by
 unfold j8;dsimp only;rw[aM,dA];cases h[a]? with
 |none=>first|rfl|(unfold wp;rfl)
 |some o=>cases o with
   |lst xs=>dsimp only;rw[cZ,jv,cX,iT]
   |_=>first|rfl|(unfold wp;rfl)
@[simp] theorem CG(i j:Int)(Q:MV->MH->Prop):wp (vf (.int i) (.int j)) h Q E=Q (.int (if j<i then j else i)) h:=by unfold wp;rfl
@[simp] theorem wU(i j:Int)(Q:MV->MH->Prop):wp (l0 (.int i) (.int j)) h Q E=Q (.int (i+j)) h:=by unfold wp;rfl
@[simp] theorem zB(a:Nat)(y:MV)(Q:MV->MH->Prop):wp (oJ (.ref a) y) h Q E=wp (oIx (.ref a) y) h Q E:=rfl
@[simp] theorem qN(Q:MF->MH->Prop):wp (bH σ) h Q E=Q (.next σ) h:=by unfold wp;rfl
theorem bO(a b:MS)(Q:MF->MH->Prop):wp (aB a b σ) h Q E=wp (a σ) h (λf h1=>match f with
  |.next σ'=>wp (b σ') h1 Q E
  | f=>Q f h1) E:=by
 unfold aB;rw[aM];congr 1;funext f h1;cases f <;> first|rfl|(unfold wp;rfl)
@[simp] theorem Iz(a b:MS)(Q:MF->MH->Prop):wp (aB a b σ) h Q E=wp (a σ) h (λf h1=>match f with
  |.next σ'=>wp (b σ') h1 Q E
  | f=>Q f h1) E:=bO a b Q
theorem bu{a b:MS}{Q:MF->MH->Prop}{R:MSt->MH->Prop}(w:wp (a σ) h (λf h1=>∃σ1,f=.next σ1/\R σ1 h1) E)(k:∀σ1 h1,R σ1 h1->wp (b σ1) h1 Q E):wp (aB a b σ) h Q E:=by
 rw[bO];refine dR w (λf h1 e0=>e0.elim λσ1 e1=>e1.elim λe r=>?_) λ_ _ z=>z;subst e;exact k σ1 h1 r
@[simp] theorem cS(e:ME)(Q:MF->MH->Prop):wp (bQ e σ) h Q E=wp (e σ) h (λ_ h1=>Q (.next σ) h1) E:=by
 unfold bQ;simp only[aM,bC]
@[simp] theorem cD(i:Nat)(e:ME)(Q:MF->MH->Prop):wp (bp i e σ) h Q E=wp (e σ) h (λv h1=>Q (.next (σ.set i (some v))) h1) E:=by
 unfold bp;simp only[aM,bC]
@[simp] theorem eI(e:ME)(Q:MF->MH->Prop):wp (bq e σ) h Q E=wp (e σ) h (λv h1=>Q (.ret v) h1) E:=by
 unfold bq;simp only[aM,bC]
@[simp] theorem fV(c:ME)(a b:MS)(Q:MF->MH->Prop):wp (sIf c a b σ) h Q E=wp (tst c σ) h (λk h1=>if k=true then wp (a σ) h1 Q E else wp (b σ) h1 Q E) E:=by
 unfold sIf;simp only[aM,cZ]
@[simp] theorem EA(c:Nat)(a:MA)(Q:MF->MH->Prop):wp (eZ c a σ) h Q E=wp (a σ) h (λxs h1=>xs.length≤1000/\E c h1) E:=by
 unfold eZ;rw[aM];congr 1;funext xs h1;rw[cZ,Ct,cX];by_cases q:xs.length≤1000 <;> simp[q]
@[simp] theorem IA(o:ME)(cs:List Nat)(f:String)(e:ME)(Q:MF->MH->Prop):wp (dq o cs f e σ) h Q E=wp (e σ) h (λv h1=>wp (o σ) h1 (λx h2=>match x with
  | .ref n=>(match h2[n]? with
    |some (.ins c fs)=>(cs.contains c=true/\fs.length<1000)/\n<h2.length/\Q (.next σ) (h2.set n (.ins c (putF f v fs)))
    | _=>False)
  | _=>False) E) E:=by
 unfold dq;rw[aM];congr 1;funext v h1;rw[aM];congr 1;funext x h2;cases x with
 |ref n=>
   dsimp only;rw[aM,dA];cases h2[n]? with
   |none=>first|rfl|(unfold wp;rfl)
   |some ob=>cases ob with
     |ins c fs=>
       dsimp only;rw[cZ,aM,lZ,cX];simp only[bC,iT]
     |_=>first|rfl|(unfold wp;rfl)
 |_=>first|rfl|(unfold wp;rfl)
@[simp] theorem ss(o i e:ME)(Q:MF->MH->Prop):wp (fU o i e σ) h Q E=wp (e σ) h (λv h1=>wp (o σ) h1 (λx h2=>wp (i σ) h2 (λy h3=>wp (ib x y v) h3 (λ_ h4=>Q (.next σ) h4) E) E) E) E:=by
 unfold fU;simp only[aM,bC]
@[simp] theorem lF(n:Nat)(k:Int)(v:MV)(Q:Unit->MH->Prop):wp (ib (.ref n) (.int k) v) h Q E=(match h[n]? with
  | some (.lst xs)=>(match ixN xs.length k with
    |some j=>n<h.length/\Q () (h.set n (.lst (xs.set j v)))
    | none=>False)
  | _=>False):=by
 unfold ib;dsimp only;rw[aM,dA];cases h[n]? with
 |none=>first|rfl|(unfold wp;rfl)
 |some ob=>cases ob with
   |lst xs=>
     dsimp only;cases ixN xs.length k with
     |none=>first|rfl|(unfold wp;rfl)
     |some j=>dsimp only;rw[lZ]
   |_=>first|rfl|(unfold wp;rfl)
@[simp] theorem Ik(n:Nat)(k:Str)(v:MV)(Q:Unit->MH->Prop):wp (ib (.ref n) (.str k) v) h Q E=(match h[n]? with
  |some (.dct kvs)=>kvs.length<1000/\n<h.length/\Q () (h.set n (.dct (dput k v kvs)))
  | _=>False):=by
 unfold ib;dsimp only;rw[aM,dA];cases h[n]? with
 |none=>first|rfl|(unfold wp;rfl)
 |some ob=>cases ob with
   |dct xs=>dsimp only;rw[cZ,lZ,cX,iT]
   |_=>first|rfl|(unfold wp;rfl)
@[simp] theorem yH(f:Op2)(o i e:ME)(Q:MF->MH->Prop):wp (l7 f o i e σ) h Q E=wp (o σ) h (λx h1=>wp (i σ) h1 (λy h2=>wp (oJ x y) h2 (λu h3=>wp (e σ) h3 (λv h4=>wp (f u v) h4 (λz h5=>wp (ib x y z) h5 (λ_ h6=>Q (.next σ) h6) E) E) E) E) E) E:=by
 unfold l7;simp only[aM,bC]
@[simp] theorem zH(f2:Op2)(o:ME)(cs:List Nat)(f:String)(e:ME)(Q:MF->MH->Prop):wp (lY f2 o cs f e σ) h Q E=wp (o σ) h (λx h1=>match x with
  | .ref n=>(match h1[n]? with
    | some (.ins c fs)=>cs.contains c=true/\(match fs.lookup f with
      | some u=>wp (e σ) h1 (λv h2=>wp (f2 u v) h2 (λz h3=>match h3[n]? with
        |some (.ins c' fs')=>(c'=c/\fs'.length<1000)/\n<h3.length/\Q (.next σ) (h3.set n (.ins c' (putF f z fs')))
        | _=>False) E) E
      | none=>False)
    | _=>False)
  | _=>False) E:=by
 unfold lY;rw[aM];congr 1;funext x h1;cases x with
 |ref n=>
   dsimp only;rw[aM,dA];cases h1[n]? with
   |none=>first|rfl|(unfold wp;rfl)
   |some ob=>cases ob with
     |ins c fs=>
       dsimp only;by_cases q:cs.contains c=true
       ·rw[if_pos q];simp only[q,true_and];cases fs.lookup f with
        |none=>first|rfl|(unfold wp;rfl)
        |some u=>
          dsimp only;rw[aM];congr 1;funext v h2;rw[aM];congr 1;funext z h3;rw[aM,dA];cases h3[n]? with
          |none=>first|rfl|(unfold wp;rfl)
          |some ob=>cases ob with
            |ins c' fs'=>
              dsimp only;rw[cZ,aM,lZ,cX];simp only[bC,iT]
            |_=>first|rfl|(unfold wp;rfl)
       ·rw[if_neg q];simp only[cX,q,false_and,dh]
     |_=>first|rfl|(unfold wp;rfl)
 |_=>first|rfl|(unfold wp;rfl)
@[simp] theorem BD(Q:MV->MH->Prop):wp (iX σ) h Q E=Q (.ref h.length) (h++[.dct []]):=by unfold wp;rfl
@[simp] theorem uQ(o e:ME)(Q:MV->MH->Prop):wp (ja o e σ) h Q E=wp (o σ) h (λx h1=>match x with
  | .ref n=>(match h1[n]? with
    | some (.lst _)=>wp (e σ) h1 (λv h2=>match h2[n]? with
      |some (.lst xs)=>xs.length<100000/\n<h2.length/\Q .non (h2.set n (.lst (xs++[v])))
      | _=>False) E
    | _=>False)
  | _=>False) E:=by
 unfold ja;rw[aM];congr 1;funext x h1;cases x with
 |ref n=>
   dsimp only;rw[aM,dA];cases h1[n]? with
   |none=>first|rfl|(unfold wp;rfl)
   |some ob=>cases ob with
     |lst ys=>
       dsimp only;rw[aM];congr 1;funext v h2;unfold xy;dsimp only;rw[aM,dA];cases h2[n]? with
       |none=>first|rfl|(unfold wp;rfl)
       |some ob=>cases ob with
         |lst xs=>
           dsimp only;rw[cZ,aM,lZ,cX];by_cases q:xs.length<100000 <;> simp[q,bC]
         |_=>first|rfl|(unfold wp;rfl)
     |_=>first|rfl|(unfold wp;rfl)
 |_=>first|rfl|(unfold wp;rfl)
theorem Co{α:Type}{m:M α}{Q:α->MH->Prop}:wp (noExc m) h Q E=wp m h Q noE:=by
 unfold wp noExc;cases m h <;> first|rfl|(unfold wp;rfl)
@[simp] theorem Gy(al:List Nat)(body:MS)(hs:List Hd)(Q:MF->MH->Prop):wp (lR al body hs σ) h Q E=wp (body σ) h Q (λc h1=>al.contains c=true/\wp (il c σ hs) h1 Q E):=by
 unfold wp lR;cases body σ h with
 |ok f h'=>rfl
 |exc c h'=>
   dsimp only;by_cases q:al.contains c=true
   ·rw[if_pos q];simp only[q,true_and]
   ·rw[if_neg q];simp only[q,false_and,dh]
 |stuck=>rfl
@[simp] theorem Ii(c i:Nat)(cs:List Nat)(b:MS)(r:List Hd)(Q:MF->MH->Prop):wp (il c σ (⟨cs,some i,b⟩::r)) h Q E=if cs.contains c=true then wp (b (σ.set i (some (.ref h.length)))) (h++[.exn c]) (λf h1=>Q (vL i f) h1) noE else wp (il c σ r) h Q E:=by
 conv=>lhs;unfold il
 by_cases q:cs.contains c=true
 ·rw[if_pos q,if_pos q];dsimp only;rw[aM,jv,aM,Co];simp only[bC]
 ·rw[if_neg q,if_neg q]
@[simp] theorem Ih(al cs:List Nat)(n:Nat)(Q:MV->MH->Prop):wp (kR (.exn al cs) (.ref n)) h Q E=(match h[n]? with
  |some (.exn c)=>al.contains c=true/\Q (.bl (cs.contains c)) h
  | _=>False):=by
 unfold kR;rw[aM,dA];cases h[n]? with
 |none=>first|rfl|(unfold wp;rfl)
 |some o=>cases o with
   |exn c=>
     dsimp only;rw[cZ,bC,cX,iT]
   |_=>first|rfl|(unfold wp;rfl)
@[simp] theorem gJ(is:List Nat)(src:MI)(body:MS)(Q:MF->MH->Prop):wp (eP is src body σ) h Q E=wp (src σ) h (λs h1=>wp (dj s is body s.items σ) h1 Q E) E:=by
 unfold eP;simp only[aM]
@[simp] theorem Hc(e:ME)(Q:Src->MH->Prop):wp (fF e σ) h Q E=wp (e σ) h (λx h1=>match x with
  |.int j=>(-(2 ^ 62)≤j/\j<2 ^ 62)/\Q ⟨dk 0 j.toNat,[]⟩ h1
  | _=>False) E:=by
 unfold fF;rw[aM];congr 1;funext x h1;cases x with
 |int j=>
   dsimp only;rw[cZ,bC,cX];by_cases q:-(2 ^ 62)≤j/\j<2 ^ 62
   ·rw[if_pos q];simp only[q,true_and,and_self]
   ·rw[if_neg q];simp only[q,false_and]
 |_=>first|rfl|(unfold wp;rfl)
@[simp] theorem Ij(e e':ME)(Q:Src->MH->Prop):wp (ig e e' σ) h Q E=wp (e σ) h (λx h1=>wp (e' σ) h1 (λy h2=>match x,y with
  |.int i,.int j=>(-(2 ^ 62)≤i/\i<2 ^ 62/\-(2 ^ 62)≤j/\j<2 ^ 62)/\Q ⟨dk i (j-i).toNat,[]⟩ h2
  | _,_=>False) E) E:=by
 unfold ig;rw[aM];congr 1;funext x h1;rw[aM];congr 1;funext y h2;cases x <;> cases y <;> first|rfl|(unfold wp;rfl)|(dsimp only;rw[cZ,bC,cX,iT])
end
open PySem in
mutual
theorem wc:∀(d:PyData),d.canLay0=true->PyData.eqv d d=true
 |.none,_=>by simp[PyData.eqv]
 |.bool b,_=>by simp[PyData.eqv]
 |.int b,_=>by simp[PyData.eqv]
 |.str b,_=>by simp[PyData.eqv]
 |.list xs,h=>by
   simp only[PyData.eqv];exact eqvAll_refl xs (by simpa[PyData.canLay0] using h)
 |.tuple xs,h=>by
   simp only[PyData.eqv];exact eqvAll_refl xs (by simpa[PyData.canLay0] using h)
 |.dict _,h=>by simp[PyData.canLay0]at h
theorem eqvAll_refl:∀(ds:List PyData),PyData.canLayAll0 ds=true->PyData.eqvAll ds ds=true
 |[],_=>by simp[PyData.eqvAll]
 |d::ds,h=>by
   simp only[PyData.canLayAll0,d8]at h;simp only[PyData.eqvAll,d8];exact⟨wc d h.1,eqvAll_refl ds h.2⟩
end
section
variable {h:MH}{E:Nat->MH->Prop}{Q:MV->MH->Prop}{x y:MV}{d:PySem.PyData}
theorem D4(h1:dat h 6 x=some d)(h2:dat h 6 y=some d)(sh:PySem.SeqAt.shaped d=true):kn x y h=.ok true h:=by
 unfold kn;rw[h1,h2];dsimp only;rw[if_pos ⟨sh,sh⟩,wc d (PySem.SeqAt.canLay_of_shaped sh)]
theorem wS(h1:dat h 6 x=some d)(h2:dat h 6 y=some d)(sh:PySem.SeqAt.shaped d=true)(ns:nZ x y=false)(q:Q (.bl false) h):wp (oNe x y) h Q E:=by
 unfold oNe;rw[if_neg (by rw[ns];exact bT),aM];exact cN (D4 h1 h2 sh) (by rw[bC];exact q)
end
def kK:MV->PySem.PyData
 |.int i=>.int i
 |.str s=>.str s
 |.bl b=>.bool b
 |_=>.none
theorem yD{h:MH}{n:Nat}:∀{xs:List MV},xs.all flat=true->gB (dat h n) xs=some (xs.map kK)
 |[],_=>rfl
 |x::r,f=>by
   simp only[iR,d8]at f;have e:dat h n x=some (kK x):=by
    cases x <;> first|(exact absurd f.1 bT)|(cases n <;> rfl)
   unfold gB;rw[e,yD f.2];rfl
theorem AD{h:MH}{a n:Nat}{xs:List MV}(e:h[a]?=some (.lst xs))(f:xs.all flat=true):dat h (n+1) (.ref a)=some (.list (xs.map kK)):=by
 unfold dat;rw[e];dsimp only;rw[yD f]
def jM:MV->Bool
 |.int _=>true
 |.non=>true
 |.bl _=>true
 |_=>false
theorem zf{xs:List MV}(f:xs.all jM=true):xs.all flat=true:=by
 rw[rM]at f ⊢;intro x hx;have:=f x hx;cases x <;> first|rfl|exact this
theorem xV:∀{xs:List MV},xs.all jM=true->PySem.PyData.canLayAll0 (xs.map kK)=true
 |[],_=>rfl
 |x::r,f=>by
   simp only[iR,d8]at f;simp only[bS,PySem.PyData.canLayAll0,d8];refine⟨?_,xV f.2⟩;cases x <;> first|rfl|exact absurd f.1 bT
theorem xK:∀{xs:List MV},xs.all jM=true->PySem.PyData.depthAll (xs.map kK)=0
 |[],_=>rfl
 |x::r,f=>by
   simp only[iR,d8]at f;simp only[bS,PySem.PyData.depthAll,xK f.2];cases x <;> first|rfl|exact absurd f.1 bT
theorem Fx{xs:List MV}(f:xs.all jM=true):PySem.SeqAt.shaped (.list (xs.map kK))=true:=by
 simp[PySem.SeqAt.shaped,PySem.PyData.canLay0,xV f,PySem.PyData.depth,xK f]
theorem G6{h:MH}{E:Nat->MH->Prop}{Q:MV->MH->Prop}{a b:Nat}{xs:List MV}(h1:h[a]?=some (.lst xs))(h2:h[b]?=some (.lst xs))(f:xs.all jM=true)(q:Q (.bl false) h):wp (oNe (.ref a) (.ref b)) h Q E:=
 wS (AD h1 (zf f)) (AD h2 (zf f)) (Fx f) rfl q
def zs(l:List Int):List MV:=l.map .int
def tab(n:Nat)(f:Nat->Int):List MV:=(cz n).map λk=>.int (f k)
theorem eL(n:Nat)(f:Nat->Int):(tab n f).length=n:=by simp[tab]
theorem i8{n:Nat}{f:Nat->Int}{k:Nat}(h:k<n):(tab n f)[k]?=some (.int (f k)):=by
 unfold tab;rw[bz,hG h];rfl
theorem oh{n:Nat}{f:Nat->Int}{k:Nat}(h:k<n):atN (tab n f) (k:Int)=some (.int (f k)):=by rw[nU,i8 h]
theorem HC{n:Nat}{f:Nat->Int}{k:Nat}(h:n≤k):(tab n f)[k]?=none:=by
 rw[mQ,eL];exact h
theorem rP{n:Nat}{f g:Nat->Int}(h:∀k,k<n->f k=g k):tab n f=tab n g:=by
 unfold tab;refine iB λk hk=>?_;rw[h k (kQ.mp hk)]
theorem wv{n:Nat}{f:Nat->Int}{k:Nat}{v:Int}:(tab n f).set k (.int v)=tab n (λi=>if i=k then v else f i):=by
 apply iK;intro i;by_cases hi:i<n
 ·rw[i8 hi];by_cases e:k=i
  ·subst e;rw[fZ (by rw[eL];exact hi),if_pos rfl]
  ·rw[gF e,i8 hi,if_neg (λz=>e z.symm)]
 ·rw[HC (by lia)];rw[mQ,uq,eL];lia
theorem sO(n:Nat)(f:Nat->Int):tab n f++[.int (f n)]=tab (n+1) f:=by
 unfold tab;rw[List.range_succ,jc];rfl
theorem G0(n:Nat)(f:Nat->Int):(tab n f).all jM=true:=by simp[tab,jM]
theorem oF{n k:Nat}(h:k<n):ixN n (k:Int)=some k:=by
 have:(k:Int)<(n:Int):=by lia
 simp only[ixN];rw[if_pos (by lia),if_pos this];simp
theorem uo:∀(n:Nat) (f g:Nat->Int),dC (tab n f) (tab n g)=(cz n).map λk=>[.int (f k),.int (g k)]:=by
 intro n f g;have go:∀l:List Nat,dC (l.map λk=>.int (f k)) (l.map λk=>.int (g k))=l.map λk=>[MV.int (f k),MV.int (g k)]:=by
  intro l
  induction l with
  |nil=>rfl
  |cons k l ih=>simp only[bS,dC,ih]
 exact go _
def eF:Nat->(Nat->Int)->Int
 |0,_=>0
 |n+1,f=>eF n f+f n
theorem mX:∀{n:Nat}{f g:Nat->Int},(∀k,k<n->f k=g k)->eF n f=eF n g
 |0,_,_,_=>rfl
 |n+1,f,g,h=>by
   simp only[eF];rw[mX (n:=n) λk hk=>h k (by lia),h n (by lia)]
theorem Au:∀(n:Nat) (f g:Nat->Int),eF n (λk=>f k+g k)=eF n f+eF n g
 |0,_,_=>rfl
 |n+1,f,g=>by
   simp only[eF,Au n f g];lia
theorem vn:∀{n:Nat}{f:Nat->Int},(∀k,k<n->f k=0)->eF n f=0
 |0,_,_=>rfl
 |n+1,f,h=>by
   simp only[eF,vn (n:=n) λk hk=>h k (by lia),h n (by lia)]
   lia
theorem GL{n p:Nat}{f:Nat->Int}(hp:p<n):eF n (λq=>if q=p then f q else 0)=f p:=by
 induction n with
 |zero=>lia
 |succ n ih=>
   simp only[eF];by_cases e:n=p
   ·subst e;rw[if_pos rfl,vn]
    ·lia
    ·intro k hk;rw[if_neg (by lia)]
   ·rw[if_neg e,ih (by lia)]
    lia
end L2.Rv
namespace L2.Rv
open PySem (Str)
section
variable {α β:Type}{h:MH}{E:Nat->MH->Prop}{σ:MSt}
@[simp] theorem tU(Q:Option Int->MH->Prop):wp (part none σ) h Q E=Q none h:=by unfold wp;rfl
@[simp] theorem tI(g:ME)(Q:Option Int->MH->Prop):wp (part (some g) σ) h Q E=wp (g σ) h (λv h1=>match v with
  |.int i=>Q (some i) h1
  | _=>False) E:=by
 unfold part;dsimp only;rw[aM];congr 1;funext v h1;cases v <;> first|rfl|(unfold wp;rfl)
@[simp] theorem t8(a:ME)(lo hi:Option ME)(Q:MV->MH->Prop):wp (eSl a lo hi σ) h Q E=wp (a σ) h (λx h1=>wp (part lo σ) h1 (λl h2=>wp (part hi σ) h2 (λu h3=>wp (j6 x l u) h3 Q E) E) E) E:=by
 unfold eSl;simp only[aM]
@[simp] theorem sX(xs:List MV)(lo hi:Option Int)(Q:MV->MH->Prop):wp (j6 (.tup xs) lo hi) h Q E=(¬(dM xs.length 0 lo=0/\dM xs.length xs.length hi=xs.length)/\Q (.tup (kW xs lo hi)) h):=by
 unfold j6;dsimp only;rw[cZ,bC,cX];by_cases c:dM xs.length 0 lo=0/\dM xs.length xs.length hi=xs.length <;> simp[c]
@[simp] theorem Ir(o k x:ME)(Q:MV->MH->Prop):wp (jZ o k x σ) h Q E=wp (o σ) h (λd h1=>match d with
  | .ref n=>(match h1[n]? with
    | some (.dct _)=>wp (k σ) h1 (λy h2=>wp (x σ) h2 (λz h3=>match y with
      | .str s=>(match h3[n]? with
        |some (.dct kvs)=>Q ((dget s kvs).getD z) h3
        | _=>False)
      | _=>False) E) E
    | _=>False)
  | _=>False) E:=by
 unfold jZ;rw[aM];congr 1;funext x h1;cases x with
 |ref n=>
   dsimp only;rw[aM,dA];cases h1[n]? with
   |none=>first|rfl|(unfold wp;rfl)
   |some ob=>cases ob with
     |dct ys=>
       dsimp only;rw[aM];congr 1;funext y h2;rw[aM];congr 1;funext z h3;cases y with
       |str s=>
         dsimp only;rw[aM,dA];cases h3[n]? with
         |none=>first|rfl|(unfold wp;rfl)
         |some ob=>cases ob <;> first|rfl|(unfold wp;rfl)
       |_=>first|rfl|(unfold wp;rfl)
     |_=>first|rfl|(unfold wp;rfl)
 |_=>first|rfl|(unfold wp;rfl)
@[simp] theorem Iy(s:Str)(Q:Option Str->MH->Prop):wp (iM (.lit s) σ) h Q E=(s.length≤1000/\Q (some s) h):=by
 unfold iM;rw[cZ,bC,cX];by_cases c:s.length≤1000 <;> simp[c]
@[simp] theorem Iu(e:ME)(Q:Option Str->MH->Prop):wp (iM (.rp e) σ) h Q E=wp (e σ) h (λv h1=>match v with
  |.str s=>kh s=true/\Q none h1
  | _=>False) E:=by
 unfold iM;rw[aM];congr 1;funext v h1;cases v <;> first|rfl|(unfold wp;rfl)|(dsimp only;rw[cZ,bC,cX,iT])
@[simp] theorem Ip(Q:List (Option Str)->MH->Prop):wp (fX [] σ) h Q E=Q [] h:=by unfold wp;rfl
@[simp] theorem IB(p:FP)(r:List FP)(Q:List (Option Str)->MH->Prop):wp (fX (p::r) σ) h Q E=wp (iM p σ) h (λx h1=>wp (fX r σ) h1 (λxs h2=>Q (x::xs) h2) E) E:=by
 conv=>lhs;unfold fX
 simp only[aM,bC]
@[simp] theorem Ig(ps:List FP)(Q:MV->MH->Prop):wp (iC ps σ) h Q E=(ps.length≤100/\wp (fX ps σ) h (λxs h1=>Q (match jm PySem.Str.empty xs with
  |some s=>.str s
  | none=>.any) h1) E):=by
 unfold iC;rw[cZ,aM,cX,iT];simp only[bC] <;> rfl
end
def Off(S:List Nat)(h h':MH):Prop:=(∀n o,n∉S->h[n]?=some o->h'[n]?=some o)/\h.length≤h'.length
theorem Pre.off{h h':MH}{S:List Nat}(p:Pre h h'):Off S h h':=⟨λ_ _ _ e=>p.get e,p.len⟩
theorem Off.trans{S:List Nat}{h h1 h2:MH}(a:Off S h h1)(b:Off S h1 h2):Off S h h2:=⟨λn o ns e=>b.1 n o ns (a.1 n o ns e),cF a.2 b.2⟩
theorem Off.mono{S S':List Nat}{h h1:MH}(a:Off S h h1)(s:∀n∈S,n∈S'):Off S' h h1:=⟨λn o ns e=>a.1 n o (λz=>ns (s n z)) e,a.2⟩
theorem Off.refl{S:List Nat}{h:MH}:Off S h h:=⟨λ_ _ _ e=>e,aY _⟩
theorem Off.set{h:MH}{n:Nat}{o:MO}:Off [n] h (h.set n o):=⟨λk _ hk e=>bZ e (λz=>hk (by simp[z])),by simp⟩
theorem Off.get{S:List Nat}{h h':MH}{n:Nat}{o:MO}(a:Off S h h')(e:h[n]?=some o)(hn:n∉S):h'[n]?=some o:=a.1 n o hn e
theorem tE:∀(a b:List Nat),a≠b->a<b∨b<a
 |[],[],h=>absurd rfl h
 |[],_::_,_=>.inl (by simp)
 |_::_,[],_=>.inr (by simp)
 |x::a,y::b,h=>by
   rcases Nat.lt_trichotomy x y with z|z|z
   ·exact .inl (sv.mpr (.inl z))
   ·subst z;have:a≠b:=λe=>h (by rw[e]);rcases tE a b this with w|w
    ·exact .inl (sv.mpr (.inr ⟨rfl,w⟩))
    ·exact .inr (sv.mpr (.inr ⟨rfl,w⟩))
   ·exact .inr (sv.mpr (.inl z))
theorem zY{a b:Str}(h:a.cps.toList=b.cps.toList):a=b:=by
 obtain⟨⟨a⟩⟩:=a;obtain⟨⟨b⟩⟩:=b;simp at h;rw[h]
structure Rt where
 nm:Str
 pt:Nat
 am:Int
 dt:Int
instance:Inhabited Rt:=⟨⟨PySem.Str.empty,0,0,0⟩⟩
def Rt.val(r:Rt):MV:=.tup [.int r.pt,.int r.am,.int r.dt]
def Rt.key(r:Rt):List MKey:=[.inl r.dt,.inr r.nm]
def Rt.lt(a b:Rt):Bool:=decide (a.dt<b.dt∨(a.dt=b.dt/\a.nm.cps.toList<b.nm.cps.toList))
theorem Rt.lt_iff{a b:Rt}:a.lt b=true↔a.dt<b.dt∨(a.dt=b.dt/\a.nm.cps.toList<b.nm.cps.toList):=by simp[Rt.lt]
theorem Rt.lt_tr{a b c:Rt}(h1:a.lt b=true)(h2:b.lt c=true):a.lt c=true:=by
 rw[Rt.lt_iff]at *;rcases h1 with h1|⟨h1,h1'⟩ <;> rcases h2 with h2|⟨h2,h2'⟩
 ·exact .inl (by lia)
 ·exact .inl (by lia)
 ·exact .inl (by lia)
 ·exact .inr ⟨by lia,List.lt_trans h1' h2'⟩
theorem Rt.lt_asy{a b:Rt}(h1:a.lt b=true):b.lt a=false:=by
 rw[Rt.lt_iff]at h1;have:¬(b.dt<a.dt∨(b.dt=a.dt/\b.nm.cps.toList<a.nm.cps.toList)):=by
  rcases h1 with h1|⟨h1,h1'⟩
  ·lia
  ·rintro(h|⟨_,h⟩)
   ·lia
   ·exact List.lt_asymm h1' h
 simpa[Rt.lt] using this
theorem Rt.lt_tot{a b:Rt}(hn:a.nm≠b.nm)(h:a.lt b=false):b.lt a=true:=by
 have h':¬(a.dt<b.dt∨(a.dt=b.dt/\a.nm.cps.toList<b.nm.cps.toList)):=λz=>by
  rw[(Rt.lt_iff).mpr z]at h;cases h
 rw[Rt.lt_iff];by_cases e:a.dt=b.dt
 ·refine .inr ⟨e.symm,?_⟩;rcases tE a.nm.cps.toList b.nm.cps.toList (λz=>hn (zY z)) with z|z
  ·exact absurd (.inr ⟨e,z⟩) h'
  ·exact z
 ·refine .inl ?_;have:¬a.dt<b.dt:=λz=>h' (.inl z);lia
theorem HY{a b:Rt}(hn:a.nm≠b.nm):ltK a.key b.key=some (a.lt b):=by
 unfold Rt.key;by_cases e:a.dt=b.dt
 ·simp only[ltK,e,if_true];have:¬((Sum.inr a.nm:MKey)=Sum.inr b.nm):=λz=>hn (by injection z);rw[if_neg this];simp[Rt.lt,e]
 ·have:¬((Sum.inl a.dt:MKey)=Sum.inl b.dt):=λz=>e (by injection z);simp only[ltK];rw[if_neg this];simp[Rt.lt,e]
def Names(rs:List Rt):Prop:=(rs.map (·.nm)).Nodup
theorem Names.get{rs:List Rt}(n:Names rs){i j:Nat}{a b:Rt}(hi:rs[i]?=some a)(hj:rs[j]?=some b)(hne:i≠j):a.nm≠b.nm:=by
 intro z;have e1:(rs.map (·.nm))[i]?=some a.nm:=by simp[hi]
 have e2:(rs.map (·.nm))[j]?=some a.nm:=by simp[hj,z]
 obtain⟨l1,g1⟩:=bF.mp e1;obtain⟨l2,g2⟩:=bF.mp e2;have pw:=qC.mp n;rcases uw hne with q|q
 ·exact pw i j l1 l2 q (g1.trans g2.symm)
 ·exact pw j i l2 l1 q (g2.trans g1.symm)
def gQ(rs:List Rt):List Nat:=(cW (rs.map Rt.key)).getD []
def aged(rs:List Rt):List Rt:=(gQ rs).map λi=>rs.getD i default
theorem uz{rs:List Rt}(n:Names rs)(h64:rs.length<64):cW (rs.map Rt.key)=some (gQ rs)/\(gQ rs).Perm (cz rs.length)/\∀i j,i<j->j<rs.length->∀a b,(aged rs)[i]?=some a->(aged rs)[j]?=some b->a.lt b=true:=by
 by_cases h2:rs.length<2
 ·have e:cW (rs.map Rt.key)=some (cz rs.length):=by
   unfold cW;rw[if_pos (by simpa using h2)];simp
  have e2:gQ rs=cz rs.length:=by unfold gQ;rw[e];rfl
  refine⟨by rw[e,e2],by rw[e2],λi j hij hj=>by lia⟩
 ·let lt:Nat->Nat->Bool:=λi j=>(rs.getD i default).lt (rs.getD j default)
  have gd:∀i,i<rs.length->rs[i]?=some (rs.getD i default):=λi hi=>by simp[hi]
  have O:SOrd (ie (rs.map Rt.key)) lt rs.length:=by
   refine⟨λi j hi hj hne=>?_,λi j hi hj hne h=>?_,λi j hi hj h=>?_,λi j k hi hj hk h1 h2=>?_⟩
   ·have hn:=n.get (gd i hi) (gd j hj) hne;unfold ie;rw[bz,bz,gd i hi,gd j hj];simp only[sI];rw[if_neg,HY hn];intro z;unfold Rt.key at z;injection z with _ z;injection z with z _;injection z with z;exact hn z
   ·exact Rt.lt_tot (n.get (gd i hi) (gd j hj) hne) h
   ·exact Rt.lt_asy h
   ·exact Rt.lt_tr h1 h2
  obtain⟨p,q1,q2,q3⟩:=wJ O (by lia);have e:cW (rs.map Rt.key)=some p.toList:=by
   unfold cW;rw[if_neg (by simpa using h2),if_pos (by simpa using h64),cY,q1]
  have e2:gQ rs=p.toList:=by unfold gQ;rw[e];rfl
  refine⟨by rw[e,e2],by rw[e2];exact q2.list,λi j hij hj a b ha hb=>?_⟩;have hs:=q2.size;have u:=q3 i j hij hj;unfold aged at ha hb;rw[e2,bz]at ha hb;have pi:p.toList[i]?=some (p.getD i 0):=by simp[show i<p.size by lia]
  have pj:p.toList[j]?=some (p.getD j 0):=by simp[show j<p.size by lia]
  rw[pi]at ha;rw[pj]at hb;cases ha;cases hb;exact u
theorem jp{rs:List Rt}(n:Names rs)(h64:rs.length<64):(aged rs).Perm rs:=by
 obtain⟨_,p,_⟩:=uz n h64;have q:=p.map λi=>rs.getD i default;have e:(cz rs.length).map (λi=>rs.getD i default)=rs:=by
  apply iK;intro i;rw[bz];by_cases h:i<rs.length
  ·rw[hG h];simp[h]
  ·simp[kg h]
 rw[e]at q;exact q
theorem kM{rs:List Rt}(n:Names rs)(h64:rs.length<64):(aged rs).length=rs.length:=(jp n h64).length_eq
theorem BX{rs:List Rt}(n:Names rs)(h64:rs.length<64){i:Nat}(h:i∈gQ rs):i<rs.length:=by
 obtain⟨_,p,_⟩:=uz n h64;exact kQ.mp (p.mem_iff.mp h)
theorem Bj{rs:List Rt}(n:Names rs)(h64:rs.length<64)(f:Rt->MV):pick (rs.map f) (gQ rs)=(aged rs).map f:=by
 unfold pick aged;rw[dG];refine iB λi hi=>?_;have:=BX n h64 hi;simp[this]
section
variable {α:Type}{h:MH}{E:Nat->MH->Prop}{Q:MV->MH->Prop}{f:α->MV}{g:α->PySem.PyData}
end
section
variable {α:Type}
theorem xD{s:Src}{cond:Option ME}{elt:ME}{σ:MSt}{h:MH}{iv:α->List MV}{c:α->Bool}{f:α->MV}(hok:∀h',Pre h h'->s.okIn h'=true):∀(l:List α) (h1:MH),Pre h h1 ->
  (∀x∈l,∀h1,Pre h h1->wp (ff cond (σ++(iv x).map some)) h1 (λb h2=>b=c x/\Pre h1 h2) noE) ->
  (∀x∈l,c x=true->∀h1,Pre h h1->wp (elt (σ++(iv x).map some)) h1 (λv h2=>v=f x/\Pre h1 h2) noE) ->
  wp (cM s cond elt σ (l.map iv)) h1 (λvs h2=>vs=(l.filter c).map f/\Pre h1 h2) noE
 |[],h1,p,_,_=>by
   have e:cM s cond elt σ [] h1=.ok [] h1:=by simp[cM,hok h1 p]
   exact cN e ⟨rfl,.refl⟩
 |x::r,h1,p,a1,a2=>by
   have ih:=λh2 p2=>xD (iv:=iv) (c:=c) (f:=f) hok r h2 p2 (λy hy=>a1 y (eY _ hy)) (λy hy=>a2 y (eY _ hy));rw[bS];have e:cM s cond elt σ (iv x::r.map iv) h1=bnd (ff cond (σ++(iv x).map some)) (λk=>if k=true then bnd (elt (σ++(iv x).map some)) λv=>bnd (cM s cond elt σ (r.map iv)) λws=>ret (v::ws) else cM s cond elt σ (r.map iv)) h1:=by
    conv=>lhs;unfold cM
    rw[if_pos (hok h1 p)];cases cond <;> rfl
   rw[tN e,aM];refine dR (a1 x gE h1 p) (λb h2 e0=>e0.elim λeb p2=>?_) λ_ _ z=>z;subst eb;cases hc:c x with
   |true=>
     rw[if_pos rfl,aM];refine dR (a2 x gE hc h2 (p.trans p2)) (λv h3 e0=>e0.elim λfv p3=>?_) λ_ _ z=>z;rw[aM];refine dR (ih h3 ((p.trans p2).trans p3)) (λws h4 e0=>e0.elim λq1 p4=>?_) λ_ _ z=>z;rw[bC];exact⟨by rw[l6 hc,bS,fv,q1],(p2.trans p3).trans p4⟩
   |false=>
     rw[if_neg bT];refine dR (ih h2 (p.trans p2)) (λws h4 e0=>e0.elim λq1 p4=>?_) λ_ _ z=>z;rw[ma (by simp[hc])];exact⟨q1,p2.trans p4⟩
theorem lE{src:MI}{cond:Option ME}{elt:ME}{σ:MSt}{h:MH}{Q:MV->MH->Prop}{E:Nat->MH->Prop}{s:Src}{h1:MH}(l:List α)(iv:α->List MV)(c:α->Bool)(f:α->MV)(hs:src σ h=.ok s h1)(hi:s.items=l.map iv)(hok:∀h',Pre h1 h'->s.okIn h'=true)(hlen:l.length≤100000)
  (a1:∀x∈l,∀h2,Pre h1 h2->wp (ff cond (σ++(iv x).map some)) h2 (λb h3=>b=c x/\Pre h2 h3) noE)
  (a2:∀x∈l,c x=true->∀h2,Pre h1 h2->wp (elt (σ++(iv x).map some)) h2 (λv h3=>v=f x/\Pre h2 h3) noE)
  (q:∀h2,Pre h1 h2->Q (.ref h2.length) (h2++[.lst ((l.filter c).map f)])):wp (dD src cond elt σ) h Q E:=by
 unfold dD;rw[aM];refine cN hs ?_;rw[if_pos (by rw[hi,cY];exact hlen),aM,hi];refine wZ (dR (xD (iv:=iv) (c:=c) (f:=f) hok l h1 .refl a1 a2) (λvs h2 e0=>e0.elim λq1 p=>?_) λ_ _ z=>z);subst q1;rw[jv];exact q h2 p
theorem pR{l:List α}:l.filter (λ_=>true)=l:=rE.mpr λ_ _=>rfl
end
theorem fW{g:ME}{σ:MSt}{h:MH}{v:MV}{h1:MH}(w:wp (g σ) h (λv' h'=>v'=v/\h'=h1) noE):g σ h=.ok v h1:=by
 obtain⟨s',h',e,rfl,rfl⟩:=jR w;exact e
section
variable {h:MH}{E:Nat->MH->Prop}{σ:MSt}
@[simp] theorem yO(o e:ME)(f:Nat->MV->M MV)(Q:MV->MH->Prop):wp (ju o e f σ) h Q E=wp (o σ) h (λx h1=>match x with
  | .ref n=>(match h1[n]? with
    |some (.lst _)=>wp (e σ) h1 (λv h2=>wp (f n v) h2 Q E) E
    | _=>False)
  | _=>False) E:=by
 unfold ju;rw[aM];congr 1;funext x h1;cases x with
 |ref n=>
   dsimp only;rw[aM,dA];cases h1[n]? with
   |none=>first|rfl|(unfold wp;rfl)
   |some ob=>cases ob with
     |lst ys=>dsimp only;rw[aM]
     |_=>first|rfl|(unfold wp;rfl)
 |_=>first|rfl|(unfold wp;rfl)
@[simp] theorem Fv(o e:ME)(Q:MV->MH->Prop):wp (vE o e σ) h Q E=wp (ju o e mZ σ) h Q E:=rfl
@[simp] theorem HH(o e:ME)(Q:MV->MH->Prop):wp (sH o e σ) h Q E=wp (ju o e pO σ) h Q E:=rfl
theorem Gh{n j:Nat}{v:MV}{d:PySem.PyData}{ys:List MV}{Q:Nat->MH->Prop}(e:h[n]?=some (.lst ys))(dv:dat h 6 v=some d)(sh:PySem.SeqAt.shaped d=true)(f:ft h d ys=some j)(q:Q j h):wp (lV n v) h Q E:=by
 refine cN (a:=j) (h':=h) ?_ q;unfold lV;simp[e,dv,sh,f]
theorem Cl{n j:Nat}{v:MV}{d:PySem.PyData}{ys:List MV}{Q:MV->MH->Prop}(e:h[n]?=some (.lst ys))(dv:dat h 6 v=some d)(sh:PySem.SeqAt.shaped d=true)(f:ft h d ys=some j)(q:Q (.int j) h):wp (mZ n v) h Q E:=by
 unfold mZ;rw[aM];exact Gh e dv sh f (by rw[bC];exact q)
theorem xp{α:Type}{f:α->MV}{g:α->PySem.PyData}{d:PySem.PyData}:∀{l:List α}{j:Nat}{x:α},(∀i y,i≤j->l[i]?=some y->dat h 6 (f y)=some (g y)/\PySem.SeqAt.shaped (g y)=true)->l[j]?=some x->(∀i y,i<j->l[i]?=some y->PySem.PyData.eqv (g y) d=false)->PySem.PyData.eqv (g x) d=true->ft h d (l.map f)=some j
 |[],j,x,_,e,_,_=>by simp at e
 |y::l,0,x,a,e,_,yes=>by
   simp at e;subst e;obtain⟨a1,a2⟩:=a 0 y (aY _) rfl;simp[ft,a1,a2,yes]
 |y::l,j+1,x,a,e,no,yes=>by
   obtain⟨a1,a2⟩:=a 0 y (by lia) rfl;have ih:=xp (f:=f) (g:=g) (d:=d) (l:=l) (j:=j) (x:=x) (λi z hi ez=>a (i+1) z (by lia) (by simpa using ez)) (by simpa using e) (λi z hi ez=>no (i+1) z (by lia) (by simpa using ez)) yes;have n0:=no 0 y (by lia) rfl;simp[ft,a1,a2,n0,ih]
end
theorem zF{α:Type}{f:α->MV}{g:α->List MV}{k:Nat}:∀{l:List α},(∀x∈l,f x=.tup (g x)/\(g x).length=k)->eX k (l.map f)=some (l.map g)
 |[],_=>rfl
 |x::l,a=>by
   obtain⟨a1,a2⟩:=a x gE;have ih:=zF (f:=f) (g:=g) (k:=k) (l:=l) λy hy=>a y (eY _ hy);rw[bS,a1];simp[eX,a2,ih]
theorem vK{e:ME}{σ:MSt}{h h':MH}{n k:Nat}{xs:List MV}{rs:List (List MV)}(h1:e σ h=.ok (.ref n) h')(h2:h'[n]?=some (.lst xs))(h3:eX k xs=some rs):jo k e σ h=.ok ⟨rs,[(n,xs)]⟩ h':=by
 simp[jo,bnd,h1,look,h2,h3,ret]
theorem zg:∀(l:List Int),ik (zs l)=some l
 |[]=>rfl
 |a::l=>by
   have ih:=zg l;unfold zs at ih ⊢;simp[ik,ih]
theorem GG{h:MH}{E:Nat->MH->Prop}{Q:MV->MH->Prop}{a:Nat}{i:Int}{l:List Int}(e:h[a]?=some (.lst (zs (i::l))))(few:l.length≤10000)(q:Q (.int (fi i l)) h):wp (qZ (.ref a)) h Q E:=by
 refine cN (a:=.int (fi i l)) (h':=h) ?_ q;simp[qZ,bnd,look,e,zg,few,ret]
abbrev Want:=Nat×Int
def Want.v(w:Want):MV:=.tup [.int w.1,.int w.2]
def i9(f:Nat->Int)(am:Int):List Nat->Int
 |[]=>am
 |p::r=>if fi (f p) (r.map f)<am then fi (f p) (r.map f) else am
def lower(f:Nat->Int)(t:Int)(l:List Nat):Nat->Int:=λp=>if p∈l then f p-t else f p
end L2.Rv
namespace L2.Rv
section
variable {h:MH}{E:Nat->MH->Prop}{σ:MSt}
end
end L2.Rv
namespace L2.Rv
open PySem (Str)
section
variable {h:MH}{E:Nat->MH->Prop}{σ:MSt}
theorem Hy{is:List Nat}{e:ME}{body:MS}{n:Nat}{kvs:List (Str×MV)}{Q:MF->MH->Prop}(I:Nat->MSt->MH->Prop)(he:e σ h=.ok (.ref n) h)(hd:h[n]?=some (.dct kvs))
  (stay:∀k σ' h',I k σ' h'->h'[n]?=some (.frz kvs))
  (step:∀(k:Nat) (s:Str) (v:MV) (σ':MSt) (h':MH),kvs[k]?=some (s,v)->I k σ' h'->wp (body (cL is [.str s,v] σ')) h' (λf h2=>∃σ2,f=.next σ2/\I (k+1) σ2 h2) E)
  (fin:∀σ' h',I kvs.length σ' h'->Q (.next σ') (h'.set n (.dct kvs))) (init:I 0 σ (h.set n (.frz kvs))):wp (qb is (kT e) body σ) h Q E:=by
 have hn:n<h.length:=(bF.mp hd).1;have e1:kT e σ h=.ok ⟨kvs.map λkv=>[.str kv.1,kv.2],[.d n kvs]⟩ (h.set n (.frz kvs)):=by
  unfold kT;simp only[bnd,he,look,hd,put,hn,if_true,ret]
 unfold qb;rw[aM];refine cN e1 ?_;rw[aM];refine fE (λk σ' h'=>I k σ' h') (λk σ' h' i=>by simpa[Src.okIn,gH] using stay k σ' h' i) (λk x σ' h' hx i=>?_) (λσ' h' i=>?_) init
 ·rw[bz]at hx;cases ek:kvs[k]? with
  |none=>rw[ek]at hx;cases hx
  |some p=>
    rw[ek]at hx;cases hx;exact dR (step k p.1 p.2 σ' h' ek i) (λf h2 ⟨σ2,ef,i2⟩=>by subst ef;exact i2) λ_ _ x=>x
 ·rw[cY]at i;have s:=stay _ _ _ i;have hl:n<h'.length:=(bF.mp s).1;have e2:thaw ⟨kvs.map λkv=>[.str kv.1,kv.2],[.d n kvs]⟩ (.next σ') h'=.ok (.next σ') (h'.set n (.dct kvs)):=by
   unfold thaw;simp only[bnd,look,s,put,hl,if_true,ret]
  exact cN e2 (fin _ _ i)
end
structure Wn where
 dt:Int
 nm:Str
 rk:Int
 pt:Nat
 am:Int
instance:Inhabited Wn:=⟨⟨0,PySem.Str.empty,0,0,0⟩⟩
def Wn.row(r:Wn):MV:=.tup [.int r.dt,.str r.nm,.int r.rk,.int r.pt,.int r.am]
def Wn.key(r:Wn):List MKey:=[.inl r.dt,.inr r.nm,.inl r.rk,.inl r.pt,.inl r.am]
def Wn.ltP(a b:Wn):Prop:=a.dt<b.dt∨(a.dt=b.dt/\(a.nm.cps.toList<b.nm.cps.toList∨(a.nm=b.nm/\a.rk<b.rk)))
def Wn.lt(a b:Wn):Bool:=@decide (Wn.ltP a b) (mO _)
theorem Wn.lt_iff{a b:Wn}:a.lt b=true↔a.ltP b:=by unfold Wn.lt;exact @decide_eq_true_iff _ (mO _)
theorem Wn.lt_not{a b:Wn}:a.lt b=false↔¬a.ltP b:=by unfold Wn.lt;exact @decide_eq_false_iff_not _ (mO _)
theorem Wn.lt_tr{a b c:Wn}(h1:a.lt b=true)(h2:b.lt c=true):a.lt c=true:=by
 rw[Wn.lt_iff]at *;rcases h1 with h1|⟨h1,h1'⟩ <;> rcases h2 with h2|⟨h2,h2'⟩
 ·exact .inl (by lia)
 ·exact .inl (by lia)
 ·exact .inl (by lia)
 ·refine .inr ⟨by lia,?_⟩;rcases h1' with x|⟨x,x'⟩ <;> rcases h2' with y|⟨y,y'⟩
  ·exact .inl (List.lt_trans x y)
  ·exact .inl (y▸x)
  ·exact .inl (x▸y)
  ·exact .inr ⟨x.trans y,by lia⟩
theorem Wn.lt_irr(a:Wn):a.lt a=false:=by
 rw[Wn.lt_not];rintro(h|⟨_,h|⟨_,h⟩⟩)
 ·lia
 ·exact List.lt_irrefl _ h
 ·lia
theorem Wn.lt_asy{a b:Wn}(h1:a.lt b=true):b.lt a=false:=by
 cases e:b.lt a with
 |false=>rfl
 |true=>
   have:=Wn.lt_tr h1 e;rw[Wn.lt_irr]at this;cases this
theorem Wn.lt_tot{a b:Wn}(hn:(a.nm,a.rk)≠(b.nm,b.rk))(h:a.lt b=false):b.lt a=true:=by
 rw[Wn.lt_not]at h;rw[Wn.lt_iff];by_cases e:a.dt=b.dt
 ·refine .inr ⟨e.symm,?_⟩;by_cases en:a.nm=b.nm
  ·refine .inr ⟨en.symm,?_⟩;have:a.rk≠b.rk:=λz=>hn (by rw[en,z]);have:¬a.rk<b.rk:=λz=>h (.inr ⟨e,.inr ⟨en,z⟩⟩);lia
  ·rcases tE a.nm.cps.toList b.nm.cps.toList (λz=>en (zY z)) with z|z
   ·exact absurd (.inr ⟨e,.inl z⟩) h
   ·exact .inl z
 ·refine .inl ?_;have:¬a.dt<b.dt:=λz=>h (.inl z);lia
theorem Hv{a b:Wn}(hn:(a.nm,a.rk)≠(b.nm,b.rk)):ltK a.key b.key=some (a.lt b):=by
 have nl:∀{a b:Wn},a.lt b=decide (a.dt<b.dt∨(a.dt=b.dt/\(a.nm.cps.toList<b.nm.cps.toList∨(a.nm=b.nm/\a.rk<b.rk)))):=λ{a b}=>by
  unfold Wn.lt Wn.ltP;congr
 unfold Wn.key;rw[nl];by_cases e:a.dt=b.dt
 ·simp only[ltK,e,if_true];by_cases en:a.nm=b.nm
  ·have er:a.rk≠b.rk:=λz=>hn (by rw[en,z]);have:¬((Sum.inl a.rk:MKey)=Sum.inl b.rk):=λz=>er (by injection z);rw[if_pos (by rw[en]),if_neg this];simp[en,List.lt_irrefl]
  ·have:¬((Sum.inr a.nm:MKey)=Sum.inr b.nm):=λz=>en (by injection z);rw[if_neg this];simp[en]
 ·have:¬((Sum.inl a.dt:MKey)=Sum.inl b.dt):=λz=>e (by injection z);simp only[ltK];rw[if_neg this];simp[e]
def WNm(rs:List Wn):Prop:=(rs.map λr=>(r.nm,r.rk)).Nodup
theorem WNm.get{rs:List Wn}(n:WNm rs){i j:Nat}{a b:Wn}(hi:rs[i]?=some a)(hj:rs[j]?=some b)(hne:i≠j):(a.nm,a.rk)≠(b.nm,b.rk):=by
 intro z;have e1:(rs.map λr=>(r.nm,r.rk))[i]?=some (a.nm,a.rk):=by simp[hi]
 have e2:(rs.map λr=>(r.nm,r.rk))[j]?=some (a.nm,a.rk):=by rw[z];simp[hj]
 obtain⟨l1,g1⟩:=bF.mp e1;obtain⟨l2,g2⟩:=bF.mp e2;have pw:=qC.mp n;rcases uw hne with q|q
 ·exact pw i j l1 l2 q (g1.trans g2.symm)
 ·exact pw j i l2 l1 q (g2.trans g1.symm)
def i3(rs:List Wn):List Nat:=(cW (rs.map Wn.key)).getD []
def que(rs:List Wn):List Wn:=(i3 rs).map λi=>rs.getD i default
theorem tP{rs:List Wn}(n:WNm rs)(h64:rs.length<64):cW (rs.map Wn.key)=some (i3 rs)/\(i3 rs).Perm (cz rs.length)/\∀i j,i<j->j<rs.length->∀a b,(que rs)[i]?=some a->(que rs)[j]?=some b->a.lt b=true:=by
 by_cases h2:rs.length<2
 ·have e:cW (rs.map Wn.key)=some (cz rs.length):=by
   unfold cW;rw[if_pos (by simpa using h2)];simp
  have e2:i3 rs=cz rs.length:=by unfold i3;rw[e];rfl
  refine⟨by rw[e,e2],by rw[e2],λi j hij hj=>by lia⟩
 ·let lt:Nat->Nat->Bool:=λi j=>(rs.getD i default).lt (rs.getD j default)
  have gd:∀i,i<rs.length->rs[i]?=some (rs.getD i default):=λi hi=>by simp[hi]
  have O:SOrd (ie (rs.map Wn.key)) lt rs.length:=by
   refine⟨λi j hi hj hne=>?_,λi j hi hj hne h=>?_,λi j hi hj h=>?_,λi j k hi hj hk h1 h2=>?_⟩
   ·have hn:=n.get (gd i hi) (gd j hj) hne;unfold ie;rw[bz,bz,gd i hi,gd j hj];simp only[sI];rw[if_neg,Hv hn];intro z;unfold Wn.key at z;injection z with _ z;injection z with z1 z;injection z with z2 _;injection z1 with z1;injection z2 with z2;exact hn (by rw[z1,z2])
   ·exact Wn.lt_tot (n.get (gd i hi) (gd j hj) hne) h
   ·exact Wn.lt_asy h
   ·exact Wn.lt_tr h1 h2
  obtain⟨p,q1,q2,q3⟩:=wJ O (by lia);have e:cW (rs.map Wn.key)=some p.toList:=by
   unfold cW;rw[if_neg (by simpa using h2),if_pos (by simpa using h64),cY,q1]
  have e2:i3 rs=p.toList:=by unfold i3;rw[e];rfl
  refine⟨by rw[e,e2],by rw[e2];exact q2.list,λi j hij hj a b ha hb=>?_⟩;have hs:=q2.size;have u:=q3 i j hij hj;unfold que at ha hb;rw[e2,bz]at ha hb;have pi:p.toList[i]?=some (p.getD i 0):=by simp[show i<p.size by lia]
  have pj:p.toList[j]?=some (p.getD j 0):=by simp[show j<p.size by lia]
  rw[pi]at ha;rw[pj]at hb;cases ha;cases hb;exact u
theorem vm{rs:List Wn}(n:WNm rs)(h64:rs.length<64):(que rs).Perm rs:=by
 obtain⟨_,p,_⟩:=tP n h64;have q:=p.map λi=>rs.getD i default;have e:(cz rs.length).map (λi=>rs.getD i default)=rs:=by
  apply iK;intro i;rw[bz];by_cases h:i<rs.length
  ·rw[hG h];simp[h]
  ·rw[iD (by rw[List.length_range];lia),iD (by lia)];rfl
 rw[e]at q;exact q
theorem uj{rs:List Wn}(n:WNm rs)(h64:rs.length<64):(que rs).length=rs.length:=(vm n h64).length_eq
theorem Fy{rs:List Wn}(n:WNm rs)(h64:rs.length<64)(f:Wn->MV):pick (rs.map f) (i3 rs)=(que rs).map f:=by
 unfold pick que;rw[dG];refine iB λi hi=>?_;obtain⟨_,p,_⟩:=tP n h64;have:=kQ.mp (p.mem_iff.mp hi);simp[this]
theorem Fl{h:MH}{E:Nat->MH->Prop}{Q:MV->MH->Prop}{a:Nat}{rs:List Wn}(n:WNm rs)(h64:rs.length<64)(ha:h[a]?=some (.lst (rs.map Wn.row)))(q:Q (.ref h.length) (h++[.lst ((que rs).map Wn.row)])):wp (lX (.ref a)) h Q E:=by
 have er:∀l:List Wn,eJ fL (l.map Wn.row)=some (l.map Wn.key):=by
  intro l
  induction l with
  |nil=>rfl
  |cons x l ih=>simp only[bS,eJ,fL,Wn.row,jy,pF,ih];rfl
 have ea:(rs.map Wn.key).all gr=true:=by simp[Wn.key,gr]
 obtain⟨six,_,_⟩:=tP n h64;have key:lX (.ref a) h=.ok (.ref h.length) (h++[.lst ((que rs).map Wn.row)]):=by
  unfold lX;simp only[bnd,look,ha,er,ea,if_true,six,Fy n h64];rfl
 exact cN key q
end L2.Rv
namespace L2.Rv
noncomputable section
open PySem (Str)
def uX:MS:=(bq (rY (aV (af 0) [3] "held") 0 (eG (aj (aV (aA oIx (aV (af 1) [3] "held") (af 0)) [5,2] "date") (aj (af 0) au)))))
def gC:Fn:=fnOf 1 1 uX
def vO:MS:=(aB (dq (af 0) [3] "stream" (af 1))
  (dq (af 0) [3] "held" iX))
def qG:Fn:=fnOf 2 2 vO
def vD:MS:=(sIf (aA (oIn false) (af 1) (aV (af 0) [3] "held")) (eZ 104 (aj (iC [.lit (aF "there is a right "),.rp (af 1)]) au)) bH)
def mY:Fn:=fnOf 2 2 vD
def uE:MS:=(aB (dq (af 0) [2] "point" (af 1))
  (aB (dq (af 0) [2] "amount" (af 2))
  (dq (af 0) [2] "date" (af 3))))
def sK:Fn:=fnOf 4 4 uE
def ui:MS:=(sIf (eOr (aA oLt (af 1) (eC (.int 0))) (aA oGe (af 1) (eUn dz (aV (af 0) [1] "runs_to")))) (eZ 103 (aj (eC (.str (aF "the river has no such point"))) au)) bH)
def g0:Fn:=fnOf 2 2 ui
def yL:MS:=(aB (bQ (aL 3 "check_free" mY (af 0) (aj (af 1) au)))
  (aB (bQ (aL 1 "check_point" g0 (aV (af 0) [3] "stream") (aj (af 2) au)))
  (aB (fU (aV (af 0) [3] "held") (af 1) (iS 2 sK (aj (af 2) (aj (af 3) (aj (af 4) au)))))
  (bq (eUn dz (aV (af 0) [3] "held"))))))
def nH:Fn:=fnOf 5 5 yL
def sQ:MS:=(aB (sIf (aA (oIn true) (af 1) (aV (af 0) [3] "held")) (eZ 105 (aj (iC [.lit (aF "there is no right "),.rp (af 1)]) au)) bH)
  (bq (aA oIx (aV (af 0) [3] "held") (af 1))))
def kr:Fn:=fnOf 2 2 sQ
def tK:MS:=(aB (bp 2 (aL 3 "held_right" kr (af 0) (aj (af 1) au)))
  (bq (eG (aj (aV (af 2) [5,2] "point") (aj (aV (af 2) [2] "amount") (aj (aV (af 2) [5,2] "date") au))))))
def dX:Fn:=fnOf 2 3 tK
def vq:MS:=(aB (dq (af 0) [4] "book" (af 1))
  (aB (dq (af 0) [4] "ponds" iX)
  (aB (dq (af 0) [4] "last_day" iX)
  (aB (dq (af 0) [4] "all_days" iX)
  (dq (af 0) [4] "ran_out" (eC (.int 0)))))))
def oZ:Fn:=fnOf 2 2 vq
def vd:MS:=(aB (bQ (aL 3 "right" dX (aV (af 0) [4] "book") (aj (af 1) au)))
  (bq (jZ (aV (af 0) [4] "all_days") (af 1) (eC (.int 0)))))
def ko:Fn:=fnOf 2 2 vd
def vj:MS:=(bq (aV (af 0) [3] "stream"))
def ee:Fn:=fnOf 1 1 vj
def vc:MS:=(aB (fU (aV (af 0) [4] "last_day") (af 1) (aA fH (jZ (aV (af 0) [4] "last_day") (af 1) (eC (.int 0))) (af 2)))
  (fU (aV (af 0) [4] "all_days") (af 1) (aA fH (jZ (aV (af 0) [4] "all_days") (af 1) (eC (.int 0))) (af 2))))
def qR:Fn:=fnOf 3 3 vc
def qQ:MS:=(aB (bp 1 (eE au))
  (aB (eP [2] (dY (aL 3 "names" gC (aV (af 0) [4] "book") au)) (aB (bp 3 (aL 3 "right" dX (aV (af 0) [4] "book") (aj (af 2) au)))
  (bQ (ja (af 1) (eG (aj (aA oIx (af 3) (eC (.int 2))) (aj (af 2) (aj (eC (.int 0)) (aj (aA oIx (af 3) (eC (.int 0))) (aj (aA oIx (af 3) (eC (.int 1))) au))))))))))
  (aB (qb [2,4] (kT (aV (af 0) [4] "ponds")) (bQ (ja (af 1) (eG (aj (aV (af 4) [5,2] "date") (aj (af 2) (aj (eC (.int 1)) (aj (aV (af 4) [5,2] "point") (aj (aA iJ (aV (af 4) [5] "size") (aV (af 4) [5] "held_water")) au)))))))))
  (bq (eUn lX (af 1))))))
def pA:Fn:=fnOf 1 5 qQ
def vz:MS:=(bq (eUn dz (aV (af 0) [1] "runs_to")))
def fG:Fn:=fnOf 1 1 vz
def uh:MS:=(aB (bQ (aL 1 "check_point" g0 (af 0) (aj (af 1) au)))
  (aB (bp 2 (eE au))
  (aB (tR (eUn lN (af 1)) (aB (bQ (ja (af 2) (af 1)))
  (bp 1 (aA oIx (aV (af 0) [1] "runs_to") (af 1)))))
  (bq (af 2)))))
def mw:Fn:=fnOf 2 3 uh
def tO:MS:=(aB (bQ (aL 1 "check_point" g0 (af 0) (aj (af 1) au)))
  (bq (aA oIx (aV (af 0) [1] "runs_to") (af 1))))
def nQ:Fn:=fnOf 2 2 tO
def lS:MS:=(aB (sIf (aA oNe (eUn dz (af 1)) (aL 1 "points" fG (af 0) au)) (eZ 102 (aj (eC (.str (aF "a year has one inflow for each point"))) au)) bH)
  (eP [2] (dY (af 1)) (sIf (eOr (aA oLt (af 2) (eC (.int 0))) (aA oGt (af 2) (eC (.int 1000000)))) (eZ 102 (aj (eC (.str (aF "an inflow is from 0 to 1000000"))) au)) bH)))
def lC:Fn:=fnOf 2 3 lS
def uF:MS:=(aB (bQ (bE lC (aj (af 0) (aj (af 1) au))))
  (aB (bp 3 (dD (ng (af 1) (af 2)) none (aA iJ (af 5) (af 6))))
  (aB (eP [4] (pD (aA iJ (aL 1 "points" fG (af 0) au) (eC (.int 1))) (eC (.int 0))) (l7 l0 (af 3) (aL 1 "below" nQ (af 0) (aj (af 4) au)) (aA oIx (af 3) (af 4))))
  (bq (af 3)))))
def jV:Fn:=fnOf 3 5 uF
def tS:MS:=(aB (bp 3 (bE jV (aj (af 0) (aj (af 1) (aj (aA j8 (eE (aj (eC (.int 0)) au)) (aL 1 "points" fG (af 0) au)) au)))))
  (aB (bp 4 (eE au))
  (aB (eP [5,6] (jo 2 (af 2)) (aB (bp 7 (aL 1 "way" mw (af 0) (aj (af 5) au)))
  (aB (bp 8 (aA vf (af 6) (eUn qZ (dD (dY (af 7)) none (aA oIx (af 3) (af 10))))))
  (aB (eP [9] (dY (af 7)) (l7 iJ (af 3) (af 9) (af 8)))
  (bQ (ja (af 4) (af 8)))))))
  (bq (eG (aj (af 4) (aj (af 3) au)))))))
def gX:Fn:=fnOf 3 10 tS
def qY:MS:=(bq (dD (ng (af 0) (af 1)) (some (aA oEq (aA oIx (af 3) (eC (.int 2))) (af 2))) (eG (aj (aA oIx (af 3) (eC (.int 1))) (aj (af 4) au)))))
def mJ:Fn:=fnOf 3 3 qY
def ku:MS:=(aB (bp 2 (aL 4 "wants_by_age" pA (af 0) au))
  (aB (bp 3 (bE gX (aj (aL 3 "river" ee (aV (af 0) [4] "book") au) (aj (af 1) (aj (dD (dY (af 2)) none (eSl (af 9) (some (eC (.int 3))) none)) au)))))
  (aB (bp 4 (bE mJ (aj (af 2) (aj (aA oIx (af 3) (eC (.int 0))) (aj (eC (.int 0)) au)))))
  (aB (bp 5 (bE mJ (aj (af 2) (aj (aA oIx (af 3) (eC (.int 0))) (aj (eC (.int 1)) au)))))
  (aB (dq (af 0) [4] "last_day" iX)
  (aB (eP [6,7] (jo 2 (af 4)) (bQ (aL 4 "give" qR (af 0) (aj (af 6) (aj (af 7) au)))))
  (aB (eP [6,7] (jo 2 (af 5)) (aB (bp 8 (aA oIx (aV (af 0) [4] "ponds") (af 6)))
  (lY l0 (af 8) [5] "held_water" (af 7))))
  (aB (lY l0 (af 0) [4] "ran_out" (aA oIx (aA oIx (af 3) (eC (.int 1))) (eC (.int 0))))
  (bq (eG (aj (af 4) (aj (af 5) au))))))))))))
def iY:Fn:=fnOf 2 9 ku
def sF:MS:=(aB (dq (af 0) [5] "point" (af 1))
  (aB (dq (af 0) [5] "size" (af 2))
  (aB (dq (af 0) [5] "date" (af 3))
  (dq (af 0) [5] "held_water" (eC (.int 0))))))
def t6:Fn:=fnOf 4 4 sF
def vh:MS:=(aB (sIf (aA (oIn false) (af 1) (aV (af 0) [4] "ponds")) (eZ 104 (aj (iC [.lit (aF "there is a pond "),.rp (af 1)]) au)) bH)
  (aB (bQ (aL 1 "check_point" g0 (aL 3 "river" ee (aV (af 0) [4] "book") au) (aj (af 2) au)))
  (aB (fU (aV (af 0) [4] "ponds") (af 1) (iS 5 t6 (aj (af 2) (aj (af 3) (aj (af 4) au)))))
  (bq (eUn dz (aV (af 0) [4] "ponds"))))))
def oP:Fn:=fnOf 5 5 vh
def ub:MS:=(aB (bQ (aL 3 "right" dX (aV (af 0) [4] "book") (aj (af 1) au)))
  (bq (jZ (aV (af 0) [4] "last_day") (af 1) (eC (.int 0)))))
def kI:Fn:=fnOf 2 2 ub
def sZ:MS:=(bq (aV (af 0) [4] "ran_out"))
def jY:Fn:=fnOf 1 1 sZ
def uM:MS:=(aB (sIf (aA (oIn true) (af 1) (aV (af 0) [4] "ponds")) (eZ 110 (aj (iC [.lit (aF "there is no pond "),.rp (af 1)]) au)) bH)
  (bq (aA oIx (aV (af 0) [4] "ponds") (af 1))))
def ka:Fn:=fnOf 2 2 uM
def tL:MS:=(bq (aV (aL 4 "pond_called" ka (af 0) (aj (af 1) au)) [5] "held_water"))
def kj:Fn:=fnOf 2 2 tL
def ug:MS:=(aB (sIf (eOr (aA oLt (eUn dz (af 0)) (eC (.int 1))) (aA oGt (eUn dz (af 0)) (eC (.int 40)))) (eZ 101 (aj (eC (.str (aF "a river has 1 to 40 points"))) au)) bH)
  (aB (sIf (eUn lN (aA oIx (af 0) (eC (.int 0)))) (eZ 101 (aj (eC (.str (aF "nothing lies below the mouth"))) au)) bH)
  (eP [1] (ig (eC (.int 1)) (eUn dz (af 0))) (aB (bp 2 (aA oIx (af 0) (af 1)))
  (sIf (eOr (eUn qI (af 2)) (eOr (aA oLt (af 2) (eC (.int 0))) (aA oGe (af 2) (af 1)))) (eZ 101 (aj (eC (.str (aF "each point but the mouth has a point of a lesser number below it"))) au)) bH)))))
def uO:Fn:=fnOf 1 3 ug
def uY:MS:=(aB (bQ (bE uO (aj (af 1) au)))
  (dq (af 0) [1] "runs_to" (eUn jK (af 1))))
def mB:Fn:=fnOf 2 2 uY
def sk:MS:=(aB (sIf (aA oLt (af 1) (eUn dz (af 0))) (bq (aA oIx (af 0) (af 1))) bH)
  (bq (eC (.int 0))))
def fk:Fn:=fnOf 2 2 sk
def vw:MS:=(bq (aA fH (eE (aj (eC .non) au)) (dD (ig (eC (.int 1)) (af 2)) none (aA d0 (bE fk (aj (af 0) (aj (aA fH (af 1) (af 3)) au))) (af 3)))))
def qv:Fn:=fnOf 3 3 vw
def sT:MS:=(bq (dD (dY (aL 3 "names" gC (af 0) au)) none (eSl (aL 3 "right" dX (af 0) (aj (af 1) au)) none (some (eC (.int 2))))))
def jE:Fn:=fnOf 1 1 sT
def r6:MS:=(aB (bp 2 (aA oIx (bE gX (aj (aL 3 "river" ee (af 0) au) (aj (af 1) (aj (bE jE (aj (af 0) au)) au)))) (eC (.int 0))))
  (bq (aA xJ (aL 3 "names" gC (af 0) au) (af 2))))
def nv:Fn:=fnOf 2 3 r6
def q9:MS:=(bq (aA oIx (bE gX (aj (aL 3 "river" ee (af 0) au) (aj (af 1) (aj (bE jE (aj (af 0) au)) au)))) (eC (.int 1))))
def mE:Fn:=fnOf 2 2 q9
def qm:MS:=(bq (dD (jo 2 (bE nv (aj (af 0) (aj (af 1) au)))) (some (aA oLt (af 3) (aA oIx (aL 3 "right" dX (af 0) (aj (af 2) au)) (eC (.int 1))))) (af 2)))
def nL:Fn:=fnOf 2 2 qm
def qB:MS:=(aB (bp 3 (bE nL (aj (af 0) (aj (af 1) au))))
  (aB (bp 4 (aA oIx (aL 3 "right" dX (af 0) (aj (af 2) au)) (eC (.int 0))))
  (aB (sIf (aA (oIn true) (af 2) (af 3)) (eZ 106 (aj (iC [.lit (aF "the right "),.rp (af 2),.lit (aF " is not short")]) au)) bH)
  (aB (bp 5 (bE mE (aj (af 0) (aj (af 1) au))))
  (aB (bp 6 (dD (dY (aL 1 "way" mw (aL 3 "river" ee (af 0) au) (aj (af 4) au))) (some (aA oEq (aA oIx (af 5) (af 7)) (eC (.int 0)))) (af 7)))
  (bq (aA oIx (af 6) (eC (.int 0)))))))))
def mG:Fn:=fnOf 3 7 qB
def xM:MS:=(aB (bp 3 (bE jE (aj (af 0) au)))
  (aB (bp 4 (vE (aL 3 "names" gC (af 0) au) (af 1)))
  (aB (fU (af 3) (af 4) (eG (aj (af 2) (aj (aA oIx (aA oIx (af 3) (af 4)) (eC (.int 1))) au))))
  (bq (af 3)))))
def qX:Fn:=fnOf 3 5 xM
def rm:MS:=(aB (bQ (aL 3 "right" dX (af 0) (aj (af 2) au)))
  (aB (bp 4 (aL 3 "river" ee (af 0) au))
  (aB (bQ (aL 1 "check_point" g0 (af 4) (aj (af 3) au)))
  (aB (bp 5 (aL 3 "names" gC (af 0) au))
  (aB (bp 6 (bE jE (aj (af 0) au)))
  (aB (bp 7 (bE qX (aj (af 0) (aj (af 2) (aj (af 3) au)))))
  (aB (bp 8 iX)
  (aB (eP [9] (dY (af 1)) (aB (bp 10 (aA oIx (bE gX (aj (af 4) (aj (af 9) (aj (af 6) au)))) (eC (.int 0))))
  (aB (bp 11 (aA oIx (bE gX (aj (af 4) (aj (af 9) (aj (af 7) au)))) (eC (.int 0))))
  (eP [12,13,14] (xU (af 5) (af 10) (af 11)) (sIf (iW (aA oNe (af 12) (af 2)) (aA oLt (af 14) (af 13))) (fU (af 8) (af 12) (eC (.bl true))) bH)))))
  (bq (dD (dY (af 5)) (some (aA (oIn false) (af 15) (af 8))) (af 15)))))))))))
def jt:Fn:=fnOf 4 15 rm
def wD:MS:=(aB (bQ (aL 3 "held_right" kr (af 0) (aj (af 1) au)))
  (aB (bQ (xL (aV (af 0) [3] "held") (af 1)))
  (bq (eUn dz (aV (af 0) [3] "held")))))
def zD:Fn:=fnOf 2 2 wD
def sN:MS:=(aB (sIf (aA oGt (eUn dz (bE jt (aj (af 0) (aj (af 1) (aj (af 2) (aj (af 3) au)))))) (eC (.int 0))) (eZ 109 (aj (eC (.str (aF "another right would take less"))) au)) bH)
  (aB (bp 4 (aL 3 "right" dX (af 0) (aj (af 2) au)))
  (aB (bQ (aL 3 "drop" zD (af 0) (aj (af 2) au)))
  (aB (bQ (aL 3 "grant" nH (af 0) (aj (af 2) (aj (af 3) (aj (aA oIx (af 4) (eC (.int 1))) (aj (aA oIx (af 4) (eC (.int 2))) au))))))
  (bq (aA oIx (af 4) (eC (.int 0))))))))
def pK:Fn:=fnOf 4 5 sN
def AW:MS:=(aB (bQ (aL 1 "check_point" g0 (af 0) (aj (af 1) au)))
  (bq (dD (fF (aL 1 "points" fG (af 0) au)) (some (aA (oIn false) (af 1) (aL 1 "way" mw (af 0) (aj (af 2) au)))) (af 2))))
def wj:Fn:=fnOf 2 2 AW
def xQ:MS:=(bq (iW (aA oGt (aA oIx (af 0) (eC (.int 1))) (eC (.int 0))) (aA (oIn false) (aA oIx (af 0) (eC (.int 0))) (af 1))))
def we:Fn:=fnOf 2 2 xQ
def pM:MS:=(aB (bp 3 (aL 1 "above" wj (aL 3 "river" ee (af 0) au) (aj (bE mG (aj (af 0) (aj (af 1) (aj (af 2) au)))) au)))
  (aB (bp 4 (aL 3 "names" gC (af 0) au))
  (aB (bp 5 (eSl (af 4) (some (aA fH (vE (af 4) (af 2)) (eC (.int 1)))) none))
  (bq (dD (dY (af 5)) (some (bE we (aj (aL 3 "right" dX (af 0) (aj (af 6) au)) (aj (af 3) au)))) (af 6))))))
def rO:Fn:=fnOf 3 6 pM
def rK:MS:=(aB (sIf (aA oEq (af 2) (eC (.int 0))) (bQ (bE jV (aj (aL 3 "river" ee (af 1) au) (aj (af 3) (aj (dD (fF (aL 1 "points" fG (aL 3 "river" ee (af 1) au) au)) none (eC (.int 0))) au))))) bH)
  (aB (sIf (aA oEq (af 2) (eC (.int 1))) (bQ (bE nv (aj (af 1) (aj (af 3) au)))) bH)
  (aB (sIf (aA oEq (af 2) (eC (.int 2))) (bQ (bE mE (aj (af 1) (aj (af 3) au)))) bH)
  (aB (sIf (aA oEq (af 2) (eC (.int 3))) (bQ (bE nL (aj (af 1) (aj (af 3) au)))) bH)
  (aB (sIf (aA oEq (af 2) (eC (.int 4))) (bQ (bE mG (aj (af 1) (aj (af 3) (aj (eC (.str (aF "zz"))) au))))) bH)
  (aB (sIf (aA oEq (af 2) (eC (.int 5))) (bQ (bE rO (aj (af 1) (aj (af 3) (aj (eC (.str (aF "zz"))) au))))) bH)
  (aB (sIf (aA oEq (af 2) (eC (.int 6))) (bQ (bE jt (aj (af 1) (aj (eE (aj (af 3) au)) (aj (eC (.str (aF "a"))) (aj (eC (.int 0)) au)))))) bH)
  (aB (sIf (aA oEq (af 2) (eC (.int 7))) (bQ (bE pK (aj (af 1) (aj (eE (aj (af 3) au)) (aj (eC (.str (aF "a"))) (aj (eC (.int 0)) au)))))) bH)
  (sIf (aA oEq (af 2) (eC (.int 8))) (bQ (aL 4 "day" iY (af 0) (aj (af 3) au))) bH)))))))))
def o8:Fn:=fnOf 4 4 rK
def om:MS:=(aB (bp 4 (eC (.bl false)))
  (aB (lR [100,101,102,103,104,105,106,107,109,110,111] (bQ (bE o8 (aj (af 0) (aj (af 1) (aj (af 2) (aj (af 3) au)))))) (⟨[102],some 5,(bp 4 (iW (eUn (kR (.exn [100,101,102,103,104,105,106,107,109,110,111] [100,101,102,103,104,105,106,107,109,110,111])) (af 5)) (jP (eUn (kR (.exn [100,101,102,103,104,105,106,107,109,110,111] [105])) (af 5)))))⟩::[]))
  (bq (af 4))))
def qE:Fn:=fnOf 4 6 om
def pI:MS:=(aB (bp 4 (eUn jK (af 0)))
  (aB (bp 5 (aA d0 (af 2) (eUn dz (af 4))))
  (aB (sIf (aA oEq (af 1) (eC (.int 0))) (bQ (pJ (af 4) (af 5) (eC (.int 3)))) bH)
  (aB (sIf (aA oEq (af 1) (eC (.int 1))) (bQ (sH (af 4) (af 5))) bH)
  (aB (sIf (aA oEq (af 1) (eC (.int 2))) (fU (af 4) (af 5) (aA iJ (eUn r8 (eC (.int 1))) (aA d0 (af 3) (aA j5 (eC (.int 10)) (eC (.int 29)))))) bH)
  (aB (sIf (aA oEq (af 1) (eC (.int 3))) (fU (af 4) (af 5) (aA fH (eC (.int 1000001)) (aA d0 (af 3) (aA j5 (eC (.int 10)) (eC (.int 29)))))) bH)
  (aB (sIf (aA oEq (af 1) (eC (.int 4))) (fU (af 4) (af 5) (aA oIx (eE (aj (eUn r8 (eC (.int 1))) (aj (eC (.int 1000001)) au))) (aA d0 (af 3) (eC (.int 2))))) bH)
  (bq (af 4)))))))))
def pP:Fn:=fnOf 4 6 pI
def xh:MS:=(aB (bp 3 (eE au))
  (aB (eP [4] (fF (af 2)) (aB (bp 5 (bE fk (aj (af 0) (aj (aA fH (af 1) (af 4)) au))))
  (aB (bp 6 (aA d0 (aA lJ (af 5) (eC (.int 5))) (eC (.int 60))))
  (aB (sIf (aA oEq (aA d0 (af 5) (eC (.int 5))) (eC (.int 4))) (bp 6 (aA d0 (aA lJ (af 5) (eC (.int 5))) (eC (.int 1000001)))) bH)
  (bQ (ja (af 3) (af 6)))))))
  (bq (af 3))))
def qK:Fn:=fnOf 3 7 xh
def rB:MS:=(aB (bp 1 (aA fH (eC (.int 1)) (aA d0 (bE fk (aj (af 0) (aj (eC (.int 0)) au))) (eC (.int 8)))))
  (aB (bp 2 (bE qK (aj (af 0) (aj (eC (.int 9)) (aj (af 1) au)))))
  (aB (bp 3 (bE pP (aj (af 2) (aj (aA d0 (bE fk (aj (af 0) (aj (eC (.int 18)) au))) (eC (.int 5))) (aj (bE fk (aj (af 0) (aj (eC (.int 19)) au))) (aj (bE fk (aj (af 0) (aj (eC (.int 20)) au))) au))))))
  (aB (bp 4 (iS 3 qG (aj (iS 1 mB (aj (bE qv (aj (af 0) (aj (eC (.int 1)) (aj (af 1) au)))) au)) au)))
  (aB (bp 5 (aA d0 (bE fk (aj (af 0) (aj (eC (.int 21)) au))) (af 1)))
  (aB (bQ (aL 3 "grant" nH (af 4) (aj (eC (.str (aF "a"))) (aj (af 5) (aj (aA d0 (bE fk (aj (af 0) (aj (eC (.int 22)) au))) (eC (.int 1000001))) (aj (eC (.int 5)) au))))))
  (aB (bp 6 (iS 4 oZ (aj (af 4) au)))
  (aB (bQ (aL 4 "dig" oP (af 6) (aj (eC (.str (aF "p"))) (aj (af 5) (aj (eC (.int 50)) (aj (eC (.int 9)) au))))))
  (aB (sIf (aA oGt (aA d0 (bE fk (aj (af 0) (aj (eC (.int 23)) au))) (eC (.int 3))) (eC (.int 0))) (bQ (aL 4 "day" iY (af 6) (aj (eUn jK (af 2)) au))) bH)
  (aB (bp 7 (eE (aj (aL 4 "got" kI (af 6) (aj (eC (.str (aF "a"))) au)) (aj (aL 4 "account" ko (af 6) (aj (eC (.str (aF "a"))) au)) (aj (aL 4 "out" jY (af 6) au) (aj (aL 4 "stored" kj (af 6) (aj (eC (.str (aF "p"))) au)) (aj (aL 3 "right" dX (af 4) (aj (eC (.str (aF "a"))) au)) au)))))))
  (aB (bp 8 (eUn jK (af 3)))
  (aB (eP [9] (fF (eC (.int 9))) (sIf (jP (bE qE (aj (af 6) (aj (af 4) (aj (af 9) (aj (af 8) au)))))) (bq (eC (.bl false))) bH))
  (aB (sIf (eOr (aA oNe (af 8) (af 3)) (aA oNe (aA oIx (aL 3 "right" dX (af 4) (aj (eC (.str (aF "a"))) au)) (eC (.int 0))) (af 5))) (bq (eC (.bl false))) bH)
  (aB (sIf (aA oNe (eE (aj (aL 4 "got" kI (af 6) (aj (eC (.str (aF "a"))) au)) (aj (aL 4 "account" ko (af 6) (aj (eC (.str (aF "a"))) au)) (aj (aL 4 "out" jY (af 6) au) (aj (aL 4 "stored" kj (af 6) (aj (eC (.str (aF "p"))) au)) (aj (aL 3 "right" dX (af 4) (aj (eC (.str (aF "a"))) au)) au)))))) (af 7)) (bq (eC (.bl false))) bH)
  (bq (aA oEq (eUn dz (aA oIx (aL 4 "day" iY (af 6) (aj (af 2) au)) (eC (.int 0)))) (eC (.int 1))))))))))))))))))
def nh:Fn:=fnOf 1 10 rB
end
end L2.Rv
namespace L2.Rv
open PySem PySem.Spec PyProof.Rows
def top(i:Nat):aO:=PySem.Challenge.pw_riverdue_k05_bad_years.main.body.getD i (.Pass ⟨0,0,0,0⟩)
abbrev rR:aO:=cI (top 41) 2
abbrev pb:aO:=cI (top 41) 0
abbrev rF:aO:=cI (top 41) 9
abbrev oM:aO:=cI (top 40) 0
abbrev pS:aO:=cI (top 16) 2
abbrev o7:aO:=cI (top 41) 4
abbrev rj:aO:=cI (top 41) 8
abbrev p7:aO:=cI (top 41) 3
abbrev oA:aO:=cI (top 37) 0
abbrev qe:aO:=cI (top 37) 6
abbrev rG:aO:=cI (top 41) 1
abbrev rh:aO:=cI (top 37) 9
abbrev sA:aO:=cI (top 37) 10
abbrev qO:aO:=cI (top 16) 1
abbrev q8:aO:=cI (top 16) 4
abbrev oB:aO:=cI (top 16) 3
abbrev re:aO:=top 18
abbrev qU:aO:=top 19
abbrev oq:aO:=top 21
abbrev rQ:aO:=top 38
abbrev sC:aO:=cI (top 37) 2
abbrev qf:aO:=cI (top 36) 0
abbrev ol:aO:=cI (top 37) 1
abbrev rH:aO:=cI (top 37) 5
abbrev sj:aO:=cI (top 37) 7
abbrev pY:aO:=cI (top 37) 8
abbrev sr:aO:=cI (top 37) 4
abbrev qa:aO:=top 17
abbrev qj:aO:=cI (top 16) 0
abbrev si:aO:=top 43
abbrev pk:aO:=top 45
abbrev pT:aO:=top 22
abbrev qW:aO:=top 23
abbrev rD:aO:=top 24
abbrev rC:aO:=top 25
abbrev qM:aO:=top 26
abbrev pQ:aO:=top 31
abbrev oK:aO:=top 30
abbrev qS:aO:=cI (top 41) 5
abbrev qi:aO:=top 32
abbrev oX:aO:=cI (top 16) 5
abbrev qc:aO:=top 28
abbrev p6:aO:=top 27
abbrev rL:aO:=top 48
abbrev sE:aO:=top 49
abbrev pE:aO:=top 47
abbrev qH:aO:=top 46
abbrev sf:aO:=top 50
structure Adr where
 zdJ:ae
 zhP:ae
 za6:ae
 zgj:ae
 zd0:ae
 zd1:ae
 zfV:ae
 zfu:ae
 zg0:ae
 zkk:ae
 zd2:ae
 zfW:ae
 ziR:ae
 zm1:ae
 zic:ae
 zho:ae
 zfG:ae
 zdz:aW
 zdm:ae
 zde:aW
 zcn:ae
 zck:aW
 zcL:ae
 zcI:aW
 zbW:ae
 zbV:aW
 zfF:ae
 zfv:aW
 zco:ae
 zcl:aW
 zfH:ae
 zfw:aW
 zcp:ae
 zcm:aW
 zcK:ae
 zcH:aW
 zfI:ae
 zfx:aW
 zeB:ae
 zes:aW
 zbE:ae
 zbD:aW
 zdL:ae
 zdK:aW
 zgp:ae
 zgl:aW
 zeD:ae
 zeu:aW
 zfN:ae
 zfC:aW
 zmb:ae
 zl7:aW
 zmc:ae
 zl8:aW
 zdp:ae
 zdh:aW
 zfJ:ae
 zfy:aW
 zdo:ae
 zdg:aW
 zfK:ae
 zfz:aW
 zfL:ae
 zfA:aW
 zfM:ae
 zfB:aW
 zbP:ae
 zbO:aW
 zdn:ae
 zdf:aW
 zeE:ae
 zev:aW
 zcM:ae
 zcJ:aW
 zeF:ae
 zew:aW
 zgr:ae
 zgn:aW
 zht:ae
 zhq:aW
 zma:ae
 zl6:aW
 zo9:ae
 zo5:aW
 zmd:ae
 zl9:aW
 zrR:ae
 zrP:aW
 zfO:ae
 zfD:aW
 zkn:ae
 zkl:aW
 zgo:ae
 zgk:aW
 zpa:ae
 zo6:aW
 zeC:ae
 zet:aW
 zeI:ae
 zez:aW
 zpb:ae
 zo7:aW
 zgq:ae
 zgm:aW
 zeG:ae
 zex:aW
 zeH:ae
 zey:aW
 zhs:ae
 zhp:aW
 zrS:ae
 zrQ:aW
 tb:ae
def Adr.cl(a:Adr):Nat->ae:=λn=>if n=999 then a.tb else if n=998 then 246 else if n=997 then 37 else if n=996 then 1 else if n=1 then a.zdJ else if n=5 then a.zhP else if n=4 then a.za6 else if n=2 then a.zgj else if n=3 then a.zd0 else if n=100 then a.zd1 else if n=101 then a.zfV else if n=102 then a.zfu else if n=103 then a.zg0 else if n=104 then a.zkk else if n=105 then a.zd2 else if n=106 then a.zfW else if n=107 then a.ziR else if n=109 then a.zm1 else if n=110 then a.zic else if n=111 then a.zho else 0
structure Txt(K:PySem.W.Frag)(mg:Str->Option ag)(a:Adr):Prop where
 zfP:mg "isinstance"=none
 zha:mg "len"=none
 zjE:mg "list"=none
 zrU:mg "min"=none
 zfQ:mg "range"=none
 zkp:mg "sorted"=none
 zpi:mg "zip"=none
 zg2:∃t,mg "MOST_INFLOW"=some (.int 1000000 t)
 zg3:∃t,mg "MOST_POINTS"=some (.int 40 t)
 zdM:∃t,mg "RANK_OF_POND"=some (.int 1 t)
 zdq:∃t,mg "RANK_OF_RIGHT"=some (.int 0 t)
 zpd:mg "River"=some (.ref a.zdJ)
 zaP:Cls K a.zdJ
 zm5:Mk K a.zdJ a.zcM
 zba:cQ K a.zdJ "runs_to"
 zqL:mg "Pond"=some (.ref a.zhP)
 zb7:Cls K a.zhP
 zph:Mk K a.zhP a.zdo
 zc0:cQ K a.zhP "point"
 zfR:cQ K a.zhP "size"
 zcB:cQ K a.zhP "date"
 zbg:cQ K a.zhP "held_water"
 zm3:mg "Office"=some (.ref a.za6)
 zaf:Cls K a.za6
 zlo:Mk K a.za6 a.zcp
 za4:cQ K a.za6 "book"
 zaL:cQ K a.za6 "ponds"
 zaZ:cQ K a.za6 "last_day"
 zbf:cQ K a.za6 "all_days"
 zbI:cQ K a.za6 "ran_out"
 zpc:mg "Right"=some (.ref a.zgj)
 zcs:Cls K a.zgj
 zm4:Mk K a.zgj a.zcL
 zcu:cQ K a.zgj "point"
 zds:cQ K a.zgj "amount"
 zb9:cQ K a.zgj "date"
 zqJ:mg "Book"=some (.ref a.zd0)
 zai:Cls K a.zd0
 zpg:Mk K a.zd0 a.zdm
 zct:cQ K a.zd0 "stream"
 zaY:cQ K a.zd0 "held"
 zjB:mg "DueError"=some (.ref a.zd1)
 zdj:cO K a.zd1
 zfX:mg "BadRiver"=some (.ref a.zfV)
 zdi:cO K a.zfV
 zg4:mg "BadYear"=some (.ref a.zfu)
 zc2:cO K a.zfu
 zln:mg "NoPoint"=some (.ref a.zg0)
 zd3:cO K a.zg0
 zme:mg "Taken"=some (.ref a.zkk)
 zg1:cO K a.zkk
 ziV:mg "NoRight"=some (.ref a.zd2)
 zd4:cO K a.zd2
 zjC:mg "NotShort"=some (.ref a.zfW)
 zdl:cO K a.zfW
 zpe:mg "TooMuch"=some (.ref a.ziR)
 zd5:cO K a.ziR
 zqK:mg "Harm"=some (.ref a.zm1)
 ziS:cO K a.zm1
 zm2:mg "NoPond"=some (.ref a.zic)
 zfE:cO K a.zic
 znr:mg "NotBelow"=some (.ref a.zho)
 zdk:cO K a.zho
 zeA:PySem.W.excIn K a.zfV i5 jd=true
 zhr:PySem.W.excIn K a.zfu i5 jd=true
 zo8:PySem.W.excIn K a.zm1 i5 jd=true
 zjy:PySem.W.excIn K a.zg0 i5 jd=true
 zlm:PySem.W.excIn K a.zic i5 jd=true
 zjz:PySem.W.excIn K a.zd2 i5 jd=true
 ziT:PySem.W.excIn K a.zfW i5 jd=true
 zkm:PySem.W.excIn K a.zkk i5 jd=true
 ziU:KTy K a.cl (.ref a.zd1) (.exn [100,101,102,103,104,105,106,107,109,110,111] [100,101,102,103,104,105,106,107,109,110,111])
 zjA:KTy K a.cl (.ref a.zd2) (.exn [100,101,102,103,104,105,106,107,109,110,111] [105])
 zjF:∀n∈([100,101,102,103,104,105,106,107,109,110,111]:List Nat),PySem.W.subIn K (.ref (a.cl n)) (.ref a.zfu)=some (([102]:List Nat).contains n)
 zhI:Fun K "names" "Book.names" rR a.zfG a.zdz
 zbC:Binds K a.zdz ["self"] []
 zbp:Meth K a.zd0 "names" a.zfG
 zfp:Fun K "__init__" "Book.__init__" pb a.zdm a.zde
 zfk:Binds K a.zde ["self","river"] []
 zdX:Fun K "check_free" "Book.check_free" rF a.zcn a.zck
 zdU:Binds K a.zck ["self","name"] []
 zdA:Meth K a.zd0 "check_free" a.zcn
 zeV:Fun K "__init__" "Right.__init__" oM a.zcL a.zcI
 zeS:Binds K a.zcI ["self","point","amount","date"] []
 zdd:Fun K "check_point" "River.check_point" pS a.zbW a.zbV
 zaD:Binds K a.zbV ["self","point"] []
 zax:Meth K a.zdJ "check_point" a.zbW
 zhH:Fun K "grant" "Book.grant" o7 a.zfF a.zfv
 zfl:Binds K a.zfv ["self","name","point","amount","date"] []
 zeJ:Meth K a.zd0 "grant" a.zfF
 zdY:Fun K "held_right" "Book.held_right" rj a.zco a.zcl
 zcj:Binds K a.zcl ["self","name"] []
 zb8:Meth K a.zd0 "held_right" a.zco
 zhJ:Fun K "right" "Book.right" p7 a.zfH a.zfw
 zaF:Binds K a.zfw ["self","name"] []
 zaw:Meth K a.zd0 "right" a.zfH
 zdZ:Fun K "__init__" "Office.__init__" oA a.zcp a.zcm
 zdV:Binds K a.zcm ["self","book"] []
 zeU:Fun K "account" "Office.account" qe a.zcK a.zcH
 zcG:Binds K a.zcH ["self","name"] []
 zcq:Meth K a.za6 "account" a.zcK
 zhK:Fun K "river" "Book.river" rG a.zfI a.zfx
 za3:Binds K a.zfx ["self"] []
 zaV:Meth K a.zd0 "river" a.zfI
 zgX:Fun K "give" "Office.give" rh a.zeB a.zes
 zgQ:Binds K a.zes ["self","name","amount"] []
 zf9:Meth K a.za6 "give" a.zeB
 zcz:Fun K "wants_by_age" "Office.wants_by_age" sA a.zbE a.zbD
 zcy:Binds K a.zbD ["self"] []
 zcb:Meth K a.za6 "wants_by_age" a.zbE
 zf8:Fun K "points" "River.points" qO a.zdL a.zdK
 zbw:Binds K a.zdK ["self"] []
 zbm:Meth K a.zdJ "points" a.zdL
 ziQ:Fun K "way" "River.way" q8 a.zgp a.zgl
 zen:Binds K a.zgl ["self","point"] []
 zdB:Meth K a.zdJ "way" a.zgp
 zgZ:Fun K "below" "River.below" oB a.zeD a.zeu
 zgS:Binds K a.zeu ["self","point"] []
 zgb:Meth K a.zdJ "below" a.zeD
 zfs:Fun K "check_year" "check_year" re a.zfN a.zfC
 zhF:Binds K a.zfC ["river","year"] []
 zhQ:mg "check_year"=some (.ref a.zfN)
 zki:Fun K "flows" "flows" qU a.zmb a.zl7
 zl4:Binds K a.zl7 ["river","year","taken"] []
 zmg:mg "flows"=some (.ref a.zmb)
 zgi:Fun K "serve" "serve" oq a.zmc a.zl8
 zhm:Binds K a.zl8 ["river","year","wants"] []
 zhu:mg "serve"=some (.ref a.zmc)
 zb6:Fun K "takes_of_rank" "takes_of_rank" rQ a.zdp a.zdh
 zdc:Binds K a.zdh ["wants","takes","rank"] []
 zdr:mg "takes_of_rank"=some (.ref a.zdp)
 zhL:Fun K "day" "Office.day" sC a.zfJ a.zfy
 zdy:Binds K a.zfy ["self","year"] []
 zcZ:Meth K a.za6 "day" a.zfJ
 zfr:Fun K "__init__" "Pond.__init__" qf a.zdo a.zdg
 zfo:Binds K a.zdg ["self","point","size","date"] []
 zhM:Fun K "dig" "Office.dig" ol a.zfK a.zfz
 zhE:Binds K a.zfz ["self","name","point","size","date"] []
 zg9:Meth K a.za6 "dig" a.zfK
 zhN:Fun K "got" "Office.got" rH a.zfL a.zfA
 zfm:Binds K a.zfA ["self","name"] []
 zeK:Meth K a.za6 "got" a.zfL
 zhO:Fun K "out" "Office.out" sj a.zfM a.zfB
 zfn:Binds K a.zfB ["self"] []
 zeL:Meth K a.za6 "out" a.zfM
 zcQ:Fun K "pond_called" "Office.pond_called" pY a.zbP a.zbO
 zcP:Binds K a.zbO ["self","name"] []
 zcA:Meth K a.za6 "pond_called" a.zbP
 zfq:Fun K "stored" "Office.stored" sr a.zdn a.zdf
 zdb:Binds K a.zdf ["self","pond"] []
 zcN:Meth K a.za6 "stored" a.zdn
 zeo:Fun K "check_below" "check_below" qa a.zeE a.zev
 zgT:Binds K a.zev ["below"] []
 zg5:mg "check_below"=some (.ref a.zeE)
 zeW:Fun K "__init__" "River.__init__" qj a.zcM a.zcJ
 zeT:Binds K a.zcJ ["self","below"] []
 zaK:Fun K "_law_cell_at" "_law_cell_at" si a.zeF a.zew
 zaT:Binds K a.zew ["script","k"] []
 zaU:mg "_law_cell_at"=some (.ref a.zeF)
 zgh:Fun K "_law_below" "_law_below" pk a.zgr a.zgn
 ziO:Binds K a.zgn ["script","start","size"] []
 ziX:mg "_law_below"=some (.ref a.zgr)
 zc1:Fun K "wants_of" "wants_of" pT a.zht a.zhq
 zdW:Binds K a.zhq ["book"] []
 zd6:mg "wants_of"=some (.ref a.zht)
 zkh:Fun K "dealt" "dealt" qW a.zma a.zl6
 zl3:Binds K a.zl6 ["book","year"] []
 zmf:mg "dealt"=some (.ref a.zma)
 zm0:Fun K "left" "left" rD a.zo9 a.zo5
 zo2:Binds K a.zo5 ["book","year"] []
 zpf:mg "left"=some (.ref a.zo9)
 zkj:Fun K "short" "short" rC a.zmd a.zl9
 zl5:Binds K a.zl9 ["book","year"] []
 zmh:mg "short"=some (.ref a.zmd)
 zqg:Fun K "dry" "dry" qM a.zrR a.zrP
 zrO:Binds K a.zrP ["book","year","name"] []
 zrT:mg "dry"=some (.ref a.zrR)
 zft:Fun K "wants_with" "wants_with" pQ a.zfO a.zfD
 zhG:Binds K a.zfD ["book","name","point"] []
 zhR:mg "wants_with"=some (.ref a.zfO)
 zib:Fun K "harmed" "harmed" oK a.zkn a.zkl
 zkg:Binds K a.zkl ["book","years","name","point"] []
 zko:mg "harmed"=some (.ref a.zkn)
 ziP:Fun K "drop" "Book.drop" qS a.zgo a.zgk
 ziM:Binds K a.zgk ["self","name"] []
 zhS:Meth K a.zd0 "drop" a.zgo
 zo3:Fun K "move" "move" qi a.zpa a.zo6
 zqH:Binds K a.zo6 ["book","years","name","point"] []
 zqM:mg "move"=some (.ref a.zpa)
 zgY:Fun K "above" "River.above" oX a.zeC a.zet
 zgR:Binds K a.zet ["self","point"] []
 zga:Meth K a.zdJ "above" a.zeC
 zer:Fun K "wants_among" "wants_among" qc a.zeI a.zez
 zgW:Binds K a.zez ["right","points"] []
 zg8:mg "wants_among"=some (.ref a.zeI)
 zo4:Fun K "shut" "shut" p6 a.zpb a.zo7
 zqI:Binds K a.zo7 ["book","year","name"] []
 zqN:mg "shut"=some (.ref a.zpb)
 zgg:Fun K "_law_asked" "_law_asked" rL a.zgq a.zgm
 ziN:Binds K a.zgm ["office","book","way","year"] []
 ziW:mg "_law_asked"=some (.ref a.zgq)
 zep:Fun K "_law_refused" "_law_refused" sE a.zeG a.zex
 zgU:Binds K a.zex ["office","book","way","year"] []
 zg6:mg "_law_refused"=some (.ref a.zeG)
 zeq:Fun K "_law_spoiled" "_law_spoiled" pE a.zeH a.zey
 zgV:Binds K a.zey ["year","way","cell","other"] []
 zg7:mg "_law_spoiled"=some (.ref a.zeH)
 zhn:Fun K "_law_year" "_law_year" qH a.zhs a.zhp
 zjx:Binds K a.zhp ["script","start","size"] []
 zjD:mg "_law_year"=some (.ref a.zhs)
 ztk:Fun K "law" "law" sf a.zrS a.zrQ
 ztN:Binds K a.zrQ ["script"] []
 ztO:mg "law"=some (.ref a.zrS)
 lam:tw K mg a.cl a.zdz.code
end L2.Rv
namespace L2.Rv
noncomputable section
open PySem PySem.Spec PyProof.Rows
abbrev kS(x:String)(t:Nat):ag:=.str (aF x) t
abbrev kE(P:Params)(x:String)(t:Nat)(v:ag):DictEntry:=⟨PyData.keyHash P (aF x),kS x t,v⟩
abbrev KQc:Array ag:=#[(kS "names" 788),(kS "Book.names" 789),(kS "/claim/cut.py" 790),(.int 245 0),(.int 1 0),(.int 0 0),(.int 0 0),(.int 3 0),(.ref 450),(.bool true),(.int 181 0),(.ref 451),.none,(.ref 452),(.ref 453),(.ref 454),(.int 793 0),(.int 245 0),(kS "/claim/cut.py" 794)]
abbrev fO(n q:Str)(s:aO)(m:String)(k:Nat)(c:ae):aW:=PySem.W.fnOf n q (l9 s) (jI s) (bi s) .none .none .none (kS m k) none (.ref c) .none
abbrev kF(n q:Str)(s:aO)(m:String)(k:Nat)(c:ae):az:=⟨.type "function",none,.func ⟨n,q,l9 s,.stmts (jI s),bi s,3,[],.none,.none,.none,kS m k,none,.ref c,.none,0⟩,#[]⟩
abbrev kC(n q f:String)(t l g v a x b c d e i:Nat):az:=⟨.type "code",none,.fields #[kS n t,kS q (t+1),kS f (t+2),.int l 0,.int g 0,.int 0 0,.int 0 0,.int v 0,.ref a,.bool true,.int x 0,.ref b,.none,.ref c,.ref d,.ref e,.int i 0,.int l 0,kS f (i+1)],#[]⟩
theorem fm{K:PySem.W.Frag}{n q:Str}{m:String}{s:aO}{k:Nat}{f c:ae}(l:K.lookup f=some ⟨.type "function",none,.func (fO n q s m k c),#[]⟩:=by kernel_rfl)(x:PySem.W.codeIn K (.ref c) q=true:=by kernel_rfl)(y:PySem.W.keepIn K (.ref f)=true:=by kernel_rfl):Fun K n q s f (fO n q s m k c):=G2 l x y
theorem nA{K:PySem.W.Frag}{C:ae}{f:Str}(h:PySem.W.findIn K (.ref C) f=some none:=by kernel_rfl):cQ K C f:=h
theorem nN{K:PySem.W.Frag}{h:aG}{mg:Str->Option ag}{x:Str}(X:K.In h)(G:h.Ns c8 mg)(e:PySem.W.nsIn K c8 x=some none:=by kernel_rfl):mg x=none:=PySem.W.mg_none_of X G e
theorem nR{K:PySem.W.Frag}{h:aG}{mg:Str->Option ag}{x:Str}{v:ag}(X:K.In h)(G:h.Ns c8 mg)(e:PySem.W.nsIn K c8 x=some (some v):=by kernel_rfl):mg x=some v:=PySem.W.mg_of X G e
theorem nC{K:PySem.W.Frag}{C:ae}(a:PySem.W.plainGet K C Str.empty=true:=by kernel_rfl)(b:PySem.W.hasDictIn K C=true:=by kernel_rfl)(c:PySem.W.plainOver K C=true:=by kernel_rfl)(d:PySem.W.findIn K (.ref C) "__setattr__"=some (some (.builtin "object.__setattr__")):=by kernel_rfl):Cls K C:=⟨a,b,c,d⟩
theorem nK{K:PySem.W.Frag}{C f:ae}(a:PySem.W.makesIn K C=true:=by kernel_rfl)(b:PySem.W.findIn K (.ref C) "__init__"=some (some (.ref f)):=by kernel_rfl)(c:PySem.W.isFn K (.ref f)=true:=by kernel_rfl)(d:PySem.W.keepIn K (.ref C)=true:=by kernel_rfl):Mk K C f:=⟨a,b,c,d⟩
theorem nM{K:PySem.W.Frag}{C f:ae}{m:Str}(a:PySem.W.findIn K (.ref C) m=some (some (.ref f)):=by kernel_rfl)(b:PySem.W.isFn K (.ref f)=true:=by kernel_rfl)(c:PySem.W.keepIn K (.ref f)=true:=by kernel_rfl):Meth K C m f:=⟨a,b,c⟩
theorem nX{K:PySem.W.Frag}{C:ae}(s:PySem.W.specialIn K (.builtin "object.__class__") "__get__"=some (some (.builtin "getset_descriptor.__get__")))(t:PySem.W.takesIn K (.builtin "object.__class__")=some true)(a:PySem.W.findIn K (.ref C) "__getattribute__"=some (some (.builtin "BaseException.__getattribute__")):=by kernel_rfl)(b:PySem.W.findIn K (.ref C) "__getattr__"=some none:=by kernel_rfl)(c:PySem.W.subIn K (.ref C) (.type "BaseException")=some true:=by kernel_rfl)(d:PySem.W.findIn K (.ref C) "__class__"=some (some (.builtin "object.__class__")):=by kernel_rfl)(e:PySem.W.mroIn K C (.type "object")=some true:=by kernel_rfl)(f:PySem.W.isClsIn K C=true:=by kernel_rfl)(g:PySem.W.typeIn K (.ref C)=some (.type "type"):=by kernel_rfl):cO K C:=⟨a,b,c,DK f d s t,e,f,g⟩
def KQ0(P:Params):PySem.W.Frag:=[(2,⟨.none,none,(.dict #[] 0),#[]⟩),
 (3,⟨(.type "dict"),none,(.dict #[kE P "__name__" 165 (kS "law_riverdue_k05_bad_years" 869),kE P "__doc__" 166 .none,kE P "__package__" 167 .none,kE P "__loader__" 168 (.builtin "__main__.__loader__#opaque"),kE P "__spec__" 169 .none,kE P "__annotations__" 170 (.ref 6),kE P "__builtins__" 171 (.ref 4),kE P "__file__" 173 (kS "/claim/cut.py" 172),kE P "__cached__" 174 .none,kE P "_wall" 193 (.ref 21),kE P "DueError" 213 (.ref 31),kE P "BadRiver" 229 (.ref 44),kE P "BadYear" 245 (.ref 56),kE P "NoPoint" 261 (.ref 68),kE P "Taken" 277 (.ref 80),kE P "NoRight" 293 (.ref 92),kE P "NotShort" 309 (.ref 104),kE P "TooMuch" 325 (.ref 116),kE P "Harm" 341 (.ref 128),kE P "NoPond" 357 (.ref 140),kE P "NotBelow" 373 (.ref 152),kE P "MOST_POINTS" 377 (.int 40 376),kE P "MOST_INFLOW" 379 (.int 1000000 378),kE P "River" 446 (.ref 204),kE P "check_below" 455 (.ref 215),kE P "check_year" 464 (.ref 222),kE P "flows" 470 (.ref 227),kE P "serve" 478 (.ref 232),kE P "wants_of" 484 (.ref 237),kE P "dealt" 493 (.ref 244),kE P "left" 501 (.ref 251),kE P "short" 507 (.ref 256),kE P "dry" 513 (.ref 261),kE P "shut" 519 (.ref 266),kE P "wants_among" 527 (.ref 273),kE P "harmed" 535 (.ref 278),kE P "wants_with" 546 (.ref 285),kE P "move" 557 (.ref 292),kE P "RANK_OF_RIGHT" 561 (.int 0 560),kE P "RANK_OF_POND" 563 (.int 1 562),kE P "Pond" 597 (.ref 309),kE P "Office" 719 (.ref 398),kE P "takes_of_rank" 725 (.ref 407),kE P "Right" 760 (.ref 424),kE P "Book" 868 (.ref 508),kE P "_law_cell_at" 878 (.ref 519),kE P "_law_whole" 885 (.ref 526),kE P "_law_below" 891 (.ref 531),kE P "_law_year" 904 (.ref 538),kE P "_law_spoiled" 916 (.ref 545),kE P "_law_asked" 922 (.ref 550),kE P "_law_refused" 934 (.ref 557),kE P "law" 950 (.ref 564)] 53),#[]⟩),
 (20,kC "_wall" "_wall" "/claim/cut.py" 187 1 1 3 15 181 16 17 18 19 191),
 (21,kF "_wall" "_wall" (top 0) "__main__" 164 20),
 (30,⟨(.type "dict"),none,(.dict #[kE P "__module__" 203 (kS "riverdue.errors" 194),kE P "__firstlineno__" 207 (.int 5 206),kE P "__static_attributes__" 208 (.ref 29),kE P "__weakref__" 210 (.ref 32),kE P "__doc__" 211 .none] 3),#[]⟩),
 (31,⟨(.type "type"),none,(.cls ⟨"DueError",[(.type "ValueError")],[(.ref 31),(.type "ValueError"),(.type "Exception"),(.type "BaseException"),(.type "object")],30,"DueError",true,[],[(.ref 44),(.ref 56),(.ref 68),(.ref 80),(.ref 92),(.ref 104),(.ref 116),(.ref 128),(.ref 140),(.ref 152)],false,none,false⟩),#[(some (.ref 22)),none,(some (kS "DueError" 196)),(some (kS "DueError" 204)),(some (.builtin "ValueError.__new__")),(some (.bool true))]⟩),
 (32,⟨(.type "getset_descriptor"),none,(.fields #[(kS "__weakref__" 209),(.ref 31),(.builtin "ExceptionGroup.__weakref__"),.none]),#[]⟩),
 (43,⟨(.type "dict"),none,(.dict #[kE P "__module__" 221 (kS "riverdue.errors" 194),kE P "__firstlineno__" 225 (.int 7 224),kE P "__static_attributes__" 226 (.ref 42),kE P "__doc__" 227 .none] 2),#[]⟩),
 (44,⟨(.type "type"),none,(.cls ⟨"BadRiver",[(.ref 31)],[(.ref 44),(.ref 31),(.type "ValueError"),(.type "Exception"),(.type "BaseException"),(.type "object")],43,"BadRiver",true,[],[],false,none,false⟩),#[(some (.ref 35)),none,(some (kS "BadRiver" 214)),(some (kS "BadRiver" 222)),(some (.builtin "ValueError.__new__")),(some (.bool true))]⟩),
 (55,⟨(.type "dict"),none,(.dict #[kE P "__module__" 237 (kS "riverdue.errors" 194),kE P "__firstlineno__" 241 (.int 9 240),kE P "__static_attributes__" 242 (.ref 54),kE P "__doc__" 243 .none] 2),#[]⟩),
 (56,⟨(.type "type"),none,(.cls ⟨"BadYear",[(.ref 31)],[(.ref 56),(.ref 31),(.type "ValueError"),(.type "Exception"),(.type "BaseException"),(.type "object")],55,"BadYear",true,[],[],false,none,false⟩),#[(some (.ref 47)),none,(some (kS "BadYear" 230)),(some (kS "BadYear" 238)),(some (.builtin "ValueError.__new__")),(some (.bool true))]⟩),
 (67,⟨(.type "dict"),none,(.dict #[kE P "__module__" 253 (kS "riverdue.errors" 194),kE P "__firstlineno__" 257 (.int 11 256),kE P "__static_attributes__" 258 (.ref 66),kE P "__doc__" 259 .none] 2),#[]⟩)]
def KQ1(P:Params):PySem.W.Frag:=[(68,⟨(.type "type"),none,(.cls ⟨"NoPoint",[(.ref 31)],[(.ref 68),(.ref 31),(.type "ValueError"),(.type "Exception"),(.type "BaseException"),(.type "object")],67,"NoPoint",true,[],[],false,none,false⟩),#[(some (.ref 59)),none,(some (kS "NoPoint" 246)),(some (kS "NoPoint" 254)),(some (.builtin "ValueError.__new__")),(some (.bool true))]⟩),
 (79,⟨(.type "dict"),none,(.dict #[kE P "__module__" 269 (kS "riverdue.errors" 194),kE P "__firstlineno__" 273 (.int 13 272),kE P "__static_attributes__" 274 (.ref 78),kE P "__doc__" 275 .none] 2),#[]⟩),
 (80,⟨(.type "type"),none,(.cls ⟨"Taken",[(.ref 31)],[(.ref 80),(.ref 31),(.type "ValueError"),(.type "Exception"),(.type "BaseException"),(.type "object")],79,"Taken",true,[],[],false,none,false⟩),#[(some (.ref 71)),none,(some (kS "Taken" 262)),(some (kS "Taken" 270)),(some (.builtin "ValueError.__new__")),(some (.bool true))]⟩),
 (91,⟨(.type "dict"),none,(.dict #[kE P "__module__" 285 (kS "riverdue.errors" 194),kE P "__firstlineno__" 289 (.int 15 288),kE P "__static_attributes__" 290 (.ref 90),kE P "__doc__" 291 .none] 2),#[]⟩),
 (92,⟨(.type "type"),none,(.cls ⟨"NoRight",[(.ref 31)],[(.ref 92),(.ref 31),(.type "ValueError"),(.type "Exception"),(.type "BaseException"),(.type "object")],91,"NoRight",true,[],[],false,none,false⟩),#[(some (.ref 83)),none,(some (kS "NoRight" 278)),(some (kS "NoRight" 286)),(some (.builtin "ValueError.__new__")),(some (.bool true))]⟩),
 (103,⟨(.type "dict"),none,(.dict #[kE P "__module__" 301 (kS "riverdue.errors" 194),kE P "__firstlineno__" 305 (.int 17 304),kE P "__static_attributes__" 306 (.ref 102),kE P "__doc__" 307 .none] 2),#[]⟩),
 (104,⟨(.type "type"),none,(.cls ⟨"NotShort",[(.ref 31)],[(.ref 104),(.ref 31),(.type "ValueError"),(.type "Exception"),(.type "BaseException"),(.type "object")],103,"NotShort",true,[],[],false,none,false⟩),#[(some (.ref 95)),none,(some (kS "NotShort" 294)),(some (kS "NotShort" 302)),(some (.builtin "ValueError.__new__")),(some (.bool true))]⟩),
 (115,⟨(.type "dict"),none,(.dict #[kE P "__module__" 317 (kS "riverdue.errors" 194),kE P "__firstlineno__" 321 (.int 19 320),kE P "__static_attributes__" 322 (.ref 114),kE P "__doc__" 323 .none] 2),#[]⟩),
 (116,⟨(.type "type"),none,(.cls ⟨"TooMuch",[(.ref 31)],[(.ref 116),(.ref 31),(.type "ValueError"),(.type "Exception"),(.type "BaseException"),(.type "object")],115,"TooMuch",true,[],[],false,none,false⟩),#[(some (.ref 107)),none,(some (kS "TooMuch" 310)),(some (kS "TooMuch" 318)),(some (.builtin "ValueError.__new__")),(some (.bool true))]⟩),
 (127,⟨(.type "dict"),none,(.dict #[kE P "__module__" 333 (kS "riverdue.errors" 194),kE P "__firstlineno__" 337 (.int 21 336),kE P "__static_attributes__" 338 (.ref 126),kE P "__doc__" 339 .none] 2),#[]⟩),
 (128,⟨(.type "type"),none,(.cls ⟨"Harm",[(.ref 31)],[(.ref 128),(.ref 31),(.type "ValueError"),(.type "Exception"),(.type "BaseException"),(.type "object")],127,"Harm",true,[],[],false,none,false⟩),#[(some (.ref 119)),none,(some (kS "Harm" 326)),(some (kS "Harm" 334)),(some (.builtin "ValueError.__new__")),(some (.bool true))]⟩),
 (139,⟨(.type "dict"),none,(.dict #[kE P "__module__" 349 (kS "riverdue.errors" 194),kE P "__firstlineno__" 353 (.int 23 352),kE P "__static_attributes__" 354 (.ref 138),kE P "__doc__" 355 .none] 2),#[]⟩)]
def KQ2(P:Params):PySem.W.Frag:=[(140,⟨(.type "type"),none,(.cls ⟨"NoPond",[(.ref 31)],[(.ref 140),(.ref 31),(.type "ValueError"),(.type "Exception"),(.type "BaseException"),(.type "object")],139,"NoPond",true,[],[],false,none,false⟩),#[(some (.ref 131)),none,(some (kS "NoPond" 342)),(some (kS "NoPond" 350)),(some (.builtin "ValueError.__new__")),(some (.bool true))]⟩),
 (151,⟨(.type "dict"),none,(.dict #[kE P "__module__" 365 (kS "riverdue.errors" 194),kE P "__firstlineno__" 369 (.int 25 368),kE P "__static_attributes__" 370 (.ref 150),kE P "__doc__" 371 .none] 2),#[]⟩),
 (152,⟨(.type "type"),none,(.cls ⟨"NotBelow",[(.ref 31)],[(.ref 152),(.ref 31),(.type "ValueError"),(.type "Exception"),(.type "BaseException"),(.type "object")],151,"NotBelow",true,[],[],false,none,false⟩),#[(some (.ref 143)),none,(some (kS "NotBelow" 358)),(some (kS "NotBelow" 366)),(some (.builtin "ValueError.__new__")),(some (.bool true))]⟩),
 (167,kC "__init__" "River.__init__" "/claim/cut.py" 392 32 2 3 162 181 163 164 165 166 397),
 (168,kF "__init__" "River.__init__" qj "riverdue.river" 374 167),
 (174,kC "points" "River.points" "/claim/cut.py" 400 36 1 3 169 181 170 171 172 173 404),
 (175,kF "points" "River.points" qO "riverdue.river" 374 174),
 (181,kC "check_point" "River.check_point" "/claim/cut.py" 407 39 2 3 176 181 177 178 179 180 412),
 (182,kF "check_point" "River.check_point" pS "riverdue.river" 374 181),
 (188,kC "below" "River.below" "/claim/cut.py" 415 43 2 3 183 181 184 185 186 187 420),
 (189,kF "below" "River.below" oB "riverdue.river" 374 188),
 (195,kC "way" "River.way" "/claim/cut.py" 423 47 2 3 190 181 191 192 193 194 429)]
def KQ3(P:Params):PySem.W.Frag:=[(196,kF "way" "River.way" q8 "riverdue.river" 374 195),
 (200,⟨(.type "code"),none,(.fields #[(kS "above" 432),(kS "River.above" 433),(kS "/claim/cut.py" 434),(.int 55 0),(.int 2 0),(.int 0 0),(.int 0 0),(.int 3 0),(.ref 197),(.bool true),(.int 181 0),(.ref 198),.none,.none,.none,(.ref 199),(.int 435 0),(.int 55 0),(kS "/claim/cut.py" 436)]),#[]⟩),
 (201,kF "above" "River.above" oX "riverdue.river" 374 200),
 (203,⟨(.type "dict"),none,(.dict #[kE P "__module__" 387 (kS "riverdue.river" 374),kE P "__firstlineno__" 391 (.int 30 390),kE P "__init__" 399 (.ref 168),kE P "points" 406 (.ref 175),kE P "check_point" 414 (.ref 182),kE P "below" 422 (.ref 189),kE P "way" 431 (.ref 196),kE P "above" 437 (.ref 201),kE P "__static_attributes__" 439 (.ref 202),kE P "__dict__" 441 (.ref 205),kE P "__weakref__" 443 (.ref 206),kE P "__doc__" 444 .none] 4),#[]⟩),
 (204,⟨(.type "type"),none,(.cls ⟨"River",[(.type "object")],[(.ref 204),(.type "object")],203,"River",true,[],[],false,none,false⟩),#[none,none,(some (kS "River" 380)),(some (kS "River" 388)),(some (.builtin "object.__new__")),(some (.bool true))]⟩),
 (205,⟨(.type "getset_descriptor"),none,(.fields #[(kS "__dict__" 440),(.ref 204),(.builtin "function.__dict__"),(.builtin "function.__dict__#set")]),#[]⟩),
 (206,⟨(.type "getset_descriptor"),none,(.fields #[(kS "__weakref__" 442),(.ref 204),(.builtin "ExceptionGroup.__weakref__"),.none]),#[]⟩),
 (214,kC "check_below" "check_below" "/claim/cut.py" 447 58 1 3 209 181 210 211 212 213 453),
 (215,kF "check_below" "check_below" qa "riverdue.river" 374 214),
 (221,kC "check_year" "check_year" "/claim/cut.py" 456 67 2 3 216 181 217 218 219 220 462),
 (222,kF "check_year" "check_year" re "riverdue.river" 374 221),
 (226,⟨(.type "code"),none,(.fields #[(kS "flows" 465),(kS "flows" 466),(kS "/claim/cut.py" 467),(.int 73 0),(.int 3 0),(.int 0 0),(.int 0 0),(.int 3 0),(.ref 223),(.bool true),(.int 181 0),(.ref 224),.none,.none,.none,(.ref 225),(.int 468 0),(.int 73 0),(kS "/claim/cut.py" 469)]),#[]⟩)]
def KQ4(P:Params):PySem.W.Frag:=[(227,kF "flows" "flows" qU "riverdue.river" 374 226),
 (231,⟨(.type "code"),none,(.fields #[(kS "serve" 473),(kS "serve" 474),(kS "/claim/cut.py" 475),(.int 80 0),(.int 3 0),(.int 0 0),(.int 0 0),(.int 3 0),(.ref 228),(.bool true),(.int 181 0),(.ref 229),.none,.none,.none,(.ref 230),(.int 476 0),(.int 80 0),(kS "/claim/cut.py" 477)]),#[]⟩),
 (232,kF "serve" "serve" oq "riverdue.dealing" 471 231),
 (236,⟨(.type "code"),none,(.fields #[(kS "wants_of" 479),(kS "wants_of" 480),(kS "/claim/cut.py" 481),(.int 90 0),(.int 1 0),(.int 0 0),(.int 0 0),(.int 3 0),(.ref 233),(.bool true),(.int 181 0),(.ref 234),.none,.none,.none,(.ref 235),(.int 482 0),(.int 90 0),(kS "/claim/cut.py" 483)]),#[]⟩),
 (237,kF "wants_of" "wants_of" pT "riverdue.dealing" 471 236),
 (243,kC "dealt" "dealt" "/claim/cut.py" 485 92 2 3 238 181 239 240 241 242 491),
 (244,kF "dealt" "dealt" qW "riverdue.dealing" 471 243),
 (250,kC "left" "left" "/claim/cut.py" 494 95 2 3 245 181 246 247 248 249 499),
 (251,kF "left" "left" rD "riverdue.dealing" 471 250),
 (255,⟨(.type "code"),none,(.fields #[(kS "short" 502),(kS "short" 503),(kS "/claim/cut.py" 504),(.int 97 0),(.int 2 0),(.int 0 0),(.int 0 0),(.int 3 0),(.ref 252),(.bool true),(.int 181 0),(.ref 253),.none,.none,.none,(.ref 254),(.int 505 0),(.int 97 0),(kS "/claim/cut.py" 506)]),#[]⟩),
 (256,kF "short" "short" rC "riverdue.dealing" 471 255),
 (260,⟨(.type "code"),none,(.fields #[(kS "dry" 508),(kS "dry" 509),(kS "/claim/cut.py" 510),(.int 99 0),(.int 3 0),(.int 0 0),(.int 0 0),(.int 3 0),(.ref 257),(.bool true),(.int 181 0),(.ref 258),.none,.none,.none,(.ref 259),(.int 511 0),(.int 99 0),(kS "/claim/cut.py" 512)]),#[]⟩)]
def KQ5(P:Params):PySem.W.Frag:=[(261,kF "dry" "dry" qM "riverdue.dealing" 471 260),
 (265,⟨(.type "code"),none,(.fields #[(kS "shut" 514),(kS "shut" 515),(kS "/claim/cut.py" 516),(.int 107 0),(.int 3 0),(.int 0 0),(.int 0 0),(.int 3 0),(.ref 262),(.bool true),(.int 181 0),(.ref 263),.none,.none,.none,(.ref 264),(.int 517 0),(.int 107 0),(kS "/claim/cut.py" 518)]),#[]⟩),
 (266,kF "shut" "shut" p6 "riverdue.dealing" 471 265),
 (272,kC "wants_among" "wants_among" "/claim/cut.py" 520 112 2 3 267 181 268 269 270 271 525),
 (273,kF "wants_among" "wants_among" qc "riverdue.dealing" 471 272),
 (277,⟨(.type "code"),none,(.fields #[(kS "harmed" 530),(kS "harmed" 531),(kS "/claim/cut.py" 532),(.int 115 0),(.int 4 0),(.int 0 0),(.int 0 0),(.int 3 0),(.ref 274),(.bool true),(.int 181 0),(.ref 275),.none,.none,.none,(.ref 276),(.int 533 0),(.int 115 0),(kS "/claim/cut.py" 534)]),#[]⟩),
 (278,kF "harmed" "harmed" oK "riverdue.changes" 528 277),
 (284,kC "wants_with" "wants_with" "/claim/cut.py" 536 130 3 3 279 181 280 281 282 283 544),
 (285,kF "wants_with" "wants_with" pQ "riverdue.changes" 528 284),
 (291,kC "move" "move" "/claim/cut.py" 547 135 4 3 286 181 287 288 289 290 555),
 (292,kF "move" "move" qi "riverdue.changes" 528 291),
 (305,kC "__init__" "Pond.__init__" "/claim/cut.py" 576 147 4 3 300 181 301 302 303 304 583)]
def KQ6(P:Params):PySem.W.Frag:=[(306,kF "__init__" "Pond.__init__" qf "riverdue.office" 558 305),
 (308,⟨(.type "dict"),none,(.dict #[kE P "__module__" 571 (kS "riverdue.office" 558),kE P "__firstlineno__" 575 (.int 145 574),kE P "__init__" 585 (.ref 306),kE P "__static_attributes__" 590 (.ref 307),kE P "__dict__" 592 (.ref 310),kE P "__weakref__" 594 (.ref 311),kE P "__doc__" 595 .none] 4),#[]⟩),
 (309,⟨(.type "type"),none,(.cls ⟨"Pond",[(.type "object")],[(.ref 309),(.type "object")],308,"Pond",true,[],[],false,none,false⟩),#[none,none,(some (kS "Pond" 564)),(some (kS "Pond" 572)),(some (.builtin "object.__new__")),(some (.bool true))]⟩),
 (310,⟨(.type "getset_descriptor"),none,(.fields #[(kS "__dict__" 591),(.ref 309),(.builtin "function.__dict__"),(.builtin "function.__dict__#set")]),#[]⟩),
 (311,⟨(.type "getset_descriptor"),none,(.fields #[(kS "__weakref__" 593),(.ref 309),(.builtin "ExceptionGroup.__weakref__"),.none]),#[]⟩),
 (326,kC "__init__" "Office.__init__" "/claim/cut.py" 610 154 2 3 321 181 322 323 324 325 615),
 (327,kF "__init__" "Office.__init__" oA "riverdue.office" 558 326),
 (333,kC "dig" "Office.dig" "/claim/cut.py" 618 161 5 3 328 181 329 330 331 332 626),
 (334,kF "dig" "Office.dig" ol "riverdue.office" 558 333),
 (338,⟨(.type "code"),none,(.fields #[(kS "day" 629),(kS "Office.day" 630),(kS "/claim/cut.py" 631),(.int 168 0),(.int 2 0),(.int 0 0),(.int 0 0),(.int 3 0),(.ref 335),(.bool true),(.int 181 0),(.ref 336),.none,.none,.none,(.ref 337),(.int 632 0),(.int 168 0),(kS "/claim/cut.py" 633)]),#[]⟩),
 (339,kF "day" "Office.day" sC "riverdue.office" 558 338),
 (345,kC "send" "Office.send" "/claim/cut.py" 635 182 4 3 340 181 341 342 343 344 645)]
def KQ7(P:Params):PySem.W.Frag:=[(346,kF "send" "Office.send" (cI (top 37) 3) "riverdue.office" 558 345),
 (352,kC "stored" "Office.stored" "/claim/cut.py" 648 196 2 3 347 181 348 349 350 351 653),
 (353,kF "stored" "Office.stored" sr "riverdue.office" 558 352),
 (359,kC "got" "Office.got" "/claim/cut.py" 656 199 2 3 354 181 355 356 357 358 661),
 (360,kF "got" "Office.got" rH "riverdue.office" 558 359),
 (366,kC "account" "Office.account" "/claim/cut.py" 664 203 2 3 361 181 362 363 364 365 669),
 (367,kF "account" "Office.account" qe "riverdue.office" 558 366),
 (373,kC "out" "Office.out" "/claim/cut.py" 672 207 1 3 368 181 369 370 371 372 676),
 (374,kF "out" "Office.out" sj "riverdue.office" 558 373),
 (380,kC "pond_called" "Office.pond_called" "/claim/cut.py" 679 210 2 3 375 181 376 377 378 379 684),
 (381,kF "pond_called" "Office.pond_called" pY "riverdue.office" 558 380),
 (387,kC "give" "Office.give" "/claim/cut.py" 687 215 3 3 382 181 383 384 385 386 693)]
def KQ8(P:Params):PySem.W.Frag:=[(388,kF "give" "Office.give" rh "riverdue.office" 558 387),
 (394,kC "wants_by_age" "Office.wants_by_age" "/claim/cut.py" 696 219 1 3 389 181 390 391 392 393 704),
 (395,kF "wants_by_age" "Office.wants_by_age" sA "riverdue.office" 558 394),
 (397,⟨(.type "dict"),none,(.dict #[kE P "__module__" 605 (kS "riverdue.office" 558),kE P "__firstlineno__" 609 (.int 152 608),kE P "__init__" 617 (.ref 327),kE P "dig" 628 (.ref 334),kE P "day" 634 (.ref 339),kE P "send" 647 (.ref 346),kE P "stored" 655 (.ref 353),kE P "got" 663 (.ref 360),kE P "account" 671 (.ref 367),kE P "out" 678 (.ref 374),kE P "pond_called" 686 (.ref 381),kE P "give" 695 (.ref 388),kE P "wants_by_age" 706 (.ref 395),kE P "__static_attributes__" 712 (.ref 396),kE P "__dict__" 714 (.ref 399),kE P "__weakref__" 716 (.ref 400),kE P "__doc__" 717 .none] 4),#[]⟩),
 (398,⟨(.type "type"),none,(.cls ⟨"Office",[(.type "object")],[(.ref 398),(.type "object")],397,"Office",true,[],[],false,none,false⟩),#[none,none,(some (kS "Office" 598)),(some (kS "Office" 606)),(some (.builtin "object.__new__")),(some (.bool true))]⟩),
 (399,⟨(.type "getset_descriptor"),none,(.fields #[(kS "__dict__" 713),(.ref 398),(.builtin "function.__dict__"),(.builtin "function.__dict__#set")]),#[]⟩),
 (400,⟨(.type "getset_descriptor"),none,(.fields #[(kS "__weakref__" 715),(.ref 398),(.builtin "ExceptionGroup.__weakref__"),.none]),#[]⟩),
 (406,⟨(.type "code"),none,(.fields #[(kS "takes_of_rank" 720),(kS "takes_of_rank" 721),(kS "/claim/cut.py" 722),(.int 227 0),(.int 3 0),(.int 0 0),(.int 0 0),(.int 3 0),(.ref 403),(.bool true),(.int 181 0),(.ref 404),.none,.none,.none,(.ref 405),(.int 723 0),(.int 227 0),(kS "/claim/cut.py" 724)]),#[]⟩),
 (407,kF "takes_of_rank" "takes_of_rank" rQ "riverdue.office" 558 406),
 (420,kC "__init__" "Right.__init__" "/claim/cut.py" 740 232 4 3 415 181 416 417 418 419 747),
 (421,kF "__init__" "Right.__init__" oM "riverdue.rights" 726 420),
 (423,⟨(.type "dict"),none,(.dict #[kE P "__module__" 735 (kS "riverdue.rights" 726),kE P "__firstlineno__" 739 (.int 230 738),kE P "__init__" 749 (.ref 421),kE P "__static_attributes__" 753 (.ref 422),kE P "__dict__" 755 (.ref 425),kE P "__weakref__" 757 (.ref 426),kE P "__doc__" 758 .none] 4),#[]⟩)]
def KQ9(P:Params):PySem.W.Frag:=[(424,⟨(.type "type"),none,(.cls ⟨"Right",[(.type "object")],[(.ref 424),(.type "object")],423,"Right",true,[],[],false,none,false⟩),#[none,none,(some (kS "Right" 728)),(some (kS "Right" 736)),(some (.builtin "object.__new__")),(some (.bool true))]⟩),
 (425,⟨(.type "getset_descriptor"),none,(.fields #[(kS "__dict__" 754),(.ref 424),(.builtin "function.__dict__"),(.builtin "function.__dict__#set")]),#[]⟩),
 (426,⟨(.type "getset_descriptor"),none,(.fields #[(kS "__weakref__" 756),(.ref 424),(.builtin "ExceptionGroup.__weakref__"),.none]),#[]⟩),
 (441,kC "__init__" "Book.__init__" "/claim/cut.py" 773 238 2 3 436 181 437 438 439 440 778),
 (442,kF "__init__" "Book.__init__" pb "riverdue.rights" 726 441),
 (448,kC "river" "Book.river" "/claim/cut.py" 781 242 1 3 443 181 444 445 446 447 785),
 (449,kF "river" "Book.river" rG "riverdue.rights" 726 448),
 (455,kC "names" "Book.names" "/claim/cut.py" 788 245 1 3 450 181 451 452 453 454 793),
 (456,kF "names" "Book.names" rR "riverdue.rights" 726 455),
 (462,kC "right" "Book.right" "/claim/cut.py" 796 248 2 3 457 181 458 459 460 461 802),
 (463,kF "right" "Book.right" p7 "riverdue.rights" 726 462),
 (469,kC "grant" "Book.grant" "/claim/cut.py" 805 252 5 3 464 181 465 466 467 468 813)]
def KQ10(P:Params):PySem.W.Frag:=[(470,kF "grant" "Book.grant" o7 "riverdue.rights" 726 469),
 (476,kC "drop" "Book.drop" "/claim/cut.py" 816 258 2 3 471 181 472 473 474 475 821),
 (477,kF "drop" "Book.drop" qS "riverdue.rights" 726 476),
 (483,kC "part" "Book.part" "/claim/cut.py" 824 263 4 3 478 181 479 480 481 482 831),
 (484,kF "part" "Book.part" (cI (top 41) 6) "riverdue.rights" 726 483),
 (490,kC "unite" "Book.unite" "/claim/cut.py" 834 266 3 3 485 181 486 487 488 489 840),
 (491,kF "unite" "Book.unite" (cI (top 41) 7) "riverdue.rights" 726 490),
 (497,kC "held_right" "Book.held_right" "/claim/cut.py" 843 269 2 3 492 181 493 494 495 496 848),
 (498,kF "held_right" "Book.held_right" rj "riverdue.rights" 726 497),
 (504,kC "check_free" "Book.check_free" "/claim/cut.py" 851 274 2 3 499 181 500 501 502 503 856),
 (505,kF "check_free" "Book.check_free" rF "riverdue.rights" 726 504),
 (507,⟨(.type "dict"),none,(.dict #[kE P "__module__" 768 (kS "riverdue.rights" 726),kE P "__firstlineno__" 772 (.int 236 771),kE P "__init__" 780 (.ref 442),kE P "river" 787 (.ref 449),kE P "names" 795 (.ref 456),kE P "right" 804 (.ref 463),kE P "grant" 815 (.ref 470),kE P "drop" 823 (.ref 477),kE P "part" 833 (.ref 484),kE P "unite" 842 (.ref 491),kE P "held_right" 850 (.ref 498),kE P "check_free" 858 (.ref 505),kE P "__static_attributes__" 861 (.ref 506),kE P "__dict__" 863 (.ref 509),kE P "__weakref__" 865 (.ref 510),kE P "__doc__" 866 .none] 4),#[]⟩)]
def KQ11(P:Params):PySem.W.Frag:=[(508,⟨(.type "type"),none,(.cls ⟨"Book",[(.type "object")],[(.ref 508),(.type "object")],507,"Book",true,[],[],false,none,false⟩),#[none,none,(some (kS "Book" 761)),(some (kS "Book" 769)),(some (.builtin "object.__new__")),(some (.bool true))]⟩),
 (509,⟨(.type "getset_descriptor"),none,(.fields #[(kS "__dict__" 862),(.ref 508),(.builtin "function.__dict__"),(.builtin "function.__dict__#set")]),#[]⟩),
 (510,⟨(.type "getset_descriptor"),none,(.fields #[(kS "__weakref__" 864),(.ref 508),(.builtin "ExceptionGroup.__weakref__"),.none]),#[]⟩),
 (518,kC "_law_cell_at" "_law_cell_at" "/claim/cut.py" 871 278 2 3 513 181 514 515 516 517 876),
 (519,kF "_law_cell_at" "_law_cell_at" si "law_riverdue_k05_bad_years" 869 518),
 (530,⟨(.type "code"),none,(.fields #[(kS "_law_below" 886),(kS "_law_below" 887),(kS "/claim/cut.py" 888),(.int 284 0),(.int 3 0),(.int 0 0),(.int 0 0),(.int 3 0),(.ref 527),(.bool true),(.int 181 0),(.ref 528),.none,.none,.none,(.ref 529),(.int 889 0),(.int 284 0),(kS "/claim/cut.py" 890)]),#[]⟩),
 (531,kF "_law_below" "_law_below" pk "law_riverdue_k05_bad_years" 869 530),
 (537,kC "_law_year" "_law_year" "/claim/cut.py" 892 286 3 3 532 181 533 534 535 536 902),
 (538,kF "_law_year" "_law_year" qH "law_riverdue_k05_bad_years" 869 537),
 (544,kC "_law_spoiled" "_law_spoiled" "/claim/cut.py" 905 295 4 3 539 181 540 541 542 543 914),
 (545,kF "_law_spoiled" "_law_spoiled" pE "law_riverdue_k05_bad_years" 869 544),
 (549,⟨(.type "code"),none,(.fields #[(kS "_law_asked" 917),(kS "_law_asked" 918),(kS "/claim/cut.py" 919),(.int 309 0),(.int 4 0),(.int 0 0),(.int 0 0),(.int 3 0),(.ref 546),(.bool true),(.int 181 0),(.ref 547),.none,.none,.none,(.ref 548),(.int 920 0),(.int 309 0),(kS "/claim/cut.py" 921)]),#[]⟩)]
def KQ12(P:Params):PySem.W.Frag:=[(550,kF "_law_asked" "_law_asked" rL "law_riverdue_k05_bad_years" 869 549),
 (556,kC "_law_refused" "_law_refused" "/claim/cut.py" 923 328 4 3 551 181 552 553 554 555 932),
 (557,kF "_law_refused" "_law_refused" sE "law_riverdue_k05_bad_years" 869 556),
 (563,kC "law" "law" "/claim/cut.py" 935 335 1 3 558 181 559 560 561 562 948),
 (564,kF "law" "law" sf "law_riverdue_k05_bad_years" 869 563),
 (4,⟨(.type "module"),(some 0),.plain,#[]⟩)]
def KQ(P:Params):PySem.W.Frag:=KQ0 P++(KQ1 P++(KQ2 P++(KQ3 P++(KQ4 P++(KQ5 P++(KQ6 P++(KQ7 P++(KQ8 P++(KQ9 P++(KQ10 P++(KQ11 P++(KQ12 P++[(451,PySem.W.tabObj #[])]))))))))))))
abbrev KM(w:aU):PySem.W.Frag:=KD KQ 451 w.params
def KQa:List ae:=[2,3,20,21,30,31,32,43,44,55,56,67,68,79,80,91,92,103,104,115,116,127,128,139,140,151,152,167,168,174,175,181,182,188,189,195,196,200,201,203,204,205,206,214,215,221,222,226,227,231,232,236,237,243,244,250,251,255,256,260,261,265,266,272,273,277,278,284,285,291,292,305,306,308,309,310,311,326,327,333,334,338,339,345,346,352,353,359,360,366,367,373,374,380,381,387,388,394,395,397,398,399,400,406,407,420,421,423,424,425,426,441,442,448,449,455,456,462,463,469,470,476,477,483,484,490,491,497,498,504,505,507,508,509,510,518,519,530,531,537,538,544,545,549,550,556,557,563,564,4,451]
end
end L2.Rv
namespace L2.Rv
open PySem PySem.Spec PyProof.Rows
section
variable {P:bf}{w:aU}{K:PySem.W.Frag}{mg:Str->Option ag}{base:aG}{a:Adr}
theorem Er:br ["self"] ["self"] (bi rR):=⟨rfl,rfl,rfl,by decide +kernel,rfl,by decide +kernel,by decide +kernel⟩
theorem kU(T:Txt K mg a):FnG P w K mg base a.cl 4 a.zfG a.zdz ["self"] gC:=by
 refine Ah (N:=["self"]) (k:=3) (g:=uX) T.zhI Er rfl λcdv hc A outer s H E sa ns hr=>?_;exact(aK (bP (DJ (k:=1) (nm:="name") (fv:="self") (i:=0) (hc▸T.lam) (bI (f:="held") (ah 0) (aX.one T.zai T.zaY)) ⟨rfl,rfl,rfl,rfl,rfl,by decide,E9 rfl,rfl,rfl,rfl,rfl⟩ T.zkp hr rfl rfl (λfd v h1 h2 h3=>D7 h1 h2 h3) (λL f cdv s H hr=>(jq (ao (bI (f:="date") (bY (bg hr) (bI (f:="held") (ah 1) (aX.one T.zai T.zaY)) (ah 0)) (aX.two T.zb7 T.zcB T.zcs T.zb9)) (ao (ah 0) aD)))))))
theorem DO:br ["self","river"] ["self","river"] (bi pb):=⟨rfl,rfl,rfl,by decide +kernel,rfl,by decide +kernel,by decide +kernel⟩
theorem DX(T:Txt K mg a):FnG P w K mg base a.cl 1 a.zdm a.zde ["self","river"] qG:=by
 refine bD (N:=["self","river"]) (k:=0) (g:=vO) T.zfp DO rfl λcdv A outer s H E sa ns hr=>?_;exact (aC (eM (f:="stream") (ah 0) (ah 1) (aX.one T.zai T.zct))
  (aK (eM (f:="held") (ah 0) kG (aX.one T.zai T.zaY))))
theorem Et:br ["self","name"] ["self","name"] (bi rF):=⟨rfl,rfl,rfl,by decide +kernel,rfl,by decide +kernel,by decide +kernel⟩
theorem HI(T:Txt K mg a):FnG P w K mg base a.cl 1 a.zcn a.zck ["self","name"] mY:=by
 refine bD (N:=["self","name"]) (k:=0) (g:=vD) T.zdX Et rfl λcdv A outer s H E sa ns hr=>?_;exact(aK (cB (bN (λ_=>(l8 (bg hr))) js (ah 1) (bI (f:="held") (ah 0) (aX.one T.zai T.zaY)) rfl) (aK (gs (c:=104) f8 T.zkm T.zme hr.hd (ao (mf (.cons .lit (.cons (.rp (ah 1)) Paired.nil))) aD))) cA))
theorem Hi:br ["self","point","amount","date"] ["self","point","amount","date"] (bi oM):=⟨rfl,rfl,rfl,by decide +kernel,rfl,by decide +kernel,by decide +kernel⟩
theorem Hk(T:Txt K mg a):FnG P w K mg base a.cl 1 a.zcL a.zcI ["self","point","amount","date"] sK:=by
 refine bD (N:=["self","point","amount","date"]) (k:=0) (g:=uE) T.zeV Hi rfl λcdv A outer s H E sa ns hr=>?_;exact (aC (eM (f:="point") (ah 0) (ah 1) (aX.one T.zcs T.zcu))
  (aC (eM (f:="amount") (ah 0) (ah 2) (aX.one T.zcs T.zds))
  (aK (eM (f:="date") (ah 0) (ah 3) (aX.one T.zcs T.zb9)))))
theorem Dd:br ["self","point"] ["self","point"] (bi pS):=⟨rfl,rfl,rfl,by decide +kernel,rfl,by decide +kernel,by decide +kernel⟩
theorem lI(T:Txt K mg a):FnG P w K mg base a.cl 1 a.zbW a.zbV ["self","point"] g0:=by
 refine bD (N:=["self","point"]) (k:=0) (g:=ui) T.zdd Dd rfl λcdv A outer s H E sa ns hr=>?_;exact(aK (cB (GW.gt (j7 (bN (λ_=>jX) jH (ah 1) ge_int (bV _)) (lL .Or (bN (λ_=>Ap) wC (ah 1) (eO (λ_=>fP) fA (bI (f:="runs_to") (ah 0) (aX.one T.zaP T.zba)) T.zha PySem.boot_len) (bV _))))) (aK (gs (c:=103) f8 T.zjy T.zln hr.hd (ao df aD))) cA))
theorem HN:br ["self","name","point","amount","date"] ["self","name","point","amount","date"] (bi o7):=⟨rfl,rfl,rfl,by decide +kernel,rfl,by decide +kernel,by decide +kernel⟩
theorem xE(T:Txt K mg a):FnG P w K mg base a.cl 3 a.zfF a.zfv ["self","name","point","amount","date"] nH:=by
 refine bD (N:=["self","name","point","amount","date"]) (k:=2) (g:=yL) T.zhH HN rfl λcdv A outer s H E sa ns hr=>?_;exact (aC (cj (bR (c:=3) (mth:="check_free") (ah 0) T.zai T.zdA (HI T) (hr.mono (by decide)) T.zdU (ao (ah 1) aD)))
  (aC (cj (bR (c:=1) (mth:="check_point") (bI (f:="stream") (ah 0) (aX.one T.zai T.zct)) T.zaP T.zax (lI T) (hr.mono (by decide)) T.zaD (ao (ah 2) aD)))
  (aC (iu (bI (f:="held") (ah 0) (aX.one T.zai T.zaY)) (ah 1) (mP (c:=2) T.zm4 (Hk T) (hr.mono (by decide)) T.zpc T.zeS (ao (ah 2) (ao (ah 3) (ao (ah 4) aD)))) (hg:=λE t t' h1 h2=>iA h1 h2 (ij (bg hr))))
  (aK (bP (eO (λ_=>fP) fA (bI (f:="held") (ah 0) (aX.one T.zai T.zaY)) T.zha PySem.boot_len))))))
theorem E5:br ["self","name"] ["self","name"] (bi rj):=⟨rfl,rfl,rfl,by decide +kernel,rfl,by decide +kernel,by decide +kernel⟩
theorem yI(T:Txt K mg a):FnG P w K mg base a.cl 1 a.zco a.zcl ["self","name"] kr:=by
 refine bD (N:=["self","name"]) (k:=0) (g:=sQ) T.zdY E5 rfl λcdv A outer s H E sa ns hr=>?_;exact (aC (cB (bN (λ_=>(vC (bg hr))) js (ah 1) (bI (f:="held") (ah 0) (aX.one T.zai T.zaY)) rfl) (aK (gs (c:=105) f8 T.zjz T.ziV hr.hd (ao (mf (.cons .lit (.cons (.rp (ah 1)) Paired.nil))) aD))) cA)
  (aK (bP (bY (bg hr) (bI (f:="held") (ah 0) (aX.one T.zai T.zaY)) (ah 1)))))
theorem Ai:br ["self","name","found"] ["self","name"] (bi p7):=⟨rfl,rfl,rfl,by decide +kernel,rfl,by decide +kernel,by decide +kernel⟩
theorem fQ(T:Txt K mg a):FnG P w K mg base a.cl 2 a.zfH a.zfw ["self","name"] dX:=by
 refine bD (N:=["self","name","found"]) (k:=1) (g:=tK) T.zhJ Ai rfl λcdv A outer s H E sa ns hr=>?_;exact (aC (bB (n:=2) (bR (c:=3) (mth:="held_right") (ah 0) T.zai T.zb8 (yI T) (hr.mono (by decide)) T.zcj (ao (ah 1) aD)) Ai.nd)
  (aK (bP (jq (ao (bI (f:="point") (ah 2) (aX.two T.zb7 T.zc0 T.zcs T.zcu)) (ao (bI (f:="amount") (ah 2) (aX.one T.zcs T.zds)) (ao (bI (f:="date") (ah 2) (aX.two T.zb7 T.zcB T.zcs T.zb9)) aD)))))))
theorem Fs:br ["self","book"] ["self","book"] (bi oA):=⟨rfl,rfl,rfl,by decide +kernel,rfl,by decide +kernel,by decide +kernel⟩
theorem F7(T:Txt K mg a):FnG P w K mg base a.cl 1 a.zcp a.zcm ["self","book"] oZ:=by
 refine bD (N:=["self","book"]) (k:=0) (g:=vq) T.zdZ Fs rfl λcdv A outer s H E sa ns hr=>?_;exact (aC (eM (f:="book") (ah 0) (ah 1) (aX.one T.zaf T.za4))
  (aC (eM (f:="ponds") (ah 0) kG (aX.one T.zaf T.zaL))
  (aC (eM (f:="last_day") (ah 0) kG (aX.one T.zaf T.zaZ))
  (aC (eM (f:="all_days") (ah 0) kG (aX.one T.zaf T.zbf))
  (aK (eM (f:="ran_out") (ah 0) ge_int (aX.one T.zaf T.zbI)))))))
theorem EK:br ["self","name"] ["self","name"] (bi qe):=⟨rfl,rfl,rfl,by decide +kernel,rfl,by decide +kernel,by decide +kernel⟩
theorem wg(T:Txt K mg a):FnG P w K mg base a.cl 3 a.zcK a.zcH ["self","name"] ko:=by
 refine bD (N:=["self","name"]) (k:=2) (g:=vd) T.zeU EK rfl λcdv A outer s H E sa ns hr=>?_;exact (aC (cj (bR (c:=3) (mth:="right") (bI (f:="book") (ah 0) (aX.one T.zaf T.za4)) T.zai T.zaw (fQ T) (hr.mono (by decide)) T.zaF (ao (ah 1) aD)))
  (aK (bP (qA (bg hr) (bI (f:="all_days") (ah 0) (aX.one T.zaf T.zbf)) (ah 1) ge_int))))
theorem Gw:br ["self"] ["self"] (bi rG):=⟨rfl,rfl,rfl,by decide +kernel,rfl,by decide +kernel,by decide +kernel⟩
theorem ir(T:Txt K mg a):FnG P w K mg base a.cl 1 a.zfI a.zfx ["self"] ee:=by
 refine bD (N:=["self"]) (k:=0) (g:=vj) T.zhK Gw rfl λcdv A outer s H E sa ns hr=>?_;exact(aK (bP (bI (f:="stream") (ah 0) (aX.one T.zai T.zct))))
theorem CB:br ["self","name","amount"] ["self","name","amount"] (bi rh):=⟨rfl,rfl,rfl,by decide +kernel,rfl,by decide +kernel,by decide +kernel⟩
theorem CJ(T:Txt K mg a):FnG P w K mg base a.cl 1 a.zeB a.zes ["self","name","amount"] qR:=by
 refine bD (N:=["self","name","amount"]) (k:=0) (g:=vc) T.zgX CB rfl λcdv A outer s H E sa ns hr=>?_;exact (aC (iu (bI (f:="last_day") (ah 0) (aX.one T.zaf T.zaZ)) (ah 1) (cH (λ_=>je) jk (qA (bg hr) (bI (f:="last_day") (ah 0) (aX.one T.zaf T.zaZ)) (ah 1) ge_int) (ah 2)) (hg:=λE t t' h1 h2=>iA h1 h2 (ij (bg hr))))
  (aK (iu (bI (f:="all_days") (ah 0) (aX.one T.zaf T.zbf)) (ah 1) (cH (λ_=>je) jk (qA (bg hr) (bI (f:="all_days") (ah 0) (aX.one T.zaf T.zbf)) (ah 1) ge_int) (ah 2)) (hg:=λE t t' h1 h2=>iA h1 h2 (ij (bg hr))))))
theorem k6:br ["self","wants","name","right","pond"] ["self"] (bi sA):=⟨rfl,rfl,rfl,by decide +kernel,rfl,by decide +kernel,by decide +kernel⟩
theorem Bc(T:Txt K mg a):FnG P w K mg base a.cl 5 a.zbE a.zbD ["self"] pA:=by
 obtain⟨t_RANK_OF_POND,h_RANK_OF_POND⟩:=T.zdM;obtain⟨t_RANK_OF_RIGHT,h_RANK_OF_RIGHT⟩:=T.zdq;refine bD (N:=["self","wants","name","right","pond"]) (k:=4) (g:=qQ) T.zcz k6 rfl λcdv A outer s H E sa ns hr=>?_;exact (aC (bB (n:=1) (gL aD) k6.nd)
  (aC (fR (one:=true) (is:=[2]) (hZ (c7 (c:=3) (mth:="names") (bI (f:="book") (ah 0) (aX.one T.zaf T.za4)) T.zai T.zbp (kU T) (hr.mono (by decide)) T.zbC)) (dZ k6.nd) (aC (bB (n:=3) (bR (c:=3) (mth:="right") (bI (f:="book") (ah 0) (aX.one T.zaf T.za4)) T.zai T.zaw (fQ T) (hr.mono (by decide)) T.zaF (ao (ah 2) aD)) k6.nd)
  (aK (cj (mR (ah 1) (jq (ao (bY (bg hr) (ah 3) ge_int) (ao (ah 2) (ao (lB rfl h_RANK_OF_RIGHT ⟨_,rfl⟩) (ao (bY (bg hr) (ah 3) ge_int) (ao (bY (bg hr) (ah 3) ge_int) aD)))))))))))
  (aC (BB (is:=[2,4]) (bI (f:="ponds") (ah 0) (aX.one T.zaf T.zaL)) (jh (d6 (n:=2) (d6 (n:=4) ji k6.nd) k6.nd)) (aK (cj (mR (ah 1) (jq (ao (bI (f:="date") (ah 4) (aX.two T.zb7 T.zcB T.zcs T.zb9)) (ao (ah 2) (ao (lB rfl h_RANK_OF_POND ⟨_,rfl⟩) (ao (bI (f:="point") (ah 4) (aX.two T.zb7 T.zc0 T.zcs T.zcu)) (ao (cH (λ_=>sd) oR (bI (f:="size") (ah 4) (aX.one T.zb7 T.zfR)) (bI (f:="held_water") (ah 4) (aX.one T.zb7 T.zbg))) aD))))))))))
  (aK (bP (eO (λ_=>BM hr.units) A4 (ah 1) T.zkp boot_sorted))))))
theorem FW:br ["self"] ["self"] (bi qO):=⟨rfl,rfl,rfl,by decide +kernel,rfl,by decide +kernel,by decide +kernel⟩
theorem nJ(T:Txt K mg a):FnG P w K mg base a.cl 1 a.zdL a.zdK ["self"] fG:=by
 refine bD (N:=["self"]) (k:=0) (g:=vz) T.zf8 FW rfl λcdv A outer s H E sa ns hr=>?_;exact(aK (bP (eO (λ_=>fP) fA (bI (f:="runs_to") (ah 0) (aX.one T.zaP T.zba)) T.zha PySem.boot_len)))
theorem u8:br ["self","point","passed"] ["self","point"] (bi q8):=⟨rfl,rfl,rfl,by decide +kernel,rfl,by decide +kernel,by decide +kernel⟩
theorem tW(T:Txt K mg a):FnG P w K mg base a.cl 2 a.zgp a.zgl ["self","point"] mw:=by
 refine bD (N:=["self","point","passed"]) (k:=1) (g:=uh) T.ziQ u8 rfl λcdv A outer s H E sa ns hr=>?_;exact (aC (cj (bR (c:=1) (mth:="check_point") (ah 0) T.zaP T.zax (lI T) (hr.mono (by decide)) T.zaD (ao (ah 1) aD)))
  (aC (bB (n:=2) (gL aD) u8.nd)
  (aC (Dh (wX (ah 1)) (aC (cj (mR (ah 2) (ah 1)))
  (aK (bB (n:=1) (bY (bg hr) (bI (f:="runs_to") (ah 0) (aX.one T.zaP T.zba)) (ah 1)) u8.nd))))
  (aK (bP (ah 2))))))
theorem Cb:br ["self","point"] ["self","point"] (bi oB):=⟨rfl,rfl,rfl,by decide +kernel,rfl,by decide +kernel,by decide +kernel⟩
theorem Fq(T:Txt K mg a):FnG P w K mg base a.cl 2 a.zeD a.zeu ["self","point"] nQ:=by
 refine bD (N:=["self","point"]) (k:=1) (g:=tO) T.zgZ Cb rfl λcdv A outer s H E sa ns hr=>?_;exact (aC (cj (bR (c:=1) (mth:="check_point") (ah 0) T.zaP T.zax (lI T) (hr.mono (by decide)) T.zaD (ao (ah 1) aD)))
  (aK (bP (bY (bg hr) (bI (f:="runs_to") (ah 0) (aX.one T.zaP T.zba)) (ah 1)))))
theorem Al:br ["river","year","inflow"] ["river","year"] (bi re):=⟨rfl,rfl,rfl,by decide +kernel,rfl,by decide +kernel,by decide +kernel⟩
theorem EL(T:Txt K mg a):FnG P w K mg base a.cl 2 a.zfN a.zfC ["river","year"] lC:=by
 obtain⟨t_MOST_INFLOW,h_MOST_INFLOW⟩:=T.zg2;refine bD (N:=["river","year","inflow"]) (k:=1) (g:=lS) T.zfs Al rfl λcdv A outer s H E sa ns hr=>?_;exact (aC (cB (bN (λ_=>(nG hr.units)) mh (eO (λ_=>fP) fA (ah 1) T.zha PySem.boot_len) (c7 (c:=1) (mth:="points") (ah 0) T.zaP T.zbm (nJ T) (hr.mono (by decide)) T.zbw) (bV _)) (aK (gs (c:=102) f8 T.zhr T.zg4 hr.hd (ao df aD))) cA)
  (aK (fR (one:=true) (is:=[2]) (hZ (ah 1)) (dZ Al.nd) (aK (cB (GW.gt (j7 (bN (λ_=>jX) jH (ah 2) ge_int (bV _)) (lL .Or (bN (λ_=>nE) nB (ah 2) (lB rfl h_MOST_INFLOW ⟨_,rfl⟩) (bV _))))) (aK (gs (c:=102) f8 T.zhr T.zg4 hr.hd (ao df aD))) cA)))))
theorem vP:br ["river","year","taken","found","point"] ["river","year","taken"] (bi qU):=⟨rfl,rfl,rfl,by decide +kernel,rfl,by decide +kernel,by decide +kernel⟩
theorem Aa(T:Txt K mg a):FnG P w K mg base a.cl 3 a.zmb a.zl7 ["river","year","taken"] jV:=by
 refine bD (N:=["river","year","taken","found","point"]) (k:=2) (g:=uF) T.zki vP rfl λcdv A outer s H E sa ns hr=>?_;exact (aC (cj (bJ (EL T) (hr.mono (by decide)) T.zhQ T.zfs.kp T.zhF (ao (ah 0) (ao (ah 1) aD))))
  (aC (wG (n:=3) (x:=["inflow","gone"]) (one:=false) (dJ.of rfl trivial rfl rfl) (zQ (ah 1) (ah 2) T.zpi) (λC s H fp pins=>(cH (λ_=>sd) oR (ah 5) (ah 6))) trivial (λnd C s H fp pins=>jh (d6 (n:=5) (d6 (n:=6) ji nd) nd)) vP.nd)
  (aC (fR (one:=true) (is:=[4]) (BU (cH (λ_=>sd) oR (c7 (c:=1) (mth:="points") (ah 0) T.zaP T.zbm (nJ T) (hr.mono (by decide)) T.zbw) ge_int) ge_int T.zfQ) (dZ vP.nd) (aK (za (bg hr) (λ_=>BN) (λ_ _ _=>rfl) (λ_ _ _ h=>ur h) (ah 3) (bR (c:=1) (mth:="below") (ah 0) T.zaP T.zgb (Fq T) (hr.mono (by decide)) T.zgS (ao (ah 4) aD)) (bY (bg hr) (ah 3) (ah 4)))))
  (aK (bP (ah 3))))))
theorem iZ:br ["river","year","wants","flow","takes","point","amount","way","take","passed"] ["river","year","wants"] (bi oq):=⟨rfl,rfl,rfl,by decide +kernel,rfl,by decide +kernel,by decide +kernel⟩
theorem nF(T:Txt K mg a):FnG P w K mg base a.cl 4 a.zmc a.zl8 ["river","year","wants"] gX:=by
 refine bD (N:=["river","year","wants","flow","takes","point","amount","way","take","passed"]) (k:=3) (g:=tS) T.zgi iZ rfl λcdv A outer s H E sa ns hr=>?_;exact (aC (bB (n:=3) (bJ (Aa T) (hr.mono (by decide)) T.zmg T.zki.kp T.zl4 (ao (ah 0) (ao (ah 1) (ao (cH (λ_=>ED) Gx (gL (ao ge_int aD)) (c7 (c:=1) (mth:="points") (ah 0) T.zaP T.zbm (nJ T) (hr.mono (by decide)) T.zbw)) aD)))) iZ.nd)
  (aC (bB (n:=4) (gL aD) iZ.nd)
  (aC (fR (one:=false) (is:=[5,6]) (qT (k:=2) (ah 2)) (jh (d6 (n:=5) (d6 (n:=6) ji iZ.nd) iZ.nd)) (aC (bB (n:=7) (bR (c:=1) (mth:="way") (ah 0) T.zaP T.zdB (tW T) (hr.mono (by decide)) T.zen (ao (ah 5) aD)) iZ.nd)
  (aC (bB (n:=8) (Cj (λ_=>EN hr.hd) BP (ah 6) (eO (λ_=>Gr hr.hd) FX (ia (x:=["passed"]) (one:=true) (dJ.of rfl ⟨rfl,trivial⟩ rfl rfl) (hZ (ah 7)) (λC s H fp pins=>(bY (bg hr) (ah 3) (ah 10))) trivial (λnd C s H fp pins=>dZ nd)) T.zrU boot_min) T.zrU boot_min) iZ.nd)
  (aC (fR (one:=true) (is:=[9]) (hZ (ah 7)) (dZ iZ.nd) (aK (za (bg hr) (λ_=>BO) (λ_ _ _=>rfl) (λ_ _ _ h=>FF h) (ah 3) (ah 9) (ah 8))))
  (aK (cj (mR (ah 4) (ah 8))))))))
  (aK (bP (jq (ao (ah 4) (ao (ah 3) aD))))))))
theorem Ec:br ["wants","takes","rank"] ["wants","takes","rank"] (bi rQ):=⟨rfl,rfl,rfl,by decide +kernel,rfl,by decide +kernel,by decide +kernel⟩
theorem zb(T:Txt K mg a):FnG P w K mg base a.cl 1 a.zdp a.zdh ["wants","takes","rank"] mJ:=by
 refine bD (N:=["wants","takes","rank"]) (k:=0) (g:=qY) T.zb6 Ec rfl λcdv A outer s H E sa ns hr=>?_;exact(aK (bP (ia (x:=["want","take"]) (one:=false) (dJ.of rfl ⟨rfl,trivial⟩ rfl rfl) (zQ (ah 0) (ah 1) T.zpi) (λC s H fp pins=>(jq (ao (bY (bg hr) (ah 3) ge_int) (ao (ah 4) aD)))) (λC s H fp pins=>(bN (λ_=>(dU hr.units)) dS (bY (bg hr) (ah 3) ge_int) (ah 2) (bV _))) (λnd C s H fp pins=>jh (d6 (n:=3) (d6 (n:=4) ji nd) nd)))))
theorem gW:br ["self","year","wants","served","rights","ponds","name","take","pond"] ["self","year"] (bi sC):=⟨rfl,rfl,rfl,by decide +kernel,rfl,by decide +kernel,by decide +kernel⟩
theorem vb(T:Txt K mg a):FnG P w K mg base a.cl 6 a.zfJ a.zfy ["self","year"] iY:=by
 obtain⟨t_RANK_OF_POND,h_RANK_OF_POND⟩:=T.zdM;obtain⟨t_RANK_OF_RIGHT,h_RANK_OF_RIGHT⟩:=T.zdq;refine bD (N:=["self","year","wants","served","rights","ponds","name","take","pond"]) (k:=5) (g:=ku) T.zhL gW rfl λcdv A outer s H E sa ns hr=>?_;exact (aC (bB (n:=2) (c7 (c:=4) (mth:="wants_by_age") (ah 0) T.zaf T.zcb (Bc T) (hr.mono (by decide)) T.zcy) gW.nd)
  (aC (bB (n:=3) (bJ (nF T) (hr.mono (by decide)) T.zhu T.zgi.kp T.zhm (ao (c7 (c:=3) (mth:="river") (bI (f:="book") (ah 0) (aX.one T.zaf T.za4)) T.zai T.zaV (ir T) (hr.mono (by decide)) T.za3) (ao (ah 1) (ao (ia (x:=["want"]) (one:=true) (dJ.of rfl trivial rfl rfl) (hZ (ah 2)) (λC s H fp pins=>(tZ (ah 9) ge_int trivial)) trivial (λnd C s H fp pins=>dZ nd)) aD)))) gW.nd)
  (aC (bB (n:=4) (bJ (zb T) (hr.mono (by decide)) T.zdr T.zb6.kp T.zdc (ao (ah 2) (ao (bY (bg hr) (ah 3) ge_int) (ao (lB rfl h_RANK_OF_RIGHT ⟨_,rfl⟩) aD)))) gW.nd)
  (aC (bB (n:=5) (bJ (zb T) (hr.mono (by decide)) T.zdr T.zb6.kp T.zdc (ao (ah 2) (ao (bY (bg hr) (ah 3) ge_int) (ao (lB rfl h_RANK_OF_POND ⟨_,rfl⟩) aD)))) gW.nd)
  (aC (eM (f:="last_day") (ah 0) kG (aX.one T.zaf T.zaZ))
  (aC (fR (one:=false) (is:=[6,7]) (qT (k:=2) (ah 4)) (jh (d6 (n:=6) (d6 (n:=7) ji gW.nd) gW.nd)) (aK (cj (bR (c:=4) (mth:="give") (ah 0) T.zaf T.zf9 (CJ T) (hr.mono (by decide)) T.zgQ (ao (ah 6) (ao (ah 7) aD))))))
  (aC (fR (one:=false) (is:=[6,7]) (qT (k:=2) (ah 5)) (jh (d6 (n:=6) (d6 (n:=7) ji gW.nd) gW.nd)) (aC (bB (n:=8) (bY (bg hr) (bI (f:="ponds") (ah 0) (aX.one T.zaf T.zaL)) (ah 6)) gW.nd)
  (aK (xl (fl:="held_water") (λ_=>wO) (λ_ _ _ _ q=>q) (λ_ _ _=>rfl) (λ_ _ _ h=>ur h) (ah 8) (ah 7) (aX.one T.zb7 T.zbg)))))
  (aC (xl (fl:="ran_out") (λ_=>wO) (λ_ _ _ _ q=>q) (λ_ _ _=>rfl) (λ_ _ _ h=>ur h) (ah 0) (bY (bg hr) (bY (bg hr) (ah 3) ge_int) ge_int) (aX.one T.zaf T.zbI))
  (aK (bP (jq (ao (ah 4) (ao (ah 5) aD)))))))))))))
theorem G5:br ["self","point","size","date"] ["self","point","size","date"] (bi qf):=⟨rfl,rfl,rfl,by decide +kernel,rfl,by decide +kernel,by decide +kernel⟩
theorem Fj(T:Txt K mg a):FnG P w K mg base a.cl 1 a.zdo a.zdg ["self","point","size","date"] t6:=by
 refine bD (N:=["self","point","size","date"]) (k:=0) (g:=sF) T.zfr G5 rfl λcdv A outer s H E sa ns hr=>?_;exact (aC (eM (f:="point") (ah 0) (ah 1) (aX.one T.zb7 T.zc0))
  (aC (eM (f:="size") (ah 0) (ah 2) (aX.one T.zb7 T.zfR))
  (aC (eM (f:="date") (ah 0) (ah 3) (aX.one T.zb7 T.zcB))
  (aK (eM (f:="held_water") (ah 0) ge_int (aX.one T.zb7 T.zbg))))))
theorem Ht:br ["self","name","point","size","date"] ["self","name","point","size","date"] (bi ol):=⟨rfl,rfl,rfl,by decide +kernel,rfl,by decide +kernel,by decide +kernel⟩
theorem Dz(T:Txt K mg a):FnG P w K mg base a.cl 3 a.zfK a.zfz ["self","name","point","size","date"] oP:=by
 refine bD (N:=["self","name","point","size","date"]) (k:=2) (g:=vh) T.zhM Ht rfl λcdv A outer s H E sa ns hr=>?_;exact (aC (cB (bN (λ_=>(l8 (bg hr))) js (ah 1) (bI (f:="ponds") (ah 0) (aX.one T.zaf T.zaL)) rfl) (aK (gs (c:=104) f8 T.zkm T.zme hr.hd (ao (mf (.cons .lit (.cons (.rp (ah 1)) Paired.nil))) aD))) cA)
  (aC (cj (bR (c:=1) (mth:="check_point") (c7 (c:=3) (mth:="river") (bI (f:="book") (ah 0) (aX.one T.zaf T.za4)) T.zai T.zaV (ir T) (hr.mono (by decide)) T.za3) T.zaP T.zax (lI T) (hr.mono (by decide)) T.zaD (ao (ah 2) aD)))
  (aC (iu (bI (f:="ponds") (ah 0) (aX.one T.zaf T.zaL)) (ah 1) (mP (c:=5) T.zph (Fj T) (hr.mono (by decide)) T.zqL T.zfo (ao (ah 2) (ao (ah 3) (ao (ah 4) aD)))) (hg:=λE t t' h1 h2=>iA h1 h2 (ij (bg hr))))
  (aK (bP (eO (λ_=>fP) fA (bI (f:="ponds") (ah 0) (aX.one T.zaf T.zaL)) T.zha PySem.boot_len))))))
theorem C8:br ["self","name"] ["self","name"] (bi rH):=⟨rfl,rfl,rfl,by decide +kernel,rfl,by decide +kernel,by decide +kernel⟩
theorem Ay(T:Txt K mg a):FnG P w K mg base a.cl 3 a.zfL a.zfA ["self","name"] kI:=by
 refine bD (N:=["self","name"]) (k:=2) (g:=ub) T.zhN C8 rfl λcdv A outer s H E sa ns hr=>?_;exact (aC (cj (bR (c:=3) (mth:="right") (bI (f:="book") (ah 0) (aX.one T.zaf T.za4)) T.zai T.zaw (fQ T) (hr.mono (by decide)) T.zaF (ao (ah 1) aD)))
  (aK (bP (qA (bg hr) (bI (f:="last_day") (ah 0) (aX.one T.zaf T.zaZ)) (ah 1) ge_int))))
theorem GC:br ["self"] ["self"] (bi sj):=⟨rfl,rfl,rfl,by decide +kernel,rfl,by decide +kernel,by decide +kernel⟩
theorem zk(T:Txt K mg a):FnG P w K mg base a.cl 1 a.zfM a.zfB ["self"] jY:=by
 refine bD (N:=["self"]) (k:=0) (g:=sZ) T.zhO GC rfl λcdv A outer s H E sa ns hr=>?_;exact(aK (bP (bI (f:="ran_out") (ah 0) (aX.one T.zaf T.zbI))))
theorem HE:br ["self","name"] ["self","name"] (bi pY):=⟨rfl,rfl,rfl,by decide +kernel,rfl,by decide +kernel,by decide +kernel⟩
theorem EO(T:Txt K mg a):FnG P w K mg base a.cl 1 a.zbP a.zbO ["self","name"] ka:=by
 refine bD (N:=["self","name"]) (k:=0) (g:=uM) T.zcQ HE rfl λcdv A outer s H E sa ns hr=>?_;exact (aC (cB (bN (λ_=>(vC (bg hr))) js (ah 1) (bI (f:="ponds") (ah 0) (aX.one T.zaf T.zaL)) rfl) (aK (gs (c:=110) f8 T.zlm T.zm2 hr.hd (ao (mf (.cons .lit (.cons (.rp (ah 1)) Paired.nil))) aD))) cA)
  (aK (bP (bY (bg hr) (bI (f:="ponds") (ah 0) (aX.one T.zaf T.zaL)) (ah 1)))))
theorem Ia:br ["self","pond"] ["self","pond"] (bi sr):=⟨rfl,rfl,rfl,by decide +kernel,rfl,by decide +kernel,by decide +kernel⟩
theorem yx(T:Txt K mg a):FnG P w K mg base a.cl 2 a.zdn a.zdf ["self","pond"] kj:=by
 refine bD (N:=["self","pond"]) (k:=1) (g:=tL) T.zfq Ia rfl λcdv A outer s H E sa ns hr=>?_;exact(aK (bP (bI (f:="held_water") (bR (c:=4) (mth:="pond_called") (ah 0) T.zaf T.zcA (EO T) (hr.mono (by decide)) T.zcP (ao (ah 1) aD)) (aX.one T.zb7 T.zbg))))
theorem va:br ["below","point","lower"] ["below"] (bi qa):=⟨rfl,rfl,rfl,by decide +kernel,rfl,by decide +kernel,by decide +kernel⟩
theorem GR(T:Txt K mg a):FnG P w K mg base a.cl 1 a.zeE a.zev ["below"] uO:=by
 obtain⟨t_MOST_POINTS,h_MOST_POINTS⟩:=T.zg3;refine bD (N:=["below","point","lower"]) (k:=0) (g:=ug) T.zeo va rfl λcdv A outer s H E sa ns hr=>?_;exact (aC (cB (GW.gt (j7 (bN (λ_=>jX) jH (eO (λ_=>fP) fA (ah 0) T.zha PySem.boot_len) ge_int (bV _)) (lL .Or (bN (λ_=>nE) nB (eO (λ_=>fP) fA (ah 0) T.zha PySem.boot_len) (lB rfl h_MOST_POINTS ⟨_,rfl⟩) (bV _))))) (aK (gs (c:=101) f8 T.zeA T.zfX hr.hd (ao df aD))) cA)
  (aC (cB (wX (bY (bg hr) (ah 0) ge_int)) (aK (gs (c:=101) f8 T.zeA T.zfX hr.hd (ao df aD))) cA)
  (aK (fR (one:=true) (is:=[1]) (zm ge_int (eO (λ_=>fP) fA (ah 0) T.zha PySem.boot_len) T.zfQ) (dZ va.nd) (aC (bB (n:=2) (bY (bg hr) (ah 0) (ah 1)) va.nd)
  (aK (cB (GW.gt (j7 (Gp (ah 2)) (j7 (bN (λ_=>jX) jH (ah 2) ge_int (bV _)) (lL .Or (bN (λ_=>Ap) wC (ah 2) (ah 1) (bV _)))))) (aK (gs (c:=101) f8 T.zeA T.zfX hr.hd (ao df aD))) cA)))))))
theorem C3:br ["self","below"] ["self","below"] (bi qj):=⟨rfl,rfl,rfl,by decide +kernel,rfl,by decide +kernel,by decide +kernel⟩
theorem CP(T:Txt K mg a):FnG P w K mg base a.cl 2 a.zcM a.zcJ ["self","below"] mB:=by
 refine bD (N:=["self","below"]) (k:=1) (g:=uY) T.zeW C3 rfl λcdv A outer s H E sa ns hr=>?_;exact (aC (cj (bJ (GR T) (hr.mono (by decide)) T.zg5 T.zeo.kp T.zgT (ao (ah 1) aD)))
  (aK (eM (f:="runs_to") (ah 0) (rZ (λ_=>oE) oI (ah 1) T.zjE PyProof.Rows.Boot.«list») (aX.one T.zaP T.zba))))
theorem D2:br ["script","k"] ["script","k"] (bi si):=⟨rfl,rfl,rfl,by decide +kernel,rfl,by decide +kernel,by decide +kernel⟩
theorem iL(T:Txt K mg a):FnG P w K mg base a.cl 1 a.zeF a.zew ["script","k"] fk:=by
 refine bD (N:=["script","k"]) (k:=0) (g:=sk) T.zaK D2 rfl λcdv A outer s H E sa ns hr=>?_;exact (aC (cB (bN (λ_=>jX) jH (ah 1) (eO (λ_=>fP) fA (ah 0) T.zha PySem.boot_len) (bV _)) (aK (bP (bY (bg hr) (ah 0) (ah 1)))) cA)
  (aK (bP ge_int)))
theorem BC:br ["script","start","size"] ["script","start","size"] (bi pk):=⟨rfl,rfl,rfl,by decide +kernel,rfl,by decide +kernel,by decide +kernel⟩
theorem HZ(T:Txt K mg a):FnG P w K mg base a.cl 2 a.zgr a.zgn ["script","start","size"] qv:=by
 refine bD (N:=["script","start","size"]) (k:=1) (g:=vw) T.zgh BC rfl λcdv A outer s H E sa ns hr=>?_;exact(aK (bP (cH (λ_=>je) jk (gL (ao Dm aD)) (ia (x:=["k"]) (one:=true) (dJ.of rfl ⟨rfl,⟨rfl,trivial⟩⟩ rfl rfl) (zm ge_int (ah 2) T.zfQ) (λC s H fp pins=>(cH (λ_=>fN) fJ (bJ (iL T) (hr.mono (by decide)) T.zaU T.zaK.kp T.zaT (ao (ah 0) (ao (cH (λ_=>je) jk (ah 1) (ah 3)) aD))) (ah 3))) trivial (λnd C s H fp pins=>dZ nd)))))
theorem FY:br ["book"] ["book"] (bi pT):=⟨rfl,rfl,rfl,by decide +kernel,rfl,by decide +kernel,by decide +kernel⟩
theorem pL(T:Txt K mg a):FnG P w K mg base a.cl 5 a.zht a.zhq ["book"] jE:=by
 refine bD (N:=["book"]) (k:=4) (g:=sT) T.zc1 FY rfl λcdv A outer s H E sa ns hr=>?_;exact(aK (bP (ia (x:=["name"]) (one:=true) (dJ.of rfl ⟨rfl,trivial⟩ rfl rfl) (hZ (c7 (c:=3) (mth:="names") (ah 0) T.zai T.zbp (kU T) (hr.mono (by decide)) T.zbC)) (λC s H fp pins=>(tZ (bR (c:=3) (mth:="right") (ah 0) T.zai T.zaw (fQ T) (hr.mono (by decide)) T.zaF (ao (ah 1) aD)) trivial ge_int)) trivial (λnd C s H fp pins=>dZ nd))))
theorem vU:br ["book","year","takes"] ["book","year"] (bi qW):=⟨rfl,rfl,rfl,by decide +kernel,rfl,by decide +kernel,by decide +kernel⟩
theorem AB(T:Txt K mg a):FnG P w K mg base a.cl 6 a.zma a.zl6 ["book","year"] nv:=by
 refine bD (N:=["book","year","takes"]) (k:=5) (g:=r6) T.zkh vU rfl λcdv A outer s H E sa ns hr=>?_;exact (aC (bB (n:=2) (bY (bg hr) (bJ (nF T) (hr.mono (by decide)) T.zhu T.zgi.kp T.zhm (ao (c7 (c:=3) (mth:="river") (ah 0) T.zai T.zaV (ir T) (hr.mono (by decide)) T.za3) (ao (ah 1) (ao (bJ (pL T) (hr.mono (by decide)) T.zd6 T.zc1.kp T.zdW (ao (ah 0) aD)) aD)))) ge_int) vU.nd)
  (aK (bP (Hl (c7 (c:=3) (mth:="names") (ah 0) T.zai T.zbp (kU T) (hr.mono (by decide)) T.zbC) (ah 2) T.zpi T.zjE hr.hd))))
theorem F9:br ["book","year"] ["book","year"] (bi rD):=⟨rfl,rfl,rfl,by decide +kernel,rfl,by decide +kernel,by decide +kernel⟩
theorem yk(T:Txt K mg a):FnG P w K mg base a.cl 6 a.zo9 a.zo5 ["book","year"] mE:=by
 refine bD (N:=["book","year"]) (k:=5) (g:=q9) T.zm0 F9 rfl λcdv A outer s H E sa ns hr=>?_;exact(aK (bP (bY (bg hr) (bJ (nF T) (hr.mono (by decide)) T.zhu T.zgi.kp T.zhm (ao (c7 (c:=3) (mth:="river") (ah 0) T.zai T.zaV (ir T) (hr.mono (by decide)) T.za3) (ao (ah 1) (ao (bJ (pL T) (hr.mono (by decide)) T.zd6 T.zc1.kp T.zdW (ao (ah 0) aD)) aD)))) ge_int)))
theorem GQ:br ["book","year"] ["book","year"] (bi rC):=⟨rfl,rfl,rfl,by decide +kernel,rfl,by decide +kernel,by decide +kernel⟩
theorem w5(T:Txt K mg a):FnG P w K mg base a.cl 7 a.zmd a.zl9 ["book","year"] nL:=by
 refine bD (N:=["book","year"]) (k:=6) (g:=qm) T.zkj GQ rfl λcdv A outer s H E sa ns hr=>?_;exact(aK (bP (ia (x:=["name","take"]) (one:=false) (dJ.of rfl ⟨rfl,trivial⟩ rfl rfl) (qT (k:=2) (bJ (AB T) (hr.mono (by decide)) T.zmf T.zkh.kp T.zl3 (ao (ah 0) (ao (ah 1) aD)))) (λC s H fp pins=>(ah 2)) (λC s H fp pins=>(bN (λ_=>jX) jH (ah 3) (bY (bg hr) (bR (c:=3) (mth:="right") (ah 0) T.zai T.zaw (fQ T) (hr.mono (by decide)) T.zaF (ao (ah 2) aD)) ge_int) (bV _))) (λnd C s H fp pins=>jh (d6 (n:=2) (d6 (n:=3) ji nd) nd)))))
theorem mC:br ["book","year","name","short_ones","point","flow","dry_points"] ["book","year","name"] (bi qM):=⟨rfl,rfl,rfl,by decide +kernel,rfl,by decide +kernel,by decide +kernel⟩
theorem yG(T:Txt K mg a):FnG P w K mg base a.cl 8 a.zrR a.zrP ["book","year","name"] mG:=by
 refine bD (N:=["book","year","name","short_ones","point","flow","dry_points"]) (k:=7) (g:=qB) T.zqg mC rfl λcdv A outer s H E sa ns hr=>?_;exact (aC (bB (n:=3) (bJ (w5 T) (hr.mono (by decide)) T.zmh T.zkj.kp T.zl5 (ao (ah 0) (ao (ah 1) aD))) mC.nd)
  (aC (bB (n:=4) (bY (bg hr) (bR (c:=3) (mth:="right") (ah 0) T.zai T.zaw (fQ T) (hr.mono (by decide)) T.zaF (ao (ah 2) aD)) ge_int) mC.nd)
  (aC (cB (bN (λ_=>(vC (bg hr))) js (ah 2) (ah 3) rfl) (aK (gs (c:=106) f8 T.ziT T.zjC hr.hd (ao (mf (.cons .lit (.cons (.rp (ah 2)) (.cons .lit Paired.nil)))) aD))) cA)
  (aC (bB (n:=5) (bJ (yk T) (hr.mono (by decide)) T.zpf T.zm0.kp T.zo2 (ao (ah 0) (ao (ah 1) aD))) mC.nd)
  (aC (wG (n:=6) (x:=["passed"]) (one:=true) (dJ.of rfl ⟨rfl,trivial⟩ rfl rfl) (hZ (bR (c:=1) (mth:="way") (c7 (c:=3) (mth:="river") (ah 0) T.zai T.zaV (ir T) (hr.mono (by decide)) T.za3) T.zaP T.zdB (tW T) (hr.mono (by decide)) T.zen (ao (ah 4) aD))) (λC s H fp pins=>(ah 7)) (λC s H fp pins=>(bN (λ_=>(dU hr.units)) dS (bY (bg hr) (ah 5) (ah 7)) ge_int (bV _))) (λnd C s H fp pins=>dZ nd) mC.nd)
  (aK (bP (bY (bg hr) (ah 6) ge_int))))))))
theorem tV:br ["book","name","point","wants","place"] ["book","name","point"] (bi pQ):=⟨rfl,rfl,rfl,by decide +kernel,rfl,by decide +kernel,by decide +kernel⟩
theorem DE(T:Txt K mg a):FnG P w K mg base a.cl 6 a.zfO a.zfD ["book","name","point"] qX:=by
 refine bD (N:=["book","name","point","wants","place"]) (k:=5) (g:=xM) T.zft tV rfl λcdv A outer s H E sa ns hr=>?_;exact (aC (bB (n:=3) (bJ (pL T) (hr.mono (by decide)) T.zd6 T.zc1.kp T.zdW (ao (ah 0) aD)) tV.nd)
  (aC (bB (n:=4) (uU (mn:="index") PySem.F.slot_list_index PySem.F.type_list_index (λ_=>xW (u70 hr)) AE (c7 (c:=3) (mth:="names") (ah 0) T.zai T.zbp (kU T) (hr.mono (by decide)) T.zbC) (ah 1)) tV.nd)
  (aC (iu (ah 3) (ah 4) (jq (ao (ah 2) (ao (bY (bg hr) (bY (bg hr) (ah 3) (ah 4)) ge_int) aD))) (hg:=λE t t' h1 h2=>iA h1 h2 (ij (bg hr))))
  (aK (bP (ah 3))))))
theorem fS:br ["book","years","name","point","river","names","now","changed","found","year","takes_now","takes_then","other","take_now","take_then"] ["book","years","name","point"] (bi oK):=⟨rfl,rfl,rfl,by decide +kernel,rfl,by decide +kernel,by decide +kernel⟩
theorem yF(T:Txt K mg a):FnG P w K mg base a.cl 7 a.zkn a.zkl ["book","years","name","point"] jt:=by
 refine bD (N:=["book","years","name","point","river","names","now","changed","found","year","takes_now","takes_then","other","take_now","take_then"]) (k:=6) (g:=rm) T.zib fS rfl λcdv A outer s H E sa ns hr=>?_;exact (aC (cj (bR (c:=3) (mth:="right") (ah 0) T.zai T.zaw (fQ T) (hr.mono (by decide)) T.zaF (ao (ah 2) aD)))
  (aC (bB (n:=4) (c7 (c:=3) (mth:="river") (ah 0) T.zai T.zaV (ir T) (hr.mono (by decide)) T.za3) fS.nd)
  (aC (cj (bR (c:=1) (mth:="check_point") (ah 4) T.zaP T.zax (lI T) (hr.mono (by decide)) T.zaD (ao (ah 3) aD)))
  (aC (bB (n:=5) (c7 (c:=3) (mth:="names") (ah 0) T.zai T.zbp (kU T) (hr.mono (by decide)) T.zbC) fS.nd)
  (aC (bB (n:=6) (bJ (pL T) (hr.mono (by decide)) T.zd6 T.zc1.kp T.zdW (ao (ah 0) aD)) fS.nd)
  (aC (bB (n:=7) (bJ (DE T) (hr.mono (by decide)) T.zhR T.zft.kp T.zhG (ao (ah 0) (ao (ah 2) (ao (ah 3) aD)))) fS.nd)
  (aC (bB (n:=8) kG fS.nd)
  (aC (fR (one:=true) (is:=[9]) (hZ (ah 1)) (dZ fS.nd) (aC (bB (n:=10) (bY (bg hr) (bJ (nF T) (hr.mono (by decide)) T.zhu T.zgi.kp T.zhm (ao (ah 4) (ao (ah 9) (ao (ah 6) aD)))) ge_int) fS.nd)
  (aC (bB (n:=11) (bY (bg hr) (bJ (nF T) (hr.mono (by decide)) T.zhu T.zgi.kp T.zhm (ao (ah 4) (ao (ah 9) (ao (ah 7) aD)))) ge_int) fS.nd)
  (aK (fR (one:=false) (is:=[12,13,14]) (ES (ah 5) (ah 10) (ah 11) T.zpi) (jh (d6 (n:=12) (d6 (n:=13) (d6 (n:=14) ji fS.nd) fS.nd) fS.nd)) (aK (cB (GW.gt (Bz (bN (λ_=>(nG hr.units)) mh (ah 12) (ah 2) (bV _)) (lL .And (bN (λ_=>jX) jH (ah 14) (ah 13) (bV _))))) (aK (iu (ah 8) (ah 12) mI (hg:=λE t t' h1 h2=>iA h1 h2 (ij (bg hr))))) cA)))))))
  (aK (bP (ia (x:=["other"]) (one:=true) (dJ.of rfl ⟨rfl,trivial⟩ rfl rfl) (hZ (ah 5)) (λC s H fp pins=>(ah 15)) (λC s H fp pins=>(bN (λ_=>(l8 (bg hr))) js (ah 15) (ah 8) rfl)) (λnd C s H fp pins=>dZ nd))))))))))))
theorem Ds:br ["self","name"] ["self","name"] (bi qS):=⟨rfl,rfl,rfl,by decide +kernel,rfl,by decide +kernel,by decide +kernel⟩
theorem F2(T:Txt K mg a):FnG P w K mg base a.cl 2 a.zgo a.zgk ["self","name"] zD:=by
 refine bD (N:=["self","name"]) (k:=1) (g:=wD) T.ziP Ds rfl λcdv A outer s H E sa ns hr=>?_;exact (aC (cj (bR (c:=3) (mth:="held_right") (ah 0) T.zai T.zb8 (yI T) (hr.mono (by decide)) T.zcj (ao (ah 1) aD)))
  (aC (cj (BG (bI (f:="held") (ah 0) (aX.one T.zai T.zaY)) (ah 1)))
  (aK (bP (eO (λ_=>fP) fA (bI (f:="held") (ah 0) (aX.one T.zai T.zaY)) T.zha PySem.boot_len)))))
theorem Ak:br ["book","years","name","point","right"] ["book","years","name","point"] (bi qi):=⟨rfl,rfl,rfl,by decide +kernel,rfl,by decide +kernel,by decide +kernel⟩
theorem CY(T:Txt K mg a):FnG P w K mg base a.cl 8 a.zpa a.zo6 ["book","years","name","point"] pK:=by
 refine bD (N:=["book","years","name","point","right"]) (k:=7) (g:=sN) T.zo3 Ak rfl λcdv A outer s H E sa ns hr=>?_;exact (aC (cB (bN (λ_=>nE) nB (eO (λ_=>fP) fA (bJ (yF T) (hr.mono (by decide)) T.zko T.zib.kp T.zkg (ao (ah 0) (ao (ah 1) (ao (ah 2) (ao (ah 3) aD))))) T.zha PySem.boot_len) ge_int (bV _)) (aK (gs (c:=109) f8 T.zo8 T.zqK hr.hd (ao df aD))) cA)
  (aC (bB (n:=4) (bR (c:=3) (mth:="right") (ah 0) T.zai T.zaw (fQ T) (hr.mono (by decide)) T.zaF (ao (ah 2) aD)) Ak.nd)
  (aC (cj (bR (c:=3) (mth:="drop") (ah 0) T.zai T.zhS (F2 T) (hr.mono (by decide)) T.ziM (ao (ah 2) aD)))
  (aC (cj (bR (c:=3) (mth:="grant") (ah 0) T.zai T.zeJ (xE T) (hr.mono (by decide)) T.zfl (ao (ah 2) (ao (ah 3) (ao (bY (bg hr) (ah 4) ge_int) (ao (bY (bg hr) (ah 4) ge_int) aD))))))
  (aK (bP (bY (bg hr) (ah 4) ge_int)))))))
theorem Ej:br ["self","point"] ["self","point"] (bi oX):=⟨rfl,rfl,rfl,by decide +kernel,rfl,by decide +kernel,by decide +kernel⟩
theorem BQ(T:Txt K mg a):FnG P w K mg base a.cl 3 a.zeC a.zet ["self","point"] wj:=by
 refine bD (N:=["self","point"]) (k:=2) (g:=AW) T.zgY Ej rfl λcdv A outer s H E sa ns hr=>?_;exact (aC (cj (bR (c:=1) (mth:="check_point") (ah 0) T.zaP T.zax (lI T) (hr.mono (by decide)) T.zaD (ao (ah 1) aD)))
  (aK (bP (ia (x:=["other"]) (one:=true) (dJ.of rfl ⟨rfl,⟨rfl,trivial⟩⟩ rfl rfl) (qu (c7 (c:=1) (mth:="points") (ah 0) T.zaP T.zbm (nJ T) (hr.mono (by decide)) T.zbw) T.zfQ) (λC s H fp pins=>(ah 2)) (λC s H fp pins=>(bN (λ_=>(l8 (bg hr))) js (ah 1) (bR (c:=1) (mth:="way") (ah 0) T.zaP T.zdB (tW T) (hr.mono (by decide)) T.zen (ao (ah 2) aD)) rfl)) (λnd C s H fp pins=>dZ nd)))))
theorem Eu:br ["right","points"] ["right","points"] (bi qc):=⟨rfl,rfl,rfl,by decide +kernel,rfl,by decide +kernel,by decide +kernel⟩
theorem C9(T:Txt K mg a):FnG P w K mg base a.cl 1 a.zeI a.zez ["right","points"] we:=by
 refine bD (N:=["right","points"]) (k:=0) (g:=xQ) T.zer Eu rfl λcdv A outer s H E sa ns hr=>?_;exact(aK (bP (xP (uG (λ_=>nE) nB (bY (bg hr) (ah 0) ge_int) ge_int (bV _)) (wA (uG (λ_=>(l8 (bg hr))) js (bY (bg hr) (ah 0) ge_int) (ah 1) rfl)))))
theorem oU:br ["book","year","name","above","names","younger"] ["book","year","name"] (bi p6):=⟨rfl,rfl,rfl,by decide +kernel,rfl,by decide +kernel,by decide +kernel⟩
theorem Dk(T:Txt K mg a):FnG P w K mg base a.cl 9 a.zpb a.zo7 ["book","year","name"] rO:=by
 refine bD (N:=["book","year","name","above","names","younger"]) (k:=8) (g:=pM) T.zo4 oU rfl λcdv A outer s H E sa ns hr=>?_;exact (aC (bB (n:=3) (bR (c:=1) (mth:="above") (c7 (c:=3) (mth:="river") (ah 0) T.zai T.zaV (ir T) (hr.mono (by decide)) T.za3) T.zaP T.zga (BQ T) (hr.mono (by decide)) T.zgR (ao (bJ (yG T) (hr.mono (by decide)) T.zrT T.zqg.kp T.zrO (ao (ah 0) (ao (ah 1) (ao (ah 2) aD)))) aD)) oU.nd)
  (aC (bB (n:=4) (c7 (c:=3) (mth:="names") (ah 0) T.zai T.zbp (kU T) (hr.mono (by decide)) T.zbC) oU.nd)
  (aC (bB (n:=5) (tZ (ah 4) (cH (λ_=>je) jk (uU (mn:="index") PySem.F.slot_list_index PySem.F.type_list_index (λ_=>xW (u70 hr)) AE (ah 4) (ah 2)) ge_int) trivial) oU.nd)
  (aK (bP (ia (x:=["other"]) (one:=true) (dJ.of rfl ⟨rfl,⟨rfl,trivial⟩⟩ rfl rfl) (hZ (ah 5)) (λC s H fp pins=>(ah 6)) (λC s H fp pins=>(w8 (bJ (C9 T) (hr.mono (by decide)) T.zg8 T.zer.kp T.zgW (ao (bR (c:=3) (mth:="right") (ah 0) T.zai T.zaw (fQ T) (hr.mono (by decide)) T.zaF (ao (ah 6) aD)) (ao (ah 3) aD))))) (λnd C s H fp pins=>dZ nd)))))))
theorem D3:br ["office","book","way","year"] ["office","book","way","year"] (bi rL):=⟨rfl,rfl,rfl,by decide +kernel,rfl,by decide +kernel,by decide +kernel⟩
theorem Hh(T:Txt K mg a):FnG P w K mg base a.cl 10 a.zgq a.zgm ["office","book","way","year"] o8:=by
 refine bD (N:=["office","book","way","year"]) (k:=9) (g:=rK) T.zgg D3 rfl λcdv A outer s H E sa ns hr=>?_;exact (aC (cB (bN (λ_=>(dU hr.units)) dS (ah 2) ge_int (bV _)) (aK (cj (bJ (Aa T) (hr.mono (by decide)) T.zmg T.zki.kp T.zl4 (ao (c7 (c:=3) (mth:="river") (ah 1) T.zai T.zaV (ir T) (hr.mono (by decide)) T.za3) (ao (ah 3) (ao (ia (x:=["k"]) (one:=true) (dJ.of rfl trivial rfl rfl) (qu (c7 (c:=1) (mth:="points") (c7 (c:=3) (mth:="river") (ah 1) T.zai T.zaV (ir T) (hr.mono (by decide)) T.za3) T.zaP T.zbm (nJ T) (hr.mono (by decide)) T.zbw) T.zfQ) (λC s H fp pins=>ge_int) trivial (λnd C s H fp pins=>dZ nd)) aD)))))) cA)
  (aC (cB (bN (λ_=>(dU hr.units)) dS (ah 2) ge_int (bV _)) (aK (cj (bJ (AB T) (hr.mono (by decide)) T.zmf T.zkh.kp T.zl3 (ao (ah 1) (ao (ah 3) aD))))) cA)
  (aC (cB (bN (λ_=>(dU hr.units)) dS (ah 2) ge_int (bV _)) (aK (cj (bJ (yk T) (hr.mono (by decide)) T.zpf T.zm0.kp T.zo2 (ao (ah 1) (ao (ah 3) aD))))) cA)
  (aC (cB (bN (λ_=>(dU hr.units)) dS (ah 2) ge_int (bV _)) (aK (cj (bJ (w5 T) (hr.mono (by decide)) T.zmh T.zkj.kp T.zl5 (ao (ah 1) (ao (ah 3) aD))))) cA)
  (aC (cB (bN (λ_=>(dU hr.units)) dS (ah 2) ge_int (bV _)) (aK (cj (bJ (yG T) (hr.mono (by decide)) T.zrT T.zqg.kp T.zrO (ao (ah 1) (ao (ah 3) (ao df aD)))))) cA)
  (aC (cB (bN (λ_=>(dU hr.units)) dS (ah 2) ge_int (bV _)) (aK (cj (bJ (Dk T) (hr.mono (by decide)) T.zqN T.zo4.kp T.zqI (ao (ah 1) (ao (ah 3) (ao df aD)))))) cA)
  (aC (cB (bN (λ_=>(dU hr.units)) dS (ah 2) ge_int (bV _)) (aK (cj (bJ (yF T) (hr.mono (by decide)) T.zko T.zib.kp T.zkg (ao (ah 1) (ao (gL (ao (ah 3) aD)) (ao df (ao ge_int aD))))))) cA)
  (aC (cB (bN (λ_=>(dU hr.units)) dS (ah 2) ge_int (bV _)) (aK (cj (bJ (CY T) (hr.mono (by decide)) T.zqM T.zo3.kp T.zqH (ao (ah 1) (ao (gL (ao (ah 3) aD)) (ao df (ao ge_int aD))))))) cA)
  (aK (cB (bN (λ_=>(dU hr.units)) dS (ah 2) ge_int (bV _)) (aK (cj (bR (c:=4) (mth:="day") (ah 0) T.zaf T.zcZ (vb T) (hr.mono (by decide)) T.zdy (ao (ah 3) aD)))) cA))))))))))
theorem rT:br ["office","book","way","year","bad","e"] ["office","book","way","year"] (bi sE):=⟨rfl,rfl,rfl,by decide +kernel,rfl,by decide +kernel,by decide +kernel⟩
theorem Gu(T:Txt K mg a):FnG P w K mg base a.cl 11 a.zeG a.zex ["office","book","way","year"] qE:=by
 refine bD (N:=["office","book","way","year","bad","e"]) (k:=10) (g:=om) T.zep rT rfl λcdv A outer s H E sa ns hr=>?_;exact (aC (bB (n:=4) mI rT.nd)
  (aC (GH (al:=[100,101,102,103,104,105,106,107,109,110,111]) (λpn EX=>(aK (cj (bJ (Hh T) (hr.mono (by decide)) T.ziW T.zgg.kp T.ziN (ao (ah 0) (ao (ah 1) (ao (ah 2) (ao (ah 3) aD)))))))) (.named (i:=5) T.zg4 rfl T.zc2 T.zjF rT.nd rfl rfl (λA'=>(aK (bB (n:=4) (xP (wI (ah 5) (λE=>sP (v:=.ref a.zd1) rfl T.zjB rfl) (.inr ⟨_,rfl,rfl⟩) T.ziU T.zfP) (wA (CI (wI (ah 5) (λE=>sP (v:=.ref a.zd2) rfl T.ziV rfl) (.inr ⟨_,rfl,rfl⟩) T.zjA T.zfP)))) rT.nd))) (by decide) GHs.nil))
  (aK (bP (ah 4)))))
theorem vF:br ["year","way","cell","other","rows","at"] ["year","way","cell","other"] (bi pE):=⟨rfl,rfl,rfl,by decide +kernel,rfl,by decide +kernel,by decide +kernel⟩
theorem BL(T:Txt K mg a):FnG P w K mg base a.cl 1 a.zeH a.zey ["year","way","cell","other"] pP:=by
 refine bD (N:=["year","way","cell","other","rows","at"]) (k:=0) (g:=pI) T.zeq vF rfl λcdv A outer s H E sa ns hr=>?_;exact (aC (bB (n:=4) (rZ (λ_=>oE) oI (ah 0) T.zjE PyProof.Rows.Boot.«list») vF.nd)
  (aC (bB (n:=5) (cH (λ_=>fN) fJ (ah 2) (eO (λ_=>fP) fA (ah 4) T.zha PySem.boot_len)) vF.nd)
  (aC (cB (bN (λ_=>(dU hr.units)) dS (ah 1) ge_int (bV _)) (aK (cj (Dr (ah 4) (ah 5) ge_int))) cA)
  (aC (cB (bN (λ_=>(dU hr.units)) dS (ah 1) ge_int (bV _)) (aK (cj (uU (mn:="pop") PySem.F.slot_list_pop PySem.F.type_list_pop (λ_=>EJ) Cm (ah 4) (ah 5)))) cA)
  (aC (cB (bN (λ_=>(dU hr.units)) dS (ah 1) ge_int (bV _)) (aK (iu (ah 4) (ah 5) (cH (λ_=>sd) oR (yg ge_int) (cH (λ_=>fN) fJ (ah 3) (cH (λ_=>zl) Ae ge_int ge_int))) (hg:=λE t t' h1 h2=>iA h1 h2 (ij (bg hr))))) cA)
  (aC (cB (bN (λ_=>(dU hr.units)) dS (ah 1) ge_int (bV _)) (aK (iu (ah 4) (ah 5) (cH (λ_=>je) jk ge_int (cH (λ_=>fN) fJ (ah 3) (cH (λ_=>zl) Ae ge_int ge_int))) (hg:=λE t t' h1 h2=>iA h1 h2 (ij (bg hr))))) cA)
  (aC (cB (bN (λ_=>(dU hr.units)) dS (ah 1) ge_int (bV _)) (aK (iu (ah 4) (ah 5) (bY (bg hr) (gL (ao (yg ge_int) (ao ge_int aD))) (cH (λ_=>fN) fJ (ah 3) ge_int)) (hg:=λE t t' h1 h2=>iA h1 h2 (ij (bg hr))))) cA)
  (aK (bP (ah 4))))))))))
theorem kD:br ["script","start","size","year","k","cell","inflow"] ["script","start","size"] (bi qH):=⟨rfl,rfl,rfl,by decide +kernel,rfl,by decide +kernel,by decide +kernel⟩
theorem Gk(T:Txt K mg a):FnG P w K mg base a.cl 2 a.zhs a.zhp ["script","start","size"] qK:=by
 refine bD (N:=["script","start","size","year","k","cell","inflow"]) (k:=1) (g:=xh) T.zhn kD rfl λcdv A outer s H E sa ns hr=>?_;exact (aC (bB (n:=3) (gL aD) kD.nd)
  (aC (fR (one:=true) (is:=[4]) (qu (ah 2) T.zfQ) (dZ kD.nd) (aC (bB (n:=5) (bJ (iL T) (hr.mono (by decide)) T.zaU T.zaK.kp T.zaT (ao (ah 0) (ao (cH (λ_=>je) jk (ah 1) (ah 4)) aD))) kD.nd)
  (aC (bB (n:=6) (cH (λ_=>fN) fJ (cH (λ_=>xB) yB (ah 5) ge_int) ge_int) kD.nd)
  (aC (cB (bN (λ_=>(dU hr.units)) dS (cH (λ_=>fN) fJ (ah 5) ge_int) ge_int (bV _)) (aK (bB (n:=6) (cH (λ_=>fN) fJ (cH (λ_=>xB) yB (ah 5) ge_int) ge_int) kD.nd)) cA)
  (aK (cj (mR (ah 3) (ah 6))))))))
  (aK (bP (ah 3)))))
theorem g8:br ["script","size","year","bad","book","point","office","seen","handed","way"] ["script"] (bi sf):=⟨rfl,rfl,rfl,by decide +kernel,rfl,by decide +kernel,by decide +kernel⟩
theorem DT(T:Txt K mg a):FnG P w K mg base a.cl 12 a.zrS a.zrQ ["script"] nh:=by
 refine bD (N:=["script","size","year","bad","book","point","office","seen","handed","way"]) (k:=11) (g:=rB) T.ztk g8 rfl λcdv A outer s H E sa ns hr=>?_;exact (aC (bB (n:=1) (cH (λ_=>je) jk ge_int (cH (λ_=>fN) fJ (bJ (iL T) (hr.mono (by decide)) T.zaU T.zaK.kp T.zaT (ao (ah 0) (ao ge_int aD))) ge_int)) g8.nd)
  (aC (bB (n:=2) (bJ (Gk T) (hr.mono (by decide)) T.zjD T.zhn.kp T.zjx (ao (ah 0) (ao ge_int (ao (ah 1) aD)))) g8.nd)
  (aC (bB (n:=3) (bJ (BL T) (hr.mono (by decide)) T.zg7 T.zeq.kp T.zgV (ao (ah 2) (ao (cH (λ_=>fN) fJ (bJ (iL T) (hr.mono (by decide)) T.zaU T.zaK.kp T.zaT (ao (ah 0) (ao ge_int aD))) ge_int) (ao (bJ (iL T) (hr.mono (by decide)) T.zaU T.zaK.kp T.zaT (ao (ah 0) (ao ge_int aD))) (ao (bJ (iL T) (hr.mono (by decide)) T.zaU T.zaK.kp T.zaT (ao (ah 0) (ao ge_int aD))) aD))))) g8.nd)
  (aC (bB (n:=4) (mP (c:=3) T.zpg (DX T) (hr.mono (by decide)) T.zqJ T.zfk (ao (mP (c:=1) T.zm5 (CP T) (hr.mono (by decide)) T.zpd T.zeT (ao (bJ (HZ T) (hr.mono (by decide)) T.ziX T.zgh.kp T.ziO (ao (ah 0) (ao ge_int (ao (ah 1) aD)))) aD)) aD)) g8.nd)
  (aC (bB (n:=5) (cH (λ_=>fN) fJ (bJ (iL T) (hr.mono (by decide)) T.zaU T.zaK.kp T.zaT (ao (ah 0) (ao ge_int aD))) (ah 1)) g8.nd)
  (aC (cj (bR (c:=3) (mth:="grant") (ah 4) T.zai T.zeJ (xE T) (hr.mono (by decide)) T.zfl (ao df (ao (ah 5) (ao (cH (λ_=>fN) fJ (bJ (iL T) (hr.mono (by decide)) T.zaU T.zaK.kp T.zaT (ao (ah 0) (ao ge_int aD))) ge_int) (ao ge_int aD))))))
  (aC (bB (n:=6) (mP (c:=4) T.zlo (F7 T) (hr.mono (by decide)) T.zm3 T.zdV (ao (ah 4) aD)) g8.nd)
  (aC (cj (bR (c:=4) (mth:="dig") (ah 6) T.zaf T.zg9 (Dz T) (hr.mono (by decide)) T.zhE (ao df (ao (ah 5) (ao ge_int (ao ge_int aD))))))
  (aC (cB (bN (λ_=>nE) nB (cH (λ_=>fN) fJ (bJ (iL T) (hr.mono (by decide)) T.zaU T.zaK.kp T.zaT (ao (ah 0) (ao ge_int aD))) ge_int) ge_int (bV _)) (aK (cj (bR (c:=4) (mth:="day") (ah 6) T.zaf T.zcZ (vb T) (hr.mono (by decide)) T.zdy (ao (rZ (λ_=>oE) oI (ah 2) T.zjE PyProof.Rows.Boot.«list») aD)))) cA)
  (aC (bB (n:=7) (gL (ao (bR (c:=4) (mth:="got") (ah 6) T.zaf T.zeK (Ay T) (hr.mono (by decide)) T.zfm (ao df aD)) (ao (bR (c:=4) (mth:="account") (ah 6) T.zaf T.zcq (wg T) (hr.mono (by decide)) T.zcG (ao df aD)) (ao (c7 (c:=4) (mth:="out") (ah 6) T.zaf T.zeL (zk T) (hr.mono (by decide)) T.zfn) (ao (bR (c:=4) (mth:="stored") (ah 6) T.zaf T.zcN (yx T) (hr.mono (by decide)) T.zdb (ao df aD)) (ao (bR (c:=3) (mth:="right") (ah 4) T.zai T.zaw (fQ T) (hr.mono (by decide)) T.zaF (ao df aD)) aD)))))) g8.nd)
  (aC (bB (n:=8) (rZ (λ_=>oE) oI (ah 3) T.zjE PyProof.Rows.Boot.«list») g8.nd)
  (aC (fR (one:=true) (is:=[9]) (qu ge_int T.zfQ) (dZ g8.nd) (aK (cB (Bu (w8 (bJ (Gu T) (hr.mono (by decide)) T.zg6 T.zep.kp T.zgU (ao (ah 6) (ao (ah 4) (ao (ah 9) (ao (ah 8) aD))))))) (aK (bP mI)) cA)))
  (aC (cB (GW.gt (j7 (bN (λ_=>(nG hr.units)) mh (ah 8) (ah 3) (bV _)) (lL .Or (bN (λ_=>(nG hr.units)) mh (bY (bg hr) (bR (c:=3) (mth:="right") (ah 4) T.zai T.zaw (fQ T) (hr.mono (by decide)) T.zaF (ao df aD)) ge_int) (ah 5) (bV _))))) (aK (bP mI)) cA)
  (aC (cB (bN (λ_=>(nG hr.units)) mh (gL (ao (bR (c:=4) (mth:="got") (ah 6) T.zaf T.zeK (Ay T) (hr.mono (by decide)) T.zfm (ao df aD)) (ao (bR (c:=4) (mth:="account") (ah 6) T.zaf T.zcq (wg T) (hr.mono (by decide)) T.zcG (ao df aD)) (ao (c7 (c:=4) (mth:="out") (ah 6) T.zaf T.zeL (zk T) (hr.mono (by decide)) T.zfn) (ao (bR (c:=4) (mth:="stored") (ah 6) T.zaf T.zcN (yx T) (hr.mono (by decide)) T.zdb (ao df aD)) (ao (bR (c:=3) (mth:="right") (ah 4) T.zai T.zaw (fQ T) (hr.mono (by decide)) T.zaF (ao df aD)) aD)))))) (ah 7) (bV _)) (aK (bP mI)) cA)
  (aK (bP (uG (λ_=>(dU hr.units)) dS (eO (λ_=>fP) fA (bY (bg hr) (bR (c:=4) (mth:="day") (ah 6) T.zaf T.zcZ (vb T) (hr.mono (by decide)) T.zdy (ao (ah 2) aD)) ge_int) T.zha PySem.boot_len) ge_int (bV _))))))))))))))))))
end
end L2.Rv
namespace L2.Rv
open PySem PySem.Spec PyProof.Rows
open PySem.W
def vG(K:Frag)(tb:ae):Sp:=λvs H Q _=>∃(sa:ae) (ns:List Int),vs=[.ref sa]/\ou tb H/\H tb=some (.tbl #[])/\SqL K H sa (ns.map V.int)/\ns.length≤63/\∀H',Q (.bl true) H'
def AQ:Adr:=⟨204,309,398,424,508,31,44,56,68,80,92,104,116,128,140,152,456,fO "names" "Book.names" rR "riverdue.rights" 726 455,442,fO "__init__" "Book.__init__" pb "riverdue.rights" 726 441,505,fO "check_free" "Book.check_free" rF "riverdue.rights" 726 504,421,fO "__init__" "Right.__init__" oM "riverdue.rights" 726 420,182,fO "check_point" "River.check_point" pS "riverdue.river" 374 181,470,fO "grant" "Book.grant" o7 "riverdue.rights" 726 469,498,fO "held_right" "Book.held_right" rj "riverdue.rights" 726 497,463,fO "right" "Book.right" p7 "riverdue.rights" 726 462,327,fO "__init__" "Office.__init__" oA "riverdue.office" 558 326,367,fO "account" "Office.account" qe "riverdue.office" 558 366,449,fO "river" "Book.river" rG "riverdue.rights" 726 448,388,fO "give" "Office.give" rh "riverdue.office" 558 387,395,fO "wants_by_age" "Office.wants_by_age" sA "riverdue.office" 558 394,175,fO "points" "River.points" qO "riverdue.river" 374 174,196,fO "way" "River.way" q8 "riverdue.river" 374 195,189,fO "below" "River.below" oB "riverdue.river" 374 188,222,fO "check_year" "check_year" re "riverdue.river" 374 221,227,fO "flows" "flows" qU "riverdue.river" 374 226,232,fO "serve" "serve" oq "riverdue.dealing" 471 231,407,fO "takes_of_rank" "takes_of_rank" rQ "riverdue.office" 558 406,339,fO "day" "Office.day" sC "riverdue.office" 558 338,306,fO "__init__" "Pond.__init__" qf "riverdue.office" 558 305,334,fO "dig" "Office.dig" ol "riverdue.office" 558 333,360,fO "got" "Office.got" rH "riverdue.office" 558 359,374,fO "out" "Office.out" sj "riverdue.office" 558 373,381,fO "pond_called" "Office.pond_called" pY "riverdue.office" 558 380,353,fO "stored" "Office.stored" sr "riverdue.office" 558 352,215,fO "check_below" "check_below" qa "riverdue.river" 374 214,168,fO "__init__" "River.__init__" qj "riverdue.river" 374 167,519,fO "_law_cell_at" "_law_cell_at" si "law_riverdue_k05_bad_years" 869 518,531,fO "_law_below" "_law_below" pk "law_riverdue_k05_bad_years" 869 530,237,fO "wants_of" "wants_of" pT "riverdue.dealing" 471 236,244,fO "dealt" "dealt" qW "riverdue.dealing" 471 243,251,fO "left" "left" rD "riverdue.dealing" 471 250,256,fO "short" "short" rC "riverdue.dealing" 471 255,261,fO "dry" "dry" qM "riverdue.dealing" 471 260,285,fO "wants_with" "wants_with" pQ "riverdue.changes" 528 284,278,fO "harmed" "harmed" oK "riverdue.changes" 528 277,477,fO "drop" "Book.drop" qS "riverdue.rights" 726 476,292,fO "move" "move" qi "riverdue.changes" 528 291,201,fO "above" "River.above" oX "riverdue.river" 374 200,273,fO "wants_among" "wants_among" qc "riverdue.dealing" 471 272,266,fO "shut" "shut" p6 "riverdue.dealing" 471 265,550,fO "_law_asked" "_law_asked" rL "law_riverdue_k05_bad_years" 869 549,557,fO "_law_refused" "_law_refused" sE "law_riverdue_k05_bad_years" 869 556,545,fO "_law_spoiled" "_law_spoiled" pE "law_riverdue_k05_bad_years" 869 544,538,fO "_law_year" "_law_year" qH "law_riverdue_k05_bad_years" 869 537,564,fO "law" "law" sf "law_riverdue_k05_bad_years" 869 563,451⟩
theorem all_mk{l:OpenLaw}{w:aU}{h:aG}{mg:Str->Option ag}{fa:ae}(X:(KM w).In h)(G:h.Ns c8 mg)(hfa:mg "law"=some (.ref fa))
  (hold:∀ns:List Int,ns.length≤63->∃h',nh [.scr ns] []=.ok (.bl true) h') :
  (∃c o vs,(KM w).lookup c=some o/\o.cls=.type "code"/\o.data=.fields vs/\vs[11]?=some (.ref 451))/\∃fd:aW,(∀(s:ai) (v:ag),BindsTo s fd ⟨[v],[]⟩ [("script",v)])/\∀base:aG,(KM w).In base->base.Ns c8 mg->ip l.prog w (KM w) mg base (CXe l.prog w) 12 fa fd ["script"] (vG (KM w) 451):=by
 have x_a_law:nsIn (KM w) c8 "law"=some (some (.ref 564)):=by kernel_rfl
 have x_lcd:((.ref 455):ag)=.ref 455:=by rfl
 have x_lco:(KM w).lookup 455=some ⟨.type "code",none,.fields KQc,#[]⟩:=by kernel_rfl
 have x_l11:KQc[11]?=some (.ref 451):=by rfl
 have x_l11d:KQc.getD 11 .none=.ref 451:=by rfl
 have x_l18:KQc.getD 18 .none=.str "/claim/cut.py" 794:=by rfl
 have x_l7:KQc.getD 7 .none=.int 3 0:=by rfl
 have x_l9:KQc.getD 9 .none=.bool true:=by rfl
 have x_l10:KQc.getD 10 .none=.int 181 0:=by rfl
 have x_bms:nsIn (KM w) c8 "__builtins__"=some (some (.ref 4)):=by kernel_rfl
 have x_bml:(KM w).lookup 4=some ⟨.type "module",some builtinsNs,.plain,#[]⟩:=by kernel_rfl
 have x_bm1:4≠builtinsNs:=by decide
 have x_bm2:4≠c8:=by decide
 have x_sp_cls:specialIn (KM w) (.builtin "object.__class__") "__get__"=some (some (.builtin "getset_descriptor.__get__")):=by kernel_rfl
 have x_tk_cls:takesIn (KM w) (.builtin "object.__class__")=some true:=by kernel_rfl
 obtain rfl:564=fa:=(Value.ref.inj (Option.some.inj (hfa.symm.trans (mg_of X G x_a_law)))).symm;have zdj:cO (KM w) 31:=nX x_sp_cls x_tk_cls;have zdi:cO (KM w) 44:=nX x_sp_cls x_tk_cls;have zc2:cO (KM w) 56:=nX x_sp_cls x_tk_cls;have zd3:cO (KM w) 68:=nX x_sp_cls x_tk_cls;have zg1:cO (KM w) 80:=nX x_sp_cls x_tk_cls;have zd4:cO (KM w) 92:=nX x_sp_cls x_tk_cls;have zdl:cO (KM w) 104:=nX x_sp_cls x_tk_cls;have zd5:cO (KM w) 116:=nX x_sp_cls x_tk_cls;have ziS:cO (KM w) 128:=nX x_sp_cls x_tk_cls;have zfE:cO (KM w) 140:=nX x_sp_cls x_tk_cls;have zdk:cO (KM w) 152:=nX x_sp_cls x_tk_cls;have T:Txt (KM w) mg AQ:={
  zfP:=nN X G
  zha:=nN X G
  zjE:=nN X G
  zrU:=nN X G
  zfQ:=nN X G
  zkp:=nN X G
  zpi:=nN X G
  zg2:=⟨378,nR X G⟩
  zg3:=⟨376,nR X G⟩
  zdM:=⟨562,nR X G⟩
  zdq:=⟨560,nR X G⟩
  zpd:=nR X G
  zaP:=nC
  zm5:=nK
  zba:=nA
  zqL:=nR X G
  zb7:=nC
  zph:=nK
  zc0:=nA
  zfR:=nA
  zcB:=nA
  zbg:=nA
  zm3:=nR X G
  zaf:=nC
  zlo:=nK
  za4:=nA
  zaL:=nA
  zaZ:=nA
  zbf:=nA
  zbI:=nA
  zpc:=nR X G
  zcs:=nC
  zm4:=nK
  zcu:=nA
  zds:=nA
  zb9:=nA
  zqJ:=nR X G
  zai:=nC
  zpg:=nK
  zct:=nA
  zaY:=nA
  zjB:=nR X G
  zdj:=zdj
  zfX:=nR X G
  zdi:=zdi
  zg4:=nR X G
  zc2:=zc2
  zln:=nR X G
  zd3:=zd3
  zme:=nR X G
  zg1:=zg1
  ziV:=nR X G
  zd4:=zd4
  zjC:=nR X G
  zdl:=zdl
  zpe:=nR X G
  zd5:=zd5
  zqK:=nR X G
  ziS:=ziS
  zm2:=nR X G
  zfE:=zfE
  znr:=nR X G
  zdk:=zdk
  zeA:=by kernel_rfl
  zhr:=by kernel_rfl
  zo8:=by kernel_rfl
  zjy:=by kernel_rfl
  zlm:=by kernel_rfl
  zjz:=by kernel_rfl
  ziT:=by kernel_rfl
  zkm:=by kernel_rfl
  ziU:=.exc (λn hn=>by simp only[bW,gA,or_false]at hn;rcases hn with rfl|rfl|rfl|rfl|rfl|rfl|rfl|rfl|rfl|rfl|rfl <;> first|exact⟨zdj,by kernel_rfl⟩|exact⟨zdi,by kernel_rfl⟩|exact⟨zc2,by kernel_rfl⟩|exact⟨zd3,by kernel_rfl⟩|exact⟨zg1,by kernel_rfl⟩|exact⟨zd4,by kernel_rfl⟩|exact⟨zdl,by kernel_rfl⟩|exact⟨zd5,by kernel_rfl⟩|exact⟨ziS,by kernel_rfl⟩|exact⟨zfE,by kernel_rfl⟩|exact⟨zdk,by kernel_rfl⟩)
  zjA:=.exc (λn hn=>by simp only[bW,gA,or_false]at hn;rcases hn with rfl|rfl|rfl|rfl|rfl|rfl|rfl|rfl|rfl|rfl|rfl <;> first|exact⟨zdj,by kernel_rfl⟩|exact⟨zdi,by kernel_rfl⟩|exact⟨zc2,by kernel_rfl⟩|exact⟨zd3,by kernel_rfl⟩|exact⟨zg1,by kernel_rfl⟩|exact⟨zd4,by kernel_rfl⟩|exact⟨zdl,by kernel_rfl⟩|exact⟨zd5,by kernel_rfl⟩|exact⟨ziS,by kernel_rfl⟩|exact⟨zfE,by kernel_rfl⟩|exact⟨zdk,by kernel_rfl⟩)
  zjF:=(λn hn=>by simp only[bW,gA,or_false]at hn;rcases hn with rfl|rfl|rfl|rfl|rfl|rfl|rfl|rfl|rfl|rfl|rfl <;> kernel_rfl)
  zhI:=fm
  zbC:=.all λus hl=>match us,hl with|[_],_=>rfl
  zbp:=nM
  zfp:=fm
  zfk:=.all λus hl=>match us,hl with|[_,_],_=>rfl
  zdX:=fm
  zdU:=.all λus hl=>match us,hl with|[_,_],_=>rfl
  zdA:=nM
  zeV:=fm
  zeS:=.all λus hl=>match us,hl with|[_,_,_,_],_=>rfl
  zdd:=fm
  zaD:=.all λus hl=>match us,hl with|[_,_],_=>rfl
  zax:=nM
  zhH:=fm
  zfl:=.all λus hl=>match us,hl with|[_,_,_,_,_],_=>rfl
  zeJ:=nM
  zdY:=fm
  zcj:=.all λus hl=>match us,hl with|[_,_],_=>rfl
  zb8:=nM
  zhJ:=fm
  zaF:=.all λus hl=>match us,hl with|[_,_],_=>rfl
  zaw:=nM
  zdZ:=fm
  zdV:=.all λus hl=>match us,hl with|[_,_],_=>rfl
  zeU:=fm
  zcG:=.all λus hl=>match us,hl with|[_,_],_=>rfl
  zcq:=nM
  zhK:=fm
  za3:=.all λus hl=>match us,hl with|[_],_=>rfl
  zaV:=nM
  zgX:=fm
  zgQ:=.all λus hl=>match us,hl with|[_,_,_],_=>rfl
  zf9:=nM
  zcz:=fm
  zcy:=.all λus hl=>match us,hl with|[_],_=>rfl
  zcb:=nM
  zf8:=fm
  zbw:=.all λus hl=>match us,hl with|[_],_=>rfl
  zbm:=nM
  ziQ:=fm
  zen:=.all λus hl=>match us,hl with|[_,_],_=>rfl
  zdB:=nM
  zgZ:=fm
  zgS:=.all λus hl=>match us,hl with|[_,_],_=>rfl
  zgb:=nM
  zfs:=fm
  zhF:=.all λus hl=>match us,hl with|[_,_],_=>rfl
  zhQ:=nR X G
  zki:=fm
  zl4:=.all λus hl=>match us,hl with|[_,_,_],_=>rfl
  zmg:=nR X G
  zgi:=fm
  zhm:=.all λus hl=>match us,hl with|[_,_,_],_=>rfl
  zhu:=nR X G
  zb6:=fm
  zdc:=.all λus hl=>match us,hl with|[_,_,_],_=>rfl
  zdr:=nR X G
  zhL:=fm
  zdy:=.all λus hl=>match us,hl with|[_,_],_=>rfl
  zcZ:=nM
  zfr:=fm
  zfo:=.all λus hl=>match us,hl with|[_,_,_,_],_=>rfl
  zhM:=fm
  zhE:=.all λus hl=>match us,hl with|[_,_,_,_,_],_=>rfl
  zg9:=nM
  zhN:=fm
  zfm:=.all λus hl=>match us,hl with|[_,_],_=>rfl
  zeK:=nM
  zhO:=fm
  zfn:=.all λus hl=>match us,hl with|[_],_=>rfl
  zeL:=nM
  zcQ:=fm
  zcP:=.all λus hl=>match us,hl with|[_,_],_=>rfl
  zcA:=nM
  zfq:=fm
  zdb:=.all λus hl=>match us,hl with|[_,_],_=>rfl
  zcN:=nM
  zeo:=fm
  zgT:=.all λus hl=>match us,hl with|[_],_=>rfl
  zg5:=nR X G
  zeW:=fm
  zeT:=.all λus hl=>match us,hl with|[_,_],_=>rfl
  zaK:=fm
  zaT:=.all λus hl=>match us,hl with|[_,_],_=>rfl
  zaU:=nR X G
  zgh:=fm
  ziO:=.all λus hl=>match us,hl with|[_,_,_],_=>rfl
  ziX:=nR X G
  zc1:=fm
  zdW:=.all λus hl=>match us,hl with|[_],_=>rfl
  zd6:=nR X G
  zkh:=fm
  zl3:=.all λus hl=>match us,hl with|[_,_],_=>rfl
  zmf:=nR X G
  zm0:=fm
  zo2:=.all λus hl=>match us,hl with|[_,_],_=>rfl
  zpf:=nR X G
  zkj:=fm
  zl5:=.all λus hl=>match us,hl with|[_,_],_=>rfl
  zmh:=nR X G
  zqg:=fm
  zrO:=.all λus hl=>match us,hl with|[_,_,_],_=>rfl
  zrT:=nR X G
  zft:=fm
  zhG:=.all λus hl=>match us,hl with|[_,_,_],_=>rfl
  zhR:=nR X G
  zib:=fm
  zkg:=.all λus hl=>match us,hl with|[_,_,_,_],_=>rfl
  zko:=nR X G
  ziP:=fm
  ziM:=.all λus hl=>match us,hl with|[_,_],_=>rfl
  zhS:=nM
  zo3:=fm
  zqH:=.all λus hl=>match us,hl with|[_,_,_,_],_=>rfl
  zqM:=nR X G
  zgY:=fm
  zgR:=.all λus hl=>match us,hl with|[_,_],_=>rfl
  zga:=nM
  zer:=fm
  zgW:=.all λus hl=>match us,hl with|[_,_],_=>rfl
  zg8:=nR X G
  zo4:=fm
  zqI:=.all λus hl=>match us,hl with|[_,_,_],_=>rfl
  zqN:=nR X G
  zgg:=fm
  ziN:=.all λus hl=>match us,hl with|[_,_,_,_],_=>rfl
  ziW:=nR X G
  zep:=fm
  zgU:=.all λus hl=>match us,hl with|[_,_,_,_],_=>rfl
  zg6:=nR X G
  zeq:=fm
  zgV:=.all λus hl=>match us,hl with|[_,_,_,_],_=>rfl
  zg7:=nR X G
  zhn:=fm
  zjx:=.all λus hl=>match us,hl with|[_,_,_],_=>rfl
  zjD:=nR X G
  ztk:=fm
  ztN:=.all λus hl=>match us,hl with|[_],_=>rfl
  ztO:=nR X G
  lam:=⟨(show(1:Nat)≠0 by decide),⟨455,x_lcd,_,_,_,_,_,_,_,_,_,x_lco,rfl,rfl,x_l11,x_l11d,x_l18,x_l7,x_l9,x_l10⟩,⟨4,_,mg_of X G x_bms,x_bm1,x_bm2,x_bml,rfl,rfl,rfl⟩⟩
 }
 refine⟨⟨455,_,_,x_lco,rfl,rfl,x_l11⟩,?_⟩;refine⟨_,λs v=>.of_eq rfl,λbase _ _=>(DT T).ok.imp λvs H Q E q=>?_⟩;obtain⟨sa,ns,rfl,hO,hH,hS,hl,hQ⟩:=q;obtain⟨h',hh⟩:=hold ns hl;refine⟨sa,ns,[],[],[.scr ns],rfl,.cons ⟨rfl,rfl⟩ .nil,⟨rfl,List.nodup_nil,λn a o e=>by simp at e,?_,.inr ⟨by simp,.inl hH⟩⟩,?_⟩
 ·rcases hS with(hS|⟨o,hS⟩)|hS
  ·rcases hO sa with z|⟨ob,xs,z⟩|⟨_,z⟩ <;> (rw[hS]at z;cases z)
  ·exact .inl ⟨o,hS⟩
  ·exact .inr λH0=>.inr hS
 ·rw[hh];intro m' H' v' _ _ r;cases(show v'=V.bl true from r);exact hQ H'
theorem walk{l:OpenLaw}{q:bf}{loose:List Str}{XP:(Str->Option ag)->aG->Prop}{YP:aU->aG->Prop}{d:DefRec}{K:Params->Frag}{tb:ae}(hn:l.most=some 63)(hdf:d.params.defaults=[])
  (hY:∀(w:aU) (h:aG),YP w h->(K w.params).In h/\h.get? tb=some (tabObj #[])) (hK:∀w:aU,(K w.params).lookup tb=none)
  (F:∀(w:aU) (mg:Str->Option ag) (fa:ae) (h:aG),(K w.params).In h->h.Ns c8 mg->mg d.name=some (.ref fa) ->
   (∃c o vs,(K w.params).lookup c=some o/\o.cls=.type "code"/\o.data=.fields vs/\vs[11]?=some (.ref tb)) /\
   ∃fd:aW,(∀(s:ai) (u:ag),BindsTo s fd ⟨[u],[]⟩ [("script",u)])/\∀base:aG,(K w.params).In base->base.Ns c8 mg->ip l.prog w (K w.params) mg base (CXe l.prog w) 12 fa fd ["script"] (vG (K w.params) tb)) :
  WalkO q loose XP YP l.row.toRowW d [] (λf vs=>PySem.call f vs):=
 A2 (n:=63) (k:=12) (x:="script") (CX:=λw=>CXe l.prog w) (sp:=λw=>vG (K w.params) tb) hn (by decide) hdf ⟨rfl,by decide,by decide⟩ hY hK F (λ_ _ a ns hl hO hH hS=>⟨a,ns,rfl,hO,hH,hS,hl,λ_=>rfl⟩) λ_ _ _ _ _ z=>by obtain⟨_,_,_,_,_,_,_,_,_,y⟩:=z;exact y
end L2.Rv
namespace L2.Rv
open PySem (Str)
theorem ic{ns:List Int}{k:Int}(hk:0≤k){h:MH}{Q:MV->MH->Prop}{E:Nat->MH->Prop}:wp (fk [.scr ns,.int k]) h Q E=Q (.int (cell ns k)) h:=by
 obtain⟨k,rfl⟩:=Int.eq_ofNat_of_zero_le hk;have key:fk [.scr ns,.int k] h=.ok (.int (cell ns k)) h:=by
  by_cases c:k<ns.length
  ·have e:atN ns (k:Int)=some (cell ns k):=by rw[nU];simp[cell,c]
   simp[fk,sk,fnOf,bnd,aB,sIf,tst,aA,af,eUn,dz,oLt,ret,asB,bq,oIx,c,e]
  ·have e:cell ns k=0:=by simp[cell,kg c]
   simp[fk,sk,fnOf,bnd,aB,sIf,tst,aA,af,eUn,dz,oLt,ret,asB,bq,oIx,c,e,bH,eC]
 unfold wp;rw[key]
def nats(l:List Nat):List MV:=l.map λ(x:Nat)=>.int (x:Int)
def rows(b:List Nat):List MV:=.non::nats b
def Wf(b:List Nat):Prop:=∀(k x:Nat),b[k]?=some x->x≤k
theorem zK(b:List Nat):(nats b).length=b.length:=by simp[nats]
theorem pc(b:List Nat):(rows b).length=b.length+1:=by simp[rows,nats]
theorem uS{b:List Nat}{p x:Nat}(e:b[p]?=some x):(rows b)[p+1]?=some (.int x):=by simp[rows,nats,e]
structure cq(h:MH)(r:Nat)(b:List Nat):Prop where
 ob:∃l,h[r]?=some (.ins 1 [("runs_to",.ref l)])/\h[l]?=some (.lst (rows b))
 wf:Wf b
 few:b.length<40
theorem cq.pre{h h':MH}{r:Nat}{b:List Nat}(R:cq h r b)(p:Pre h h'):cq h' r b:=by
 obtain⟨⟨l,h1,h2⟩,w,f⟩:=R;exact⟨⟨l,p.get h1,p.get h2⟩,w,f⟩
section
variable {h:MH}{r:Nat}{b:List Nat}{Q:MV->MH->Prop}{E:Nat->MH->Prop}
theorem HV{a:Nat}(ha:h[a]?=some (.lst (rows b)))(w:Wf b)(f:b.length<40)(q:Q .non h):wp (uO [.ref a]) h Q E:=by
 refine bX (by rfl) ?_;have c1:¬((b.length:Int)+1<1):=by lia
 have c2:¬(40<(b.length:Int)+1):=by lia
 have c0:atN (rows b) 0=some .non:=rfl;simp[ug,ha,pc,c1,c2,c0];refine⟨by lia,?_⟩;refine fE (λk σ h'=>h'=h/\∃x y,σ=[some (.ref a),x,y]) (λ_ _ _ _=>rfl) (λk x σ h' hx ⟨eh,u,v,es⟩=>?_) (λσ h' ⟨eh,u,v,es⟩=>?_) ⟨rfl,_,_,rfl⟩
 ·subst eh;subst es;have hk:k<b.length:=by
   have:=(bF.mp hx).1;rw[nI]at this;lia
  rw[uK (by lia)]at hx;cases hx;obtain⟨z,ez⟩:∃z,b[k]?=some z:=⟨b[k],by simp[hk]⟩
  have g:atN (rows b) (1+(k:Int))=some (.int z):=by
   rw[show(1+(k:Int))=((k+1:Nat):Int) by lia,nU];exact uS ez
  have lz:=w k z ez;have d1:¬((z:Int)<0):=by lia
  have d2:¬(1+(k:Int)≤(z:Int)):=by lia
  simp[cL,ha,g,d1,d2]
 ·subst eh;exact q
structure uD(h:MH)(r:Nat)(b:List Nat)(lo:Nat):Prop where
 ob:∃l,h[r]?=some (.ins 1 [("runs_to",.ref l)])/\h[l]?=some (.lst (rows b))/\lo≤l
 lo:lo≤r
 wf:Wf b
 few:b.length<40
theorem uD.at{lo:Nat}(R:uD h r b lo):cq h r b:=by
 obtain⟨⟨l,h1,h2,h3⟩,h4,w,f⟩:=R;exact⟨⟨l,h1,h2⟩,w,f⟩
theorem A6{a:Nat}(ha:h[a]?=some (.lst (rows b)))(w:Wf b)(f:b.length<40)(q:∀h',Pre h h'->uD h' h.length b h.length->Q .non h'):wp (mB [.ref h.length,.ref a]) (h++[.ins 1 []]) Q E:=by
 unfold mB;refine bX (by rfl) ?_;have ha':(h++[.ins 1 []])[a]?=some (.lst (rows b)):=dW ha;have la:=bU ha;simp[uY];refine HV ha' w f ?_;simp[ha',putF];exact⟨by lia,q _ ⟨_,rfl⟩ ⟨⟨h.length+1,by simp,by simp,by lia⟩,aY _,w,f⟩⟩
theorem El{a:Nat}(ha:h[a]?=some (.lst (rows b)))(w:Wf b)(f:b.length<40)(q:∀h',Pre h h'->cq h' h.length b->Q .non h'):wp (mB [.ref h.length,.ref a]) (h++[.ins 1 []]) Q E:=
 A6 ha w f λh' p R=>q h' p R.at
theorem jF(R:cq h r b):wp (fG [.ref r]) h Q E=Q (.int ((b.length:Int)+1)) h:=by
 obtain⟨⟨l,h1,h2⟩,w,f⟩:=R;have key:fG [.ref r] h=.ok (.int ((b.length:Int)+1)) h:=by
  simp[fG,vz,fnOf,bnd,bq,eUn,aV,af,ret,look,h1,h2,dz,pc]
 unfold wp;rw[key]
theorem mM{p:Int}(R:cq h r b)(h0:0≤p)(hp:p<(b.length:Int)+1):wp (g0 [.ref r,.int p]) h Q E=Q .non h:=by
 obtain⟨⟨l,h1,h2⟩,w,f⟩:=R;have n1:¬p<0:=by lia
 have n2:¬(b.length:Int)+1≤p:=by lia
 have key:g0 [.ref r,.int p] h=.ok .non h:=by
  simp[g0,ui,fnOf,bnd,sIf,tst,eOr,aA,eC,oLt,oGe,asB,eUn,aV,af,ret,look,h1,h2,dz,pc,n1,n2,bH]
 unfold wp;rw[key]
theorem cq.meth(R:cq h r b){f:Fn}{mth:String}{a:MA}{σ:MSt}{i:Nat}(hm:(mth == "runs_to")=false)(hs:σ[i]?=some (some (.ref r))):wp (aL 1 mth f (af i) a σ) h Q E=wp (a σ) h (λxs h2=>wp (f (.ref r::xs)) h2 Q E) E:=by
 obtain⟨⟨l,h1,h2⟩,w,f⟩:=R;have hm':mth≠"runs_to":=by simpa using hm
 simp[hs,h1,bK,hm,hm']
def fu(b:List Nat):Nat->Nat->List Nat
 |0,_=>[]
 |_+1,0=>[0]
 |f+1,p+1=>(p+1)::fu b f (b.getD p 0)
def bx(b:List Nat)(p:Nat):List Nat:=fu b (p+1) p
theorem sL{b:List Nat}(w:Wf b):∀{f g p:Nat},p<f->p<g->fu b f p=fu b g p
 |0,_,_,h,_=>absurd h (oH _)
 |_,0,_,_,h=>absurd h (oH _)
 |f+1,g+1,0,_,_=>rfl
 |f+1,g+1,p+1,hf,hg=>by
   have le:b.getD p 0≤p:=by
    rw[jL];cases e:b[p]? with
    |none=>simp
    |some x=>simpa using w p x e
   unfold fu;rw[sL w (f:=f) (g:=g) (p:=b.getD p 0) (by lia) (by lia)]
theorem qV(b:List Nat):bx b 0=[0]:=rfl
theorem oQ{b:List Nat}(w:Wf b){p x:Nat}(e:b[p]?=some x):bx b (p+1)=(p+1)::bx b x:=by
 have le:=w p x e;unfold bx;show(p+1)::fu b (p+1) (b.getD p 0)=_;rw[jL,e];simp only[Option.getD_some];rw[sL w (show x<p+1 by lia) (show x<x+1 by lia)]
theorem CA{b:List Nat}(w:Wf b):∀p,p<b.length+1->(bx b p).length≤p+1:=by
 intro p
 induction p using Nat.strongRecOn with
 |ind p ih=>
   intro hp;cases p with
   |zero=>simp[qV]
   |succ p=>
     obtain⟨x,ex⟩:∃x,b[p]?=some x:=⟨b[p]'(by lia),by simp⟩
     rw[oQ w ex];have:=w p x ex;have:=ih x (by lia) (by lia);simp;lia
def jf(b:List Nat)(p:Nat):MV:=(rows b).getD p .non
theorem wQ(hp:p<b.length+1):atN (rows b) ((p:Nat):Int)=some (jf b p):=by
 rw[nU,jf,jL];have:p<(rows b).length:=by rw[pc];exact hp
 simp[this]
theorem E6{p:Nat}(R:cq h r b)(hp:p<b.length+1):wp (nQ [.ref r,.int p]) h Q E=Q (jf b p) h:=by
 have c:=mM (Q:=λv h'=>v=.non/\h'=h) (E:=noE) (p:=p) R (by lia) (by lia);obtain⟨⟨l,h1,h2⟩,w,f⟩:=R;have key:nQ [.ref r,.int p] h=.ok (jf b p) h:=by
  obtain⟨v,h',e,rfl,rfl⟩:=jR (cast c.symm ⟨rfl,rfl⟩);simp[nQ,tO,fnOf,bnd,aB,bQ,aL,aj,au,af,ret,look,h1,h2,bK,e,bq,aA,aV,oIx,wQ hp]
 unfold wp;rw[key]
theorem CQ{p:Nat}(R:cq h r b)(hp:p<b.length+1)(q:Q (.ref h.length) (h++[.lst (nats (bx b p))])):wp (mw [.ref r,.int p]) h Q E:=by
 refine bX (by rfl) ?_;have c:=λ(Q:MV->MH->Prop)=>mM (Q:=Q) (E:=E) (p:=p) R (by lia) (by lia);unfold uh;rw[bO,cS,R.meth (by decide) rfl];simp[c];obtain⟨⟨l,h1,h2⟩,w,f⟩:=R;refine Eh (k:=p+1) (λk σ h'=>∃acc:List Nat,acc.length+k≤100/\h'=h++[.lst (nats acc)]/\((k=0/\acc=bx b p/\σ=[some (.ref r),some .non,some (.ref h.length)])∨∃x:Nat,k=x+1/\x<b.length+1/\acc++bx b x=bx b p/\σ=[some (.ref r),some (.int x),some (.ref h.length)])) ?_ (by lia)
  ⟨[],by simp;lia,rfl,.inr ⟨p,rfl,hp,rfl,rfl⟩⟩
 rintro k σ h' ⟨acc,ha,rfl,⟨rfl,rfl,rfl⟩|⟨x,rfl,hx,e,rfl⟩⟩
 ·simp;exact q
 ·have g1:∀o,(h++[o])[r]?=some (.ins 1 [("runs_to",.ref l)]):=λo=>dW h1;have g2:∀o,(h++[o])[l]?=some (.lst (rows b)):=λo=>dW h2;have la:(nats acc).length<100000:=by rw[zK];lia
  have snoc:nats acc++[.int x]=nats (acc++[x]):=by simp[nats]
  simp[la,g1,g2,snoc,wQ hx];cases x with
  |zero=>
    exact⟨0,by lia,acc++[0],by simp;lia,rfl,.inl ⟨rfl,by rw[qV]at e;exact e,rfl⟩⟩
  |succ x=>
    obtain⟨z,ez⟩:∃z,b[x]?=some z:=⟨b[x]'(by lia),by simp⟩
    have lz:=w x z ez;have ev:jf b (x+1)=.int z:=by rw[jf,jL,uS ez];rfl
    exact⟨z+1,by lia,acc++[x+1],by simp;lia,rfl,.inr ⟨z,rfl,by lia,by rw[←e,oQ w ez];simp,by rw[ev]⟩⟩
theorem HL(w:Wf b):∀p,p<b.length+1->0∈bx b p:=by
 intro p
 induction p using Nat.strongRecOn with
 |ind p ih=>
   intro hp;cases p with
   |zero=>simp[qV]
   |succ p=>
     obtain⟨x,ex⟩:∃x,b[p]?=some x:=⟨b[p]'(by lia),by simp⟩
     have:=w p x ex;rw[oQ w ex];exact eY _ (ih x (by lia) (by lia))
end
def gN(ns:List Int)(st:Int)(size:Nat):List Nat:=(cz (size-1)).map λ(k:Nat)=>(cell ns (st+(1+(k:Int)))%(1+(k:Int))).toNat
theorem ye(ns:List Int)(st:Int)(size:Nat):(gN ns st size).length=size-1:=by simp[gN]
theorem Fr(ns:List Int)(st:Int)(size:Nat):Wf (gN ns st size):=by
 intro k x e;unfold gN at e;rw[bz]at e;cases ek:(cz (size-1))[k]? with
 |none=>rw[ek]at e;cases e
 |some j=>
   rw[ek]at e;have hj:j=k:=by
    obtain⟨h1,h2⟩:=bF.mp ek;simpa using h2.symm
   subst hj;have e:(cell ns (st+(1+(j:Int)))%(1+(j:Int))).toNat=x:=Option.some.inj e;have a:=vg (cell ns (st+(1+(j:Int)))) (show(0:Int)<1+(j:Int) by lia)
   lia
theorem C7{n:Nat}{lo:Int}{f:List MV->MV}{g:Nat->Nat}(hf:∀k,k<n->f [.int (lo+(k:Int))]=.int (g k:Int)):(dk lo n).map f=nats ((cz n).map g):=by
 unfold dk nats;rw[dG,dG];refine iB λk hk=>?_;exact hf k (kQ.mp hk)
theorem Ch{ns:List Int}{st:Int}{size:Nat}{h:MH}{Q:MV->MH->Prop}{E:Nat->MH->Prop}(h0:0≤st)(hs:1≤size)(hz:size≤1000)(q:∀h',Pre h h'->h.length<h'.length->Q (.ref h'.length) (h'++[.lst (rows (gN ns st size))])):wp (qv [.scr ns,.int st,.int size]) h Q E:=by
 unfold qv;refine bX (by rfl) ?_;simp[vw];have hsrc:ig (eC (.int 1)) (af 2) [some (.scr ns),some (.int st),some (.int size)] (h++[.lst [.non]])=.ok ⟨dk 1 (size-1),[]⟩ (h++[.lst [.non]]):=by
  exact Ic rfl rfl ⟨by lia,by lia⟩ ⟨by lia,by lia⟩ (by lia)
 refine yY (λ_=>true) (λx=>match x with
  |[.int k]=>.int (cell ns (st+k)%k)
  | _=>.non) hsrc (λ_ _=>rfl) (by simp [nI];lia) (λx hx h2 p2=>?_) (λx hx _ h2 p2=>?_) λh2 p2=>?_
 ·simp[ff,bC,Pre.refl]
 ·obtain⟨k,hk,rfl⟩:=E8 hx;have h1:(0:Int)≤st+(1+(k:Int)):=by lia
  simp[ic h1];exact⟨by lia,.refl⟩
 ·have e:List.map (λx=>match x with
   |[MV.int k]=>MV.int (cell ns (st+k)%k)
   | _=>MV.non) (lO (λ_=>true) (dk 1 (size - 1)))=nats (gN ns st size):=by
   rw[rE.mpr λ_ _=>rfl];unfold gN;refine C7 λk hk=>?_;have a:=mx (cell ns (st+(1+(k:Int)))) (show(1+(k:Int))≠0 by lia);simp only[MV.int.injEq];lia
  rw[e];have pl:=p2.len;simp at pl;have g1:(h2++[.lst (nats (gN ns st size))])[h.length]?=some (.lst [.non]):=dW (p2.get cb);have l1:(nats (gN ns st size)).length+1≤100000:=by rw[zK,ye];lia
  simp[g1,l1];refine⟨by lia,?_⟩;have:=q (h2++[.lst (nats (gN ns st size))]) (((Pre.app _).trans p2).snoc _) (by simp;lia);simpa[rows] using this
section
variable {h:MH}{a:Nat}{b:List Nat}{Q:MV->MH->Prop}{E:Nat->MH->Prop}
end
def cP(b:List Nat)(n:Nat)(d:Nat->Int)(p:Nat):Int:=eF n λq=>if p∈bx b q then d q else 0
def chi(b:List Nat)(k p:Nat):Nat->Nat->Bool
 |0,_=>false
 |f+1,q=>if q=p then true else if q≤k then false else chi b k p f (b.getD (q-1) 0)
theorem zO{b:List Nat}(w:Wf b){q:Nat}(hq:0<q):b.getD (q-1) 0<q:=by
 rw[jL];cases e:b[q-1]? with
 |none=>simpa using hq
 |some x=>have:=w (q-1) x e;simp;lia
theorem md{b:List Nat}{k p q f:Nat}(hf:0<f)(hq:q≤k):chi b k p f q=decide (q=p):=by
 obtain⟨f,rfl⟩:∃g,f=g+1:=⟨f-1,by lia⟩
 unfold chi;by_cases e:q=p
 ·simp[e]
 ·simp[e,hq]
theorem uC{b:List Nat}{k p q f:Nat}(e:¬q=p)(hq:k<q):chi b k p (f+1) q=chi b k p f (b.getD (q-1) 0):=by
 conv=>lhs;unfold chi
 rw[if_neg e,if_neg (Nat.not_le.mpr hq)]
theorem wq{b:List Nat}{p:Nat}:∀(f q:Nat),q<f->chi b 0 p f q=decide (p∈fu b f q)
 |0,q,h=>by lia
 |f+1,0,_=>by
   unfold chi fu;by_cases e:p=0
   ·simp[e]
   ·have:¬(0=p):=λz=>e z.symm;simp[e,this]
 |f+1,q+1,h=>by
   unfold chi fu;by_cases e:q+1=p
   ·subst e;simp
   ·have e':¬p=q+1:=λz=>e z.symm;rw[if_neg e,if_neg (by lia)];simp only[Nat.add_sub_cancel,bW,e',false_or];by_cases hz:b.getD q 0<f
    ·exact wq f _ hz
    ·-- not met where the list is a river;the two agree all the same
     have:∀g q,chi b 0 p g q=decide (p∈fu b g q):=by
      intro g
      induction g with
      |zero=>intro q;simp[chi,fu]
      |succ g ih=>
        intro q;cases q with
        |zero=>
          unfold chi fu;by_cases e:p=0
          ·simp[e]
          ·have:¬(0=p):=λz=>e z.symm;simp[e,this]
        |succ q=>
          unfold chi fu;by_cases e:q+1=p
          ·subst e;simp
          ·have e':¬p=q+1:=λz=>e z.symm;rw[if_neg e,if_neg (by lia)];simp only[Nat.add_sub_cancel,bW,e',false_or];exact ih _
     exact this f _
theorem xc{b:List Nat}(w:Wf b){c p:Nat}(hc:0<c):∀(f q:Nat),q<f->(if chi b (c-1) p f q=true then(1:Int) else 0)=(if chi b c p f q=true then 1 else 0)+if b.getD (c-1) 0=p/\chi b c c f q=true then 1 else 0
 |0,q,h=>by lia
 |f+1,q,h=>by
   have lc:=zO w hc;by_cases e:q=p
   ·subst e;have h1:chi b (c-1) q (f+1) q=true:=by unfold chi;simp
    have h2:chi b c q (f+1) q=true:=by unfold chi;simp
    rw[if_pos h1,if_pos h2,if_neg]
    ·lia
    ·rintro⟨z,y⟩;unfold chi at y;rw[if_neg (by lia),if_pos (by lia)]at y;cases y
   ·by_cases hq:c<q
    ·have lq:=zO w (show 0<q by lia);have ih:=xc w (p:=p) hc f (b.getD (q-1) 0) (by lia);rw[uC e (show c-1<q by lia),uC e hq,uC (show ¬q=c by lia) hq];exact ih
    ·by_cases hq2:q=c
     ·subst hq2;have f0:0<f:=by lia
      have h1:chi b (q-1) p (f+1) q=decide (b.getD (q-1) 0=p):=by
       conv=>lhs;unfold chi
       rw[if_neg e,if_neg (by lia),md f0 (by lia)]
      have h2:chi b q p (f+1) q=false:=by unfold chi;simp[e]
      have h3:chi b q q (f+1) q=true:=by unfold chi;simp
      rw[h1,h2,h3];by_cases z:b.getD (q-1) 0=p <;> simp[z]
     ·have h1:chi b (c-1) p (f+1) q=false:=by rw[md (by lia) (by lia)];simp[e]
      have h2:chi b c p (f+1) q=false:=by rw[md (by lia) (by lia)];simp[e]
      have h3:chi b c c (f+1) q=false:=by rw[md (by lia) (by lia)];simp[hq2]
      rw[h1,h2,h3];simp
def gU(b:List Nat)(n:Nat)(d:Nat->Int)(k p:Nat):Int:=eF n λq=>if chi b k p n q=true then d q else 0
theorem Dw{b:List Nat}{n:Nat}{d:Nat->Int}{p:Nat}(hp:p<n):gU b n d (n-1) p=d p:=by
 unfold gU;rw[←GL (f:=d) hp];refine mX λq hq=>?_;rw[md (by lia) (by lia)];by_cases e:q=p <;> simp[e]
theorem ite3{A B C:Prop}[Decidable A][Decidable B][Decidable C]{v:Int}(s:(if A then(1:Int) else 0)=(if B then 1 else 0)+if C then 1 else 0):(if A then v else 0)=(if B then v else 0)+if C then v else 0:=by
 by_cases a:A
 ·by_cases b:B
  ·by_cases c:C
   ·rw[if_pos a,if_pos b,if_pos c]at s;lia
   ·rw[if_pos a,if_pos b,if_neg c];lia
  ·by_cases c:C
   ·rw[if_pos a,if_neg b,if_pos c];lia
   ·rw[if_pos a,if_neg b,if_neg c]at s;lia
 ·by_cases b:B
  ·by_cases c:C
   ·rw[if_neg a,if_pos b,if_pos c]at s;lia
   ·rw[if_neg a,if_pos b,if_neg c]at s;lia
  ·by_cases c:C
   ·rw[if_neg a,if_neg b,if_pos c]at s;lia
   ·rw[if_neg a,if_neg b,if_neg c];lia
theorem HS{b:List Nat}(w:Wf b){n c p:Nat}{d:Nat->Int}(hc:0<c):gU b n d (c-1) p=gU b n d c p+if b.getD (c-1) 0=p then gU b n d c c else 0:=by
 unfold gU;have e:(if b.getD (c-1) 0=p then eF n (λq=>if chi b c c n q=true then d q else 0) else 0)=eF n (λq=>if b.getD (c-1) 0=p/\chi b c c n q=true then d q else 0):=by
  by_cases z:b.getD (c-1) 0=p
  ·rw[if_pos z];exact mX λq hq=>by simp only[z,true_and]
  ·rw[if_neg z];exact(vn λq hq=>by simp only[z,false_and,if_false]).symm
 rw[e,←Au];refine mX λq hq=>?_;exact ite3 (xc w (p:=p) hc n q hq)
theorem A3{b:List Nat}(w:Wf b){n q:Nat}(hq:q<n):fu b n q=bx b q:=sL w hq (qp q)
theorem G3{b:List Nat}(w:Wf b){n p:Nat}{d:Nat->Int}:gU b n d 0 p=cP b n d p:=by
 unfold gU cP;refine mX λq hq=>?_;rw[wq n q hq,A3 w hq];by_cases e:p∈bx b q <;> simp[e]
section
variable {h:MH}{r:Nat}{b:List Nat}{Q:MV->MH->Prop}{E:Nat->MH->Prop}
theorem FM{a n:Nat}{y:Nat->Int}(R:cq h r b)(ha:h[a]?=some (.lst (tab n y)))(hn:n=b.length+1)(bd:∀k,k<n->0≤y k/\y k≤1000000)(q:Q .non h):wp (lC [.ref r,.ref a]) h Q E:=by
 unfold lC;refine bX (by rfl) ?_;unfold lS;refine bu (R:=λσ h1=>h=h1/\σ=[some (.ref r),some (.ref a),none]) ?_ ?_
 ·rw[fV,fh,cy];simp only[fM,aN,bS,jS,rg,nj,aT,aS,lP,ha,eL];rw[R.meth (by decide) rfl];simp[jF R,hn]
 rintro _ _ ⟨rfl,rfl⟩;rw[gJ];refine cN (iz rfl ha) ?_;refine fE (λk σ h'=>h'=h/\∃x,σ=[some (.ref r),some (.ref a),x]) (λ_ _ _ i=>by rw[i.1];exact f9 ha) (λk x σ h' hx ⟨eh,u,es⟩=>?_) (λσ h' ⟨eh,u,es⟩=>?_) ⟨rfl,_,rfl⟩
 ·subst eh;subst es;have hk:k<n:=by
   have:=(bF.mp hx).1;simpa[eL] using this
  rw[bz,i8 hk]at hx;cases hx;obtain⟨b1,b2⟩:=bd k hk;have c1:¬y k<0:=by lia
  have c2:¬1000000<y k:=by lia
  simp[cL,c1,c2]
 ·subst eh;exact q
theorem Ci{a c n:Nat}{y t:Nat->Int}(R:cq h r b)(ha:h[a]?=some (.lst (tab n y)))(hc:h[c]?=some (.lst (tab n t)))(hn:n=b.length+1)(bd:∀k,k<n->0≤y k/\y k≤1000000)
  (q:∀h' x,Pre h h'->h.length≤x->h'[x]?=some (.lst (tab n (cP b n λk=>y k-t k)))->Q (.ref x) h'):wp (jV [.ref r,.ref a,.ref c]) h Q E:=by
 unfold jV;refine bX (by rfl) ?_;have few:=R.few;have w:=R.wf;refine bu (R:=λσ h1=>h=h1/\σ=[some (.ref r),some (.ref a),some (.ref c),none,none]) ?_ ?_
 ·simp;exact FM R ha hn bd (by simp)
 rintro _ _ ⟨rfl,rfl⟩;refine bu (R:=λσ h1=>∃h0,Pre h h0/\h1=h0++[.lst (tab n λk=>y k-t k)]/\σ=[some (.ref r),some (.ref a),some (.ref c),some (.ref h0.length),none]) ?_ ?_
 ·rw [cD];refine yY (λ_=>true) (λx=>match x with
   |[.int i,.int j]=>.int (i-j)
   | _=>.non) (AT rfl rfl ha hc) (λh' p=>xt (p.get ha) (p.get hc)) ?_ (λx hx h2 p2=>?_) (λx hx _ h2 p2=>?_) λh2 p2=>?_
  ·rw[uo];simp;lia
  ·simp[ff,bC,Pre.refl]
  ·rw[uo]at hx;obtain⟨k,hk,rfl⟩:=dl.mp hx;simp;exact .refl
  ·have e:List.map (λx=>match x with
    |[MV.int i,MV.int j]=>MV.int (i-j)
    | _=>MV.non) (lO (λ_=>true) (dC (tab n y) (tab n t)))=tab n λk=>y k - t k:=by
    rw[rE.mpr λ_ _=>rfl,uo,dG];rfl
   exact⟨_,rfl,h2,p2,by rw[e],rfl⟩
 rintro _ _ ⟨h0,p0,rfl,rfl⟩;replace R:=R.pre p0;have R1:∀o,cq (h0++[o]) r b:=λo=>R.pre (Pre.app _);refine bu (R:=λσ h1=>h1=h0++[.lst (tab n (cP b n λk=>y k-t k))]/\∃x,σ=[some (.ref r),some (.ref a),some (.ref c),some (.ref h0.length),x]) ?_ ?_
 ·rw[gJ];refine cN (CT (h1:=h0++[.lst (tab n λk=>y k-t k)]) (i:=(b.length:Int)) (j:=0) (n:=b.length) ?_ rfl (by lia) (by lia)) ?_
  ·have w1:wp (aA iJ (aL 1 "points" fG (af 0) au) (eC (.int 1)) [some (.ref r),some (.ref a),some (.ref c),some (.ref h0.length),none]) (h0++[.lst (tab n λk=>y k-t k)]) (λv h1=>v=.int (b.length:Int)/\h1=h0++[.lst (tab n λk=>y k-t k)]) noE:=by
    rw[cy,(R1 _).meth (by decide) rfl];simp[jF (R1 _)]
   obtain⟨v,h1,e,rfl,rfl⟩:=jR w1;exact e
  refine fE (λk σ h1=>k≤b.length/\h1=h0++[.lst (tab n (gU b n (λk=>y k-t k) (b.length-k)))]/\∃x,σ=[some (.ref r),some (.ref a),some (.ref c),some (.ref h0.length),x]) (λ_ _ _ _=>rfl) (λk x σ h1 hx ⟨hk,eh,u,es⟩=>?_) (λσ h1 ⟨hk,eh,u,es⟩=>?_) ⟨by lia,?_,_,rfl⟩
  ·subst eh;subst es;have hk:k<b.length:=by
    have:=(bF.mp hx).1
    rwa [Ad]at this
   rw[C2 hk]at hx;cases hx;obtain⟨c0,hc0⟩:∃c0:Nat,c0=b.length-k:=⟨_,rfl⟩;have ec:(b.length:Int)-(k:Int)=(c0:Int):=by lia
   have hb:=λQ=>E6 (p:=c0) (Q:=Q) (E:=E) (R1 (.lst (tab n (gU b n (λk=>y k-t k) c0)))) (by lia);rw[←hc0];obtain⟨z,ez⟩:∃z,b[c0-1]?=some z:=⟨b[c0-1]'(by lia),by simp⟩
   have lz:=w (c0-1) z ez;have ev:jf b c0=.int z:=by
    rw[jf,jL,show c0=c0-1+1 by lia,uS ez];rfl
   have ed:b.getD (c0-1) 0=z:=by rw[jL,ez];rfl
   simp only[cL,eV,fe,ec,yH,aN,aT,aS];rw[(R1 _).meth (by decide) rfl];simp only[ba,aR,aN,aT,aS,hb,ev,zB,mS,cb,cy];rw[oh (show z<n by lia)];dsimp only;rw[oh (show c0<n by lia)];simp[eL,oF (show z<n by lia),wv];refine⟨by lia,rP λp hp=>?_⟩;rw[show b.length-(k+1)=c0-1 by lia,HS w (show 0<c0 by lia),ed];by_cases e:p=z
   ·subst e;simp
   ·have e':¬z=p:=λq=>e q.symm;simp[e,e']
  ·rw[Ad]at eh;subst eh;subst es;refine⟨_,rfl,?_,u,rfl⟩;rw[Nat.sub_self];congr 3;exact rP λp hp=>G3 w
  ·congr 3;exact rP λp hp=>by rw[show b.length-0=n-1 by lia,Dw hp]
 rintro _ _ ⟨rfl,x,rfl⟩;simp;exact q _ _ (p0.snoc _) p0.len cb
end
def dI(ns:List Int)(st:Int)(k:Nat):Int:=if cell ns (st+k)%5=4 then cell ns (st+k)/5%1000001 else cell ns (st+k)/5%60
theorem wa(ns:List Int)(st:Int)(k:Nat):0≤dI ns st k/\dI ns st k≤1000000:=by
 unfold dI;split <;> lia
theorem CV{ns:List Int}{st:Int}{size:Nat}{h:MH}{Q:MV->MH->Prop}{E:Nat->MH->Prop}(h0:0≤st)(hz:size≤1000)(q:Q (.ref h.length) (h++[.lst (tab size (dI ns st))])):wp (qK [.scr ns,.int st,.int size]) h Q E:=by
 unfold qK;refine bX (by rfl) ?_;refine bu (R:=λσ h1=>h1=h++[.lst (tab 0 (dI ns st))]/\σ=[some (.scr ns),some (.int st),some (.int size),some (.ref h.length),none,none,none]) (by simp;rfl) ?_;rintro _ _ ⟨rfl,rfl⟩;refine bu (R:=λσ h1=>h1=h++[.lst (tab size (dI ns st))]/\∃x y z,σ=[some (.scr ns),some (.int st),some (.int size),some (.ref h.length),x,y,z]) ?_ ?_
 ·rw[gJ];refine cN (yf (n:=size) (h':=h++[.lst (tab 0 (dI ns st))]) rfl ⟨by lia,by lia⟩ (by lia)) ?_;refine fE (λk σ h1=>k≤size/\h1=h++[.lst (tab k (dI ns st))]/\∃x y z,σ=[some (.scr ns),some (.int st),some (.int size),some (.ref h.length),x,y,z]) (λ_ _ _ _=>rfl) (λk x σ h1 hx ⟨hk,eh,u,v,w,es⟩=>?_) (λσ h1 ⟨hk,eh,r⟩=>?_) ⟨by lia,rfl,_,_,_,rfl⟩
  ·subst eh;subst es;have hk:k<size:=by
    have:=(bF.mp hx).1
    rwa [nI]at this
   rw[uK hk]at hx;cases hx;have e0:(0:Int)+(k:Int)=k:=by lia
   have hc:(0:Int)≤st+k:=by lia
   have tl:=eL k (dI ns st);by_cases c:cell ns (st+k)%5=4
   ·have ey:dI ns st k=cell ns (st+k)/5%1000001:=by unfold dI;rw[if_pos c]
    simp[cL,e0,ic hc,c,tl,←ey,sO];lia
   ·have ey:dI ns st k=cell ns (st+k)/5%60:=by unfold dI;rw[if_neg c]
    simp[cL,e0,ic hc,c,tl,←ey,sO];lia
  ·rw[nI]at eh;exact⟨σ,rfl,eh,r⟩
 rintro _ _ ⟨rfl,x,y,z,rfl⟩;simp;exact q
theorem Dp{b:List Nat}(w:Wf b):∀p,p<b.length+1->(∀x∈bx b p,x≤p)/\(bx b p).Nodup:=by
 intro p
 induction p using Nat.strongRecOn with
 |ind p ih=>
   intro hp;cases p with
   |zero=>simp[qV]
   |succ p=>
     obtain⟨x,ex⟩:∃x,b[p]?=some x:=⟨b[p]'(by lia),by simp⟩
     have lx:=w p x ex;obtain⟨h1,h2⟩:=ih x (by lia) (by lia);rw[oQ w ex];refine⟨λy hy=>?_,?_⟩
     ·rcases bW.mp hy with rfl|hy
      ·lia
      ·have:=h1 y hy;lia
     ·rw[iy];exact⟨λhy=>by have:=h1 _ hy;lia,h2⟩
abbrev Rid:=Rt×Nat
def rtO(r:Rt):MO:=.ins 2 [("point",.int r.pt),("amount",.int r.am),("date",.int r.dt)]
def dP(rs:List Rid):List (Str×MV):=rs.map λx=>(x.1.nm,.ref x.2)
structure b8(h:MH)(bk r d:Nat)(rs:List Rid):Prop where
 ob:h[bk]?=some (.ins 3 [("stream",.ref r),("held",.ref d)])
 dc:h[d]?=some (.dct (dP rs))
 it:∀x∈rs,h[x.2]?=some (rtO x.1)
 nd:(rs.map (·.2)).Nodup
 nm:Names (rs.map (·.1))
abbrev aJ(rs:List Rid):List Rt:=rs.map (·.1)
theorem wb{rs:List Rid}(n:Names (aJ rs)){x:Rid}(hx:x∈rs):dget x.1.nm (dP rs)=some (.ref x.2):=by
 induction rs with
 |nil=>cases hx
 |cons y r ih=>
   have n':(y.1.nm::(aJ r).map (·.nm)).Nodup:=n;obtain⟨n1,n2⟩:=iy.mp n';show(if y.1.nm=x.1.nm then some (MV.ref y.2) else dget x.1.nm (dP r))=_;rcases bW.mp hx with e|e
   ·subst e;rw[if_pos rfl]
   ·have ne:y.1.nm≠x.1.nm:=λz=>n1 (by rw[z];exact dl.mpr ⟨x.1,dl.mpr ⟨x,e,rfl⟩,rfl⟩);rw[if_neg ne];exact ih n2 e
theorem wR{rs:List Rid}{k:Str}(hk:k∉(aJ rs).map (·.nm)):dget k (dP rs)=none:=by
 induction rs with
 |nil=>rfl
 |cons y r ih=>
   simp only[aJ,bS,bW,not_or]at hk;show(if y.1.nm=k then some (MV.ref y.2) else dget k (dP r))=none;rw[if_neg (λz=>hk.1 z.symm)];exact ih hk.2
theorem tJ(rs:List Rid):(dP rs).length=rs.length:=by simp[dP]
theorem C6{rs:List Rid}{k:Str}{v:MV}(hk:k∉(aJ rs).map (·.nm)):dput k v (dP rs)=dP rs++[(k,v)]:=by
 unfold dput;rw[wR hk];simp
theorem b8.off{h h':MH}{bk r d:Nat}{rs:List Rid}{S:List Nat}(B:b8 h bk r d rs)(o:Off S h h')(h1:bk∉S)(h2:d∉S)(h3:∀x∈rs,x.2∉S):b8 h' bk r d rs:=
 ⟨o.get B.ob h1,o.get B.dc h2,λx hx=>o.get (B.it x hx) (h3 x hx),B.nd,B.nm⟩
theorem b8.pre{h h':MH}{bk r d:Nat}{rs:List Rid}(B:b8 h bk r d rs)(p:Pre h h'):b8 h' bk r d rs:=B.off (S:=[]) p.off (by simp) (by simp) (by simp)
theorem cq.off{h h':MH}{r:Nat}{b:List Nat}{S:List Nat}(R:cq h r b)(o:Off S h h')(hS:∀n∈S,∀ob,h[n]?=some ob->(∀xs,ob≠.lst xs)/\∀fs,ob≠.ins 1 fs):cq h' r b:=by
 obtain⟨⟨l,h1,h2⟩,w,f⟩:=R;exact⟨⟨l,o.get h1 (λz=>(hS r z _ h1).2 _ rfl),o.get h2 (λz=>(hS l z _ h2).1 _ rfl)⟩,w,f⟩
def own(d:Nat)(rs:List Rid):List Nat:=d::rs.map (·.2)
theorem b8.own_ob{h:MH}{bk r d:Nat}{rs:List Rid}(B:b8 h bk r d rs){n:Nat}{o:MO}(hn:n∈own d rs)(e:h[n]?=some o):(∃kvs,o=.dct kvs)∨∃fs,o=.ins 2 fs:=by
 rcases bW.mp hn with z|z
 ·subst z;rw[B.dc]at e;cases e;exact .inl ⟨_,rfl⟩
 ·obtain⟨x,hx,rfl⟩:=dl.mp z;rw[B.it x hx]at e;cases e;exact .inr ⟨_,rfl⟩
theorem b8.river{h h':MH}{bk r d:Nat}{rs:List Rid}{b:List Nat}(B:b8 h bk r d rs)(R:cq h r b)(o:Off (own d rs) h h'):cq h' r b:=
 R.off o λn hn ob e=>by
  rcases B.own_ob hn e with⟨_,z⟩|⟨_,z⟩ <;> (subst z;exact⟨(λ_ y=>nomatch y),(λ_ y=>nomatch y)⟩)
theorem Ie{d:Nat}{rs:List Rid}{h h':MH}(o:Off [d] h h'):Off (own d rs) h h':=o.mono λn hn=>by rw[c6.mp hn];exact gE
section
variable {h:MH}{bk r d:Nat}{rs:List Rid}{b:List Nat}{Q:MV->MH->Prop}{E:Nat->MH->Prop}
theorem b8.meth(B:b8 h bk r d rs){f:Fn}{mth:String}{a:MA}{σ:MSt}{i:Nat}(hm:(mth == "stream")=false/\(mth == "held")=false)(hs:σ[i]?=some (some (.ref bk))):wp (aL 3 mth f (af i) a σ) h Q E=wp (a σ) h (λxs h2=>wp (f (.ref bk::xs)) h2 Q E) E:=by
 have h1:=B.ob;have hm1:mth≠"stream":=by simpa using hm.1
 have hm2:mth≠"held":=by simpa using hm.2
 have lk:dB mth [("stream",MV.ref r),("held",MV.ref d)]=none:=by simp only[bK,hm.1,hm.2,sm]
 simp only[rq,aN,hs,h1,lk,true_and]
theorem Bo(B:b8 h bk r d rs){x:Rid}(hx:x∈rs):wp (kr [.ref bk,.str x.1.nm]) h Q E=Q (.ref x.2) h:=by
 have g:=wb B.nm hx;have h1:=B.ob;have h2:=B.dc;have key:kr [.ref bk,.str x.1.nm] h=.ok (.ref x.2) h:=by
  simp[kr,sQ,fnOf,bnd,aB,sIf,tst,aA,af,aV,ret,look,h1,h2,bK,oIn,g,asB,bH,bq,oIx]
 unfold wp;rw[key]
theorem Bh(B:b8 h bk r d rs){k:Str}(hk:k∉(aJ rs).map (·.nm)):wp (mY [.ref bk,.str k]) h Q E=Q .non h:=by
 have g:=wR hk;have h1:=B.ob;have h2:=B.dc;have key:mY [.ref bk,.str k] h=.ok .non h:=by
  simp[mY,vD,fnOf,bnd,aB,sIf,tst,aA,af,aV,ret,look,h1,h2,bK,oIn,g,asB,bH]
 unfold wp;rw[key]
theorem jA(B:b8 h bk r d rs){x:Rid}(hx:x∈rs):wp (dX [.ref bk,.str x.1.nm]) h Q E=Q x.1.val h:=by
 have key:dX [.ref bk,.str x.1.nm] h=.ok x.1.val h:=by
  have c:=Bo (Q:=λv h'=>v=.ref x.2/\h'=h) (E:=noE) B hx;obtain⟨v,h',e,rfl,rfl⟩:=jR (cast c.symm ⟨rfl,rfl⟩);have h1:=B.ob;have h3:=B.it x hx;unfold rtO at h3;simp[dX,tK,fnOf,bnd,aB,bp,aL,aj,au,af,ret,look,h1,h3,bK,e,bq,eG,aV,Rt.val]
 unfold wp;rw[key]
theorem F5{r:Nat}(q:∀h',Pre h h'->b8 h' h.length r (h.length+1) []->Q .non h'):wp (qG [.ref h.length,.ref r]) (h++[.ins 3 []]) Q E:=by
 unfold qG;refine bX (by rfl) ?_;simp[vO,putF];refine⟨by lia,?_⟩;refine q (h++[.ins 3 [("stream",.ref r),("held",.ref (h.length+1))],.dct []]) ⟨_,rfl⟩ ⟨?_,?_,?_,?_,?_⟩ <;> simp[dP,Names]
theorem Hu(B:b8 h bk r d rs)(R:cq h r b){x:Rt}(hk:x.nm∉(aJ rs).map (·.nm))(hp:x.pt<b.length+1)(hz:rs.length<900)
  (q:∀h' a,Off [d] h h'->h.length≤a->b8 h' bk r d (rs++[(x,a)])->Q (.int (rs.length+1)) h'):wp (nH [.ref bk,.str x.nm,.int x.pt,.int x.am,.int x.dt]) h Q E:=by
 unfold nH;refine bX (by rfl) ?_;have h1:=B.ob;have h2:=B.dc;have ld:=bU h2;refine bu (R:=λσ h'=>h=h'/\σ=[some (.ref bk),some (.str x.nm),some (.int x.pt),some (.int x.am),some (.int x.dt)]) ?_ ?_
 ·rw[cS,B.meth (by decide) rfl];simp[Bh B hk]
 rintro _ _ ⟨rfl,rfl⟩;refine bu (R:=λσ h'=>h=h'/\σ=[some (.ref bk),some (.str x.nm),some (.int x.pt),some (.int x.am),some (.int x.dt)]) ?_ ?_
 ·have c:=λQ=>mM (Q:=Q) (E:=E) (p:=(x.pt:Int)) R (by lia) (by lia);obtain⟨⟨l,g1,g2⟩,w,f⟩:=R;simp[h1,bK,g1,c]
 rintro _ _ ⟨rfl,rfl⟩;refine bu (R:=λσ h'=>(∃a,Off [d] h h'/\h.length≤a/\b8 h' bk r d (rs++[(x,a)]))/\σ=[some (.ref bk),some (.str x.nm),some (.int x.pt),some (.int x.am),some (.int x.dt)]) ?_ ?_
 ·have g1:∀t,(h++t)[bk]?=some (.ins 3 [("stream",.ref r),("held",.ref d)]):=λt=>dW h1;have g2:∀t,(h++t)[d]?=some (.dct (dP rs)):=λt=>dW h2;have hl:(dP rs).length<1000:=by rw[tJ];lia
  simp[sK];refine bX (by rfl) ?_;simp[uE,putF,g1,g2,bK,hl,C6 hk];refine⟨by lia,?_⟩;refine⟨?_,h.length,aY _,?_⟩
  ·exact Off.trans (Pre.off ⟨_,rfl⟩) Off.set
  ·have nb:d≠bk:=λz=>by rw[z,h1]at h2;cases h2
   refine⟨?_,?_,λy hy=>?_,?_,?_⟩
   ·exact bZ (dW h1) nb
   ·rw[fZ (by simp;lia)];simp[dP]
   ·rcases fY.mp hy with hy|hy
    ·have h3:=B.it y hy;refine bZ (dW h3) λz=>?_;rw[z,h3]at h2;cases h2
    ·rw[c6.mp hy];rw[gF (by lia)];simp[rtO]
   ·rw[jc,iQ];refine⟨B.nd,by simp,λa ha c hc=>?_⟩;simp at hc;subst hc;obtain⟨y,hy,rfl⟩:=dl.mp ha;have:=bU (B.it y hy);lia
   ·unfold Names;rw[jc,jc,iQ];refine⟨B.nm,by simp,λa ha c hc=>?_⟩;simp at hc;subst hc;intro z;subst z;exact hk ha
 rintro _ h' ⟨⟨a,o,ha,B'⟩,rfl⟩;have h1':=B'.ob;have h2':=B'.dc;have hl:(dP (rs++[(x,a)])).length=rs.length+1:=by rw[tJ];simp
 simp[h1',h2',bK,hl];exact q h' a o ha B'
theorem AK{cs:List Nat}(hcs:cs.contains 2=true)(B:b8 h bk r d rs):∀(l:List Rid),(∀x∈l,x∈rs)->dQ (eG (aj (aV (aA oIx (aV (af 1) [3] "held") (af 0)) cs "date") (aj (af 0) au))) [some (.ref bk)] ((dP l).map (·.1)) h=.ok (l.map λx=>.tup [.int x.1.dt,.str x.1.nm]) h
 |[],_=>rfl
 |x::l,hl=>by
   have hx:=hl x gE;have ih:=AK hcs B l λy hy=>hl y (eY _ hy);have g:=wb B.nm hx;have h1:=B.ob;have h2:=B.dc;have h3:=B.it x hx;unfold rtO at h3;show dQ _ _ (x.1.nm::(dP l).map (·.1)) h=_;unfold dQ;have e:eG (aj (aV (aA oIx (aV (af 1) [3] "held") (af 0)) cs "date") (aj (af 0) au)) [some (.str x.1.nm),some (.ref bk)] h=.ok (.tup [.int x.1.dt,.str x.1.nm]) h:=by
    simp[eG,aj,au,aV,aA,af,bnd,ret,look,h1,h2,h3,bK,oIx,g,-List.contains_eq_mem,hcs]
   rw[e];simp only[if_true];simp[bnd,ih,ret]
theorem q0(B:b8 h bk r d rs)(hz:rs.length<64)(q:Q (.ref h.length) (h++[.lst ((aged (aJ rs)).map λx=>.str x.nm)])):wp (gC [.ref bk]) h Q E:=by
 unfold gC;refine bX (by rfl) ?_;unfold uX;rw[eI];have h1:=B.ob;have h2:=B.dc;have hz':(aJ rs).length<64:=by simpa[aJ] using hz
 have ks:=λ{cs:List Nat} (hcs:cs.contains 2=true)=>AK hcs B rs λ_ hx=>hx;obtain⟨six,_,_⟩:=uz B.nm hz';have er:eJ fL (rs.map λx=>MV.tup [.int x.1.dt,.str x.1.nm])=some ((aJ rs).map Rt.key):=by
  have go:∀l:List Rid,eJ fL (l.map λx=>MV.tup [.int x.1.dt,.str x.1.nm])=some ((aJ l).map Rt.key):=by
   intro l
   induction l with
   |nil=>rfl
   |cons x l ih=>simp only[bS,eJ,fL,jy,pF,ih,aJ];rfl
  exact go rs
 have ea:((aJ rs).map Rt.key).all gr=true:=by simp[Rt.key,gr]
 have ep:pick ((dP rs).map λkv=>MV.str kv.1) (gQ (aJ rs))=(aged (aJ rs)).map λx=>.str x.nm:=by
  rw[←Bj B.nm hz' (λx=>.str x.nm)];congr 1;simp[dP,aJ]
 have key:∀{cs:List Nat},cs.contains 2=true->rY (aV (af 0) [3] "held") 0 (eG (aj (aV (aA oIx (aV (af 1) [3] "held") (af 0)) cs "date") (aj (af 0) au))) [some (.ref bk)] h=.ok (.ref h.length) (h++[.lst ((aged (aJ rs)).map λx=>.str x.nm)]):=λ{cs} hcs=>by
  have o1:aV (af 0) [3] "held" [some (.ref bk)] h=.ok (.ref d) h:=by simp[aV,af,bnd,ret,look,h1,bK]
  have o2:look d h=.ok (.dct (dP rs)) h:=by simp[look,h2]
  unfold rY;simp only[bnd,o1,o2];rw[if_pos (by rw[tJ];exact hz)];have e0:(([some (MV.ref bk)]:MSt)[0]?).getD none=some (.ref bk):=rfl;rw[e0];simp only[bnd,ks hcs,er,six];rw[if_pos ea,ep];rfl
 exact cN (key rfl) q
end
section
variable {h:MH}{bk r d:Nat}{rs:List Rid}{b:List Nat}{Q:MV->MH->Prop}{E:Nat->MH->Prop}
end
section
variable {h:MH}{bk r d:Nat}{rs:List Rid}{b:List Nat}{Q:MV->MH->Prop}{E:Nat->MH->Prop}
end
section
variable {h:MH}{bk r d:Nat}{rs:List Rid}{b:List Nat}{Q:MV->MH->Prop}{E:Nat->MH->Prop}
end
def dL(b:List Nat):(Nat->Int)->List Want->Nat->Int
 |f,[]=>f
 |f,w::r=>dL b (lower f (i9 f w.2 (bx b w.1)) (bx b w.1)) r
def dE(b:List Nat):(Nat->Int)->List Want->List Int
 |_,[]=>[]
 |f,w::r=>i9 f w.2 (bx b w.1)::dE b (lower f (i9 f w.2 (bx b w.1)) (bx b w.1)) r
theorem wF(b:List Nat)(w:Want):∀(l:List Want) (f:Nat->Int),dL b f (l++[w])=lower (dL b f l) (i9 (dL b f l) w.2 (bx b w.1)) (bx b w.1)
 |[],f=>rfl
 |x::l,f=>wF b w l _
theorem xb(b:List Nat)(w:Want):∀(l:List Want) (f:Nat->Int),dE b f (l++[w])=dE b f l++[i9 (dL b f l) w.2 (bx b w.1)]
 |[],f=>rfl
 |x::l,f=>by
   show i9 f x.2 (bx b x.1)::dE b _ (l++[w])=_;rw[xb b w l];rfl
theorem uc(b:List Nat):∀(l:List Want) (f:Nat->Int),(dE b f l).length=l.length
 |[],f=>rfl
 |x::l,f=>by
   show(dE b _ l).length+1=_;rw[uc b l];rfl
section
variable {h:MH}{r:Nat}{b:List Nat}{Q:MV->MH->Prop}{E:Nat->MH->Prop}
theorem GD{a c n:Nat}{y:Nat->Int}{ws:List Want}(R:cq h r b)(ha:h[a]?=some (.lst (tab n y)))(hc:h[c]?=some (.lst (ws.map Want.v)))(hn:n=b.length+1)(bd:∀k,k<n->0≤y k/\y k≤1000000)(hp:∀w∈ws,w.1<b.length+1)(few:ws.length<1000)
  (q:∀h' x z,Pre h h'->h.length≤x->h.length≤z->h'[x]?=some (.lst (zs (dE b (cP b n y) ws)))->h'[z]?=some (.lst (tab n (dL b (cP b n y) ws)))->Q (.tup [.ref x,.ref z]) h'):wp (gX [.ref r,.ref a,.ref c]) h Q E:=by
 unfold gX;refine bX (by rfl) ?_;have fewb:=R.few;have wf:=R.wf;refine bu (R:=λσ h1=>∃x,Pre h h1/\h.length≤x/\h1[x]?=some (.lst (tab n (cP b n y)))/\σ=[some (.ref r),some (.ref a),some (.ref c),some (.ref x),none,none,none,none,none,none]) ?_ ?_
 ·have z0:(cr n [MV.int 0]).flatten=tab n λ_=>0:=by
   have:∀m:Nat,(cr m [MV.int 0]).flatten=tab m λ_=>0:=by
    intro m
    induction m with
    |zero=>rfl
    |succ m ih=>rw[←sO,←ih,List.replicate_succ',List.flatten_append];rfl
   exact this n
  have R1:=R.pre (Pre.app (.lst [MV.int 0]));have n0:((b.length:Int)+1).toNat=n:=by lia
  have m1:(-1000000:Int)≤(b.length:Int)+1/\(b.length:Int)+1≤1000000/\[MV.int 0].length*((b.length:Int)+1).toNat≤100000:=⟨by lia,by lia,by simp;lia⟩
  rw[cD,cu];simp only[ba,aR,aN,aS,aT,cy,lH,w_c,eQ,iN];refine⟨by decide,?_⟩;rw[R1.meth (by decide) rfl,aR,jF R1,yw];simp only[cb,n0,z0];refine⟨⟨by lia,by lia,by simp;lia⟩,?_⟩;have p2:=(Pre.app (h:=h) (.lst [MV.int 0])).snoc (.lst (tab n λ_=>0));refine Ci (R.pre p2) (p2.get ha) cb hn bd λh' x p hx e=>?_;have e0:(λk=>y k-(λ_=>(0:Int)) k)=y:=by funext k;simp
  rw[e0]at e;exact⟨_,rfl,x,p2.trans p,cF p2.len hx,e,rfl⟩
 rintro _ h1 ⟨x,p1,hx,ex,rfl⟩;refine bu (R:=λσ h2=>h2=h1++[.lst []]/\σ=[some (.ref r),some (.ref a),some (.ref c),some (.ref x),some (.ref h1.length),none,none,none,none,none]) (by simp) ?_;rintro _ _ ⟨rfl,rfl⟩;have lx:=bU ex;generalize ef:cP b n y=f0 at q ex;refine bu (R:=λσ h2=>(Pre h h2/\h2[x]?=some (.lst (tab n (dL b f0 ws)))/\h2[h1.length]?=some (.lst (zs (dE b f0 ws))))/\∃u1 u2 u3 u4 u5,σ=[some (.ref r),some (.ref a),some (.ref c),some (.ref x),some (.ref h1.length),u1,u2,u3,u4,u5]) ?_ ?_
 ·rw[gJ];have hc1:(h1++[MO.lst []])[c]?=some (.lst (ws.map Want.v)):=dW (p1.get hc);refine cN (vK (n:=c) (h':=h1++[.lst []]) (rs:=ws.map λw=>[.int w.1,.int w.2]) rfl hc1 (zF λw _=>⟨rfl,rfl⟩)) ?_;refine fE (λk σ h2=>(Pre h h2/\h2[x]?=some (.lst (tab n (dL b f0 (ws.take k))))/\h2[h1.length]?=some (.lst (zs (dE b f0 (ws.take k)))))/\∃u1 u2 u3 u4 u5,σ=[some (.ref r),some (.ref a),some (.ref c),some (.ref x),some (.ref h1.length),u1,u2,u3,u4,u5])
   (λk σ h2 ⟨⟨p2,_⟩,_⟩=>f9 (p2.get hc)) (λk v σ h2 hv ⟨⟨p2,e2,e3⟩,u1,u2,u3,u4,u5,es⟩=>?_) (λσ h2 ⟨⟨p2,e2,e3⟩,i⟩=>?_) ⟨⟨p1.snoc _,dW ex,cb⟩,_,_,_,_,_,rfl⟩
  ·subst es;rw[bz]at hv;cases ek:ws[k]? with
   |none=>rw[ek]at hv;cases hv
   |some w=>
     rw[ek]at hv;cases hv;have hk:=(bF.mp ek).1;have hw:=hp w (dF ek);have R2:=R.pre p2;have tk:ws.take (k+1)=ws.take k++[w]:=by rw[kH,ek];rfl
     have l3:=bU e3;have l2:=bU e2;generalize hf:dL b f0 (ws.take k)=f at e2;generalize ht:dE b f0 (ws.take k)=ts at e3;have lts:ts.length<1000:=by rw[←ht,uc,kJ];lia
     obtain⟨mono,nd⟩:=Dp wf w.1 hw;have wl:=CA wf w.1 hw;simp only[cL,eV,fe];refine bu (R:=λσ h3=>h3=h2++[.lst (nats (bx b w.1))]/\σ=[some (.ref r),some (.ref a),some (.ref c),some (.ref x),some (.ref h1.length),some (.int w.1),some (.int w.2),some (.ref h2.length),u4,u5]) ?_ ?_
     ·rw[cD,R2.meth (by decide) rfl];simp only[ba,aR,aN,aS,aT];exact CQ R2 hw ⟨_,rfl,rfl,rfl⟩
     rintro _ _ ⟨rfl,rfl⟩;have e2':(h2++[MO.lst (nats (bx b w.1))])[x]?=some (.lst (tab n f)):=dW e2;have e3':(h2++[MO.lst (nats (bx b w.1))])[h1.length]?=some (.lst (zs ts)):=dW e3;obtain⟨p0,pr,ew⟩:∃p0 pr,bx b w.1=p0::pr:=by
      have z:=HL wf w.1 hw;cases e:bx b w.1 with
      |nil=>rw[e]at z;cases z
      |cons p0 pr=>exact⟨p0,pr,rfl⟩
     refine bu (R:=λσ h3=>Pre (h2++[.lst (nats (bx b w.1))]) h3/\σ=[some (.ref r),some (.ref a),some (.ref c),some (.ref x),some (.ref h1.length),some (.int w.1),some (.int w.2),some (.ref h2.length),some (.int (i9 f w.2 (bx b w.1))),u5]) ?_ ?_
     ·rw[cD,cy,aN];simp only[aS,aT];rw[fM];refine lE (bx b w.1) (λp=>[.int p]) (λ_=>true) (λp=>.int (f p)) (iz (n:=h2.length) (h':=h2++[.lst (nats (bx b w.1))]) rfl cb) (by simp[nats]) (λh' p=>f9 (p.get cb)) (by lia) (λv hv h3 p3=>?_) (λv hv _ h3 p3=>?_) λh3 p3=>?_
      ·simp[ff,bC,Pre.refl]
      ·have g:=p3.get e2';have hvn:v<n:=by have:=mono v hv;lia
       simp[g,oh hvn,Pre.refl]
      ·rw[pR];have e4:(bx b w.1).map (λp=>MV.int (f p))=zs (f p0::pr.map f):=by rw[ew];simp[zs]
       rw[e4];have wl':(bx b w.1).length=pr.length+1:=by rw[ew];rfl
       refine GG cb (by simp;lia) ?_;rw[CG];refine⟨_,rfl,p3.snoc _,?_⟩;rw[ew];rfl
     rintro _ h3 ⟨p3,rfl⟩;have e5:=p3.get e2';have e6:=p3.get e3';have e7:=p3.get (cb (h:=h2) (o:=MO.lst (nats (bx b w.1))));generalize htk:i9 f w.2 (bx b w.1)=t;have nx:h2.length≠x:=by lia
     have nx1:h1.length≠x:=by lia
     have nx2:h2.length≠h1.length:=by lia
     refine bu (R:=λσ h4=>(Pre h h4/\h4[x]?=some (.lst (tab n (lower f t (bx b w.1))))/\h4[h1.length]?=some (.lst (zs ts)))/\∃u,σ=[some (.ref r),some (.ref a),some (.ref c),some (.ref x),some (.ref h1.length),some (.int w.1),some (.int w.2),some (.ref h2.length),some (.int t),u]) ?_ ?_
     ·rw[gJ];refine cN (iz (n:=h2.length) (h':=h3) rfl e7) ?_;refine fE (λj σ h4=>(Pre h h4/\h4[x]?=some (.lst (tab n (lower f t ((bx b w.1).take j))))/\h4[h1.length]?=some (.lst (zs ts))/\h4[h2.length]?=some (.lst (nats (bx b w.1))))/\∃u,σ=[some (.ref r),some (.ref a),some (.ref c),some (.ref x),some (.ref h1.length),some (.int w.1),some (.int w.2),some (.ref h2.length),some (.int t),u])
       (λj σ h4 ⟨⟨_,_,_,g⟩,_⟩=>f9 g) (λj v σ h4 hv ⟨⟨p4,g1,g2,g3⟩,u,es⟩=>?_) (λσ h4 ⟨⟨p4,g1,g2,g3⟩,i⟩=>?_) ⟨⟨(p2.snoc _).trans p3,?_,e6,e7⟩,_,rfl⟩
      ·subst es;unfold nats at hv;rw[bz,bz]at hv;cases ej:(bx b w.1)[j]? with
       |none=>rw[ej]at hv;cases hv
       |some pj=>
         rw[ej]at hv;cases hv;have hjn:pj<n:=by have:=mono pj (dF ej);lia
         have nin:pj∉(bx b w.1).take j:=by
          intro z;obtain⟨i,hi⟩:=my.mp z;have hij:i<j:=by
           have:=(bF.mp hi).1;rw[kJ]at this;lia
          rw[List.getElem?_take_of_lt hij]at hi;have:=(List.getElem?_inj (bF.mp hi).1 nd).mp (hi.trans ej.symm);lia
         have lo:lower f t ((bx b w.1).take j) pj=f pj:=by unfold lower;rw[if_neg nin]
         have tj:(bx b w.1).take (j+1)=(bx b w.1).take j++[pj]:=by rw[kH,ej];rfl
         have st:(tab n (lower f t ((bx b w.1).take j))).set pj (.int (f pj-t))=tab n (lower f t ((bx b w.1).take (j+1))):=by
          rw[wv];refine rP λi _=>?_;unfold lower;rw[tj];by_cases ei:i=pj
          ·subst ei;simp
          ·simp[ei]
         have ix:ixN (tab n (lower f t ((bx b w.1).take j))).length (pj:Int)=some pj:=oF (by rw[eL];exact hjn);have lh:=bU g1;simp only[cL,eV,fe,yH,aN,aS,aT,zB,mS,g1];rw[oh hjn];dsimp only;rw[lo,vH];simp only[lF,g1,ix,st];refine⟨lh,⟨p4.set hx,fB lh,bZ g2 (Ne.symm nx1),bZ g3 (Ne.symm nx)⟩,_,rfl⟩
      ·refine⟨σ,rfl,⟨p4,?_,g2⟩,i⟩;rw[g1];simp[nats]
      ·rw[e5];have:lower f t ((bx b w.1).take 0)=f:=by funext i;simp[lower]
       rw[this]
     rintro _ h4 ⟨⟨p4,g1,g2⟩,u,rfl⟩;have lh:=bU g2;have sz:(zs ts).length<100000:=by simp[zs];lia
     simp only[cS,uQ,aN,aS,aT,g2];have h1l:h.length≤h1.length:=p1.len;have fin:zs ts++[.int t]=zs (dE b f0 (ws.take (k+1))):=by
      rw[tk,xb,hf,ht,htk];simp[zs]
     rw[fin];refine⟨sz,lh,⟨p4.set h1l,bZ ?_ nx1,fB lh⟩,_,_,_,_,_,rfl⟩;rw[g1,tk,wF,hf,htk]
  ·rw[cY,List.take_length]at e2 e3;exact⟨σ,rfl,⟨p2,e2,e3⟩,i⟩
 rintro _ h2 ⟨⟨p2,e2,e3⟩,u1,u2,u3,u4,u5,rfl⟩;simp;exact q h2 _ _ p2 p1.len hx e3 e2
end
def d3(l:List Rt):List Want:=l.map λx=>(x.pt,x.am)
def pv(p:Str×Int):MV:=.tup [.str p.1,.int p.2]
section
variable {h:MH}{bk r d:Nat}{rs:List Rid}{b:List Nat}{Q:MV->MH->Prop}{E:Nat->MH->Prop}
theorem iO(B:b8 h bk r d rs):wp (ee [.ref bk]) h Q E↔Q (.ref r) h:=by
 have h1:=B.ob;have key:ee [.ref bk] h=.ok (.ref r) h:=by
  simp[ee,vj,fnOf,bnd,bq,aV,af,ret,look,h1,bK]
 unfold wp;rw[key]
theorem r0(B:b8 h bk r d rs)(hz:rs.length<64)(q:∀h',Pre h h'->Q (.ref h'.length) (h'++[.lst ((d3 (aged (aJ rs))).map Want.v)])):wp (jE [.ref bk]) h Q E:=by
 unfold jE;refine bX (by rfl) ?_;unfold sT;rw[eI];have hz':(aJ rs).length<64:=by simpa[aJ] using hz
 have hs:dY (aL 3 "names" gC (af 0) au) [some (.ref bk)] h=.ok ⟨((aged (aJ rs)).map λx=>MV.str x.nm).map λv=>[v],[(h.length,(aged (aJ rs)).map λx=>MV.str x.nm)]⟩ (h++[.lst ((aged (aJ rs)).map λx=>.str x.nm)]):=by
  refine iz (fW ?_) cb;rw[B.meth (by decide) rfl,aR];exact q0 B hz ⟨rfl,rfl⟩
 have p1:Pre h (h++[.lst ((aged (aJ rs)).map λx=>.str x.nm)]):=Pre.app _;have mem:∀x∈aged (aJ rs),∃y∈rs,y.1=x:=λx hx=>by
  have:=(jp B.nm hz').mem_iff.mp hx;obtain⟨y,hy,e⟩:=dl.mp this;exact⟨y,hy,e⟩
 refine lE (aged (aJ rs)) (λx=>[.str x.nm]) (λ_=>true) (λx=>.tup [.int x.pt,.int x.am]) hs (by simp) (λh' p=>f9 (p.get cb)) (by rw[kM B.nm hz',cY];lia) (λx hx h2 p2=>?_) (λx hx _ h2 p2=>?_) λh2 p2=>?_
 ·simp[ff,bC,Pre.refl]
 ·obtain⟨y,hy,rfl⟩:=mem x hx;have B2:=B.pre (p1.trans p2);have ct:kW [MV.int y.1.pt,.int y.1.am,.int y.1.dt] none (some 2)=[.int y.1.pt,.int y.1.am]:=rfl;have ci:¬(dM 3 0 none=0/\dM 3 3 (some 2)=3):=by decide
  show wp (eSl (aL 3 "right" dX (af 0) (aj (af 1) au)) none (some (eC (.int 2))) [some (.ref bk),some (.str y.1.nm)]) h2 _ noE;rw[t8,B2.meth (by decide) rfl];simp only[ba,aR,aN,aS,aT,jA B2 hy,tU,tI,w_c,Rt.val,sX,eQ,iN,ct];exact⟨ci,trivial,.refl⟩
 ·rw[pR];have:=q h2 (p1.trans p2);unfold d3 at this
  rwa [dG]at this
end
theorem GX(a:Int)(l:List Int):oj (a::l)=a+oj l:=rfl
theorem xz(n:Nat)(f:Nat->Int):tab n f=zs ((cz n).map f):=by
 unfold tab zs;rw[dG];rfl
def aget(k:Str):List (Str×Int)->Int
 |[]=>0
 |(n,v)::r=>if n=k then v else aget k r
def aput(k:Str)(v:Int)(L:List (Str×Int)):List (Str×Int):=if k∈L.map (·.1) then L.map (λp=>if p.1=k then(p.1,v) else p) else L++[(k,v)]
def aadd(L:List (Str×Int))(p:Str×Int):List (Str×Int):=aput p.1 (aget p.1 L+p.2) L
def asum(k:Str)(ps:List (Str×Int)):Int:=oj (ps.map λp=>if p.1=k then p.2 else 0)
def acL(L:List (Str×Int)):List (Str×MV):=L.map λp=>(p.1,.int p.2)
theorem sR{k:Str}:∀{L:List (Str×Int)},dget k (acL L)=if k∈L.map (·.1) then some (.int (aget k L)) else none
 |[]=>rfl
 |(n,v)::L=>by
   have ih:=@sR k L;unfold acL at ih ⊢;simp only[bS,dget,aget];by_cases c:n=k
   ·simp[c]
   ·have c':¬k=n:=λz=>c z.symm;simp only[if_neg c,ih,bW,c',false_or]
theorem zW{k:Str}:∀{L:List (Str×Int)},k∉L.map (·.1)->aget k L=0
 |[],_=>rfl
 |(n,v)::L,h=>by
   simp only[bS,bW,not_or]at h;unfold aget;rw[if_neg λz=>h.1 z.symm,zW h.2]
theorem rJ{k:Str}{L:List (Str×Int)}:(dget k (acL L)).getD (.int 0)=.int (aget k L):=by
 rw[sR];split
 ·rfl
 ·rename_i c;rw[zW c];rfl
theorem zM{k:Str}{v:Int}{L:List (Str×Int)}:dput k (.int v) (acL L)=acL (aput k v L):=by
 unfold dput aput;rw[sR];by_cases c:k∈L.map (·.1)
 ·rw[if_pos c,if_pos c];simp only[Option.isSome_some,if_true,acL,dG];refine iB λp hp=>?_;simp only[Function.comp];by_cases e:p.1=k
  ·simp[e]
  ·simp[e]
 ·rw[if_neg c,if_neg c];simp[acL]
theorem FT{k:Str}{v:Int}{L:List (Str×Int)}:(aput k v L).length≤L.length+1:=by
 unfold aput;split <;> simp
theorem rV:∀{ps:List (Str×Int)}{L:List (Str×Int)},(ps.foldl aadd L).length≤L.length+ps.length
 |[],L=>by simp
 |p::ps,L=>by
   have:=rV (ps:=ps) (L:=aadd L p);have:(aadd L p).length≤L.length+1:=FT;simp only[mF,eQ];lia
structure Po where
 nm:Str
 pt:Nat
 sz:Int
 dt:Int
 wt:Int
def poO(x:Po):MO:=.ins 5 [("point",.int x.pt),("size",.int x.sz),("date",.int x.dt),("held_water",.int x.wt)]
def poL(ps:List (Po×Nat)):List (Str×MV):=ps.map λx=>(x.1.nm,.ref x.2)
def Po.add(x:Po)(t:Int):Po:={ x with wt:=x.wt+t }
def padd(ps:List (Po×Nat))(p:Str×Int):List (Po×Nat):=ps.map λx=>if x.1.nm=p.1 then(x.1.add p.2,x.2) else x
theorem xH{ps:List (Po×Nat)}{x:Po×Nat}(nd:(ps.map (·.1.nm)).Nodup)(hx:x∈ps):dget x.1.nm (poL ps)=some (.ref x.2):=by
 induction ps with
 |nil=>cases hx
 |cons y ps ih=>
   rw[bS,iy]at nd;unfold poL at ih ⊢;simp only[bS,dget];rcases bW.mp hx with rfl|hx
   ·simp
   ·have c:¬y.1.nm=x.1.nm:=λz=>nd.1 (z▸qh (f:=λz=>z.1.nm) hx);rw[if_neg c];exact ih nd.2 hx
theorem zd{k:Str}:∀{ps:List (Po×Nat)},k∉ps.map (·.1.nm)->dget k (poL ps)=none
 |[],_=>rfl
 |x::ps,h=>by
   simp only[bS,bW,not_or]at h;have:=zd (k:=k) (ps:=ps) h.2;unfold poL at this ⊢;simp only[bS,dget,if_neg (show ¬x.1.nm=k from λz=>h.1 z.symm),this]
theorem Ep{ps:List (Po×Nat)}{p:Str×Int}:poL (padd ps p)=poL ps:=by
 unfold poL padd;rw[dG];refine iB λx _=>?_;simp only[Function.comp];split <;> rfl
theorem zZ{ps:List (Po×Nat)}{p:Str×Int}:(padd ps p).map (·.1.nm)=ps.map (·.1.nm):=by
 unfold padd;rw[dG];refine iB λx _=>?_;simp only[Function.comp];split <;> rfl
theorem zw{ps:List (Po×Nat)}{p:Str×Int}:(padd ps p).map (·.2)=ps.map (·.2):=by
 unfold padd;rw[dG];refine iB λx _=>?_;simp only[Function.comp];split <;> rfl
theorem AL:∀{qs:List (Str×Int)}{ps:List (Po×Nat)},(qs.foldl padd ps).map (·.1.nm)=ps.map (·.1.nm)
 |[],_=>rfl
 |q::qs,ps=>by rw[mF,AL,zZ]
theorem zJ:∀{qs:List (Str×Int)}{ps:List (Po×Nat)},(qs.foldl padd ps).map (·.2)=ps.map (·.2)
 |[],_=>rfl
 |q::qs,ps=>by rw[mF,zJ,zw]
theorem zP:∀{qs:List (Str×Int)}{ps:List (Po×Nat)},qs.foldl padd ps=ps.map λx=>(x.1.add (asum x.1.nm qs),x.2)
 |[],ps=>by
   have:(λx:Po×Nat=>(x.1.add (asum x.1.nm []),x.2))=id:=by
    funext x;simp[asum,oj,Po.add]
   rw[this];simp
 |q::qs,ps=>by
   rw[mF,zP];unfold padd;rw[dG];refine iB λx _=>?_;simp only[Function.comp];have e:∀k,asum k (q::qs)=(if q.1=k then q.2 else 0)+asum k qs:=λk=>by unfold asum;rw[bS,GX]
   by_cases c:x.1.nm=q.1
   ·rw[if_pos c,e,if_pos c.symm];simp[Po.add,Int.add_assoc]
   ·rw[if_neg c,e,if_neg λz=>c z.symm];simp
structure OfA(h:MH)(o bk pd ld ad d:Nat)(ro:Int)(ps:List (Po×Nat))(L A:List (Str×Int)):Prop where
 ob:h[o]?=some (.ins 4 [("book",.ref bk),("ponds",.ref pd),("last_day",.ref ld),("all_days",.ref ad),("ran_out",.int ro)])
 pn:h[pd]?=some (.dct (poL ps))
 la:h[ld]?=some (.dct (acL L))
 al:h[ad]?=some (.dct (acL A))
 it:∀x∈ps,h[x.2]?=some (poO x.1)
 nm:(ps.map (·.1.nm)).Nodup
 nd:(ps.map (·.2)).Nodup
 ap:pd≠ld/\pd≠ad/\ld≠ad/\d≠pd/\d≠ld/\d≠ad
structure Sy(h:MH)(o bk pd ld ad r d:Nat)(ro:Int)(ps:List (Po×Nat))(L A:List (Str×Int))(rs:List Rid)(b:List Nat):Prop where
 of:OfA h o bk pd ld ad d ro ps L A
 bk:b8 h bk r d rs
 rv:cq h r b
theorem OfA.off{h h':MH}{o bk pd ld ad d:Nat}{ro:Int}{ps:List (Po×Nat)}{L A:List (Str×Int)}(O:OfA h o bk pd ld ad d ro ps L A)(f:Off [] h h'):OfA h' o bk pd ld ad d ro ps L A:=⟨f.get O.ob (by simp),f.get O.pn (by simp),f.get O.la (by simp),f.get O.al (by simp),λx hx=>f.get (O.it x hx) (by simp),O.nm,O.nd,O.ap⟩
theorem Sy.off{h h':MH}{o bk pd ld ad r d:Nat}{ro:Int}{ps:List (Po×Nat)}{L A:List (Str×Int)}{rs:List Rid}{b:List Nat}(S:Sy h o bk pd ld ad r d ro ps L A rs b)(f:Off [] h h'):Sy h' o bk pd ld ad r d ro ps L A rs b:=
 ⟨S.of.off f,S.bk.off f (by simp) (by simp) (by simp),S.rv.off f (by simp)⟩
theorem Sy.pre{h h':MH}{o bk pd ld ad r d:Nat}{ro:Int}{ps:List (Po×Nat)}{L A:List (Str×Int)}{rs:List Rid}{b:List Nat}(S:Sy h o bk pd ld ad r d ro ps L A rs b)(f:Pre h h'):Sy h' o bk pd ld ad r d ro ps L A rs b:=S.off f.off
theorem dN{h:MH}{n m:Nat}{x y:MO}(e:h[n]?=some x)(f:h[m]?=some y)(d:x≠y):n≠m:=λz=>by
 subst z;rw[e]at f;exact d (Option.some.inj f)
section
variable {h:MH}{o bk pd ld ad r d:Nat}{ro:Int}{ps:List (Po×Nat)}{L A:List (Str×Int)}{rs:List Rid}{b:List Nat}{Q:MV->MH->Prop}{E:Nat->MH->Prop}
theorem Sy.book_set(S:Sy h o bk pd ld ad r d ro ps L A rs b){n:Nat}{x y:MO}(e:h[n]?=some x)(nd:n≠d)(k2:∀fs,x≠.ins 2 fs)(k3:∀fs,x≠.ins 3 fs):b8 (h.set n y) bk r d rs:=
 S.bk.off (S:=[n]) Off.set (by simp;exact λz=>k3 _ (Option.some.inj ((z▸e).symm.trans S.bk.ob))) (by simpa using nd.symm) λx hx=>by
  simp;exact λz=>k2 _ (Option.some.inj ((z▸e).symm.trans (S.bk.it x hx)))
theorem Sy.river_set(S:Sy h o bk pd ld ad r d ro ps L A rs b){n:Nat}{x y:MO}(e:h[n]?=some x)(k1:∀fs,x≠.ins 1 fs)(kl:∀xs,x≠.lst xs):cq (h.set n y) r b:=
 S.rv.off (S:=[n]) Off.set λm hm ob eo=>by
  rw[c6.mp hm,e]at eo;cases eo;exact⟨kl,k1⟩
theorem Sy.meth(S:Sy h o bk pd ld ad r d ro ps L A rs b){f:Fn}{mth:String}{a:MA}{σ:MSt}{i:Nat}(hm:(mth == "book")=false/\(mth == "ponds")=false/\(mth == "last_day")=false/\(mth == "all_days")=false/\(mth == "ran_out")=false)(hs:σ[i]?=some (some (.ref o))):wp (aL 4 mth f (af i) a σ) h Q E=wp (a σ) h (λxs h2=>wp (f (.ref o::xs)) h2 Q E) E:=by
 have h1:=S.of.ob;have lk:dB mth [("book",MV.ref bk),("ponds",MV.ref pd),("last_day",MV.ref ld),("all_days",MV.ref ad),("ran_out",MV.int ro)]=none:=by simp only[bK,hm.1,hm.2.1,hm.2.2.1,hm.2.2.2.1,hm.2.2.2.2,sm]
 simp only[rq,aN,hs,h1,lk,true_and]
theorem b8.methO(B:b8 h bk r d rs){f:Fn}{mth:String}{a:MA}{σ:MSt}{o':ME}(hm:(mth == "stream")=false/\(mth == "held")=false)(ho:∀Q':MV->MH->Prop,wp (o' σ) h Q' E=Q' (.ref bk) h):wp (aL 3 mth f o' a σ) h Q E=wp (a σ) h (λxs h2=>wp (f (.ref bk::xs)) h2 Q E) E:=by
 have h1:=B.ob;have lk:dB mth [("stream",MV.ref r),("held",MV.ref d)]=none:=by simp only[bK,hm.1,hm.2,sm]
 simp only[rq,ho,h1,lk,true_and]
theorem Sy.fbook(S:Sy h o bk pd ld ad r d ro ps L A rs b){σ:MSt}(hs:σ[0]?=some (some (.ref o)))(Q':MV->MH->Prop):wp (aV (af 0) [4] "book" σ) h Q' E=Q' (.ref bk) h:=by
 have h1:=S.of.ob;simp[hs,h1,bK]
theorem CF(S:Sy h o bk pd ld ad r d ro ps L A rs b){x:Rid}(hx:x∈rs)(q:Q (.int (aget x.1.nm L)) h):wp (kI [.ref o,.str x.1.nm]) h Q E:=by
 have h1:=S.of.ob;have h2:=S.of.la;have rw':=λQ'=>jA (Q:=Q') (E:=E) S.bk hx;unfold kI;refine bX (by rfl) ?_;unfold ub;rw[bO,cS,S.bk.methO (by decide) (S.fbook rfl)];show wp (aj (af 1) au [some (.ref o),some (.str x.1.nm)]) h _ E;simp only[ba,aR,aN,aS,aT,rw'];simp[h1,h2,bK,rJ];exact q
theorem Hb(S:Sy h o bk pd ld ad r d ro ps L A rs b){x:Rid}(hx:x∈rs)(q:Q (.int (aget x.1.nm A)) h):wp (ko [.ref o,.str x.1.nm]) h Q E:=by
 have h1:=S.of.ob;have h2:=S.of.al;have rw':=λQ'=>jA (Q:=Q') (E:=E) S.bk hx;unfold ko;refine bX (by rfl) ?_;unfold vd;rw[bO,cS,S.bk.methO (by decide) (S.fbook rfl)];show wp (aj (af 1) au [some (.ref o),some (.str x.1.nm)]) h _ E;simp only[ba,aR,aN,aS,aT,rw'];simp[h1,h2,bK,rJ];exact q
theorem Gq(S:Sy h o bk pd ld ad r d ro ps L A rs b):wp (jY [.ref o]) h Q E↔Q (.int ro) h:=by
 have h1:=S.of.ob;have key:jY [.ref o] h=.ok (.int ro) h:=by
  simp[jY,sZ,fnOf,bnd,bq,aV,af,ret,look,h1,bK]
 unfold wp;rw[key]
theorem Cf(S:Sy h o bk pd ld ad r d ro ps L A rs b){x:Po×Nat}(hx:x∈ps):wp (ka [.ref o,.str x.1.nm]) h Q E↔Q (.ref x.2) h:=by
 have h1:=S.of.ob;have h2:=S.of.pn;have g:=xH S.of.nm hx;have key:ka [.ref o,.str x.1.nm] h=.ok (.ref x.2) h:=by
  simp[ka,uM,fnOf,bnd,bq,aB,sIf,tst,asB,bH,aV,af,aA,oIn,oIx,ret,look,h1,h2,g,bK]
 unfold wp;rw[key]
theorem DG(S:Sy h o bk pd ld ad r d ro ps L A rs b){x:Po×Nat}(hx:x∈ps):wp (kj [.ref o,.str x.1.nm]) h Q E↔Q (.int x.1.wt) h:=by
 have h3:=S.of.it x hx;unfold kj fnOf;rw[if_pos (show[MV.ref o,MV.str x.1.nm].length=2 from rfl),aM];unfold tL;rw[eI,uJ];show wp (aL 4 "pond_called" ka (af 0) (aj (af 1) au) [some (.ref o),some (.str x.1.nm)]) h _ E↔_;rw[S.meth (by decide) rfl];simp only[ba,aR,aN,aS,aT];rw[Cf S hx];simp[h3,poO,bK,bC]
theorem Bw(S:Sy h o bk pd ld ad r d ro ps L A rs b){k:Str}{t:Int}(l1:L.length<900)(l2:A.length<900)(q:∀h',Off [ld,ad] h h'->Sy h' o bk pd ld ad r d ro ps (aadd L (k,t)) (aadd A (k,t)) rs b->Q .non h'):wp (qR [.ref o,.str k,.int t]) h Q E:=by
 obtain⟨S1,S2,S3⟩:=id S;have h1:=S1.ob;have h2:=S1.la;have h3:=S1.al;have ap:=S1.ap;have n1:=bU h2;have n2:=bU h3;have nol:o≠ld:=dN h1 h2 (by simp);have noa:o≠ad:=dN h1 h3 (by simp);unfold qR;refine bX (by rfl) ?_;unfold vc;have c1:(acL L).length<1000:=by simp[acL];lia
 have c2:(acL A).length<1000:=by simp[acL];lia
 refine bu (R:=λσ h'=>h'=h.set ld (.dct (acL (aadd L (k,t))))/\σ=[some (.ref o),some (.str k),some (.int t)]) ?_ ?_
 ·simp[h1,h2,bK,rJ,c1,zM];exact⟨n1,rfl⟩
 rintro _ _ ⟨rfl,rfl⟩;have g1:(h.set ld (.dct (acL (aadd L (k,t)))))[o]?=_:=bZ h1 nol.symm;have g3:(h.set ld (.dct (acL (aadd L (k,t)))))[ad]?=_:=bZ h3 ap.2.2.1;have f1:Off [ld] h (h.set ld (.dct (acL (aadd L (k,t))))):=Off.set;have b1:=S.book_set (y:=.dct (acL (aadd L (k,t)))) h2 ap.2.2.2.2.1.symm (λ_=>by simp) (λ_=>by simp);have r1:=S.river_set (y:=.dct (acL (aadd L (k,t)))) h2 (λ_=>by simp) (λ_=>by simp);have gl:(h.set ld (.dct (acL (aadd L (k,t)))))[ld]?=_:=fB n1;have gp:(h.set ld (.dct (acL (aadd L (k,t)))))[pd]?=_:=bZ S1.pn ap.1.symm;have gi:∀x∈ps,(h.set ld (.dct (acL (aadd L (k,t)))))[x.2]?=_:=λx hx=>bZ (S1.it x hx) (dN h2 (S1.it x hx) (by simp[poO]));generalize h.set ld (.dct (acL (aadd L (k,t))))=h' at g1 g3 f1 b1 r1 gl gp gi;have S':Sy h' o bk pd ld ad r d ro ps (aadd L (k,t)) A rs b:=⟨⟨g1,gp,gl,g3,gi,S1.nm,S1.nd,ap⟩,b1,r1⟩;have n3:=bU g3;simp[g1,g3,bK,rJ,c2,zM];refine⟨n3,?_⟩;refine q _ ((f1.mono (by simp)).trans ((Off.set).mono (by simp))) ⟨⟨bZ g1 noa.symm,bZ gp ap.2.1.symm,bZ gl ap.2.2.1.symm,fB n3,λx hx=>bZ (gi x hx) (dN g3 (gi x hx) (by simp[poO])),S1.nm,S1.nd,ap⟩,?_,?_⟩
 ·exact S'.book_set g3 ap.2.2.2.2.2.symm (λ_=>by simp) (λ_=>by simp)
 ·exact S'.river_set g3 (λ_=>by simp) (λ_=>by simp)
end
def gI(x:Rt):Wn:=⟨x.dt,x.nm,0,x.pt,x.am⟩
def lg(x:Po):Wn:=⟨x.dt,x.nm,1,x.pt,x.sz-x.wt⟩
def du(rs:List Rid)(ps:List (Po×Nat)):List Wn:=(aged (aJ rs)).map gI++ps.map λx=>lg x.1
theorem mU{rs:List Rid}{ps:List (Po×Nat)}(n:Names (aJ rs))(hz:rs.length<64)(np:(ps.map (·.1.nm)).Nodup):WNm (du rs ps):=by
 have hz':(aJ rs).length<64:=by simpa[aJ] using hz
 have na:((aged (aJ rs)).map (·.nm)).Nodup:=((jp n hz').map λ(x:Rt)=>x.nm).nodup_iff.mpr n;have inj:∀(i:Int),Function.Injective λs:Str=>(s,i):=λi a b e=>(Prod.mk.inj e).1;have pw:∀{l:List Str}{i:Int},l.Nodup->(l.map λs=>(s,i)).Nodup:=λ{l i} nd=>by
  unfold List.Nodup at nd ⊢;rw[List.pairwise_map];exact nd.imp λh z=>h (Prod.mk.inj z).1
 unfold WNm du;rw[jc,dG,dG,iQ];refine⟨?_,?_,?_⟩
 ·have:=pw (i:=0) na;rw[dG]at this;exact this
 ·have:=pw (i:=1) np;rw[dG]at this;exact this
 ·intro a ha c hc e;obtain⟨x,_,rfl⟩:=dl.mp ha;obtain⟨y,_,rfl⟩:=dl.mp hc;exact absurd (Prod.mk.inj e).2 (by simp[gI,lg])
theorem Off.lst{S:List Nat}{h h':MH}{a:Nat}{xs:List MV}(f:Off S h h')(e:h[a]?=some (.lst xs))(hS:∀n∈S,∀ys,h[n]?≠some (.lst ys)):h'[a]?=some (.lst xs):=f.get e λz=>hS a z xs e
section
variable {h:MH}{o bk pd ld ad r d:Nat}{ro:Int}{ps:List (Po×Nat)}{L A:List (Str×Int)}{rs:List Rid}{b:List Nat}{Q:MV->MH->Prop}{E:Nat->MH->Prop}
theorem vS(S:Sy h o bk pd ld ad r d ro ps L A rs b)(hz:rs.length<40)(hp:ps.length<20)(q:∀h' a,Off [] h h'->h.length≤a->h'[a]?=some (.lst ((que (du rs ps)).map Wn.row))->Q (.ref a) h'):wp (pA [.ref o]) h Q E:=by
 obtain⟨S1,S2,S3⟩:=id S;have hz':(aJ rs).length<64:=by simp[aJ];lia
 have nW:=mU (rs:=rs) (ps:=ps) S2.nm (by lia) S1.nm;have al:(aged (aJ rs)).length=rs.length:=by rw[kM S2.nm hz',cY]
 have lW:(du rs ps).length<64:=by simp[du,al];lia
 have mem:∀x∈aged (aJ rs),∃y∈rs,y.1=x:=λx hx=>by
  have:=(jp S2.nm hz').mem_iff.mp hx;obtain⟨y,hy,e⟩:=dl.mp this;exact⟨y,hy,e⟩
 unfold pA;refine bX (by rfl) ?_;change wp (qQ [some (.ref o),none,none,none,none]) _ _ _;unfold qQ;refine bu (R:=λσ h'=>h'=h++[.lst []]/\σ=[some (.ref o),some (.ref h.length),none,none,none]) (by simp) ?_;rintro _ _ ⟨rfl,rfl⟩;have p1:Pre h (h++[.lst []]):=Pre.app _;have g1:(h++[MO.lst []])[h.length]?=some (.lst []):=cb;generalize hw:h.length=w at g1;generalize h++[MO.lst []]=h1 at p1 g1;have k0:∀u v w:MV,atN [u,v,w] 0=some u:=λ_ _ _=>rfl;have k1:∀u v w:MV,atN [u,v,w] 1=some v:=λ_ _ _=>rfl;have k2:∀u v w:MV,atN [u,v,w] 2=some w:=λ_ _ _=>rfl;refine bu (R:=λσ h'=>(Pre h h'/\h'[w]?=some (.lst (((aged (aJ rs)).map gI).map Wn.row)))/\∃u v,σ=[some (.ref o),some (.ref w),u,v,none]) ?_ ?_
 ·rw[gJ];have S1':=S.pre p1;have hs:dY (aL 3 "names" gC (aV (af 0) [4] "book") au) [some (.ref o),some (.ref w),none,none,none] h1=.ok ⟨((aged (aJ rs)).map λx=>MV.str x.nm).map λv=>[v],[(h1.length,(aged (aJ rs)).map λx=>MV.str x.nm)]⟩ (h1++[.lst ((aged (aJ rs)).map λx=>.str x.nm)]):=by
   refine iz (fW ?_) cb;rw[S1'.bk.methO (by decide) (S1'.fbook rfl),aR];exact q0 S1'.bk (by lia) ⟨rfl,rfl⟩
  refine cN hs ?_;have p2:Pre h (h1++[.lst ((aged (aJ rs)).map λx=>.str x.nm)]):=p1.snoc _;have g2:=dW (g:=[.lst ((aged (aJ rs)).map λx=>.str x.nm)]) g1;have gn:(h1++[MO.lst ((aged (aJ rs)).map λx=>.str x.nm)])[h1.length]?=some (.lst ((aged (aJ rs)).map λx=>.str x.nm)):=cb;have nw:w≠h1.length:=by have:=bU g1;lia
  generalize h1.length=nl at gn nw;generalize h1++[MO.lst ((aged (aJ rs)).map λx=>.str x.nm)]=h2 at p2 g2 gn;refine fE (λk σ h'=>(Pre h h'/\h'[nl]?=some (.lst ((aged (aJ rs)).map λx=>.str x.nm))/\h'[w]?=some (.lst ((((aged (aJ rs)).take k).map gI).map Wn.row)))/\∃u v,σ=[some (.ref o),some (.ref w),u,v,none]) (λk σ h' ⟨⟨_,e,_⟩,_⟩=>f9 e) (λk vv σ h' hv ⟨⟨ph,gh,gw⟩,u,v,es⟩=>?_) (λσ h' ⟨⟨ph,gh,gw⟩,u,v,es⟩=>⟨σ,rfl,⟨ph,?_⟩,u,v,es⟩) ⟨⟨p2,gn,by simpa using g2⟩,none,none,rfl⟩
  ·subst es;rw[bz,bz]at hv;cases ek:(aged (aJ rs))[k]? with
   |none=>rw[ek]at hv;cases hv
   |some x=>
     rw[ek]at hv;cases hv;obtain⟨y,hy,rfl⟩:=mem x (dF ek);have Sh:=S.pre ph;have tk:(aged (aJ rs)).take (k+1)=(aged (aJ rs)).take k++[y.1]:=by rw[kH,ek];rfl
     simp only[cL,eV,fe];rw[bO,cD,Sh.bk.methO (by decide) (Sh.fbook rfl)];simp only[ba,aR,aN,aS,aT];rw[jA Sh.bk hy];have lw:=bU gw;have ll:((((aged (aJ rs)).take k).map gI).map Wn.row).length<100000:=by simp;lia
     simp only[Rt.val,eV,fe,cS,uQ,aN,pZ,ba,aR,cy,w_c,jO,k0,k1,k2,aS,aT,gw];refine⟨by simp,ll,lw,⟨ph.set (by lia),?_,?_⟩,_,_,rfl⟩
     ·exact bZ gh nw
     ·rw[fB lw,tk];simp[Wn.row,gI]
  ·rw[gw,mH (by simp)]
 rintro _ h2 ⟨⟨p2,gw⟩,u,v,rfl⟩;have Sh:=S.pre p2;have wlt:=bU gw;have hpn:=Sh.of.pn;have npw:pd≠w:=by have:=bU S1.pn;lia
 have e2:aV (af 0) [4] "ponds" [some (.ref o),some (.ref w),u,v,none] h2=.ok (.ref pd) h2:=fW (by
  have h1:=Sh.of.ob;simp [h1,bK])
 refine bu (R:=λσ h'=>(Off [] h h'/\h'[w]?=some (.lst ((du rs ps).map Wn.row)))/\∃u v x,σ=[some (.ref o),some (.ref w),u,v,x]) ?_ ?_
 ·refine Hy (λk σ' h'=>(h'[pd]?=some (.frz (poL ps))/\(∀n ob,n≠pd->h[n]?=some ob->h'[n]?=some ob)/\h.length≤h'.length/\h'[w]?=some (.lst (((aged (aJ rs)).map gI++(ps.take k).map λx=>lg x.1).map Wn.row)))/\∃u v x,σ'=[some (.ref o),some (.ref w),u,v,x]) e2 hpn (λk σ' h' ⟨⟨e,_⟩,_⟩=>e) (λk s vv σ' h' hk ⟨⟨e1,e3,e4,e5⟩,u',v',x',es⟩=>?_) (λσ' h' ⟨⟨e1,e3,e4,e5⟩,u',v',x',es⟩=>?_) ⟨⟨fB (bU hpn),λn ob ne e=>bZ (p2.get e) ne.symm,by simp;exact p2.len,?_⟩,u,v,none,rfl⟩
  ·subst es;unfold poL at hk;rw[bz]at hk;cases ek:ps[k]? with
   |none=>rw[ek]at hk;cases hk
   |some x=>
     rw[ek]at hk;cases hk;have hx:=dF ek;have hxo:=S1.it x hx;have nx:x.2≠pd:=dN hxo S1.pn (by simp[poO])
     have ho:=e3 x.2 _ nx hxo;have tk:ps.take (k+1)=ps.take k++[x]:=by rw[kH,ek];rfl
     have lw:=bU e5;have ll:(((aged (aJ rs)).map gI++(ps.take k).map λx=>lg x.1).map Wn.row).length<100000:=by simp;lia
     unfold poO at ho;have lk1:∀a b c d:MV,dB "point" [("point",a),("size",b),("date",c),("held_water",d)]=some a:=λ_ _ _ _=>rfl;have lk2:∀a b c d:MV,dB "size" [("point",a),("size",b),("date",c),("held_water",d)]=some b:=λ_ _ _ _=>rfl;have lk3:∀a b c d:MV,dB "date" [("point",a),("size",b),("date",c),("held_water",d)]=some c:=λ_ _ _ _=>rfl;have lk4:∀a b c d:MV,dB "held_water" [("point",a),("size",b),("date",c),("held_water",d)]=some d:=λ_ _ _ _=>rfl;have c52:([5,2]:List Nat).contains 5=true:=rfl;have c5:([5]:List Nat).contains 5=true:=rfl;simp only[cL,eV,fe,cS,uQ,aN,pZ,ba,aR,cy,w_c,uJ,aS,aT,e5,ho,lk1,lk2,lk3,lk4,c52,c5,true_and,vH,e5];refine⟨by simp,ll,lw,_,rfl,⟨bZ e1 npw.symm,λn ob ne e=>bZ (e3 n ob ne e) (by have:=bU e;lia),by simpa using e4,?_⟩,_,_,_,rfl⟩;rw[fB lw,tk];simp[Wn.row,lg]
  ·refine⟨_,rfl,⟨⟨λn ob _ e=>?_,by simpa using e4⟩,?_⟩,u',v',x',es⟩
   ·by_cases c:n=pd
    ·subst c;rw[S1.pn]at e;cases e;exact fB (bU e1)
    ·exact bZ (e3 n ob c e) (λz=>c z.symm)
   ·rw[show(poL ps).length=ps.length by simp[poL],mH (by lia)]at e5;exact bZ e5 npw
  ·rw[bZ gw npw];simp
 rintro _ h3 ⟨⟨f3,g3⟩,u',v',x',rfl⟩;rw[eI,fM,aN];simp only[aS,aT];exact Fl nW lW g3 (q _ _ (f3.trans (Pre.app _).off) f3.2 cb)
def prs(i:Int)(W:List Wn)(T:List Int):List (Str×Int):=((W.zip T).filter λp=>decide (p.1.rk=i)).map λp=>(p.1.nm,p.2)
theorem wY:∀(W:List Wn) (T:List Int),dC (W.map Wn.row) (zs T)=(W.zip T).map λp=>[p.1.row,.int p.2]
 |[],_=>rfl
 |_::_,[]=>rfl
 |w::W,t::T=>by
   have:=wY W T;unfold zs at this ⊢;simp only[bS,dC,mj,this]
theorem z9{w t:Nat}{W:List Wn}{T:List Int}{i:Int}(hw:h[w]?=some (.lst (W.map Wn.row)))(ht:h[t]?=some (.lst (zs T)))(few:W.length≤1000)(q:∀h',Pre h h'->Q (.ref h'.length) (h'++[.lst ((prs i W T).map pv)])):wp (mJ [.ref w,.ref t,.int i]) h Q E:=by
 unfold mJ;refine bX (by rfl) ?_;change wp (qY [some (.ref w),some (.ref t),some (.int i)]) _ _ _;unfold qY;rw[eI];have m1:∀u v w x z:MV,atN [u,v,w,x,z] 1=some v:=λ_ _ _ _ _=>rfl;have m2:∀u v w x z:MV,atN [u,v,w,x,z] 2=some w:=λ_ _ _ _ _=>rfl;have e1:(af 0) [some (.ref w),some (.ref t),some (.int i)] h=.ok (.ref w) h:=fW (by simp);have e2:(af 1) [some (.ref w),some (.ref t),some (.int i)] h=.ok (.ref t) h:=fW (by simp);refine lE (W.zip T) (λp=>[p.1.row,.int p.2]) (λp=>decide (p.1.rk=i)) (λp=>pv (p.1.nm,p.2)) (AT e1 e2 hw ht) (wY W T) (λh' p'=>xt (p'.get hw) (p'.get ht)) (by rw[List.length_zip];lia) (λx hx h2 p2=>?_) (λx hx _ h2 p2=>?_) λh2 p2=>?_
 ·simp[ff,Wn.row,m2,Pre.refl]
 ·simp[Wn.row,m1,pv,Pre.refl]
 ·have:((W.zip T).filter λp=>decide (p.1.rk=i)).map (λp=>pv (p.1.nm,p.2))=(prs i W T).map pv:=by unfold prs;rw[dG];rfl
  rw[this];exact q h2 p2
end
section
variable {h:MH}{o bk pd ld ad r d:Nat}{ro:Int}{ps:List (Po×Nat)}{L A:List (Str×Int)}{rs:List Rid}{b:List Nat}{Q:MV->MH->Prop}{E:Nat->MH->Prop}
theorem Sy.pour(S:Sy h o bk pd ld ad r d ro ps L A rs b){x:Po×Nat}(hx:x∈ps)(t:Int):Sy (h.set x.2 (poO (x.1.add t))) o bk pd ld ad r d ro (padd ps (x.1.nm,t)) L A rs b:=by
 obtain⟨S1,S2,S3⟩:=id S;have h1:=S1.it x hx;have n1:=bU h1;refine⟨⟨bZ S1.ob (dN h1 S1.ob (by simp[poO])),?_,bZ S1.la (dN h1 S1.la (by simp[poO])),bZ S1.al (dN h1 S1.al (by simp[poO])),λy hy=>?_,by rw[zZ];exact S1.nm,by rw[zw];exact S1.nd,S1.ap⟩,?_,?_⟩
 ·rw[Ep];exact bZ S1.pn (dN h1 S1.pn (by simp[poO]))
 ·unfold padd at hy;obtain⟨z,hz,rfl⟩:=dl.mp hy;by_cases c:z.1.nm=x.1.nm
  ·have:z=x:=by
    obtain⟨i,ei⟩:=n8 hz;obtain⟨j,ej⟩:=n8 hx;have e1:(ps.map (·.1.nm))[i]?=some x.1.nm:=by rw[bz,ei];simp[c]
    have e2:(ps.map (·.1.nm))[j]?=some x.1.nm:=by rw[bz,ej];rfl
    have:=rS S1.nm e1 e2;subst this;rw[ei]at ej;exact Option.some.inj ej
   subst this;simp only[if_true];exact fB n1
  ·simp only[if_neg c];have ne:x.2≠z.2:=λe=>by
    obtain⟨i,ei⟩:=n8 hz;obtain⟨j,ej⟩:=n8 hx;have e1:(ps.map (·.2))[i]?=some x.2:=by rw[bz,ei];simp[e]
    have e2:(ps.map (·.2))[j]?=some x.2:=by rw[bz,ej];rfl
    have:=rS S1.nd e1 e2;subst this;rw[ei]at ej;cases ej;exact c rfl
   exact bZ (S1.it z hz) ne
 ·exact S.book_set h1 (dN h1 S2.dc (by simp[poO])) (λ_=>by simp[poO]) (λ_=>by simp[poO])
 ·exact S.river_set h1 (λ_=>by simp[poO]) (λ_=>by simp[poO])
theorem Sy.setO(S:Sy h o bk pd ld ad r d ro ps L A rs b){ld':Nat}{ro':Int}{L':List (Str×Int)}(hl:h[ld']?=some (.dct (acL L')))(ap:pd≠ld'/\ld'≠ad/\d≠ld'):Sy (h.set o (.ins 4 [("book",.ref bk),("ponds",.ref pd),("last_day",.ref ld'),("all_days",.ref ad),("ran_out",.int ro')])) o bk pd ld' ad r d ro' ps L' A rs b:=by
 obtain⟨S1,S2,S3⟩:=id S;have h1:=S1.ob;have a:=S1.ap;refine⟨⟨fB (bU h1),bZ S1.pn (dN h1 S1.pn (by simp)),bZ hl (dN h1 hl (by simp)),bZ S1.al (dN h1 S1.al (by simp)),λx hx=>bZ (S1.it x hx) (dN h1 (S1.it x hx) (by simp[poO])),S1.nm,S1.nd,⟨ap.1,a.2.1,ap.2.1,a.2.2.2.1,ap.2.2,a.2.2.2.2.2⟩⟩,?_,?_⟩
 ·exact S.book_set h1 (dN h1 S2.dc (by simp)) (λ_=>by simp) (λ_=>by simp)
 ·exact S.river_set h1 (λ_=>by simp) (λ_=>by simp)
def cK(rs:List Rid)(ps:List (Po×Nat)):List Wn:=que (du rs ps)
def wsA(W:List Wn):List Want:=W.map λw=>(w.pt,w.am)
theorem Ib{i:Int}{W:List Wn}{T:List Int}{p:Str×Int}(hp:p∈prs i W T):∃w∈W,w.rk=i/\w.nm=p.1:=by
 unfold prs at hp;obtain⟨x,hx,rfl⟩:=dl.mp hp;obtain⟨h1,h2⟩:=sJ.mp hx;exact⟨x.1,(oS h1).1,by simpa using h2,rfl⟩
theorem wW{i:Int}{W:List Wn}{T:List Int}:(prs i W T).length≤W.length:=by
 unfold prs;rw[cY];have:=List.length_filter_le (λp:Wn×Int=>decide (p.1.rk=i)) (W.zip T);rw[List.length_zip]at this;lia
theorem yZ{a n:Nat}{y:Nat->Int}(S:Sy h o bk pd ld ad r d ro ps L A rs b)(hz:rs.length<40)(hp:ps.length<20)(ha:h[a]?=some (.lst (tab n y)))(hn:n=b.length+1)(bd:∀k,k<n->0≤y k/\y k≤1000000)(pr:∀x∈aJ rs,x.pt<b.length+1)(pp:∀x∈ps,x.1.pt<b.length+1)(lA:A.length<800)
  (q:∀h' ld' p1 p2,Off (o::ad::ps.map (·.2)) h h'->h.length≤ld'->h.length≤p1->h.length≤p2->p1≠p2 ->
   h'[p1]?=some (.lst ((prs 0 (cK rs ps) (dE b (cP b n y) (wsA (cK rs ps)))).map pv))->h'[p2]?=some (.lst ((prs 1 (cK rs ps) (dE b (cP b n y) (wsA (cK rs ps)))).map pv)) ->
   Sy h' o bk pd ld' ad r d (ro + dL b (cP b n y) (wsA (cK rs ps)) 0) ((prs 1 (cK rs ps) (dE b (cP b n y) (wsA (cK rs ps)))).foldl padd ps) ((prs 0 (cK rs ps) (dE b (cP b n y) (wsA (cK rs ps)))).foldl aadd []) ((prs 0 (cK rs ps) (dE b (cP b n y) (wsA (cK rs ps)))).foldl aadd A) rs b->Q (.tup [.ref p1,.ref p2]) h'):wp (iY [.ref o,.ref a]) h Q E:=by
 obtain⟨S1,S2,S3⟩:=id S;have hz':(aJ rs).length<64:=by simp[aJ];lia
 have al:(aged (aJ rs)).length=rs.length:=by rw[kM S2.nm hz',cY]
 have nW:=mU (rs:=rs) (ps:=ps) S2.nm (by lia) S1.nm;have lW0:(du rs ps).length<60:=by simp[du,al];lia
 have lW:(cK rs ps).length<60:=by unfold cK;rw[uj nW (by lia)];exact lW0
 have memW:∀w∈cK rs ps,w∈du rs ps:=λw hw=>(vm nW (by lia)).mem_iff.mp hw;have ptW:∀w∈wsA (cK rs ps),w.1<b.length+1:=λw hw=>by
  obtain⟨v,hv,rfl⟩:=dl.mp hw;have:=memW v hv;unfold du at this;rcases fY.mp this with z|z
  ·obtain⟨x,hx,rfl⟩:=dl.mp z;exact pr x ((jp S2.nm hz').mem_iff.mp hx)
  ·obtain⟨x,hx,rfl⟩:=dl.mp z;exact pp x hx
 have nm1:∀{T:List Int}{p:Str×Int},p∈prs 1 (cK rs ps) T->p.1∈ps.map (·.1.nm):=λ{T p} hp=>by
  obtain⟨w,hw,e1,e2⟩:=Ib hp;have:=memW w hw;unfold du at this;rcases fY.mp this with z|z
  ·obtain⟨x,hx,rfl⟩:=dl.mp z;simp[gI]at e1
  ·obtain⟨x,hx,rfl⟩:=dl.mp z;rw[←e2];exact qh (f:=λz=>z.1.nm) hx
 have sl:(wsA (cK rs ps)).length=(cK rs ps).length:=by simp[wsA]
 generalize hW:cK rs ps=W at q lW memW ptW nm1 sl;generalize hT:dE b (cP b n y) (wsA W)=T at q;have few:=S3.few;unfold iY;refine bX (by rfl) ?_;change wp (ku [some (.ref o),some (.ref a),none,none,none,none,none,none,none]) _ _ _;unfold ku;refine bu (R:=λσ h1=>∃w,Off [] h h1/\h.length≤w/\h1[w]?=some (.lst (W.map Wn.row))/\σ=[some (.ref o),some (.ref a),some (.ref w),none,none,none,none,none,none]) ?_ ?_
 ·rw[cD,S.meth (by decide) rfl,aR];refine vS S hz hp λh' w f l g=>⟨_,rfl,w,f,l,?_,rfl⟩;rw[←hW];exact g
 rintro _ h1 ⟨w,f1,lw,gw,rfl⟩;have Sa:=S.off f1;have ga1:=f1.get ha (by simp);refine bu (R:=λσ h2=>∃x z,Pre h1 h2/\h1.length≤x/\h1.length≤z/\h2[x]?=some (.lst (zs T))/\h2[z]?=some (.lst (tab n (dL b (cP b n y) (wsA W))))/\σ=[some (.ref o),some (.ref a),some (.ref w),some (.tup [.ref x,.ref z]),none,none,none,none,none]) ?_ ?_
 ·rw[cD,cu,ba,Sa.bk.methO (by decide) (Sa.fbook rfl),aR,iO Sa.bk,ba,aN];simp only[aS,aT,ba];have e1:(af 2) [some (.ref o),some (.ref a),some (.ref w),none,none,none,none,none,none] h1=.ok (.ref w) h1:=fW (by simp);refine lE W (λx=>[x.row]) (λ_=>true) (λx=>Want.v (x.pt,x.am)) (iz e1 gw) (by simp) (λh' p'=>f9 (p'.get gw)) (by lia) (λx hx h2 p2=>?_) (λx hx _ h2 p2=>?_) λh2 p2=>?_
  ·simp[ff,bC,Pre.refl]
  ·have c3:¬(dM 5 0 (some 3)=0/\dM 5 5 none=5):=by decide
   rw[t8,aN];simp only[bS,jS,rg,nj,aS,aT,tU,tI,w_c,Wn.row,sX];exact⟨c3,rfl,.refl⟩
  ·rw[pR,aR];have ew:W.map (λx=>Want.v (x.pt,x.am))=(wsA W).map Want.v:=by unfold wsA;rw[dG];rfl
   rw[ew];refine GD (Sa.rv.pre (p2.snoc _)) ((p2.snoc _).get ga1) cb hn bd ptW (by lia) λh' x z p lx lz ex ez=>?_;have l2:=(p2.snoc (.lst ((wsA W).map Want.v))).len;rw[hT]at ex;exact⟨_,rfl,x,z,(p2.snoc _).trans p,by lia,by lia,ex,ez,rfl⟩
 rintro _ h2 ⟨x,z,p2,lx,lz,ex,ez,rfl⟩;have j0:∀u v:MV,atN [u,v] 0=some u:=λ_ _=>rfl;have j1:∀u v:MV,atN [u,v] 1=some v:=λ_ _=>rfl;have lh1:=f1.2;refine bu (R:=λσ h3=>∃p1,Pre h2 h3/\h2.length≤p1/\h3[p1]?=some (.lst ((prs 0 W T).map pv))/\σ=[some (.ref o),some (.ref a),some (.ref w),some (.tup [.ref x,.ref z]),some (.ref p1),none,none,none,none]) ?_ ?_
 ·simp only[cD,cu,ba,aR,aN,cy,w_c,aS,aT,jO,j0];exact z9 (p2.get gw) ex (by lia) λh' p=>⟨_,rfl,h'.length,p.snoc _,p.len,cb,rfl⟩
 rintro _ h3 ⟨p1,p3,l1,g1,rfl⟩;refine bu (R:=λσ h4=>∃p2',Pre h3 h4/\h3.length≤p2'/\h4[p2']?=some (.lst ((prs 1 W T).map pv))/\σ=[some (.ref o),some (.ref a),some (.ref w),some (.tup [.ref x,.ref z]),some (.ref p1),some (.ref p2'),none,none,none]) ?_ ?_
 ·simp only[cD,cu,ba,aR,aN,cy,w_c,aS,aT,jO,j0];exact z9 ((p2.trans p3).get gw) (p3.get ex) (by lia) λh' p=>⟨_,rfl,h'.length,p.snoc _,p.len,cb,rfl⟩
 rintro _ h4 ⟨q1,p4,lq,gq,rfl⟩;have P:=p2.trans (p3.trans p4);have S4:=Sa.pre P;have g14:=p4.get g1;have ez4:=(p3.trans p4).get ez;have lz4:=bU ez4;have lp14:=bU g14;have ne12:p1≠q1:=by have:=bU g1;lia
 have h2l:=p2.len;have h3l:=p3.len;have h4l:=p4.len;have o4:=S4.of.ob;refine bu (R:=λσ h5=>∃ld',Off [o] h4 h5/\h4.length≤ld'/\Sy h5 o bk pd ld' ad r d ro ps [] A rs b/\σ=[some (.ref o),some (.ref a),some (.ref w),some (.tup [.ref x,.ref z]),some (.ref p1),some (.ref q1),none,none,none]) ?_ ?_
 ·have S5:=S4.pre (Pre.app (.dct (acL [])));have o5:=S5.of.ob;have n5:=bU o5;have lo4:=bU o4;have lpd:=bU S4.of.pn;have lad:=bU S4.of.al;have ldd:=bU S4.bk.dc;have S6:=S5.setO (ro':=ro) (L':=[]) (ld':=h4.length) cb ⟨by lia,by lia,by lia⟩;have e0:(h4++[MO.dct []])=h4++[.dct (acL [])]:=rfl;simp[o5,e0,putF];refine⟨by simpa using n5,?_,h4.length,aY _,S6⟩;exact((Pre.app _).off).trans Off.set
 rintro _ h5 ⟨ld5,f5,l5,S5,rfl⟩;have keep5:∀{n:Nat}{xs:List MV},h4[n]?=some (.lst xs)->h5[n]?=some (.lst xs):=λe=>f5.lst e λn hn ys z=>by
  rw[c6.mp hn,o4]at z;cases z
 have g15:=keep5 g14;have gq5:=keep5 gq;have ez5:=keep5 ez4;have rows:∀(l:List (Str×Int)),eX 2 (l.map pv)=some (l.map λp=>[.str p.1,.int p.2]):=by
  intro l
  induction l with
  |nil=>rfl
  |cons p l ih=>simp[eX,pv,ih]
 refine bu (R:=λσ h6=>(Off [ld5,ad] h5 h6/\Sy h6 o bk pd ld5 ad r d ro ps ((prs 0 W T).foldl aadd []) ((prs 0 W T).foldl aadd A) rs b/\h6[p1]?=some (.lst ((prs 0 W T).map pv))/\h6[q1]?=some (.lst ((prs 1 W T).map pv))/\h6[z]?=some (.lst (tab n (dL b (cP b n y) (wsA W)))))/\∃u v,σ=[some (.ref o),some (.ref a),some (.ref w),some (.tup [.ref x,.ref z]),some (.ref p1),some (.ref q1),u,v,none]) ?_ ?_
 ·rw[gJ];have e1:(af 4) [some (.ref o),some (.ref a),some (.ref w),some (.tup [.ref x,.ref z]),some (.ref p1),some (.ref q1),none,none,none] h5=.ok (.ref p1) h5:=fW (by simp);refine cN (vK e1 g15 (rows _)) ?_;refine fE (λk σ h6=>(Off [ld5,ad] h5 h6/\Sy h6 o bk pd ld5 ad r d ro ps (((prs 0 W T).take k).foldl aadd []) (((prs 0 W T).take k).foldl aadd A) rs b/\h6[p1]?=some (.lst ((prs 0 W T).map pv))/\h6[q1]?=some (.lst ((prs 1 W T).map pv))/\h6[z]?=some (.lst (tab n (dL b (cP b n y) (wsA W)))))/\∃u v,σ=[some (.ref o),some (.ref a),some (.ref w),some (.tup [.ref x,.ref z]),some (.ref p1),some (.ref q1),u,v,none]) (λk σ h6 ⟨⟨_,_,e,_⟩,_⟩=>f9 e) (λk vv σ h6 hv ⟨⟨f6,S6,a1,a2,a3⟩,u,v,es⟩=>?_) (λσ h6 ⟨⟨f6,S6,a1,a2,a3⟩,u,v,es⟩=>⟨σ,rfl,?_,u,v,es⟩) ⟨⟨Off.refl,S5,g15,gq5,ez5⟩,none,none,rfl⟩
  ·subst es;rw[bz]at hv;cases ek:(prs 0 W T)[k]? with
   |none=>rw[ek]at hv;cases hv
   |some p=>
     rw[ek]at hv;cases hv;have tk:(prs 0 W T).take (k+1)=(prs 0 W T).take k++[p]:=by rw[kH,ek];rfl
     have kl:=(bF.mp ek).1;have pl:=wW (i:=0) (W:=W) (T:=T);have b1:=rV (ps:=(prs 0 W T).take k) (L:=[]);have b2:=rV (ps:=(prs 0 W T).take k) (L:=A);rw[kJ]at b1 b2;simp only[iN]at b1;simp only[cL,eV,fe];rw[cS,S6.meth (by decide) rfl];simp only[ba,aR,aN,aS,aT];refine Bw S6 (by lia) (by lia) λh7 f7 S7=>?_;have keep:∀{n:Nat}{xs:List MV},h6[n]?=some (.lst xs)->h7[n]?=some (.lst xs):=λe=>f7.lst e λn hn ys z=>by
      simp only[bW,gA,or_false]at hn;rcases hn with rfl|rfl
      ·rw[S6.of.la]at z;cases z
      ·rw[S6.of.al]at z;cases z
     refine⟨⟨f6.trans f7,?_,keep a1,keep a2,keep a3⟩,_,_,rfl⟩;rw[tk,uI,uI];exact S7
  ·rw[cY,mH (aY _)]at S6;exact⟨f6,S6,a1,a2,a3⟩
 rintro _ h6 ⟨⟨f6,S6,g16,gq6,ez6⟩,u6,v6,rfl⟩;refine bu (R:=λσ h7=>(Off (ps.map (·.2)) h6 h7/\Sy h7 o bk pd ld5 ad r d ro ((prs 1 W T).foldl padd ps) ((prs 0 W T).foldl aadd []) ((prs 0 W T).foldl aadd A) rs b/\h7[p1]?=some (.lst ((prs 0 W T).map pv))/\h7[q1]?=some (.lst ((prs 1 W T).map pv))/\h7[z]?=some (.lst (tab n (dL b (cP b n y) (wsA W)))))/\∃u v t,σ=[some (.ref o),some (.ref a),some (.ref w),some (.tup [.ref x,.ref z]),some (.ref p1),some (.ref q1),u,v,t]) ?_ ?_
 ·rw[gJ];have e1:(af 5) [some (.ref o),some (.ref a),some (.ref w),some (.tup [.ref x,.ref z]),some (.ref p1),some (.ref q1),u6,v6,none] h6=.ok (.ref q1) h6:=fW (by simp);refine cN (vK e1 gq6 (rows _)) ?_;refine fE (λk σ h7=>(Off (ps.map (·.2)) h6 h7/\Sy h7 o bk pd ld5 ad r d ro (((prs 1 W T).take k).foldl padd ps) ((prs 0 W T).foldl aadd []) ((prs 0 W T).foldl aadd A) rs b/\h7[p1]?=some (.lst ((prs 0 W T).map pv))/\h7[q1]?=some (.lst ((prs 1 W T).map pv))/\h7[z]?=some (.lst (tab n (dL b (cP b n y) (wsA W)))))/\∃u v t,σ=[some (.ref o),some (.ref a),some (.ref w),some (.tup [.ref x,.ref z]),some (.ref p1),some (.ref q1),u,v,t]) (λk σ h7 ⟨⟨_,_,_,e,_⟩,_⟩=>f9 e) (λk vv σ h7 hv ⟨⟨f7,S7,a1,a2,a3⟩,u,v,t,es⟩=>?_) (λσ h7 ⟨⟨f7,S7,a1,a2,a3⟩,u,v,t,es⟩=>⟨σ,rfl,?_,u,v,t,es⟩) ⟨⟨Off.refl,S6,g16,gq6,ez6⟩,u6,v6,none,rfl⟩
  ·subst es;rw[bz]at hv;cases ek:(prs 1 W T)[k]? with
   |none=>rw[ek]at hv;cases hv
   |some p=>
     rw[ek]at hv;cases hv;have tk:(prs 1 W T).take (k+1)=(prs 1 W T).take k++[p]:=by rw[kH,ek];rfl
     have pn:=nm1 (dF ek);rw[←AL (qs:=(prs 1 W T).take k)]at pn;obtain⟨xx,hxx,exx⟩:=dl.mp pn;have hxa:xx.2∈ps.map (·.2):=by
      rw[←zJ (qs:=(prs 1 W T).take k)];exact qh hxx
     have hd:=xH S7.of.nm hxx;have ho:=S7.of.it xx hxx;have S8:=S7.pour hxx p.2;have lx:=bU ho;have h7o:=S7.of.ob;have h7p:=S7.of.pn;rw[exx]at hd S8;have c5:([5]:List Nat).contains 5=true:=rfl;have c4:([4]:List Nat).contains 4=true:=rfl;have lk4:∀a b c d:MV,dB "held_water" [("point",a),("size",b),("date",c),("held_water",d)]=some d:=λ_ _ _ _=>rfl;have lkp:∀a b c d e:MV,dB "ponds" [("book",a),("ponds",b),("last_day",c),("all_days",d),("ran_out",e)]=some b:=λ_ _ _ _ _=>rfl;have pf:∀(a b c d v:MV),putF "held_water" v [("point",a),("size",b),("date",c),("held_water",d)]=[("point",a),("size",b),("date",c),("held_water",v)]:=λ_ _ _ _ _=>rfl;unfold poO at ho;simp only[cL,eV,fe,bO,cD,cy,uJ,aN,aS,aT,h7o,c4,lkp,true_and,HQ,h7p,hd,zH,ho,c5,lk4,wU,pf];have keep:∀{n:Nat}{xs:List MV},h7[n]?=some (.lst xs)->(h7.set xx.2 (poO (xx.1.add p.2)))[n]?=some (.lst xs):=λe=>bZ e (dN ho e (by simp));refine⟨by simp,lx,⟨f7.trans (Off.set.mono λn hn=>by rw[c6.mp hn];exact hxa),?_,keep a1,keep a2,keep a3⟩,_,_,_,rfl⟩;rw[tk,uI];exact S8
  ·rw[cY,mH (aY _)]at S7;exact⟨f7,S7,a1,a2,a3⟩
 rintro _ h7 ⟨⟨f7,S7,g17,gq7,ez7⟩,u7,v7,t7,rfl⟩;have h7o:=S7.of.ob;have n7:=bU h7o;have ap7:=S7.of.ap;have S8:=S7.setO (ro':=ro+dL b (cP b n y) (wsA W) 0) S7.of.la ⟨ap7.1,ap7.2.2.1,ap7.2.2.2.2.1⟩;have keep8:∀{y:MO}{n:Nat}{xs:List MV},h7[n]?=some (.lst xs)->(h7.set o y)[n]?=some (.lst xs):=λe=>bZ e (dN h7o e (by simp));have lkr:∀a b c d e:MV,dB "ran_out" [("book",a),("ponds",b),("last_day",c),("all_days",d),("ran_out",e)]=some e:=λ_ _ _ _ _=>rfl;have pfr:∀a b c d e v:MV,putF "ran_out" v [("book",a),("ponds",b),("last_day",c),("all_days",d),("ran_out",e)]=[("book",a),("ponds",b),("last_day",c),("all_days",d),("ran_out",v)]:=λ_ _ _ _ _ _=>rfl;have c4:([4]:List Nat).contains 4=true:=rfl;have t0:atN (tab n (dL b (cP b n y) (wsA W))) 0=some (.int (dL b (cP b n y) (wsA W) 0)):=oh (k:=0) (by lia);simp only[bO,zH,aN,aS,aT,h7o,c4,lkr,true_and,cy,w_c,jO,j1,mS,ez7,t0,wU,pfr,eI,pZ,ba,aR];refine⟨by simp,n7,by simp,?_⟩;have F:Off (o::ad::ps.map (·.2)) h (h7.set o (.ins 4 [("book",.ref bk),("ponds",.ref pd),("last_day",.ref ld5),("all_days",.ref ad),("ran_out",.int (ro+dL b (cP b n y) (wsA W) 0))])):=by
  refine⟨λm ob hm e=>?_,?_⟩
  ·have hm':m≠o/\m≠ad/\m∉ps.map (·.2):=by simpa[not_or] using hm
   have e1:=f1.get e (by simp);have e4:=P.get e1;have lm:=bU e;have e5:=f5.get e4 (by simpa using hm'.1);have e6:=f6.get e5 (by simp[hm'.2.1];lia);have e7:=f7.get e6 hm'.2.2;exact bZ e7 hm'.1.symm
  ·have:=f5.2;have:=f6.2;have:=f7.2;simp;lia
 exact q _ ld5 p1 q1 F (by lia) (by lia) (by lia) ne12 (keep8 g17) (keep8 gq7) S8
end
section
variable {h:MH}{o bk pd ld ad r d:Nat}{ro:Int}{ps:List (Po×Nat)}{L A:List (Str×Int)}{rs:List Rid}{b:List Nat}{Q:MV->MH->Prop}{E:Nat->MH->Prop}
theorem CK(B:b8 h bk r d rs)(R:cq h r b)(q:∀h',Pre h h'->Sy h' h.length bk (h.length+1) (h.length+2) (h.length+3) r d 0 [] [] [] rs b->Q .non h'):wp (oZ [.ref h.length,.ref bk]) (h++[.ins 4 []]) Q E:=by
 have ld:=bU B.dc;unfold oZ;refine bX (by rfl) ?_;simp[vq,putF];refine⟨by lia,by lia,by lia,?_⟩;refine q _ ⟨_,rfl⟩ ⟨⟨?_,?_,?_,?_,?_,by simp,by simp,by lia⟩,B.pre ⟨_,rfl⟩,R.pre ⟨_,rfl⟩⟩ <;> simp[poL,acL]
theorem cq.methR(R:cq h r b){f:Fn}{mth:String}{a:MA}{σ:MSt}{o':ME}(hm:(mth == "runs_to")=false)(ho:∀Q':MV->MH->Prop,wp (o' σ) h Q' E=Q' (.ref r) h):wp (aL 1 mth f o' a σ) h Q E=wp (a σ) h (λxs h2=>wp (f (.ref r::xs)) h2 Q E) E:=by
 obtain⟨⟨l,h1,h2⟩,w,fw⟩:=R;have lk:dB mth [("runs_to",MV.ref l)]=none:=by simp only[bK,hm,sm]
 simp only[rq,ho,h1,lk,true_and]
theorem Sy.friver(S:Sy h o bk pd ld ad r d ro ps L A rs b){σ:MSt}(hs:σ[0]?=some (some (.ref o)))(Q':MV->MH->Prop):wp (aL 3 "river" ee (aV (af 0) [4] "book") au σ) h Q' E=Q' (.ref r) h:=by
 rw[S.bk.methO (by decide) (S.fbook hs),aR];exact propext (iO S.bk)
theorem Dy(S:Sy h o bk pd ld ad r d ro ps L A rs b){x:Po}(w0:x.wt=0)(hk:x.nm∉ps.map (·.1.nm))(hp:x.pt<b.length+1)(few:ps.length<900)
  (q:∀h' a,Off [pd] h h'->h.length≤a->Sy h' o bk pd ld ad r d ro (ps++[(x,a)]) L A rs b->Q (.int (ps.length+1)) h'):wp (oP [.ref o,.str x.nm,.int x.pt,.int x.sz,.int x.dt]) h Q E:=by
 obtain⟨S1,S2,S3⟩:=id S;have h1:=S1.ob;have h2:=S1.pn;have ap:=S1.ap;have g:(dget x.nm (poL ps)).isSome=false:=by rw[zd hk];rfl
 have cp:=λQ'=>mM (Q:=Q') (E:=E) (p:=x.pt) S3 (by lia) (by lia);have lp:=bU h2;unfold oP;refine bX (by rfl) ?_;unfold vh;refine bu (R:=λσ h1=>h=h1/\σ=[some (.ref o),some (.str x.nm),some (.int x.pt),some (.int x.sz),some (.int x.dt)]) (by simp[h1,h2,g,bK]) ?_;rintro _ _ ⟨rfl,rfl⟩;refine bu (R:=λσ h1=>h=h1/\σ=[some (.ref o),some (.str x.nm),some (.int x.pt),some (.int x.sz),some (.int x.dt)]) ?_ ?_
 ·rw[cS,S3.methR (by decide) (S.friver rfl)];simp only[ba,aR,aN,aS,aT,cp];exact⟨_,rfl,by trivial,rfl⟩
 rintro _ _ ⟨rfl,rfl⟩;have dp:dput x.nm (.ref h.length) (poL ps)=poL (ps++[(x,h.length)]):=by
  unfold dput;rw[if_neg (by rw[g];exact bT)];simp[poL]
 have g1:∀t,(h++t)[o]?=some (.ins 4 [("book",.ref bk),("ponds",.ref pd),("last_day",.ref ld),("all_days",.ref ad),("ran_out",.int ro)]):=λt=>dW h1;have g2:∀t,(h++t)[pd]?=some (.dct (poL ps)):=λt=>dW h2;have hl:(poL ps).length<1000:=by simp[poL];lia
 refine bu (R:=λσ h'=>(∃a,Off [pd] h h'/\h.length≤a/\Sy h' o bk pd ld ad r d ro (ps++[(x,a)]) L A rs b)/\σ=[some (.ref o),some (.str x.nm),some (.int x.pt),some (.int x.sz),some (.int x.dt)]) ?_ ?_
 ·simp[t6];refine bX (by rfl) ?_;simp[sF,putF,g1,g2,bK,hl,dp];have px:poO x=.ins 5 [("point",.int x.pt),("size",.int x.sz),("date",.int x.dt),("held_water",.int 0)]:=by unfold poO;rw[w0]
  rw[←px];have P:Pre h (h++[poO x]):=Pre.app _;have S':=S.pre P;refine⟨by lia,Off.trans P.off Off.set,h.length,aY _,⟨⟨bZ S'.of.ob (dN S'.of.pn S'.of.ob (by simp)),?_,bZ S'.of.la ap.1,bZ S'.of.al ap.2.1,λy hy=>?_,?_,?_,ap⟩,?_,?_⟩⟩
  ·rw[fZ (by simp;lia)]
  ·rcases fY.mp hy with hy|hy
   ·exact bZ (S'.of.it y hy) (dN S'.of.pn (S'.of.it y hy) (by simp[poO]))
   ·rw[c6.mp hy];exact bZ cb (by lia)
  ·rw[jc,iQ];refine⟨S1.nm,by simp,λa ha c hc e=>?_⟩;simp at hc;subst hc;exact hk (e▸ha)
  ·rw[jc,iQ];refine⟨S1.nd,by simp,λa ha c hc e=>?_⟩;simp at hc;subst hc;obtain⟨y,hy,ey⟩:=dl.mp ha;have:=bU (S1.it y hy);lia
  ·exact S'.book_set S'.of.pn ap.2.2.2.1.symm (λ_=>by simp) (λ_=>by simp)
  ·exact S'.river_set S'.of.pn (λ_=>by simp) (λ_=>by simp)
 rintro _ h3 ⟨⟨a,o3,la,S3'⟩,rfl⟩;have k1:=S3'.of.ob;have k2:=S3'.of.pn;simp[k1,k2,bK,poL];have:=q h3 a o3 la S3';simpa using this
end
def mvR(k:Str)(p:Nat)(z:Rt):Rt:=if z.nm=k then { z with pt:=p } else z
def mvL(k:Str)(p:Nat)(l:List Rt):List Rt:=l.map (mvR k p)
theorem GY{A:List Rt}{k p:Nat}{x:Rt}(n:Names A)(ex:A[k]?=some x):d3 (mvL x.nm p A)=(d3 A).set k (p,x.am):=by
 apply iK;intro i;unfold d3 mvL;rw[dG,bz];by_cases c:i=k
 ·subst c;have hk:=(bF.mp ex).1;rw[ex,fZ (by simpa using hk)];simp[mvR]
 ·rw[gF (by lia),bz];cases ez:A[i]? with
  |none=>rfl
  |some z=>
    have:=n.get ez ex c;simp[mvR,this]
section
variable {h:MH}{bk r d:Nat}{rs:List Rid}{b:List Nat}{Q:MV->MH->Prop}{E:Nat->MH->Prop}
theorem Bd{k p:Nat}{x:Rt}(B:b8 h bk r d rs)(hz:rs.length<64)(ex:(aged (aJ rs))[k]?=some x)(sok:∀x∈aJ rs,PySem.PyData.strOk x.nm=true)
  (q:∀h' c,Pre h h'->h'[c]?=some (.lst ((d3 (mvL x.nm p (aged (aJ rs)))).map Want.v))->Q (.ref c) h'):wp (qX [.ref bk,.str x.nm,.int p]) h Q E:=by
 unfold qX;refine bX (by rfl) ?_;have hz':(aJ rs).length<64:=by simpa[aJ] using hz
 have pm:=jp B.nm hz';have nA:Names (aged (aJ rs)):=by
  unfold Names;exact(pm.map _).nodup_iff.mpr B.nm
 refine bu (R:=λσ h1=>∃c,Pre h h1/\h.length≤c/\h1[c]?=some (.lst ((d3 (aged (aJ rs))).map Want.v))/\σ=[some (.ref bk),some (.str x.nm),some (.int p),some (.ref c),none]) ?_ ?_
 ·rw[cD,cu];simp only[ba,aR,aN];exact r0 B hz λh1 p1=>⟨_,rfl,h1.length,p1.snoc _,p1.len,cb,rfl⟩
 rintro _ h1 ⟨c,p1,lc,g1,rfl⟩;have B1:=B.pre p1;have fx:∀g:MH,ft g (.str x.nm) ((aged (aJ rs)).map λx=>MV.str x.nm)=some k:=λg=>by
  refine xp (f:=λz:Rt=>MV.str z.nm) (g:=λz=>.str z.nm) (λi y _ ey=>⟨rfl,?_⟩) ex (λi y hi ey=>?_) ?_
  ·simp[PySem.SeqAt.shaped,PySem.PyData.canLay0,PySem.PyData.depth,sok y (pm.mem_iff.mp (dF ey))]
  ·have:=nA.get ey ex (by lia);simp[PySem.PyData.eqv,this]
  ·simp[PySem.PyData.eqv]
 have sx:PySem.SeqAt.shaped (.str x.nm)=true:=by simp[PySem.SeqAt.shaped,PySem.PyData.canLay0,PySem.PyData.depth,sok x (pm.mem_iff.mp (dF ex))]
 refine bu (R:=λσ h2=>Pre h1 h2/\σ=[some (.ref bk),some (.str x.nm),some (.int p),some (.ref c),some (.int k)]) ?_ ?_
 ·rw[cD,Fv,yO,B1.meth (by decide) rfl,aR];refine q0 B1 hz ?_;simp only[cb,aN,aS,aT];exact Cl cb rfl sx (fx _) ⟨_,rfl,Pre.app _,rfl⟩
 rintro _ h2 ⟨p2,rfl⟩;have g2:=p2.get g1;have hk:=(bF.mp ex).1;have wl:((d3 (aged (aJ rs))).map Want.v).length=(aged (aJ rs)).length:=by simp[d3]
 have gk:atN ((d3 (aged (aJ rs))).map Want.v) (k:Int)=some (.tup [.int x.pt,.int x.am]):=by
  rw[nU,bz];unfold d3;rw[bz,ex];rfl
 have ix:ixN ((d3 (aged (aJ rs))).map Want.v).length (k:Int)=some k:=oF (by rw[wl];exact hk);have c1:∀u v:MV,atN [u,v] 1=some v:=λ_ _=>rfl;have st:((d3 (aged (aJ rs))).map Want.v).set k (.tup [.int p,.int x.am])=(d3 (mvL x.nm p (aged (aJ rs)))).map Want.v:=by
  rw[GY nA ex,List.map_set];rfl
 have l2:=bU g2;refine bu (R:=λσ h3=>h3=h2.set c (.lst ((d3 (mvL x.nm p (aged (aJ rs)))).map Want.v))/\σ=[some (.ref bk),some (.str x.nm),some (.int p),some (.ref c),some (.int k)]) ?_ ?_
 ·simp only[ss,pZ,ba,aR,cy,aN,w_c,aS,aT,mS,g2,gk,jO,c1,eQ,iN,lF,ix,st];exact⟨by decide,l2,_,rfl,by trivial,rfl⟩
 rintro _ _ ⟨rfl,rfl⟩;simp only[eI,aN,aS,aT];exact q _ c ((p1.trans p2).set lc) (fB l2)
end
section
variable {h:MH}{r:Nat}{b:List Nat}{Q:MV->MH->Prop}{E:Nat->MH->Prop}
def eW(b:List Nat)(n:Nat)(y:Nat->Int):Prop:=n≠b.length+1∨∃k,k<n/\(y k<0∨1000000<y k)
theorem DZ{a n:Nat}{y:Nat->Int}(R:cq h r b)(ha:h[a]?=some (.lst (tab n y)))(hn:eW b n y)(q:E 102 h):wp (lC [.ref r,.ref a]) h Q E:=by
 unfold lC;refine bX (by rfl) ?_;change wp (lS [some (.ref r),some (.ref a),none]) _ _ _;unfold lS;by_cases ne:(n:Int)=(b.length:Int)+1
 ·refine bu (R:=λσ h1=>h=h1/\σ=[some (.ref r),some (.ref a),none]) ?_ ?_
  ·rw[fV,fh,cy];simp only[fM,aN,bS,jS,rg,nj,aT,aS,lP,ha,eL];rw[R.meth (by decide) rfl];simp[jF R,ne]
  rintro _ _ ⟨rfl,rfl⟩;rw[gJ];refine cN (iz rfl ha) ?_;refine fE (λk σ h'=>h'=h/\(∀j,j<k->¬(y j<0∨1000000<y j))/\∃x,σ=[some (.ref r),some (.ref a),x]) (λ_ _ _ i=>by rw[i.1];exact f9 ha) (λk x σ h' hx ⟨eh,gd,u,es⟩=>?_) (λσ h' ⟨eh,gd,u,es⟩=>?_) ⟨rfl,λ_ z=>absurd z (oH _),_,rfl⟩
  ·subst eh;subst es;have hk:k<n:=by
    have:=(bF.mp hx).1;simpa[eL] using this
   rw[bz,i8 hk]at hx;cases hx
   by_cases c1:y k<0
   ·simp[cL,c1];exact q
   ·by_cases c2:1000000<y k
    ·simp[cL,c1,c2];exact q
    ·simp[cL,c1,c2];intro j hj;by_cases e:j=k
     ·subst e;lia
     ·have:=gd j (by lia);lia
  ·exfalso;rcases hn with z|⟨k,hk,z⟩
   ·lia
   ·rw[cY,eL]at gd;exact gd k hk z
 ·rw[bO];rw[fV,fh,cy,fM,aN];simp only[aS,aT,lP,ha,eL];rw[R.meth (by decide) rfl,aR,jF R,Ag];simp only[ne,decide_false,Bool.not_false,if_true,EA,ba,aR,w_c];exact⟨by simp,q⟩
theorem wE{a c n:Nat}{y:Nat->Int}(R:cq h r b)(ha:h[a]?=some (.lst (tab n y)))(hn:eW b n y)(q:E 102 h):wp (jV [.ref r,.ref a,.ref c]) h Q E:=by
 unfold jV;refine bX (by rfl) ?_;unfold uF;rw[bO,cS,cu];show wp (aj (af 0) (aj (af 1) au) [some (.ref r),some (.ref a),some (.ref c),none,none,none]) h _ E;simp only[ba,aR,aN,aS,aT];exact DZ R ha hn q
theorem se{a c n:Nat}{y:Nat->Int}(R:cq h r b)(ha:h[a]?=some (.lst (tab n y)))(hn:eW b n y)(q:∀h',Pre h h'->E 102 h'):wp (gX [.ref r,.ref a,.ref c]) h Q E:=by
 unfold gX;refine bX (by rfl) ?_;unfold tS;have few:=R.few;have R1:=R.pre (Pre.app (.lst [MV.int 0]));rw[bO,cD,cu];show wp (aj (af 0) (aj (af 1) (aj (aA j8 (eE (aj (eC (.int 0)) au)) (aL 1 "points" fG (af 0) au)) au)) [some (.ref r),some (.ref a),some (.ref c),none,none,none,none,none,none,none]) h _ E;simp only[ba,aR,aN,aS,aT,cy,lH,w_c,eQ,iN];refine⟨by decide,?_⟩;rw[R1.meth (by decide) rfl,aR,jF R1,yw];simp only[cb];refine⟨⟨by lia,by lia,by simp;lia⟩,?_⟩;have p2:=(Pre.app (h:=h) (.lst [MV.int 0])).snoc (.lst (cr ((b.length:Int)+1).toNat [MV.int 0]).flatten);exact wE (R.pre p2) (p2.get ha) hn (q _ p2)
end
section
variable {h:MH}{bk r d:Nat}{rs:List Rid}{b:List Nat}{Q:MV->MH->Prop}{E:Nat->MH->Prop}
theorem Cw{yc k p a n:Nat}{y:Nat->Int}{x:Rt}(B:b8 h bk r d rs)(R:cq h r b)(hz:rs.length<64)(y1:h[yc]?=some (.lst [.ref a]))(ha:h[a]?=some (.lst (tab n y)))(bad:eW b n y)(hpp:p<b.length+1)(ex:(aged (aJ rs))[k]?=some x)(sok:∀x∈aJ rs,PySem.PyData.strOk x.nm=true)
  (q:∀h',Pre h h'->E 102 h'):wp (jt [.ref bk,.ref yc,.str x.nm,.int p]) h Q E:=by
 unfold jt;refine bX (by rfl) ?_;change wp (rm [some (.ref bk),some (.ref yc),some (.str x.nm),some (.int p),none,none,none,none,none,none,none,none,none,none,none]) _ _ _;unfold rm;have hz':(aJ rs).length<64:=by simpa[aJ] using hz
 obtain⟨xi,hxi,exi⟩:∃xi∈rs,xi.1=x:=dl.mp ((jp B.nm hz').mem_iff.mp (dF ex));rw[bO,cS,B.meth (by decide) rfl];simp only[ba,aR,aN,aS,aT];rw[←exi,jA B hxi,exi,bO,cD,B.meth (by decide) rfl,aR,iO B];simp only[eV,fe];rw[bO,cS,R.meth (by decide) rfl];simp only[ba,aR,aN,aS,aT,eV,fe];rw[mM R (by lia) (by lia)]
 try dsimp only
 rw[bO,cD,B.meth (by decide) rfl,aR];refine q0 B hz ?_;have p1:Pre h (h++[.lst ((aged (aJ rs)).map λx=>.str x.nm)]):=Pre.app _;have g1:(h++[MO.lst ((aged (aJ rs)).map λx=>.str x.nm)])[h.length]?=some (.lst ((aged (aJ rs)).map λx=>.str x.nm)):=cb;generalize h++[MO.lst ((aged (aJ rs)).map λx=>.str x.nm)]=h1 at p1 g1
 try dsimp only
 rw[bO,cD,cu];simp only[ba,aR,aN,aS,aT,eV,fe];refine r0 (B.pre p1) hz λh2 p2=>?_;have p3:=p1.trans (p2.snoc (.lst ((d3 (aged (aJ rs))).map Want.v)));have g3:=(p2.snoc (.lst ((d3 (aged (aJ rs))).map Want.v))).get g1
 try dsimp only
 rw[bO,cD,cu];simp only[ba,aR,aN,aS,aT,eV,fe];refine Bd (B.pre p3) hz ex sok λh4 c p4 g4=>?_;have p5:=(p3.trans p4).snoc (.dct []);have g5:=dW (g:=[MO.dct []]) (p4.get g3);have y5:=p5.get y1;have d5:(h4++[MO.dct []])[h4.length]?=some (.dct []):=cb
 try dsimp only
 rw[bO,cD,BD];generalize h4.length=dn at d5;generalize h4++[MO.dct []]=h5 at p5 g5 y5 d5;simp only[eV,fe];rw[bO,gJ];refine cN (iz (n:=yc) (h':=h5) (fW (by simp)) y5) ?_;refine fE (λk σ h'=>k=0/\h5=h'/\σ=[some (.ref bk),some (.ref yc),some (.str x.nm),some (.int p),some (.ref r),some (.ref h.length),some (.ref h2.length),some (.ref c),some (.ref dn),none,none,none,none,none,none]) (λ_ _ _ i=>i.2.1▸f9 y5) (λk v σ h' hv i=>?_) (λσ h' i=>by simp at i) ⟨rfl,rfl,rfl⟩;obtain⟨rfl,rfl,rfl⟩:=i;simp at hv;subst hv;simp only[cL,eV,fe];rw[bO,cD,cy,cu];simp only[ba,aR,aN,aS,aT];exact se (R.pre p5) (p5.get ha) bad λh' p'=>q h' (p5.trans p')
theorem E3{yc:Nat}{k p:MV}(w:wp (jt [.ref bk,.ref yc,k,p]) h (λ_ _=>False) E):wp (pK [.ref bk,.ref yc,k,p]) h Q E:=by
 unfold pK;refine bX (by rfl) ?_;unfold sN;rw[bO];show wp (sIf _ _ _ [some (.ref bk),some (.ref yc),some k,some p,none]) h _ E;rw[fV,fh,cy,fM,cu];simp only[ba,aR,aN,aS,aT];exact dR w (λ_ _ z=>z.elim) λ_ _ z=>z
end
section
variable {h:MH}{o bk pd ld ad r d:Nat}{ro:Int}{ps:List (Po×Nat)}{L A:List (Str×Int)}{rs:List Rid}{b:List Nat}{Q:MV->MH->Prop}{E:Nat->MH->Prop}
end
theorem Dq{rs:List Rid}{ps:List (Po×Nat)}(n:Names (aJ rs))(hz:rs.length<40)(np:(ps.map (·.1.nm)).Nodup)(hp:ps.length<20):(cK rs ps).length=rs.length+ps.length:=by
 have hz':(aJ rs).length<64:=by simp[aJ];lia
 have al:(aged (aJ rs)).length=rs.length:=by rw[kM n hz',cY]
 unfold cK;rw[uj (mU n (by lia) np) (by simp[du,al];lia)];simp[du,al]
section
variable {h:MH}{o bk pd ld ad r d:Nat}{ro:Int}{ps:List (Po×Nat)}{L A:List (Str×Int)}{rs:List Rid}{b:List Nat}{Q:MV->MH->Prop}{E:Nat->MH->Prop}
theorem yd{a n:Nat}{y:Nat->Int}(B:b8 h bk r d rs)(R:cq h r b)(hz:rs.length<64)(ha:h[a]?=some (.lst (tab n y)))(hn:eW b n y)(q:∀h',Pre h h'->E 102 h'):wp (nv [.ref bk,.ref a]) h Q E:=by
 unfold nv;refine bX (by rfl) ?_;change wp (r6 [some (.ref bk),some (.ref a),none]) _ _ _;unfold r6;rw[bO,cD,cy,cu,ba,B.meth (by decide) rfl,aR,iO B];simp only[ba,aR,aN,cu,aS,aT];refine r0 B hz λh' p=>?_;exact se (R.pre (p.snoc _)) ((p.snoc _).get ha) hn λh2 p2=>q h2 ((p.snoc _).trans p2)
theorem F1{a n:Nat}{y:Nat->Int}(B:b8 h bk r d rs)(R:cq h r b)(hz:rs.length<64)(ha:h[a]?=some (.lst (tab n y)))(hn:eW b n y)(q:∀h',Pre h h'->E 102 h'):wp (mE [.ref bk,.ref a]) h Q E:=by
 unfold mE;refine bX (by rfl) ?_;change wp (q9 [some (.ref bk),some (.ref a)]) _ _ _;unfold q9;rw[eI,cy,cu,ba,B.meth (by decide) rfl,aR,iO B];simp only[ba,aR,aN,cu,aS,aT];refine r0 B hz λh' p=>?_;exact se (R.pre (p.snoc _)) ((p.snoc _).get ha) hn λh2 p2=>q h2 ((p.snoc _).trans p2)
theorem AM{a n:Nat}{y:Nat->Int}(B:b8 h bk r d rs)(R:cq h r b)(hz:rs.length<64)(ha:h[a]?=some (.lst (tab n y)))(hn:eW b n y)(q:∀h',Pre h h'->E 102 h'):wp (nL [.ref bk,.ref a]) h Q E:=by
 unfold nL;refine bX (by rfl) ?_;change wp (qm [some (.ref bk),some (.ref a)]) _ _ _;unfold qm dD jo;rw[eI,aM,aM,cu];simp only[ba,aR,aN,aS,aT];exact yd B R hz ha hn q
theorem zI{a n:Nat}{y:Nat->Int}{k:MV}(B:b8 h bk r d rs)(R:cq h r b)(hz:rs.length<64)(ha:h[a]?=some (.lst (tab n y)))(hn:eW b n y)(q:∀h',Pre h h'->E 102 h'):wp (mG [.ref bk,.ref a,k]) h Q E:=by
 unfold mG;refine bX (by rfl) ?_;change wp (qB [some (.ref bk),some (.ref a),some k,none,none,none,none]) _ _ _;unfold qB;rw[bO,cD,cu];simp only[ba,aR,aN,aS,aT];exact AM B R hz ha hn q
theorem E4{a n:Nat}{y:Nat->Int}{k:MV}(B:b8 h bk r d rs)(R:cq h r b)(hz:rs.length<64)(ha:h[a]?=some (.lst (tab n y)))(hn:eW b n y)(q:∀h',Pre h h'->E 102 h'):wp (rO [.ref bk,.ref a,k]) h Q E:=by
 unfold rO;refine bX (by rfl) ?_;change wp (pM [some (.ref bk),some (.ref a),some k,none,none,none]) _ _ _;unfold pM;rw[bO,cD,R.methR (by decide) λQ'=>by rw[B.meth (by decide) rfl,aR];exact propext (iO B)];simp only[ba,aR,aN,cu,aS,aT];exact zI B R hz ha hn q
theorem EW{a n:Nat}{y:Nat->Int}(S:Sy h o bk pd ld ad r d ro ps L A rs b)(hz:rs.length<40)(hp:ps.length<20)(ha:h[a]?=some (.lst (tab n y)))(hn:eW b n y)(q:∀h',Off [] h h'->E 102 h'):wp (iY [.ref o,.ref a]) h Q E:=by
 have hz':(aJ rs).length<64:=by simp[aJ];lia
 have al:(aged (aJ rs)).length=rs.length:=by rw[kM S.bk.nm hz',cY]
 have lW:(que (du rs ps)).length<60:=by
  rw[uj (mU S.bk.nm (by lia) S.of.nm) (by simp[du,al];lia)];simp[du,al];lia
 unfold iY;refine bX (by rfl) ?_;change wp (ku [some (.ref o),some (.ref a),none,none,none,none,none,none,none]) _ _ _;unfold ku;refine bu (R:=λσ h1=>∃w,Off [] h h1/\h1[w]?=some (.lst ((que (du rs ps)).map Wn.row))/\σ=[some (.ref o),some (.ref a),some (.ref w),none,none,none,none,none,none]) ?_ ?_
 ·rw[cD,S.meth (by decide) rfl,aR];exact vS S hz hp λh' w f l g=>⟨_,rfl,w,f,g,rfl⟩
 rintro _ h1 ⟨w,f1,gw,rfl⟩;have Sa:=S.off f1;have ga1:=f1.get ha (by simp);rw[bO,cD,cu,ba,Sa.bk.methO (by decide) (Sa.fbook rfl),aR,iO Sa.bk,ba,aN];simp only[aS,aT,ba];generalize que (du rs ps)=W at gw lW;have e1:(af 2) [some (.ref o),some (.ref a),some (.ref w),none,none,none,none,none,none] h1=.ok (.ref w) h1:=fW (by simp);refine lE W (λx=>[x.row]) (λ_=>true) (λx=>Want.v (x.pt,x.am)) (iz e1 gw) (by simp) (λh' p'=>f9 (p'.get gw)) (by lia) (λx hx h2 p2=>?_) (λx hx _ h2 p2=>?_) λh2 p2=>?_
 ·simp[ff,bC,Pre.refl]
 ·have c3:¬(dM 5 0 (some 3)=0/\dM 5 5 none=5):=by decide
  rw[t8,aN];simp only[bS,jS,rg,nj,aS,aT,tU,tI,w_c,Wn.row,sX];exact⟨c3,rfl,.refl⟩
 ·rw[pR,aR];exact se (Sa.rv.pre (p2.snoc _)) ((p2.snoc _).get ga1) hn λh' p=>q h' (f1.trans ((p2.snoc _).trans p).off)
theorem CC{a n:Nat}{y:Nat->Int}{i:Nat}{x:Rid}(S:Sy h o bk pd ld ad r d ro ps L A rs b)(hz:rs.length<40)(hp:ps.length<20)(ha:h[a]?=some (.lst (tab n y)))(hn:eW b n y)(pr:∀x∈aJ rs,x.pt<b.length+1)(hx:x∈rs)(nx:x.1.nm=aF "a")(sok:∀x∈aJ rs,PySem.PyData.strOk x.nm=true)(hi:i<9)(q:∀h',Off [] h h'->E 102 h'):wp (o8 [.ref o,.ref bk,.int i,.ref a]) h Q E:=by
 have few:=S.rv.few;have hz':(aJ rs).length<64:=by simp[aJ];lia
 obtain⟨kk,ekk⟩:=n8 ((jp S.bk.nm hz').mem_iff.mpr (qh (f:=λx:Rid=>x.1) hx));have hbad:∀(h1:MH) (yc:Nat),Pre h h1->h1[yc]?=some (.lst [.ref a])->wp (jt [.ref bk,.ref yc,.str (aF "a"),.int (0:Nat)]) h1 (λ_ _=>False) E:=λh1 yc p g=>by
  rw[←nx];exact Cw (S.bk.pre p) (S.rv.pre p) (by lia) g (p.get ha) hn (by lia) ekk sok λh' p'=>q h' (p.trans p').off
 unfold o8;refine bX (by rfl) ?_;change wp (rK [some (.ref o),some (.ref bk),some (.int i),some (.ref a)]) _ _ _;unfold rK;have skip:∀(j:Int) (s s':MS) (Q':MF->MH->Prop),(i:Int)≠j->wp (aB (sIf (aA oEq (af 2) (eC (.int j))) s bH) s' [some (.ref o),some (.ref bk),some (.int i),some (.ref a)]) h Q' E=wp (s' [some (.ref o),some (.ref bk),some (.int i),some (.ref a)]) h Q' E:=λj s s' Q' ne=>by
  rw[bO,fV,fh];simp[ne]
 have hit:∀(s:MS) (Q':MF->MH->Prop),wp (sIf (aA oEq (af 2) (eC (.int i))) s bH [some (.ref o),some (.ref bk),some (.int i),some (.ref a)]) h Q' E=wp (s [some (.ref o),some (.ref bk),some (.int i),some (.ref a)]) h Q' E:=λs Q'=>by
  rw[fV,fh];simp
 have rv:∀Q':MV->MH->Prop,wp (aL 3 "river" ee (af 1) au [some (.ref o),some (.ref bk),some (.int i),some (.ref a)]) h Q' E=Q' (.ref r) h:=λQ'=>by
  rw[S.bk.meth (by decide) rfl,aR];exact propext (iO S.bk)
 have q':∀h',Pre h h'->E 102 h':=λh' p=>q h' p.off;rcases(by lia:i=0∨i=1∨i=2∨i=3∨i=4∨i=5∨i=6∨i=7∨i=8) with rfl|rfl|rfl|rfl|rfl|rfl|rfl|rfl|rfl
 ·rw[bO,show(0:Int)=((0:Nat):Int) from rfl,hit,cS,cu,ba,rv];simp only[ba,aR,aN,aS,aT];have hs:fF (aL 1 "points" fG (aL 3 "river" ee (af 1) au) au) [some (.ref o),some (.ref bk),some (.int ((0:Nat):Int)),some (.ref a)] h=.ok ⟨dk 0 (b.length+1),[]⟩ h:=by
   have w:wp (fF (aL 1 "points" fG (aL 3 "river" ee (af 1) au) au) [some (.ref o),some (.ref bk),some (.int ((0:Nat):Int)),some (.ref a)]) h (λs h1=>s=⟨dk 0 (b.length+1),[]⟩/\h1=h) noE:=by
    rw[Hc,S.rv.methR (by decide) λQ'=>by rw[S.bk.meth (by decide) rfl,aR];exact propext (iO S.bk)];simp[jF S.rv];lia
   obtain⟨s,h1,e,rfl,rfl⟩:=jR w;exact e
  refine lE (cz (b.length+1)) (λ(k:Nat)=>[.int (0+(k:Int))]) (λ_=>true) (λ_=>.int 0) hs rfl (λ_ _=>rfl) (by simp;lia) (λp hp h2 p2=>?_) (λp hp _ h2 p2=>?_) λh2 p2=>?_
  ·simp[ff,bC,Pre.refl]
  ·simp[Pre.refl]
  ·exact wE (S.rv.pre (p2.snoc _)) ((p2.snoc _).get ha) hn (q' _ (p2.snoc _))
 ·rw[skip 0 _ _ _ (by decide),bO,show(1:Int)=((1:Nat):Int) from rfl,hit,cS,cu];simp only[ba,aR,aN,aS,aT];exact yd S.bk S.rv (by lia) ha hn q'
 ·rw[skip 0 _ _ _ (by decide),skip 1 _ _ _ (by decide),bO,show(2:Int)=((2:Nat):Int) from rfl,hit,cS,cu];simp only[ba,aR,aN,aS,aT];exact F1 S.bk S.rv (by lia) ha hn q'
 ·rw[skip 0 _ _ _ (by decide),skip 1 _ _ _ (by decide),skip 2 _ _ _ (by decide),bO,show(3:Int)=((3:Nat):Int) from rfl,hit,cS,cu];simp only[ba,aR,aN,aS,aT];exact AM S.bk S.rv (by lia) ha hn q'
 ·rw[skip 0 _ _ _ (by decide),skip 1 _ _ _ (by decide),skip 2 _ _ _ (by decide),skip 3 _ _ _ (by decide),bO,show(4:Int)=((4:Nat):Int) from rfl,hit,cS,cu];simp only[ba,aR,aN,w_c,aS,aT];exact zI S.bk S.rv (by lia) ha hn q'
 ·rw[skip 0 _ _ _ (by decide),skip 1 _ _ _ (by decide),skip 2 _ _ _ (by decide),skip 3 _ _ _ (by decide),skip 4 _ _ _ (by decide),bO,show(5:Int)=((5:Nat):Int) from rfl,hit,cS,cu];simp only[ba,aR,aN,w_c,aS,aT];exact E4 S.bk S.rv (by lia) ha hn q'
 ·rw[skip 0 _ _ _ (by decide),skip 1 _ _ _ (by decide),skip 2 _ _ _ (by decide),skip 3 _ _ _ (by decide),skip 4 _ _ _ (by decide),skip 5 _ _ _ (by decide),bO,show(6:Int)=((6:Nat):Int) from rfl,hit,cS,cu];simp only[ba,aR,aN,w_c,lH,aS,aT];exact⟨by simp,dR (hbad _ _ (Pre.app _) cb) (λ_ _ z=>z.elim) λ_ _ z=>z⟩
 ·rw[skip 0 _ _ _ (by decide),skip 1 _ _ _ (by decide),skip 2 _ _ _ (by decide),skip 3 _ _ _ (by decide),skip 4 _ _ _ (by decide),skip 5 _ _ _ (by decide),skip 6 _ _ _ (by decide),bO,show(7:Int)=((7:Nat):Int) from rfl,hit,cS,cu];simp only[ba,aR,aN,w_c,lH,aS,aT];exact⟨by simp,E3 (hbad _ _ (Pre.app _) cb)⟩
 ·rw[skip 0 _ _ _ (by decide),skip 1 _ _ _ (by decide),skip 2 _ _ _ (by decide),skip 3 _ _ _ (by decide),skip 4 _ _ _ (by decide),skip 5 _ _ _ (by decide),skip 6 _ _ _ (by decide),skip 7 _ _ _ (by decide),show(8:Int)=((8:Nat):Int) from rfl,hit,cS,S.meth (by decide) rfl];simp only[ba,aR,aN,aS,aT];exact EW S hz hp ha hn q
theorem FU{a n:Nat}{y:Nat->Int}{i:Nat}{x:Rid}(S:Sy h o bk pd ld ad r d ro ps L A rs b)(hz:rs.length<40)(hp:ps.length<20)(ha:h[a]?=some (.lst (tab n y)))(hn:eW b n y)(pr:∀x∈aJ rs,x.pt<b.length+1)(hx:x∈rs)(nx:x.1.nm=aF "a")(sok:∀x∈aJ rs,PySem.PyData.strOk x.nm=true)(hi:i<9)(q:∀h',Off [] h h'->Q (.bl true) h'):wp (qE [.ref o,.ref bk,.int i,.ref a]) h Q E:=by
 unfold qE;refine bX (by rfl) ?_;change wp (om [some (.ref o),some (.ref bk),some (.int i),some (.ref a),none,none]) _ _ _;unfold om;refine bu (R:=λσ h1=>h=h1/\σ=[some (.ref o),some (.ref bk),some (.int i),some (.ref a),some (.bl false),none]) (by simp) ?_;rintro _ _ ⟨rfl,rfl⟩;refine bu (R:=λσ h1=>Off [] h h1/\σ=[some (.ref o),some (.ref bk),some (.int i),some (.ref a),some (.bl true),none]) ?_ ?_
 ·rw[Gy,cS,cu];simp only[ba,aR,aN,aS,aT];refine CC S hz hp ha hn pr hx nx sok hi λh' f=>?_;simp[vL];exact f.trans (Pre.app _).off
 rintro _ h1 ⟨f,rfl⟩;simp;exact q h1 f
end
theorem AO:∀(l:List Int),∃f,zs l=tab l.length f:=λl=>⟨λk=>l.getD k 0,by
 unfold zs tab;apply iK;intro i;rw[bz,bz];by_cases h:i<l.length
 ·rw[hG h];simp[h]
 ·rw [iD (by lia),iD (by rw [List.length_range];lia)];rfl⟩
theorem sV{n k:Nat}{f:Nat->Int}{v:Int}:(tab n f).set k (.int v)=tab n λj=>if j=k then v else f j:=by
 apply iK;intro i;by_cases h:i<n
 ·rw[i8 h];by_cases e:k=i
  ·subst e;rw[fZ (by rw[eL];exact h)];simp
  ·rw[gF e,i8 h,if_neg λz=>e z.symm]
 ·rw[iD (by rw[uq,eL];lia),iD (by rw[eL];lia)]
theorem E7{h:MH}{a n:Nat}{y:Nat->Int}{b:List Nat}{way:Int}{ce ot:Int}{Q:MV->MH->Prop}{E:Nat->MH->Prop}(ha:h[a]?=some (.lst (tab n y)))(hn:n=b.length+1)(few:n≤8)(w0:0≤way)(w1:way<5)(q:∀h' c m f,Pre h h'->h'[c]?=some (.lst (tab m f))->eW b m f->Q (.ref c) h'):wp (pP [.ref a,.int way,.int ce,.int ot]) h Q E:=by
 unfold pP;refine bX (by rfl) ?_;change wp (pI [some (.ref a),some (.int way),some (.int ce),some (.int ot),none,none]) _ _ _;unfold pI;obtain⟨at',hat,atl⟩:∃at':Nat,ce%(n:Int)=(at':Int)/\at'<n:=by
  have u:=mx ce (show(n:Int)≠0 by lia);have v:=vg ce (show(0:Int)<n by lia);exact⟨(ce%(n:Int)).toNat,by lia,by lia⟩
 refine bu (R:=λσ h1=>h1=h++[.lst (tab n y)]/\σ=[some (.ref a),some (.int way),some (.int ce),some (.int ot),some (.ref h.length),none]) (by simp[ha]) ?_;rintro _ _ ⟨rfl,rfl⟩;have P:Pre h (h++[.lst (tab n y)]):=Pre.app _;have g:(h++[MO.lst (tab n y)])[h.length]?=some (.lst (tab n y)):=cb;obtain⟨c,hc⟩:∃c,c=h.length:=⟨_,rfl⟩;rw[←hc]at g;rw[←hc];have lc:h.length≤c:=by lia
 generalize h++[MO.lst (tab n y)]=h1 at P g;have cl:=bU g;have tl:=eL n y;refine bu (R:=λσ h2=>h1=h2/\σ=[some (.ref a),some (.int way),some (.int ce),some (.int ot),some (.ref c),some (.int at')]) ?_ ?_
 ·simp only[cD,cy,fM,aN,aS,aT,lP,g,tl,iU,hat];exact⟨by lia,_,rfl,trivial,rfl⟩
 rintro _ _ ⟨rfl,rfl⟩;have skip:∀(j:Int) (s s':MS) (Q':MF->MH->Prop) (hh:MH),way≠j->wp (aB (sIf (aA oEq (af 1) (eC (.int j))) s bH) s' [some (.ref a),some (.int way),some (.int ce),some (.int ot),some (.ref c),some (.int at')]) hh Q' E=wp (s' [some (.ref a),some (.int way),some (.int ce),some (.int ot),some (.ref c),some (.int at')]) hh Q' E:=λj s s' Q' hh ne=>by
  rw[bO,fV,fh];simp[ne]
 have hit:∀(j:Int) (s s':MS) (Q':MF->MH->Prop) (hh:MH),way=j->wp (aB (sIf (aA oEq (af 1) (eC (.int j))) s bH) s' [some (.ref a),some (.int way),some (.int ce),some (.int ot),some (.ref c),some (.int at')]) hh Q' E=wp (aB s s' [some (.ref a),some (.int way),some (.int ce),some (.int ot),some (.ref c),some (.int at')]) hh Q' E:=λj s s' Q' hh e=>by
  rw[bO,bO,fV,fh];simp[e]
 have done:∀{m:Nat}{f:Nat->Int},eW b m f->Q (.ref c) (h1.set c (.lst (tab m f))):=λ{m f} B=>q _ c m f (P.set lc) (fB cl) B;have ten:(0:Int)<10 ^ 29:=by decide
 have p29:(10:Int) ^ (29:Int).toNat=10 ^ 29:=rfl;have pw:(0:Int)≤29/\(29:Int)≤1000000/\(10:Int).natAbs<2 ^ 64:=by decide
 have ix:ixN n (at':Int)=some at':=oF atl;rcases(by lia:way=0∨way=1∨way=2∨way=3∨way=4) with e|e|e|e|e
 ·rw[hit 0 _ _ _ _ e];obtain⟨f,ef⟩:=AO (eB ((cz n).map y) at' 3);have e1:eB (tab n y) at' (.int 3)=tab (n+1) f:=by
   have:(eB ((cz n).map y) at' 3).length=n+1:=by simp[eB];lia
   rw[←this,←ef,xz];simp[eB,zs]
  have e2:jC n (at':Int)=at':=by unfold jC;rw[if_neg (by lia)];simp;lia
  have k:pJ (af 4) (af 5) (eC (.int 3)) [some (.ref a),some (.int way),some (.int ce),some (.int ot),some (.ref c),some (.int at')] h1=.ok .non (h1.set c (.lst (tab (n+1) f))):=by
   unfold pJ;have c1:n<100000/\(-1000000:Int)≤(at':Int)/\(at':Int)≤1000000:=by lia
   simp only[bnd,af,eC,ret,look,put,aS,aT,g,tl,c1,e2,e1,cl,and_self,if_true]
  rw[bO,cS];refine cN k ?_;dsimp only;rw[skip 1 _ _ _ _ (by lia),skip 2 _ _ _ _ (by lia),skip 3 _ _ _ _ (by lia),skip 4 _ _ _ _ (by lia),eI,aN];exact done (.inl (by lia))
 ·rw[skip 0 _ _ _ _ (by lia),hit 1 _ _ _ _ e];obtain⟨f,ef⟩:=AO (((cz n).map y).eraseIdx at');have e1:(tab n y).eraseIdx at'=tab (n-1) f:=by
   have:(((cz n).map y).eraseIdx at').length=n-1:=by rw[List.length_eraseIdx];simp[atl]
   rw[←this,←ef,xz];unfold zs;rw[AI,AI];simp
  have k:sH (af 4) (af 5) [some (.ref a),some (.int way),some (.int ce),some (.int ot),some (.ref c),some (.int at')] h1=.ok (.int (y at')) (h1.set c (.lst (tab (n-1) f))):=by
   refine fW ?_;have c1:(-1000000:Int)≤(at':Int)/\(at':Int)≤1000000:=by lia
   rw[HH,yO,aN];simp only[aS,aT,g,aN];refine cN (a:=.int (y at')) (h':=h1.set c (.lst (tab (n-1) f))) ?_ ⟨rfl,rfl⟩;simp only[pO,bnd,ret,look,put,g,tl,c1,ix,i8 atl,e1,cl,and_self,if_true]
  rw[bO,cS];refine cN k ?_;dsimp only;rw[skip 2 _ _ _ _ (by lia),skip 3 _ _ _ _ (by lia),skip 4 _ _ _ _ (by lia),eI,aN];exact done (.inl (by lia))
 ·rw[skip 0 _ _ _ _ (by lia),skip 1 _ _ _ _ (by lia),hit 2 _ _ _ _ e,bO];simp only[ss,cy,fM,w_c,aN,xS,zh,p29,aS,aT,iU,vH,lF,g,tl,ix,sV];refine⟨pw,ten,cl,?_⟩;rw[skip 3 _ _ _ _ (by lia),skip 4 _ _ _ _ (by lia),eI,aN];exact done (.inr ⟨at',atl,.inl (by
   have:=mx ot (show(10 ^ 29:Int)≠0 by decide);dsimp only;rw [if_pos rfl];lia)⟩)
 ·rw[skip 0 _ _ _ _ (by lia),skip 1 _ _ _ _ (by lia),skip 2 _ _ _ _ (by lia),hit 3 _ _ _ _ e,bO];simp only[ss,cy,fM,w_c,aN,zh,p29,aS,aT,iU,HD,lF,g,tl,ix,sV];refine⟨pw,ten,cl,?_⟩;rw[skip 4 _ _ _ _ (by lia),eI,aN];exact done (.inr ⟨at',atl,.inr (by
   have:=mx ot (show(10 ^ 29:Int)≠0 by decide);dsimp only;rw [if_pos rfl];lia)⟩)
 ·rw[skip 0 _ _ _ _ (by lia),skip 1 _ _ _ _ (by lia),skip 2 _ _ _ _ (by lia),skip 3 _ _ _ _ (by lia),hit 4 _ _ _ _ e,bO];have m2:ot%2=0∨ot%2=1:=by lia
  have gx:∀t,(h1++t)[c]?=some (.lst (tab n y)):=λt=>dW g;simp only[ss,cy,fM,w_c,aN,xS,lH,ba,aR,aS,aT,iU,mS,cb];refine⟨by simp,by decide,?_⟩;have fin2:∀v:Int,(v<0∨1000000<v)->∀t:MH,Q (.ref c) ((h1++t).set c (.lst ((tab n y).set at' (.int v)))):=λv hv t=>by
   rw[sV];exact q _ c n _ ((P.trans ⟨t,rfl⟩).set lc) (fB (by simp;lia)) (.inr ⟨at',atl,by dsimp only;rw[if_pos rfl];exact hv⟩)
  rcases m2 with m2|m2
  ·rw[m2];have:atN [MV.int (-1),MV.int 1000001] 0=some (.int (-1)):=rfl;simp only[this,aN,aS,aT,lF,gx,tl,ix];refine⟨by simp;lia,?_⟩;rw[eI,aN];exact fin2 (-1) (.inl (by decide)) _
  ·rw[m2];have:atN [MV.int (-1),MV.int 1000001] 1=some (.int 1000001):=rfl;simp only[this,aN,aS,aT,lF,gx,tl,ix];refine⟨by simp;lia,?_⟩;rw[eI,aN];exact fin2 1000001 (.inr (by decide)) _
theorem vQ{i:Int}:∀{W:List Wn}{T:List Int},T.length=W.length->(prs i W T).length=(W.filter λw=>decide (w.rk=i)).length
 |[],_,_=>by simp[prs]
 |w::W,[],h=>by simp at h
 |w::W,t::T,h=>by
   have ih:=vQ (i:=i) (W:=W) (T:=T) (by simpa using h);unfold prs at ih ⊢;rw[mj,pX,pX];by_cases c:w.rk=i
   ·simp[c]at ih ⊢;exact ih
   ·simp[c]at ih ⊢;exact ih
theorem law_true:∀ns:List Int,ns.length≤63->∃h',nh [.scr ns] []=.ok (.bl true) h':=by
 intro ns hns
 suffices w:wp (nh [.scr ns]) [] (λv _=>v=.bl true) noE by
  obtain⟨v,h',e,rfl⟩:=jR w;exact⟨h',e⟩
 unfold nh;refine bX (by rfl) ?_;obtain⟨size,hsz,s1,s8⟩:∃size:Nat,1+cell ns 0%8=(size:Int)/\1≤size/\size≤8:=⟨(1+cell ns 0%8).toNat,by lia,by lia,by lia⟩
 have bl:=ye ns 1 size;have bw:=Fr ns 1 size;generalize hb:gN ns 1 size=b at bl bw;have hn:size=b.length+1:=by lia
 have few:b.length<40:=by lia
 obtain⟨pt,hpt,ptl⟩:∃pt:Nat,cell ns 21%(size:Int)=(pt:Int)/\pt<size:=by
  have u:=mx (cell ns 21) (show(size:Int)≠0 by lia);have v:=vg (cell ns 21) (show(0:Int)<size by lia);exact⟨(cell ns 21%(size:Int)).toNat,by lia,by lia⟩
 change wp (rB [some (.scr ns),none,none,none,none,none,none,none,none,none]) _ _ _;unfold rB;refine bu (R:=λσ h=>σ=[some (.scr ns),some (.int size),none,none,none,none,none,none,none,none]/\h=[]) (by simp[ic,hsz]) ?_;rintro _ _ ⟨rfl,rfl⟩;refine bu (R:=λσ h=>∃yr,h[yr]?=some (.lst (tab size (dI ns 9)))/\σ=[some (.scr ns),some (.int size),some (.ref yr),none,none,none,none,none,none,none]) ?_ ?_
 ·simp only[cD,cu,ba,aR,aN,w_c,aS,aT];exact CV (by decide) (by lia) ⟨_,rfl,0,cb,rfl⟩
 rintro _ h1 ⟨yr,gy1,rfl⟩;refine bu (R:=λσ h=>∃c m f,Pre h1 h/\h[c]?=some (.lst (tab m f))/\eW b m f/\σ=[some (.scr ns),some (.int size),some (.ref yr),some (.ref c),none,none,none,none,none,none]) ?_ ?_
 ·simp only[cD,cu,ba,aR,aN,w_c,cy,aS,aT,ic (show(0:Int)≤18 by decide),ic (show(0:Int)≤19 by decide),ic (show(0:Int)≤20 by decide),iU];refine⟨by decide,?_⟩;exact E7 gy1 hn s8 (by lia) (by lia) λh' c m f p g B=>⟨_,rfl,c,m,f,p,g,B,rfl⟩
 rintro _ h2 ⟨c,m,f,p2,gc2,bad,rfl⟩;have gy2:=p2.get gy1;refine bu (R:=λσ h=>∃bk r d,Pre h2 h/\b8 h bk r d []/\cq h r b/\σ=[some (.scr ns),some (.int size),some (.ref yr),some (.ref c),some (.ref bk),none,none,none,none,none]) ?_ ?_
 ·simp only[cD,zV,cu,ba,aR,aN,w_c,aS,aT];refine Ch (by decide) s1 (by lia) λh' p' l'=>?_;rw[hb];refine El (cb (h:=h')) bw few λh3 p3 R3=>⟨rfl,?_⟩;refine F5 λh4 p4 B4=>⟨rfl,_,rfl,_,_,_,((p'.snoc _).trans p3).trans p4,B4,R3.pre p4,rfl⟩
 rintro _ h3 ⟨bk,r,d,p3,B3,R3,rfl⟩;have gy3:=p3.get gy2;have gc3:=p3.get gc2;refine bu (R:=λσ h=>h3=h/\σ=[some (.scr ns),some (.int size),some (.ref yr),some (.ref c),some (.ref bk),some (.int pt),none,none,none,none]) ?_ ?_
 ·simp only[cD,cy,cu,ba,aR,aN,w_c,aS,aT,ic (show(0:Int)≤21 by decide),iU,hpt];exact⟨by lia,_,rfl,trivial,rfl⟩
 rintro _ _ ⟨rfl,rfl⟩;generalize ham:cell ns 22%1000001=am;obtain⟨rt,hrt⟩:∃rt:Rt,rt=⟨aF "a",pt,am,5⟩:=⟨_,rfl⟩
 refine bu (R:=λσ h=>(∃aa,Off [d] h3 h/\b8 h bk r d [(rt,aa)])/\σ=[some (.scr ns),some (.int size),some (.ref yr),some (.ref c),some (.ref bk),some (.int pt),none,none,none,none]) ?_ ?_
 ·rw[cS,B3.meth (by decide) rfl];simp only[cy,cu,ba,aR,aN,w_c,aS,aT,ic (show(0:Int)≤22 by decide),iU,ham];refine⟨by decide,?_⟩;have:=Hu (x:=rt) (E:=noE) B3 R3 (by simp) (by rw[hrt];show pt<_;lia) (by simp) (Q:=λv h'=>∃σ',MF.next [some (.scr ns),some (.int size),some (.ref yr),some (.ref c),some (.ref bk),some (.int pt),none,none,none,none]=.next σ'/\(∃aa,Off [d] h3 h'/\b8 h' bk r d [(rt,aa)])/\σ'=[some (.scr ns),some (.int size),some (.ref yr),some (.ref c),some (.ref bk),some (.int pt),none,none,none,none]) λh' a o la B=>⟨_,rfl,⟨a,o,B⟩,rfl⟩
  rw[hrt]at this;rw[hrt];exact this
 rintro _ h4 ⟨⟨aa,o4,B4⟩,rfl⟩;have hd3:=B3.dc;have kp4:∀{n:Nat}{xs:List MV},h3[n]?=some (.lst xs)->h4[n]?=some (.lst xs):=λe=>o4.lst e λn hn ys z=>by
  rw[c6.mp hn,hd3]at z;cases z
 have gy4:=kp4 gy3;have gc4:=kp4 gc3;have R4:=B3.river R3 (Ie o4);refine bu (R:=λσ h=>∃o pd ld ad,Pre h4 h/\Sy h o bk pd ld ad r d 0 [] [] [] [(rt,aa)] b/\σ=[some (.scr ns),some (.int size),some (.ref yr),some (.ref c),some (.ref bk),some (.int pt),some (.ref o),none,none,none]) ?_ ?_
 ·simp only[cD,zV,ba,aR,aN,aS,aT];exact CK B4 R4 λh' p S=>⟨rfl,_,rfl,h4.length,_,_,_,p,S,rfl⟩
 rintro _ h5 ⟨o,pd,ld,ad,p5,S5,rfl⟩;obtain⟨po,hpo⟩:∃po:Po,po=⟨aF "p",pt,50,9,0⟩:=⟨_,rfl⟩
 refine bu (R:=λσ h=>(∃pa,Off [pd] h5 h/\Sy h o bk pd ld ad r d 0 [(po,pa)] [] [] [(rt,aa)] b)/\σ=[some (.scr ns),some (.int size),some (.ref yr),some (.ref c),some (.ref bk),some (.int pt),some (.ref o),none,none,none]) ?_ ?_
 ·rw[cS,S5.meth (by decide) rfl];simp only[ba,aR,aN,w_c,aS,aT];have:=Dy (x:=po) (E:=noE) S5 (by rw[hpo]) (by simp) (by rw[hpo];show pt<_;lia) (by simp) (Q:=λv h'=>∃σ',MF.next [some (.scr ns),some (.int size),some (.ref yr),some (.ref c),some (.ref bk),some (.int pt),some (.ref o),none,none,none]=.next σ'/\(∃pa,Off [pd] h5 h'/\Sy h' o bk pd ld ad r d 0 [(po,pa)] [] [] [(rt,aa)] b)/\σ'=[some (.scr ns),some (.int size),some (.ref yr),some (.ref c),some (.ref bk),some (.int pt),some (.ref o),none,none,none]) λh' a o la S=>⟨_,rfl,⟨a,o,S⟩,rfl⟩
  rw[hpo]at this;rw[hpo];exact this
 rintro _ h6 ⟨⟨pa,o6,S6⟩,rfl⟩;have kp6:∀{n:Nat}{xs:List MV},h4[n]?=some (.lst xs)->h6[n]?=some (.lst xs):=λe=>o6.lst (p5.get e) λn hn ys z=>by
  rw[c6.mp hn,S5.of.pn]at z;cases z
 have gy6:=kp6 gy4;have gc6:=kp6 gc4;have prt:∀x∈aJ [(rt,aa)],x.pt<b.length+1:=λx hx=>by
  have:x=rt:=by simpa[aJ] using hx
  rw[this,hrt];show pt<_;lia
 have nrt:rt.nm=aF "a":=by rw[hrt]
 have sokr:∀x∈aJ [(rt,aa)],PySem.PyData.strOk x.nm=true:=λx hx=>by
  have:x=rt:=by simpa[aJ] using hx
  rw[this,nrt];unfold PySem.PyData.strOk;rw[Array.all_eq_true_iff_forall_mem];intro y hy;have e:(aF "a").cps=#[97]:=rfl;rw[e]at hy;simp at hy;simp;lia
 refine bu (R:=λσ h=>(h[yr]?=some (.lst (tab size (dI ns 9)))/\h[c]?=some (.lst (tab m f))/\∃ld ro ps L A,Sy h o bk pd ld ad r d ro ps L A [(rt,aa)] b/\ps.map (λx=>(x.1.nm,x.1.pt))=[(aF "p",pt)]/\A.length≤10)/\σ=[some (.scr ns),some (.int size),some (.ref yr),some (.ref c),some (.ref bk),some (.int pt),some (.ref o),none,none,none]) ?_ ?_
 ·rw[fV,fh,cy,cy,cu];simp only[ba,aR,aN,w_c,aS,aT,ic (show(0:Int)≤23 by decide),iU,Gv];refine⟨by decide,?_⟩;split
  ·rw[cS,S6.meth (by decide) rfl];simp only[fM,ba,aR,aN,aS,aT,xj,gy6];have S7:=S6.pre (Pre.app (.lst (tab size (dI ns 9))));have ql:=Dq S6.bk.nm (by simp) S6.of.nm (by simp);refine yZ S7 (by simp) (by simp) cb hn (λj _=>wa _ _ _) prt (λx hx=>by rw[c6.mp hx,hpo];show pt<_;lia) (by simp) λh' ld' q1 q2 F l1 l2 l3 ne g1 g2 S'=>?_;have kp:∀{n:Nat}{xs:List MV},h6[n]?=some (.lst xs)->h'[n]?=some (.lst xs):=λe=>F.lst ((Pre.app _).get e) λn hn ys z=>by
    rcases bW.mp hn with rfl|hn
    ·rw[S7.of.ob]at z;cases z
    ·rcases bW.mp hn with rfl|hn
     ·rw[S7.of.al]at z;cases z
     ·obtain⟨x,hx,rfl⟩:=dl.mp hn;rw[S7.of.it x hx]at z;cases z
   have pl0:=wW (i:=0) (W:=cK [(rt,aa)] [(po,pa)]) (T:=dE b (cP b size (dI ns 9)) (wsA (cK [(rt,aa)] [(po,pa)])));have a2:=rV (ps:=prs 0 (cK [(rt,aa)] [(po,pa)]) (dE b (cP b size (dI ns 9)) (wsA (cK [(rt,aa)] [(po,pa)])))) (L:=[]);simp only[iN]at a2;refine⟨_,rfl,⟨kp gy6,kp gc6,_,_,_,_,_,S',?_,by simp at ql;lia⟩,rfl⟩;rw[zP,dG];simp[hpo,Po.add]
  ·rw[qN];exact⟨_,rfl,⟨gy6,gc6,ld,0,_,_,_,S6,by simp[hpo],by simp⟩,rfl⟩
 rintro _ h7 ⟨⟨gy7,gc7,ld7,ro,ps,L,A,S7,eps,lA⟩,rfl⟩;have lps:ps.length=1:=by
  have:=congrArg oi eps;simpa using this
 obtain⟨px,epx⟩:∃px,ps=[px]:=by
  match ps,lps with
  |[x],_=>exact⟨x,rfl⟩
 subst epx;have enm:px.1.nm=aF "p"/\px.1.pt=pt:=by simpa using eps
 have seen:∀(h:MH) (σ:MSt) (Q:MV->MH->Prop),Sy h o bk pd ld7 ad r d ro [px] L A [(rt,aa)] b->σ[6]?=some (some (.ref o))->σ[4]?=some (some (.ref bk))->Q (.ref h.length) (h++[.lst [.int (aget rt.nm L),.int (aget rt.nm A),.int ro,.int px.1.wt,rt.val]]) ->
   wp (eE (aj (aL 4 "got" kI (af 6) (aj (eC (.str (aF "a"))) au)) (aj (aL 4 "account" ko (af 6) (aj (eC (.str (aF "a"))) au)) (aj (aL 4 "out" jY (af 6) au) (aj (aL 4 "stored" kj (af 6) (aj (eC (.str (aF "p"))) au)) (aj (aL 3 "right" dX (af 4) (aj (eC (.str (aF "a"))) au)) au))))) σ) h Q noE:=λh σ Q S s6 s4 q=>by
  rw[lH,ba,S.meth (by decide) s6];simp only[ba,aR,w_c];rw[←nrt];refine CF (x:=(rt,aa)) S (by simp) ?_;rw[S.meth (by decide) s6];simp only[ba,aR,w_c];refine Hb (x:=(rt,aa)) S (by simp) ?_;rw[S.meth (by decide) s6,aR,Gq S,S.meth (by decide) s6];simp only[ba,aR,w_c];rw[←enm.1,DG S (by simp),S.bk.meth (by decide) s4];simp only[ba,aR,w_c];rw[jA (x:=(rt,aa)) S.bk (by simp)];exact⟨by simp,q⟩
 refine bu (R:=λσ h=>(Pre h7 h/\∃sn,h[sn]?=some (.lst [.int (aget rt.nm L),.int (aget rt.nm A),.int ro,.int px.1.wt,rt.val])/\σ=[some (.scr ns),some (.int size),some (.ref yr),some (.ref c),some (.ref bk),some (.int pt),some (.ref o),some (.ref sn),none,none])) ?_ ?_
 ·rw[cD];exact seen h7 _ _ S7 rfl rfl ⟨_,rfl,Pre.app _,h7.length,cb,rfl⟩
 rintro _ h8 ⟨p8,sn,gs8,rfl⟩;refine bu (R:=λσ h=>∃ha,Pre h8 h/\h[ha]?=some (.lst (tab m f))/\σ=[some (.scr ns),some (.int size),some (.ref yr),some (.ref c),some (.ref bk),some (.int pt),some (.ref o),some (.ref sn),some (.ref ha),none]) ?_ ?_
 ·have gc8:=p8.get gc7;simp only[cD,fM,aN,aS,aT,xj,gc8];exact⟨_,rfl,h8.length,Pre.app _,cb,rfl⟩
 rintro _ h9 ⟨ha,p9,gh9,rfl⟩;have P9:=p8.trans p9;have S9:=S7.pre P9;refine bu (R:=λσ h=>Off [] h9 h/\∃t9,σ=[some (.scr ns),some (.int size),some (.ref yr),some (.ref c),some (.ref bk),some (.int pt),some (.ref o),some (.ref sn),some (.ref ha),t9]) ?_ ?_
 ·rw[gJ];refine cN (yf (n:=9) (j:=9) (h':=h9) (fW (by simp)) ⟨by decide,by decide⟩ (by rfl)) ?_;refine fE (λk σ h=>Off [] h9 h/\∃t9,σ=[some (.scr ns),some (.int size),some (.ref yr),some (.ref c),some (.ref bk),some (.int pt),some (.ref o),some (.ref sn),some (.ref ha),t9]) (λ_ _ _ _=>rfl) (λk x σ h hx ⟨F,t9,es⟩=>?_) (λσ h i=>⟨σ,rfl,i⟩) ⟨Off.refl,none,rfl⟩;subst es;have hk:k<9:=by
   have:=(bF.mp hx).1
   rwa [nI]at this
  rw[uK hk]at hx;cases hx;have e0:(0:Int)+(k:Int)=k:=by lia
  simp only[cL,eV,fe,e0];rw[fV,fh,w_not,fh,cu];simp only[ba,aR,aN,aS,aT];refine FU (x:=(rt,aa)) (S9.off F) (by simp) (by simp) (F.get gh9 (by simp)) bad prt (by simp) nrt sokr hk λh' f'=>?_;simp only[k8,dh,if_false,qN];exact⟨F.trans f',_,rfl⟩
 rintro _ hA ⟨FA,t9,rfl⟩;have SA:=S9.off FA;have ghA:=FA.get gh9 (by simp);have gcA:=FA.get (P9.get gc7) (by simp);have gsA:=FA.get (p9.get gs8) (by simp);have gyA:=FA.get (P9.get gy7) (by simp);have k0:∀u v w:MV,atN [u,v,w] 0=some u:=λ_ _ _=>rfl;refine bu (R:=λσ h=>hA=h/\σ=[some (.scr ns),some (.int size),some (.ref yr),some (.ref c),some (.ref bk),some (.int pt),some (.ref o),some (.ref sn),some (.ref ha),t9]) ?_ ?_
 ·rw[fV,fh,Hs,fh,cy,aN];simp only[aS,aT,aN];refine G6 ghA gcA (G0 _ _) ?_;simp only[dh,if_false];rw[cy,cy,SA.bk.meth (by decide) rfl];simp only[ba,aR,w_c];rw[←nrt,jA (x:=(rt,aa)) SA.bk (by simp)];have vp:rt.val=.tup [.int pt,.int am,.int 5]:=by rw[hrt];rfl
  simp only[vp,jO,k0,aN,aS,aT,Ag,decide_true,k8,dh,if_false,qN];exact⟨_,rfl,trivial,rfl⟩
 rintro _ _ ⟨rfl,rfl⟩;refine bu (R:=λσ h=>Pre hA h/\σ=[some (.scr ns),some (.int size),some (.ref yr),some (.ref c),some (.ref bk),some (.int pt),some (.ref o),some (.ref sn),some (.ref ha),t9]) ?_ ?_
 ·rw[fV,fh,cy];refine seen hA _ _ SA rfl rfl ?_;simp only[aN,aS,aT];have vp:rt.val=.tup [.int pt,.int am,.int 5]:=by rw[hrt];rfl
  have dd:∀{h:MH}{n:Nat},h[n]?=some (.lst [.int (aget rt.nm L),.int (aget rt.nm A),.int ro,.int px.1.wt,rt.val])->dat h 6 (.ref n)=some (.list [.int (aget rt.nm L),.int (aget rt.nm A),.int ro,.int px.1.wt,.tuple [.int pt,.int am,.int 5]]):=λ{h n} e=>by
   simp[dat,e,vp,gB]
  refine wS (dd cb) (dd (dW gsA)) (by simp[PySem.SeqAt.shaped,PySem.PyData.canLay0,PySem.PyData.canLayAll0,PySem.PyData.depth,PySem.PyData.depthAll]) ?_ ?_
  ·rfl
  ·simp only[dh,if_false,qN];exact⟨_,rfl,Pre.app _,rfl⟩
 rintro _ hB ⟨pB,rfl⟩;have SB:=SA.pre pB;rw[eI,cy,fM,cy,SB.meth (by decide) rfl];simp only[ba,aR,aN,w_c,aS,aT];refine yZ SB (by simp) (by simp) (pB.get gyA) hn (λj _=>wa _ _ _) prt (λx hx=>by rw[c6.mp hx,enm.2];lia) (by lia) λh' ld' q1 q2 F l1 l2 l3 ne g1 g2 S'=>?_;have j0:∀u v:MV,atN [u,v] 0=some u:=λ_ _=>rfl;have len1:(prs 0 (cK [(rt,aa)] [px]) (dE b (cP b size (dI ns 9)) (wsA (cK [(rt,aa)] [px])))).length=1:=by
  rw[vQ (by rw[uc];simp[wsA])];have hz':(aJ [(rt,aa)]).length<64:=by simp[aJ]
  have al:(aged [rt]).length=1:=kM (rs:=[rt]) SB.bk.nm hz';have pm:=(vm (mU SB.bk.nm (by simp) SB.of.nm) (by simp[du,al])).filter λw=>decide (w.rk=0);unfold cK;rw[pm.length_eq];unfold du;rw[List.filter_append];have e1:∀l:List Rt,(l.map gI).filter (λw=>decide (w.rk=0))=l.map gI:=by
   intro l;rw[rE];intro w hw;obtain⟨x,_,rfl⟩:=dl.mp hw;rfl
  rw[e1];simp[al,lg]
 simp only[jO,j0,lP,g1,cY,len1,EF];simp
end L2.Rv
namespace PySem.W.Fast
theorem tw7399450555992263600:True:=⟨⟩
theorem tw5907389460977371484:True:=⟨⟩
theorem tw10043640650124142023:True:=⟨⟩
theorem tw7264279719494176841:True:=⟨⟩
theorem tw17407984264044650432:True:=⟨⟩
theorem tw18183255752252021292:True:=⟨⟩
theorem tw6587014571876212802:True:=⟨⟩
theorem tw8063202024732711550:True:=⟨⟩
theorem tw17083458459374152309:True:=⟨⟩
theorem tw14326533159205771406:True:=⟨⟩
theorem tw17396519208292816058:True:=⟨⟩
theorem tw5974717325853679584:True:=⟨⟩
theorem tw9028621485429306897:True:=⟨⟩
theorem tw13997241568532539938:True:=⟨⟩
theorem tw566764341631698573:True:=⟨⟩
theorem tw16260146800892091941:True:=⟨⟩
theorem tw1884982388747369695:True:=⟨⟩
theorem tw6718525663044494877:True:=⟨⟩
theorem tw3991010875478175800:True:=⟨⟩
theorem tw14287888771796775921:True:=⟨⟩
theorem tw7795883003605573839:True:=⟨⟩
theorem tw11427542314649530876:True:=⟨⟩
theorem tw8001505727590013544:True:=⟨⟩
theorem tw18249631985585454094:True:=⟨⟩
theorem tw5294293890496411180:True:=⟨⟩
theorem tw11705577677452795068:True:=⟨⟩
theorem tw10051489182543287320:True:=⟨⟩
theorem tw9716847561357350881:True:=⟨⟩
theorem tw12875489594501109804:True:=⟨⟩
theorem tw9704419109813101006:True:=⟨⟩
theorem tw248542466144247485:True:=⟨⟩
theorem tw12388018692902511836:True:=⟨⟩
theorem tw7567279133690890381:True:=⟨⟩
theorem tw15372382587267783650:True:=⟨⟩
theorem tw38411881230528047:True:=⟨⟩
theorem tw3538738707846716121:True:=⟨⟩
theorem tw10350238076123107507:True:=⟨⟩
theorem tw4442690916617415376:True:=⟨⟩
theorem tw8795007237656915705:True:=⟨⟩
theorem tw18434269426774323751:True:=⟨⟩
theorem tw17574617844758745449:True:=⟨⟩
theorem tw3907090055670451022:True:=⟨⟩
theorem tw16250919756798342372:True:=⟨⟩
theorem tw16043577856167466033:True:=⟨⟩
theorem tw2701698575195423889:True:=⟨⟩
theorem tw1054854964361580667:True:=⟨⟩
theorem tw17300673861595086555:True:=⟨⟩
theorem tw10346805309317501608:True:=⟨⟩
theorem tw16570339111816662785:True:=⟨⟩
theorem tw12682247194314837620:True:=⟨⟩
theorem tw9130258789150109089:True:=⟨⟩
theorem tw1458930324184209834:True:=⟨⟩
theorem tw13135872044563043791:True:=⟨⟩
theorem tw13577066788406285323:True:=⟨⟩
theorem tw5153776442351907371:True:=⟨⟩
theorem tw2786046806111339658:True:=⟨⟩
theorem tw2213246520191353195:True:=⟨⟩
theorem tw13426793520246635839:True:=⟨⟩
theorem tw7798675515556558238:True:=⟨⟩
theorem tw14717160276124698755:True:=⟨⟩
theorem tw3409947891948337123:True:=⟨⟩
theorem tw10883025155762876327:True:=⟨⟩
theorem tw3718106518394816611:True:=⟨⟩
theorem tw11252348016903814820:True:=⟨⟩
theorem tw13546461770832180710:True:=⟨⟩
theorem tw4955483385845921206:True:=⟨⟩
theorem tw13550703377614025410:True:=⟨⟩
theorem tw17747336159814868327:True:=⟨⟩
theorem tw1446036383247700852:True:=⟨⟩
theorem tw1694208625920900361:True:=⟨⟩
theorem tw5232729329934258248:True:=⟨⟩
theorem tw6459899687404531810:True:=⟨⟩
theorem tw18366950104893539555:True:=⟨⟩
theorem tw291409519566110610:True:=⟨⟩
theorem tw9429161672425594872:True:=⟨⟩
theorem tw3622038864226063719:True:=⟨⟩
theorem tw7151865846312403322:True:=⟨⟩
theorem tw12260996467052959765:True:=⟨⟩
theorem tw15289981214498254899:True:=⟨⟩
theorem tw10309629491071117992:True:=⟨⟩
theorem tw14339707056951193332:True:=⟨⟩
theorem tw9362706172183208029:True:=⟨⟩
theorem tw2365719641096757449:True:=⟨⟩
theorem tw14453672729953282610:True:=⟨⟩
theorem tw8874741822557133114:True:=⟨⟩
theorem tw11393928087167505950:True:=⟨⟩
theorem tw14945706648342955822:True:=⟨⟩
theorem tw18298409809285965889:True:=⟨⟩
theorem tw14668499270923691365:True:=⟨⟩
theorem tw5183313422685019630:True:=⟨⟩
theorem tw10661365775649629547:True:=⟨⟩
theorem tw9365782336445993696:True:=⟨⟩
theorem tw16569139161994941207:True:=⟨⟩
theorem tw3739562326525744284:True:=⟨⟩
theorem tw5777496500344564929:True:=⟨⟩
theorem tw4845091856605373602:True:=⟨⟩
theorem tw11590511925509440447:True:=⟨⟩
theorem tw11224602177677415022:True:=⟨⟩
theorem tw6457180654153146413:True:=⟨⟩
theorem tw10171008119902264212:True:=⟨⟩
theorem tw7655399901800202333:True:=⟨⟩
theorem tw18231875996441936829:True:=⟨⟩
theorem tw6835359533560153150:True:=⟨⟩
theorem tw5254377183667002762:True:=⟨⟩
theorem tw13805175316141126522:True:=⟨⟩
theorem tw1437426985609712633:True:=⟨⟩
theorem tw18138442568709611490:True:=⟨⟩
theorem tw1399904751817729750:True:=⟨⟩
theorem tw14695296183916971068:True:=⟨⟩
theorem tw15972891194754929675:True:=⟨⟩
theorem tw6225750016871923183:True:=⟨⟩
theorem tw3809551324255513:True:=⟨⟩
theorem tw16171542514946939725:True:=⟨⟩
theorem tw4437397789005686930:True:=⟨⟩
theorem tw17446590545169874784:True:=⟨⟩
theorem tw17795928243974464497:True:=⟨⟩
theorem tw14519553533143291048:True:=⟨⟩
theorem tw12499547131242138511:True:=⟨⟩
theorem tw14384588935367966435:True:=⟨⟩
theorem tw5732931994907892687:True:=⟨⟩
theorem tw2599637416047300971:True:=⟨⟩
theorem tw16266630193294976687:True:=⟨⟩
theorem tw9111902927440847022:True:=⟨⟩
theorem tw3840061138723308061:True:=⟨⟩
theorem tw1809190966136953363:True:=⟨⟩
theorem tw10460217220863091781:True:=⟨⟩
theorem tw1576848774139733275:True:=⟨⟩
theorem tw7289303526756183100:True:=⟨⟩
theorem tw4972075177276943131:True:=⟨⟩
theorem tw6084856935746270194:True:=⟨⟩
theorem tw4354613794207829314:True:=⟨⟩
theorem tw476578832396458749:True:=⟨⟩
theorem tw16955377299562891883:True:=⟨⟩
theorem tw423312235416153448:True:=⟨⟩
theorem tw13870198434008137365:True:=⟨⟩
theorem tw17330518303430687661:True:=⟨⟩
theorem tw10156809239587406472:True:=⟨⟩
theorem tw8778290080153337255:True:=⟨⟩
theorem tw1205225170639944783:True:=⟨⟩
theorem tw14797739534826289084:True:=⟨⟩
theorem tw10644576091749997879:True:=⟨⟩
theorem tw14527676988584142899:True:=⟨⟩
theorem tw8866533983417281774:True:=⟨⟩
theorem tw1981809614237260543:True:=⟨⟩
theorem tw2440269846697942423:True:=⟨⟩
theorem tw14778309069795128968:True:=⟨⟩
theorem tw5162200401671595388:True:=⟨⟩
theorem tw15415510427891312406:True:=⟨⟩
theorem tw4978475772986918100:True:=⟨⟩
theorem tw9009310223856996037:True:=⟨⟩
theorem tw5689858916636272666:True:=⟨⟩
theorem tw13785291372697480272:True:=⟨⟩
theorem tw872389339894293855:True:=⟨⟩
theorem tw11207497491933547459:True:=⟨⟩
theorem tw10948298353165466573:True:=⟨⟩
theorem tw5482370183296614876:True:=⟨⟩
theorem tw3301799920954332385:True:=⟨⟩
theorem tw13226751879925109680:True:=⟨⟩
theorem tw3258710398481290036:True:=⟨⟩
theorem tw10672811501592476855:True:=⟨⟩
theorem tw14214497700970209987:True:=⟨⟩
theorem tw14567534389097144476:True:=⟨⟩
theorem tw10544708688554615102:True:=⟨⟩
theorem tw3543398162224898980:True:=⟨⟩
theorem tw9100379157715803142:True:=⟨⟩
theorem tw12230837769814731594:True:=⟨⟩
theorem tw18150346006245544198:True:=⟨⟩
theorem tw2875594028939189708:True:=⟨⟩
theorem tw16412521099732979810:True:=⟨⟩
theorem tw7574406751083230696:True:=⟨⟩
theorem tw5799768922313730288:True:=⟨⟩
theorem tw12306208594392813196:True:=⟨⟩
theorem tw17111761658850950579:True:=⟨⟩
theorem tw16532757875931819932:True:=⟨⟩
theorem tw7848220068069614961:True:=⟨⟩
theorem tw940799858695452204:True:=⟨⟩
theorem tw236264658784968300:True:=⟨⟩
theorem tw15865374231629279544:True:=⟨⟩
theorem tw11428519404348700114:True:=⟨⟩
theorem tw1862432847968543509:True:=⟨⟩
theorem tw18269285735357002145:True:=⟨⟩
theorem tw12318139507439028914:True:=⟨⟩
theorem tw15782058332534694364:True:=⟨⟩
theorem tw15946349262760544837:True:=⟨⟩
theorem tw8462325526617791679:True:=⟨⟩
theorem tw89211855342153925:True:=⟨⟩
theorem tw15463664016591144316:True:=⟨⟩
theorem tw11336789658473632330:True:=⟨⟩
theorem tw7990340747962316173:True:=⟨⟩
theorem tw5778916241387398820:True:=⟨⟩
theorem tw5663950575019550376:True:=⟨⟩
theorem tw3427202106724054825:True:=⟨⟩
theorem tw16536738408792905642:True:=⟨⟩
theorem tw13809850956377143146:True:=⟨⟩
theorem tw12637584895556535496:True:=⟨⟩
theorem tw11505435074247418290:True:=⟨⟩
theorem tw10926860384645724756:True:=⟨⟩
theorem tw716398369213875520:True:=⟨⟩
theorem tw17662803532057757183:True:=⟨⟩
theorem tw395603974253747754:True:=⟨⟩
theorem tw5991112737616933338:True:=⟨⟩
theorem tw6993665815088940855:True:=⟨⟩
theorem tw744797126655745829:True:=⟨⟩
theorem tw12504272439313711103:True:=⟨⟩
theorem tw16069430589967540713:True:=⟨⟩
theorem tw16886723303109613754:True:=⟨⟩
theorem tw7931631574011056599:True:=⟨⟩
theorem tw530999534641487212:True:=⟨⟩
theorem tw3854952476297880828:True:=⟨⟩
theorem tw1667759850495934870:True:=⟨⟩
theorem tw17893204970695529591:True:=⟨⟩
theorem tw9024171504127303293:True:=⟨⟩
theorem tw15383634543079451322:True:=⟨⟩
theorem tw12336146719296696029:True:=⟨⟩
theorem tw859495770558608147:True:=⟨⟩
theorem tw2642009422642113734:True:=⟨⟩
theorem tw2748729811313993485:True:=⟨⟩
theorem tw18393018472700068781:True:=⟨⟩
theorem tw12521138014019871155:True:=⟨⟩
theorem tw17833872224604052317:True:=⟨⟩
theorem tw13376162170894771317:True:=⟨⟩
theorem tw16181765872878823351:True:=⟨⟩
theorem tw17947012984963034590:True:=⟨⟩
theorem tw6026789325470088996:True:=⟨⟩
theorem tw12144040298947530662:True:=⟨⟩
theorem tw2755574834408357409:True:=⟨⟩
theorem tw18248741018887725867:True:=⟨⟩
theorem tw11221430417060881738:True:=⟨⟩
theorem tw14018847764706559879:True:=⟨⟩
theorem tw17600434960089817731:True:=⟨⟩
theorem tw3691606850033742322:True:=⟨⟩
theorem tw1843794368462322381:True:=⟨⟩
theorem tw3183792744400028207:True:=⟨⟩
theorem tw15305841981896789666:True:=⟨⟩
theorem tw9076387098063130190:True:=⟨⟩
theorem tw8989385097840131734:True:=⟨⟩
theorem tw5318957943310186818:True:=⟨⟩
theorem tw4883737321198625681:True:=⟨⟩
theorem tw2273675003278148847:True:=⟨⟩
theorem tw10728290681559750816:True:=⟨⟩
theorem tw2806994503168514249:True:=⟨⟩
theorem tw259105304599451125:True:=⟨⟩
theorem tw10487606187444563950:True:=⟨⟩
theorem tw14500560834796888591:True:=⟨⟩
theorem tw8631269496845189364:True:=⟨⟩
theorem tw16531622284731935987:True:=⟨⟩
theorem tw12806009773056497675:True:=⟨⟩
theorem tw12551128184996914232:True:=⟨⟩
theorem tw15361534443950238820:True:=⟨⟩
theorem tw446740189424861233:True:=⟨⟩
theorem tw12266292982128443155:True:=⟨⟩
theorem tw3068315894067203793:True:=⟨⟩
theorem tw3614665977146581965:True:=⟨⟩
theorem tw5599079554617328155:True:=⟨⟩
theorem tw5364668703644827898:True:=⟨⟩
theorem tw5996234581706411979:True:=⟨⟩
theorem tw15176073038789296331:True:=⟨⟩
theorem tw8417184895874138724:True:=⟨⟩
theorem tw14623472448640120406:True:=⟨⟩
theorem tw10810091085184155057:True:=⟨⟩
theorem tw4231052619310941069:True:=⟨⟩
theorem tw8744181276315485784:True:=⟨⟩
theorem tw17465475082161191918:True:=⟨⟩
theorem tw9476011498294079095:True:=⟨⟩
theorem tw16249634893782045904:True:=⟨⟩
theorem tw12080042101017572683:True:=⟨⟩
theorem tw7487191867408018939:True:=⟨⟩
theorem tw16809607957579455909:True:=⟨⟩
theorem tw15369863718471926462:True:=⟨⟩
theorem tw6124178968773638660:True:=⟨⟩
theorem tw5014335366966744569:True:=⟨⟩
theorem tw7924016373464285959:True:=⟨⟩
theorem tw1516437868597508182:True:=⟨⟩
theorem tw12496692882004773725:True:=⟨⟩
theorem tw17566260813668559674:True:=⟨⟩
theorem tw864238389777529393:True:=⟨⟩
theorem tw7654166659131100829:True:=⟨⟩
theorem tw3122773353375185573:True:=⟨⟩
theorem tw15646267528363567400:True:=⟨⟩
theorem tw15228842973395465862:True:=⟨⟩
theorem tw1300963593552962094:True:=⟨⟩
theorem tw13553077008003536290:True:=⟨⟩
theorem tw10828772500805777149:True:=⟨⟩
theorem tw12869087386674194466:True:=⟨⟩
theorem tw7588767341150144218:True:=⟨⟩
theorem tw11041471997246163734:True:=⟨⟩
theorem tw6408750978413587826:True:=⟨⟩
theorem tw14182112009801616942:True:=⟨⟩
theorem tw10199633253208485515:True:=⟨⟩
theorem tw16526721260958714131:True:=⟨⟩
theorem tw7973971746329418260:True:=⟨⟩
theorem tw13621698109887283891:True:=⟨⟩
theorem tw11748668047029768329:True:=⟨⟩
theorem tw975033179053452814:True:=⟨⟩
theorem tw760597238759650472:True:=⟨⟩
theorem tw4205542487872949646:True:=⟨⟩
theorem tw8357733193777172174:True:=⟨⟩
theorem tw13982992166703137508:True:=⟨⟩
theorem tw9487815095440109025:True:=⟨⟩
theorem tw3571077600954317611:True:=⟨⟩
theorem tw10097770056749748186:True:=⟨⟩
theorem tw11286460380785371924:True:=⟨⟩
theorem tw4889076574747083280:True:=⟨⟩
theorem tw762384279167523688:True:=⟨⟩
theorem tw7931273767858561721:True:=⟨⟩
theorem tw8195052313923093620:True:=⟨⟩
theorem tw18034625415853567931:True:=⟨⟩
theorem tw9614601614248615718:True:=⟨⟩
theorem tw11565058103640713886:True:=⟨⟩
theorem tw3449060574617346025:True:=⟨⟩
theorem tw3240769477467254887:True:=⟨⟩
theorem tw13403063732634307709:True:=⟨⟩
theorem tw17369417412619829829:True:=⟨⟩
theorem tw13490638074177275553:True:=⟨⟩
theorem tw13709536434023204556:True:=⟨⟩
theorem tw5275085152173901635:True:=⟨⟩
theorem tw13144093891900817486:True:=⟨⟩
theorem tw8818302443164072764:True:=⟨⟩
theorem tw14302074230687840545:True:=⟨⟩
theorem tw3332269599453948985:True:=⟨⟩
theorem tw149984357053475728:True:=⟨⟩
theorem tw10907178624267516804:True:=⟨⟩
theorem tw2041337055380677189:True:=⟨⟩
theorem tw6836808216563467036:True:=⟨⟩
theorem tw8104429639096294573:True:=⟨⟩
theorem tw10376728619004327100:True:=⟨⟩
theorem tw3405687241489667162:True:=⟨⟩
theorem tw3010016195035086210:True:=⟨⟩
theorem tw5867021669559530421:True:=⟨⟩
theorem tw17901387473505398745:True:=⟨⟩
theorem tw16313216270765442700:True:=⟨⟩
theorem tw15015650251777781114:True:=⟨⟩
theorem tw10595295712216132145:True:=⟨⟩
theorem tw3389568664494738769:True:=⟨⟩
theorem tw18130204349421153737:True:=⟨⟩
theorem tw700657601307578087:True:=⟨⟩
theorem tw4691255909653622334:True:=⟨⟩
theorem tw16155158343532740945:True:=⟨⟩
theorem tw11317226733428120245:True:=⟨⟩
theorem tw5993472860560842845:True:=⟨⟩
theorem tw15838136259730516485:True:=⟨⟩
theorem tw4135709456273377076:True:=⟨⟩
theorem tw8634802636555391604:True:=⟨⟩
theorem tw8250078753110600133:True:=⟨⟩
theorem tw814730883609715609:True:=⟨⟩
theorem tw6724069908684310984:True:=⟨⟩
theorem tw5867391679797142434:True:=⟨⟩
theorem tw16032727119751591747:True:=⟨⟩
theorem tw15557817792977618467:True:=⟨⟩
theorem tw15275952373202528485:True:=⟨⟩
theorem tw15154813013573356946:True:=⟨⟩
theorem tw14768553749196502549:True:=⟨⟩
theorem tw12301461936581639010:True:=⟨⟩
theorem tw11864907570945079629:True:=⟨⟩
theorem tw62553578095999271:True:=⟨⟩
theorem tw2768257390764347445:True:=⟨⟩
theorem tw17730511254251877759:True:=⟨⟩
theorem tw16556491515138205484:True:=⟨⟩
theorem tw15901799744027170062:True:=⟨⟩
theorem tw15717519651401915214:True:=⟨⟩
theorem tw13462183649811080809:True:=⟨⟩
theorem tw8710142421742807096:True:=⟨⟩
theorem tw8239901190924239458:True:=⟨⟩
theorem tw6203189731962751855:True:=⟨⟩
theorem tw485596044699754163:True:=⟨⟩
theorem tw4714685673285480861:True:=⟨⟩
theorem tw15654034598431333969:True:=⟨⟩
theorem tw1174041323818226705:True:=⟨⟩
theorem tw10745391925656106862:True:=⟨⟩
theorem tw3369790470686813659:True:=⟨⟩
theorem tw4655185343826909409:True:=⟨⟩
theorem tw17245797181223793433:True:=⟨⟩
theorem tw1091149637604175875:True:=⟨⟩
theorem tw11790738776376173777:True:=⟨⟩
theorem tw17954087208221294043:True:=⟨⟩
theorem tw13800647372760278941:True:=⟨⟩
end PySem.W.Fast
open PySem PySem.W PyProof.Rows
set_option maxRecDepth 100000 in
set_option maxHeartbeats 0 in
theorem PySem.Challenge.cw_riverdue_k05_bad_years_holds : PySem.Challenge.rw_riverdue_k05_bad_years.Holds := by
 w_on; o_law; o_head (PySem.W.kHook L2.Rv.KQ L2.Rv.KQa (fun _ => by kernel_rfl)); (case hw => w_witness2)
 refine L2.Rv.walk (l := PySem.Challenge.rw_riverdue_k05_bad_years) (K := L2.Rv.KD L2.Rv.KQ 451) (tb := 451) rfl rfl (fun w h Y => ⟨L2.Rv.KD_in (PySem.W.kIn_of Y), PySem.W.kIn_of Y 451 _ (by kernel_rfl)⟩) (fun w => L2.Rv.KD_none) ?F
 case F => exact fun w mg fa h KX G hmg => L2.Rv.all_mk KX G hmg L2.Rv.law_true
