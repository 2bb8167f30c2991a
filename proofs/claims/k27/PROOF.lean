import PyProof.Rows.All
import Wide.All
import OpenK.AllK
import Wide.FinOn
import Lean
import PyProof.EqAt
import PyProof.EqKinds
import PyProof.TupleCall
import PyProof.ExcArgs
import KE.KSortAsk
import PySem.Str
import PyProof.EqLayable
import PyProof.Rows.EqDataRows
import PyProof.StrBlockI
import KE.KSortTup
import KE.KDictSum
import KE.KLam
import PyProof.StrLawsRepr
import PyProof.FString4
import PyProof.ListRange
import PyProof.StrOps2
import PyProof.DictItems
import KE.KPairComp
import PyProof.AttrMissHeap
import KE.KDictOf
import PyProof.DictWalks
import PyProof.StrBlockL
import PyProof.StrLawsIn
import KE.IntText
import PyProof.StrLoop
import PyProof.StrWalks
import PyProof.ConsumeWalk
import KE.KIntText
import PyProof.Rows.SetFrom
import PyProof.Rows.StrIntSpec
import PySem.Challenge.RW_riverdue_k27_texts_refused
set_option linter.all false
set_option maxRecDepth 100000
set_option maxHeartbeats 4000000
noncomputable section
open PySem.Str renaming ofString->ah,join->jx,length->mU
open List renaming getElem?_cons_zero->aC,getElem?_cons_succ->aE,getElem?_eq_some_iff->bT,map_cons->aN,length_map->bB,getElem?_map->bX,mem_append_right->cK,replicate->bF,mem_cons_of_mem->cS,mem_cons->bE,size_toArray->cB,length_cons->cr,length_append->cQ,getElem?_append_left->eM,lookup_cons->cO,mem_cons_self->dn,mem_of_getElem?->dR,map_map->cb,mem_singleton->dC,mem_append->c6,mem_map->cx,getElem?_append_right->ic,range->cM,all_eq_true->eY,map_congr_left->fZ,mem_append_left->gp,not_mem_nil->fG,replicate_succ->f7,map_nil->dQ,getElem?_replicate->iC,getElem?_set_self->iA,flatten_cons->f8,nil_append->fJ,length->eF,getElem?_set_ne->je,set_cons_succ->iF,map_append->gA,cons_append->iz,sum_cons->gq,set_cons_zero->jr,exists_cons_of_ne_nil->mM,getElem?_range->jO,getElem?_eq_getElem->oq,mem_range->iW,nodup_append->kI,foldl_cons->jp,length_pos_iff->lm,getElem_of_mem->ly,take_of_length_le->mJ,mem_iff_getElem?->mX,zip_cons_cons->lh,lookup->gC,pairwise_iff_getElem->pz,drop_eq_getElem_cons->qe,length_nil->jZ,range'->hV,length_drop->lG,find?_cons->kU,cons_lt_cons_iff->o4,any_cons->j0,ext_getElem?->nY,getElem?_eq_none_iff->u2,toList_toArray->rJ,filter_eq_self->pQ,nodup_cons->mZ,filter_cons_of_neg->sM,filter_cons_of_pos->vc,length_eq_zero_iff->ud,filter->kq,forIn_nil->oj,length_singleton->uV,getElem?_eq_none->sZ,length_take->pN,drop_length->rD,mem_of_mem_take->tX,all_cons->mF,foldl->kg,filterMap_cons->tj,forIn_cons->pS,mem_filterMap->um,contains_cons->uc,drop_zero->pY,append_assoc->vb,take_add_one->sW,append_nil->va,of_mem_zip->uP,length_set->uW,map_set->qw,map_id->qW,map->lN
open Bool renaming false_eq_true->bd,false_ne_true->cp,and_eq_true->eP,not_true->d3,not_false->fQ,eq_false_iff->nZ,eq_iff_iff->mE,not_eq_true'->uq,or_false->qE,or_eq_true->tZ
open PySem.Heap renaming get?_push_of_some->bJ,lt_size->bC,get?_push_size->dH,get?_update_other->fu,get?_update_self->i7,get?_none_of_le->lD,get?_update_ne->lW,size_update->lC,SameBut->om
open Nat renaming le_refl->bc,lt_of_lt_of_le->c5,le_trans->bV,ne_of_lt->cT,zero_le->d9,le_of_not_lt->kM,lt_irrefl->iN,mul_le_mul_left->oI,ne_of_gt->jR,lt_of_le_of_lt->qS,toDigits->lZ,toDigits_append_toDigits->zW,le_of_lt->nL,le_of_eq->mh,not_lt_of_le->tV,beq->jt
open PySem.F renaming excBase_ValueError->fA,plainAttrs_list->tJ
open Int renaming emod_nonneg->fU,emod_lt_of_pos->ii,eq_ofNat_of_zero_le->kz,toNat_of_nonneg->uJ
open Option renaming isSome_iff_exists->kP,isSome_map->sH
open Array renaming length_toList->pD,toList_inj->tQ
open Classical renaming not_not->o0,propDecidable->yi
open PySem renaming Value->ae,Shared->ag,Addr->ad,Program->bh,World->aR,Around->aX,Expr->az,Stmt->aV,Heap->aI,Obj->aw,FuncData->bq,sizeLine->aW,model->au,eval->aK,wpAny->aq,wpAny_bind->ak,wpAny_pure->aF,wpAny_mono->br,starEach->aU,Paired->cg,compareOp->cP,mainGlobals->dA
set_option Elab.async false
namespace L2
open PySem PySem.Spec PyProof.Rows
theorem bY{α β γ:Type}{p q r s:α->β->γ->Prop}{t:Prop}(e:∃a b c,p a b c/\q a b c/\r a b c/\s a b c)(f:∀a b c,p a b c->q a b c->r a b c->s a b c->t):t:=e.elim λa e=>e.elim λb e=>e.elim λc e=>f a b c e.1 e.2.1 e.2.2.1 e.2.2.2
theorem bD{α β:Type}{p q r:α->β->Prop}{t:Prop}(e:∃a b,p a b/\q a b/\r a b)(f:∀a b,p a b->q a b->r a b->t):t:=e.elim λa e=>e.elim λb e=>f a b e.1 e.2.1 e.2.2
abbrev Key:=Sum Int Str
noncomputable def jb:Key->ae->Bool
 |.inl k,v=>Value.isInt k v
 |.inr x,v=>Value.isStrOf x v
noncomputable def Dt(w:aR):Key->Int
 |.inl k=>hashInt k
 |.inr x=>hashStr w x
theorem gF:∀{k:Key}{v:ae},jb k v=true->(∃i t,k=Sum.inl i/\v=Value.int i t)∨(∃x t,k=Sum.inr x/\v=Value.str x t)
 |.inl i,v,h=>by
   obtain⟨t,e⟩:=Value.isInt_shape (k:=i) (v:=v) h;exact .inl ⟨i,t,rfl,e⟩
 |.inr x,v,h=>by
   obtain⟨t,e⟩:=Value.isStrOf_shape (x:=x) (v:=v) h;exact .inr ⟨x,t,rfl,e⟩
theorem CO(i:Int)(t:Tok):jb (.inl i) (.int i t)=true:=by simp[jb,Value.isInt]
theorem BR(x:Str)(t:Tok):jb (.inr x) (.str x t)=true:=by simp[jb,Value.isStrOf]
theorem Cl(a b:Int):decide ((Sum.inl a:Key)=Sum.inl b)=(a == b):=by
 by_cases e:a=b
 ·subst e;simp
 ·have h:¬(Sum.inl a:Key)=Sum.inl b:=λq=>e (Sum.inl.inj q);rw[decide_eq_false h];exact(beq_eq_false_iff_ne.mpr e).symm
theorem CI(a b:Str):decide ((Sum.inr a:Key)=Sum.inr b)=decide (a=b):=by
 by_cases e:a=b
 ·subst e;simp
 ·have h:¬(Sum.inr a:Key)=Sum.inr b:=λq=>e (Sum.inr.inj q);rw[decide_eq_false h,decide_eq_false e]
theorem Ax(a:Int)(b:Str):decide ((Sum.inl a:Key)=Sum.inr b)=false:=decide_eq_false (λq=>nomatch q)
theorem D7(a:Str)(b:Int):decide ((Sum.inr a:Key)=Sum.inl b)=false:=decide_eq_false (λq=>nomatch q)
noncomputable def bR(prog:bh)(w:aR):PySem.KeyKind prog w Key where
 is:=jb
 hash:=Dt w
 inj:=λv a b ha hb=>by
  rcases gF ha with⟨i,t,rfl,rfl⟩|⟨x,t,rfl,rfl⟩
  ·rcases gF hb with⟨j,u,rfl,e⟩|⟨y,u,rfl,e⟩
   ·injection e with e1 _;rw[e1]
   ·exact nomatch e
  ·rcases gF hb with⟨j,u,rfl,e⟩|⟨y,u,rfl,e⟩
   ·exact nomatch e
   ·injection e with e1 _;rw[e1]
 byValue:=λk v h=>by
  rcases gF h with⟨i,t,rfl,rfl⟩|⟨x,t,rfl,rfl⟩ <;> rfl
 pyHash:=λhv h=>by
  rcases gF hv with⟨i,t,rfl,rfl⟩|⟨x,t,rfl,rfl⟩
  ·exact wpAny_pyHash_int h
  ·exact wpAny_pyHash_str h
 eqBool:=λhu hv h=>by
  rcases gF hu with⟨i,t,rfl,rfl⟩|⟨x,t,rfl,rfl⟩
  ·rcases gF hv with⟨j,u,rfl,rfl⟩|⟨y,u,rfl,rfl⟩
   ·rw[Cl]at h;exact wpAny_eqBool_int h
   ·rw[Ax]at h;exact SeqAt.EqAt.int_str i t y u _ _ _ _ h
  ·rcases gF hv with⟨j,u,rfl,rfl⟩|⟨y,u,rfl,rfl⟩
   ·rw[D7]at h;exact SeqAt.EqAt.str_int x t j u _ _ _ _ h
   ·rw[CI]at h;exact wpAny_eqBool_str h
 «strs»:=λk x t v h=>by
  rcases gF h with⟨i,u,rfl,e⟩|⟨y,u,rfl,e⟩
  ·exact nomatch e
  ·injection e with e1 _;subst e1;cases v <;> rfl
theorem DH(prog:bh)(w:aR)(i:Int)(t:Tok):(bR prog w).is (.inl i) (.int i t)=true:=CO i t
theorem Gc(prog:bh)(w:aR)(x:Str)(t:Tok):(bR prog w).is (.inr x) (.str x t)=true:=BR x t
inductive V where
 |non|bl (b:Bool)|int (i:Int)|str (x:Str)|byt (b:Array UInt8)|flt (b:UInt64)|ref (a:ad)|ty (n:String)
 deriving DecidableEq
def aT:V->ae->Prop
 |.non,u=>u=Value.none
 |.bl b,u=>u=Value.bool b
 |.int i,u=>∃t,u=Value.int i t
 |.str x,u=>∃t,u=Value.str x t
 |.byt b,u=>∃t,u=Value.bytes b t
 |.flt b,u=>∃t,u=Value.float b t
 |.ref a,u=>u=Value.ref a
 |.ty n,u=>u=Value.type n
abbrev Vals:List V->List ae->Prop:=cg aT
theorem Vals.length{xs:List V}{us:List ae}(r:Vals xs us):xs.length=us.length:=Paired.length r
theorem Vals.get:∀{xs:List V}{us:List ae}{i:Nat}{x:V},Vals xs us->xs[i]?=some x->∃u,us[i]?=some u/\aT x u
 |_,_,_,_,.nil,e=>by simp at e
 |_,_,0,_,.cons r _,e=>by simp at e;subst e;exact⟨_,rfl,r⟩
 |_,_,i+1,x,.cons _ t,e=>by
   obtain⟨u,h1,h2⟩:=Vals.get (i:=i) (x:=x) t (by simpa using e);exact⟨u,by simpa using h1,h2⟩
theorem Vals.set{x:V}{u:ae}(r:aT x u):∀{xs:List V}{us:List ae}(i:Nat),Vals xs us->Vals (xs.set i x) (us.set i u)
 |_,_,_,.nil=>.nil
 |_,_,0,.cons _ t=>.cons r t
 |_,_,i+1,.cons q t=>.cons q (Vals.set r i t)
theorem Vals.append:∀{xs ys:List V}{us ws:List ae},Vals xs us->Vals ys ws->Vals (xs++ys) (us++ws)
 |_,_,_,_,.nil,s=>s
 |_,_,_,_,.cons r t,s=>.cons r (Vals.append t s)
theorem Vals.take:∀{xs:List V}{us:List ae}(n:Nat),Vals xs us->Vals (xs.take n) (us.take n)
 |_,_,0,_=>.nil
 |_,_,_+1,.nil=>.nil
 |_,_,n+1,.cons r t=>.cons r (Vals.take n t)
theorem Vals.drop:∀{xs:List V}{us:List ae}(n:Nat),Vals xs us->Vals (xs.drop n) (us.drop n)
 |_,_,0,r=>r
 |_,_,_+1,.nil=>.nil
 |_,_,n+1,.cons _ t=>Vals.drop n t
def ff:Option V->Option ae->Prop
 |some v,some u=>aT v u
 |none,none=>True
 |_,_=>False
def KV{κ:Type}:List (κ×V)->List (κ×ae)->Prop:=cg λ(p:κ×V) (q:κ×ae)=>p.1=q.1/\aT p.2 q.2
noncomputable def kV:Key->V
 |.inl i=>.int i
 |.inr x=>.str x
inductive HO where
  |lst (xs:List V)
  |tup (xs:List V)
  |dK (kvs:List (Key×V))|dT (kvs:List (List Key×V))
  |set (S:Int->Bool) (n:Nat)
  |ins (C dx:ad) (fs:List (Str×V))
  |own (x:ad)
  |xd (fs:List (Str×V))
  |met (f x:ad)
  |rng (lo hi:Int)
  |frz (o:aw) (u:HO)
  |tbl (ps:Array ae)
  |ext (φ:aI->Prop)
abbrev Hp:=ad->Option HO
noncomputable def upd(H:Hp)(a:ad)(o:HO):Hp:=λb=>if b=a then some o else H b
theorem dE{H:Hp}{a:ad}{o:HO}:upd H a o a=some o:=by unfold upd;rw[if_pos rfl]
theorem aY{H:Hp}{a b:ad}{o:HO}(h:b≠a):upd H a o b=H b:=by unfold upd;rw[if_neg h]
theorem BX{H:Hp}{a b:ad}{o u:HO}(h:H a=some o)(h':H b=some u)(d:o≠u):a≠b:=by
 intro e;subst e;rw[h]at h';exact d (Option.some.inj h')
theorem dF{H:Hp}{a b:ad}{o:HO}(h:H a=some o)(h':H b=none):a≠b:=by
 intro e;subst e;rw[h]at h';cases h'
section
variable (P:bh)(w:aR)
def bW(H:Hp)(h:aI)(a:ad):HO->Prop
 |.lst xs=>xs.length≤aW/\∃(its:List ae) (n:Nat),Vals xs its/\h.get? a=some { cls:=.type "list",data:=.seq its.toArray n }
 |.tup xs=>xs.length≤aW/\∃its:List ae,Vals xs its/\IsTup h a its.toArray
 |.dK kvs=>kvs.length≤aW/\(a == sysModules)=false/\∃vs,KV kvs vs/\h.DictOf (bR P w) a vs
 |.dT kvs=>kvs.length≤aW/\(a == sysModules)=false/\∃xs:List (List Key×ad×ae),
   cg (λ(p:List Key×V) (q:List Key×ad×ae)=>p.1=q.1/\H q.2.1=some (.tup (p.1.map kV))/\aT p.2 q.2.2) kvs xs /\
   ∃o es ep,h.get? a=some o/\o.ExactDict/\o.data=.dict es ep/\es.toList=xs.map (entryOfKey (tupleKind (bR P w)))/\(xs.map (·.1)).Nodup
 |.set S n=>h.SetOf (intKind P w) a S n
 |.ins C dx fs=>H dx=some (.own a)/\fs.length≤1000/\dx≠a/\h.get? a=some (PySem.W.instObj C dx) /\
   ∃mA,h.Ns1 dx mA/\(∀f,ff (fs.lookup f) (mA f))/\PySem.Within mA (fs.map (·.1))
 |.own _=>∃o,h.get? a=some o
 |.xd fs=>∃mA,h.Ns1 a mA/\∀f,ff (fs.lookup f) (mA f)
 |.rng lo hi=>∃t u v,h.get? a=some { cls:=.type "range",data:=.fields #[.int lo t,.int hi u,.int 1 v] }
 |.frz o u=>h.get? a=some o/\bW H h a u
 |.tbl ps=>h.get? a=some { cls:=.none,data:=.fields ps }
 |.met f x=>h.get? a=some (PySem.W.methodObj (.ref f) (.ref x))
 |.ext φ=>φ h/\(∃o,h.get? a=some o)/\∀h1 h2:aI,φ h1->(∀o,h1.get? a=some o->h2.get? a=some o)->φ h2
def HOk(H:Hp)(h:aI):Prop:=∀a o,H a=some o->bW P w H h a o
end
section
variable {P:bh}{w:aR}{H H':Hp}{h h':aI}{a:ad}{o:HO}
theorem bW.lt(x:bW P w H h a o):a<h.objs.size:=by
 cases o with
 |lst xs=>obtain⟨_,_,_,_,e⟩:=x;exact bC e
 |tup xs=>obtain⟨_,_,_,p⟩:=x;exact p.lt
 |dK kvs=>obtain⟨_,_,_,_,o,_,_,e,_⟩:=x;exact bC e
 |dT kvs=>obtain⟨_,_,_,_,o,_,_,e,_⟩:=x;exact bC e
 |set S n=>obtain⟨o,_,_,_,e,_⟩:=x;exact bC e
 |ins C dx fs=>obtain⟨_,_,_,e,_⟩:=x;exact bC e
 |own y=>obtain⟨_,e⟩:=x;exact bC e
 |xd fs=>obtain⟨_,⟨_,_,_,e,_⟩,_⟩:=x;exact bC e
 |rng lo hi=>obtain⟨_,_,_,e⟩:=x;exact bC e
 |frz ob u=>obtain⟨e,_⟩:=x;exact bC e
 |tbl ps=>exact bC (show h.get? a=some _ from x)
 |met f y=>exact bC (show h.get? a=some _ from x)
 |ext φ=>obtain⟨_,⟨_,e⟩,_⟩:=x;exact bC e
theorem Paired.mapP{α β:Type}{F G:α->β->Prop}:∀{l₁:List α}{l₂:List β},cg F l₁ l₂->(∀a b,F a b->G a b)->cg G l₁ l₂
 |_,_,.nil,_=>.nil
 |_,_,.cons r t,f=>.cons (f _ _ r) (Paired.mapP t f)
theorem Paired.imp'{α β:Type}{F G:α->β->Prop}(f:∀a b,F a b->G a b){l₁:List α}{l₂:List β}(r:cg F l₁ l₂):cg G l₁ l₂:=Paired.mapP r f
theorem bW.stay(x:bW P w H h a o)(k:∀b u,(b=a∨H b=some (.own a))->h.get? b=some u->h'.get? b=some u)
  (ho:∀b,H b=some (.own a)->H' b=some (.own a)) (ht:∀b xs,H b=some (.tup xs)->H' b=some (.tup xs)):bW P w H' h' a o:=by
 induction o with
 |lst xs=>obtain⟨z,its,n,r,e⟩:=x;exact⟨z,its,n,r,k _ _ (.inl rfl) e⟩
 |tup xs=>obtain⟨z,its,r,ob,e,c⟩:=x;exact⟨z,its,r,ob,k _ _ (.inl rfl) e,c⟩
 |dK kvs=>obtain⟨z,y,vs,r,ob,es,ep,e,c⟩:=x;exact⟨z,y,vs,r,ob,es,ep,k _ _ (.inl rfl) e,c⟩
 |dT kvs=>
   obtain⟨z,y,xs,r,ob,es,ep,e,c⟩:=x;exact⟨z,y,xs,Paired.mapP r λp q z=>⟨z.1,ht _ _ z.2.1,z.2.2⟩,ob,es,ep,k _ _ (.inl rfl) e,c⟩
 |set S n=>obtain⟨ob,es,ep,t,e,c⟩:=x;exact⟨ob,es,ep,t,k _ _ (.inl rfl) e,c⟩
 |ins C dx fs=>
   obtain⟨d,z,ne,e,mA,⟨od,es,ep,e2,c⟩,r⟩:=x;exact⟨ho _ d,z,ne,k _ _ (.inl rfl) e,mA,⟨od,es,ep,k _ _ (.inr d) e2,c⟩,r⟩
 |own y=>obtain⟨ob,e⟩:=x;exact⟨ob,k _ _ (.inl rfl) e⟩
 |xd fs=>obtain⟨mA,⟨od,es,ep,e,c⟩,r⟩:=x;exact⟨mA,⟨od,es,ep,k _ _ (.inl rfl) e,c⟩,r⟩
 |rng lo hi=>obtain⟨t,u,v,e⟩:=x;exact⟨t,u,v,k _ _ (.inl rfl) e⟩
 |frz ob u ih=>obtain⟨e,q⟩:=x;exact⟨k _ _ (.inl rfl) e,ih q⟩
 |tbl ps=>
   have e:h.get? a=some { cls:=.none,data:=.fields ps }:=x;show h'.get? a=some { cls:=.none,data:=.fields ps };exact k a _ (.inl rfl) e
 |met f y=>
   have e:h.get? a=some (PySem.W.methodObj (.ref f) (.ref y)):=x;show h'.get? a=some (PySem.W.methodObj (.ref f) (.ref y));exact k a _ (.inl rfl) e
 |ext φ=>obtain⟨p,⟨o,e⟩,st⟩:=x;exact⟨st _ _ p λo q=>k _ _ (.inl rfl) q,⟨o,k _ _ (.inl rfl) e⟩,st⟩
theorem HOk.lt(x:HOk P w H h)(e:H a=some o):a<h.objs.size:=(x a o e).lt
theorem HOk.fresh(x:HOk P w H h)(e:h.objs.size≤a):H a=none:=by
 cases q:H a with
 |none=>rfl
 |some u=>exact absurd (c5 (x.lt q) e) (iN _)
theorem HOk.kept(x:HOk P w H h)(k:∀b u,h.get? b=some u->h'.get? b=some u):HOk P w H h':=λa o e=>
 (x a o e).stay (λb u _ q=>k b u q) (λ_ q=>q) λ_ _ q=>q
theorem HOk.laid(x:HOk P w H h)(k:∀b u,h.get? b=some u->h'.get? b=some u)(hp:h.objs.size≤a)(new:bW P w (upd H a o) h' a o):HOk P w (upd H a o) h':=λb u e=>by
 have hn:=x.fresh hp;by_cases hb:b=a
 ·subst hb;rw[dE]at e;cases e;exact new
 ·rw[aY hb]at e;exact(x b u e).stay (λc v _ q=>k c v q) (λc q=>by rw[aY (dF q hn)];exact q) λc xs q=>by rw[aY (dF q hn)];exact q
end
def Rd(H:Hp)(a:ad)(u:HO):Prop:=H a=some u∨∃o,H a=some (.frz o u)
theorem Rd.ok{P:bh}{w:aR}{H:Hp}{h:aI}{a:ad}{u:HO}(r:Rd H a u)(x:HOk P w H h):bW P w H h a u:=by
 rcases r with r|⟨o,r⟩
 ·exact x a u r
 ·obtain⟨_,q⟩:=x a _ r;exact q
def Mut:Option HO->Prop
 |some (.lst _)=>True
 |some (.dK _)=>True
 |some (.dT _)=>True
 |some (.set _ _)=>True
 |some (.ins _ _ _)=>True
 |some (.ext _)=>True
 |_=>False
section
variable {P:bh}{w:aR}{H:Hp}{h h':aI}{x e:ad}{o':HO}
theorem HOk.write(ok:HOk P w H h)(mu:Mut (H x))(he:e=x∨H e=some (.own x))(k:∀b u,b≠e->h.get? b=some u->h'.get? b=some u)(heo:∃u,h'.get? e=some u)
  (new:bW P w (upd H x o') h' x o'):HOk P w (upd H x o') h':=λb u q=>by
 have nown:∀c y,H c=some (.own y)->c≠x:=λc y r z=>by subst z;rw[r]at mu;exact mu
 have ntup:∀c xs,H c=some (.tup xs)->c≠x:=λc xs r z=>by subst z;rw[r]at mu;exact mu
 by_cases hb:b=x
 ·subst hb;rw[dE]at q;cases q;exact new
 ·rw[aY hb]at q;by_cases hbe:b=e
  ·have q':H b=some (.own x):=by
    rcases he with z|z
    ·exact absurd (hbe.trans z) hb
    ·rw[hbe];exact z
   rw[q]at q';cases q';obtain⟨v,hv⟩:=heo;exact⟨v,by rw[hbe];exact hv⟩
  ·refine(ok b u q).stay (λc v hc r=>k c v ?_ r) (λc r=>by rw[aY (nown c b r)];exact r) λc xs r=>by rw[aY (ntup c xs r)];exact r
   rcases hc with rfl|hc
   ·exact hbe
   ·rintro rfl;rcases he with z|z
    ·exact nown c b hc z
    ·rw[hc]at z;cases z;exact hb rfl
end
structure Un(fs ex:List ad)(H H':Hp)(h h':aI):Prop where
 keep:∀b o,h.get? b=some o->H b=none->b∉fs->b∉ex->h'.get? b=some o
 slot:∀b o,h.get? b=some o->H b=none->b∈fs->b∉ex->∃sl,h'.get? b=some { o with slots:=sl }
 free:∀b o,h.get? b=some o->H b=none->b∉ex->H' b=none
 there:∀b o,h.get? b=some o->b∉ex->∃o',h'.get? b=some o'
 tups:∀b xs,H b=some (.tup xs)->H' b=some (.tup xs)
 frzs:∀b o u,H b=some (.frz o u)->H' b=some (.frz o u)
 tbls:∀b ps,H b=some (.tbl ps)->∃more,H' b=some (.tbl (ps++more))
section
variable {fs fs' ex ex':List ad}{H H1 H2:Hp}{h h1 h2 h':aI}{a x e:ad}{o:HO}
theorem Un.any(u:Un fs ex H H1 h h1){b:ad}{ob:aw}(q:h.get? b=some ob)(n:H b=none)(hx:b∉ex):∃sl,h1.get? b=some { ob with slots:=sl }:=by
 by_cases hb:b∈fs
 ·exact u.slot b ob q n hb hx
 ·exact⟨ob.slots,u.keep b ob q n hb hx⟩
theorem Un.kept(k:∀b u,h.get? b=some u->h'.get? b=some u):Un fs ex H H h h':=
 ⟨λb ob q _ _ _=>k b ob q,λb ob q _ _ _=>⟨ob.slots,k b ob q⟩,λ_ _ _ n _=>n,λb ob q _=>⟨ob,k b ob q⟩,λ_ _ q=>q,λ_ _ _ q=>q,λ_ ps q=>⟨#[],by rw[q];simp⟩⟩
theorem Un.refl:Un fs ex H H h h:=Un.kept λ_ _ q=>q
theorem Un.laid(k:∀b u,h.get? b=some u->h'.get? b=some u)(hp:h.objs.size≤a)(hn:H a=none):Un fs ex H (upd H a o) h h' where
 keep:=λb u q _ _ _=>k b u q
 slot:=λb u q _ _ _=>⟨u.slots,k b u q⟩
 free:=λb u q n _=>by rw[aY (cT (c5 (bC q) hp))];exact n
 there:=λb u q _=>⟨u,k b u q⟩
 tups:=λb xs q=>by rw[aY (dF q hn)];exact q
 frzs:=λb u xs q=>by rw[aY (dF q hn)];exact q
 tbls:=λb ps q=>⟨#[],by rw[aY (dF q hn),q];simp⟩
theorem Un.write(mu:Mut (H x))(he:e=x∨H e=some (.own x))(k:∀b u,b≠e->h.get? b=some u->h'.get? b=some u)(heo:∃u,h'.get? e=some u):Un fs ex H (upd H x o) h h':=by
 have hx:∀b,H b=none->b≠x:=λb n z=>by subst z;rw[n]at mu;exact mu
 have hb:∀b,H b=none->b≠e:=λb n z=>by
  subst z;rcases he with r|r
  ·exact hx b n r
  ·rw[n]at r;cases r
 have hm:∀b u,H b=some u->¬Mut (some u)->b≠x:=λb u q nm z=>by subst z;rw[q]at mu;exact nm mu
 refine ⟨λb u q n _ _=>k b u (hb b n) q,λb u q n _ _=>⟨u.slots,k b u (hb b n) q⟩,λb u q n _=>by rw [aY (hx b n)];exact n,λb u q _=>?_,
  λb xs q=>by rw [aY (hm b _ q λz=>z)];exact q,λb u xs q=>by rw [aY (hm b _ q λz=>z)];exact q,λb ps q=>⟨#[],by rw [aY (hm b _ q λz=>z),q];simp⟩⟩
 by_cases hbe:b=e
 ·subst hbe;exact heo
 ·exact⟨u,k b u hbe q⟩
end
noncomputable def trk(h:aI)(H:Hp):List ad:=(cM h.objs.size).filter λa=>(H a).isSome
noncomputable def iR(h:aI)(H:Hp):aI:=PySem.W.hideAll h (trk h H)
theorem GG(h:aI)(H:Hp):(iR h H).objs.size=h.objs.size:=PySem.W.hideAll_size _ _
theorem EL{h:aI}{H:Hp}{b:ad}{o:aw}(e:h.get? b=some o)(n:H b=none):(iR h H).get? b=some o:=
 PySem.W.hideAll_get _ e λhm=>by
  have q:(H b).isSome=true:=(List.mem_filter.mp hm).2;rw[n]at q;simp at q
theorem AS{h:aI}{H:Hp}{b:ad}{o:aw}(e:(iR h H).get? b=some o):h.get? b=some o/\H b=none:=by
 have e':h.get? b=some o:=PySem.W.of_hideAll (trk h H) e;refine⟨e',?_⟩;cases q:H b with
 |none=>rfl
 |some x=>
   have hm:b∈trk h H:=List.mem_filter.mpr ⟨iW.mpr (bC e'),by simp[q]⟩;have z:(iR h H).get? b=none:=PySem.W.hideAll_none (trk h H) hm;rw[z]at e;cases e
structure Mod(K:PySem.W.Frag)(mg:Str->Option ae)(base:aI):Prop where
 kin:K.In base
 glob:base.Ns dA mg
 blt:∃mb,base.Ns builtinsNs mb/\∀x:Str,x≠"__name__"->mb x=bootBuiltins x
 nolimit:base.NoLimit
structure Cx where
 prog:bh
 w:aR
 K:PySem.W.Frag
 mg:Str->Option ae
 base:aI
 A:aX
 N:List Str
 s₀:ag
 H₀:Hp
 env:Env
 outer:List Env
 stack:List Env
 ex:List ad
 fn:Str->Bool
 calm:Bool
 pn:List (ad×aw)
 xe:ae->ag->Prop
noncomputable def frs(l:List Env):List ad:=l.filterMap (·.frame)
noncomputable abbrev Cx.fs(X:Cx):List ad:=frs X.outer
def Vis(sc:Scope)(x:Str):Prop:=sc.names.lookup x=some .local∨sc.names.lookup x=some .cell∨sc.names.lookup x=some .free
def Loc(sc:Scope)(x:Str):Prop:=sc.names.lookup x=some .local∨sc.names.lookup x=some .cell
def Look(env:Env)(h:aI)(m:Str->Option ae)(x:Str)(u:ae):Prop:=
 (env.kindOf x=some .local/\m x=some u)∨((env.kindOf x=some .cell∨env.kindOf x=some .free)/\∃c,env.cells.lookup x=some c/\h.IsCell c (some u))
structure Cx.Ok(X:Cx):Prop where
 mod:Mod X.K X.mg X.base
 kind:X.env.scope.kind=.function
 glob:X.env.globals=dA
 blt:X.env.builtins=builtinsNs
 above:X.s₀.heap.objs.size≤X.env.locals
 inj:∀x y c,X.env.cells.lookup x=some c->X.env.cells.lookup y=some c->x=y
 has:∀x,(X.env.kindOf x=some .cell∨X.env.kindOf x=some .free)->∃c,X.env.cells.lookup x=some c
 cab:∀x c,X.fn x=true->X.env.cells.lookup x=some c->X.s₀.heap.objs.size≤c
 hd:X.calm=true->X.A.handled=none
 frames:X.A.frames=some X.stack
 stk:X.stack=X.outer∨(X.stack=X.env::X.outer/\X.env.frame=some X.env.locals)
 exf:∀b∈X.ex,b≠X.env.locals/\∀x c,X.env.cells.lookup x=some c->c≠b
 bs:∀b o,X.base.get? b=some o->X.s₀.heap.get? b=some o/\X.H₀ b=none
 bsz:X.base.objs.size≤X.s₀.heap.objs.size
 noex:∀b o,X.base.get? b=some o->b∉X.ex
 exfs:∀b∈X.ex,b∉X.fs
 funs:X.s₀.heap.FunFrames X.base X.outer
 frf:∀b∈X.fs,X.H₀ b=none
structure Inv(X:Cx)(pins:List (ad×aw))(σ:List (Option V))(H:Hp)(s:ag):Prop where
 ok:X.Ok
 os:s.os=X.s₀.os
 bare:AllBare s.gens
 base:Un X.fs X.ex X.H₀ H X.s₀.heap s.heap
 loc:∃m,s.heap.Ns X.env.locals m/\∀(i:Nat) (x:Str) (v:V),X.N[i]?=some x->σ[i]?=some (some v)->Vis X.env.scope x->∃u,aT v u/\Look X.env s.heap m x u
 cell:∀x c,X.env.cells.lookup x=some c->∃v,s.heap.IsCell c v
 free:H X.env.locals=none
 freeC:∀x c,X.env.cells.lookup x=some c->H c=none
 pin:∀p∈X.pn++pins,s.heap.get? p.1=some p.2/\H p.1=none/\p.1≠X.env.locals/\p.1∉X.fs/\∀v,p.2.data≠.cell v
 hok:HOk X.prog X.w H s.heap
 len:σ.length=X.N.length
section
variable {X:Cx}{pins:List (ad×aw)}{σ:List (Option V)}{H H':Hp}{s:ag}{h':aI}
theorem Cx.Ok.nofr(ok:X.Ok){b:ad}{o:aw}(e:X.base.get? b=some o):b∉X.fs:=λhb=>by
 have:=(ok.funs.mem hb).1;rw[e]at this;cases this
theorem Inv.bs(I:Inv X pins σ H s):∀b o,X.base.get? b=some o->s.heap.get? b=some o/\H b=none:=λb o e=>
 ⟨I.base.keep b o (I.ok.bs b o e).1 (I.ok.bs b o e).2 (I.ok.nofr e) (I.ok.noex b o e),I.base.free b o (I.ok.bs b o e).1 (I.ok.bs b o e).2 (I.ok.noex b o e)⟩
theorem Inv.bk(I:Inv X pins σ H s):∀b o,X.base.get? b=some o->s.heap.get? b=some o:=λb o e=>(I.bs b o e).1
theorem Inv.mod(I:Inv X pins σ H s):Mod X.K X.mg X.base:=I.ok.mod
theorem Inv.kIn(I:Inv X pins σ H s):X.K.In s.heap:=I.ok.mod.kin.keeps I.bk
theorem Inv.nolimit(I:Inv X pins σ H s):s.heap.NoLimit:=I.ok.mod.nolimit.keeps I.bk
theorem Inv.lt(I:Inv X pins σ H s):X.env.locals<s.heap.objs.size:=let ⟨_,hn,_⟩:=I.loc;hn.lt
theorem Inv.sz(I:Inv X pins σ H s):X.s₀.heap.objs.size≤s.heap.objs.size:=bV I.ok.above (nL I.lt)
theorem Inv.nofs(I:Inv X pins σ H s){a:ad}(h:s.heap.objs.size≤a):a∉X.fs:=λhb=>by
 obtain⟨_,o,ho,_⟩:=I.ok.funs.mem hb;exact absurd (c5 (bC ho) (bV I.sz h)) (iN _)
theorem Inv.cne(I:Inv X pins σ H s):∀x c,X.env.cells.lookup x=some c->c≠X.env.locals:=λx c e z=>by
 obtain⟨v,o,ho,hd⟩:=I.cell x c e;obtain⟨m,⟨o',es,ep,ho',hd',_⟩,_⟩:=I.loc;rw[z,ho']at ho;cases ho;rw[hd']at hd;cases hd
theorem Inv.funs(I:Inv X pins σ H s):s.heap.FunFrames X.base X.outer:=by
 have all:∀(l:List Env),(∀b∈frs l,b∈X.fs)->X.s₀.heap.FunFrames X.base l->s.heap.FunFrames X.base l:=by
  intro l
  induction l with
  |nil=>intro _ _;trivial
  |cons env r ih=>
    intro hs hl;obtain⟨hk,⟨L,o,hf,hn,ho,hd⟩,hr⟩:=hl;have hL:L∈X.fs:=hs L (by unfold frs;rw[tj,hf];exact dn);obtain⟨sl,e⟩:=I.base.slot L o ho (I.ok.frf L hL) hL λz=>I.ok.exfs L z hL;exact⟨hk,⟨L,_,hf,hn,e,hd⟩,ih (λb hb=>hs b (by unfold frs;rw[tj,hf];exact cS _ hb)) hr⟩
 exact all X.outer (λ_ hb=>hb) I.ok.funs
theorem Inv.stack(I:Inv X pins σ H s):s.heap.FunFrames X.base X.stack:=by
 rcases I.ok.stk with e|⟨e,hf⟩
 ·rw[e];exact I.funs
 ·rw[e];obtain⟨m,hn,_⟩:=I.loc;refine .cons (by rw[I.ok.kind];decide) hf hn ?_ I.funs;exact lD (bV I.ok.bsz I.ok.above)
theorem Inv.stkSub(I:Inv X pins σ H s):∀b∈frs X.stack,b∈X.env.locals::X.fs:=λb hb=>by
 rcases I.ok.stk with e|⟨e,hf⟩
 ·rw[e]at hb;exact cS _ hb
 ·rw[e]at hb;unfold frs at hb;rw[tj,hf]at hb;exact hb
theorem Inv.stkFree(I:Inv X pins σ H s):∀b∈frs X.stack,H b=none:=λb hb=>by
 rcases bE.mp (I.stkSub b hb) with e|hb
 ·rw[e];exact I.free
 ·obtain⟨_,o,ho,_⟩:=I.ok.funs.mem hb;exact I.base.free b o ho (I.ok.frf b hb) λz=>I.ok.exfs b z hb
theorem Inv.step{g':Array GenState}{t':Nat}{d':Drawn}{ch:List ad}(I:Inv X pins σ H s)
  (hch:∀b∈ch,(b∈X.ex∨X.s₀.heap.objs.size≤b)/\b≠X.env.locals/\(∀x c,X.env.cells.lookup x=some c->c≠b)/\∀p∈X.pn++pins,p.1≠b)
  (keep:∀b o,b≠X.env.locals->b∉X.fs->b∉ch->s.heap.get? b=some o->H b=none->h'.get? b=some o)
  (slot:∀b o,b≠X.env.locals->b∈X.fs->b∉ch->s.heap.get? b=some o->H b=none->∃sl,h'.get? b=some { o with slots:=sl }) (free:∀b o,b∉ch->s.heap.get? b=some o->H b=none->H' b=none)
  (there:∀b o,b∉ch->s.heap.get? b=some o->∃o',h'.get? b=some o')
  (tups:∀b xs,H b=some (.tup xs)->H' b=some (.tup xs)) (frzs:∀b o u,H b=some (.frz o u)->H' b=some (.frz o u)) (tbls:∀b ps,H b=some (.tbl ps)->∃more,H' b=some (.tbl (ps++more)))
  (ns:∀m,s.heap.Ns X.env.locals m->h'.Ns X.env.locals m) (hok:HOk X.prog X.w H' h') (hg:AllBare g') :
  Inv X pins σ H' { s with heap:=h',gens:=g',drawn:=d',toks:=t' }:=by
 have neL:∀b o,X.s₀.heap.get? b=some o->b≠X.env.locals:=λb o e=>cT (c5 (bC e) I.ok.above);have neC:∀b o,X.s₀.heap.get? b=some o->b∉X.ex->b∉ch:=λb o e hx hb=>by
  rcases(hch b hb).1 with z|z
  ·exact hx z
  ·exact absurd (c5 (bC e) z) (iN _)
 have cellK:∀x c,X.env.cells.lookup x=some c->∀v,s.heap.IsCell c v->h'.IsCell c v:=λx c e v e0=>e0.elim λo e1=>e1.elim λho hd=>by
  have nch:c∉ch:=λz=>(hch c z).2.2.1 x c e rfl;by_cases hc:c∈X.fs
  ·obtain⟨sl,q⟩:=slot c o (I.cne x c e) hc nch ho (I.freeC x c e);exact⟨_,q,hd⟩
  ·exact⟨o,keep c o (I.cne x c e) hc nch ho (I.freeC x c e),hd⟩
 refine⟨I.ok,I.os,hg,⟨λb o e n hb hx=>?_,λb o e n hb hx=>?_,λb o e n hx=>?_,λb o e hx=>?_,λb xs e=>tups b xs (I.base.tups b xs e),λb o xs e=>frzs b o xs (I.base.frzs b o xs e),λb ps e=>?_⟩,?_,λx c e=>?_,?_,λx c e=>?_,λp hp=>?_,hok,I.len⟩
 ·exact keep b o (neL b o e) hb (neC b o e hx) (I.base.keep b o e n hb hx) (I.base.free b o e n hx)
 ·obtain⟨sl,e1⟩:=I.base.slot b o e n hb hx;obtain⟨sl',e2⟩:=slot b _ (neL b o e) hb (neC b o e hx) e1 (I.base.free b o e n hx);exact⟨sl',e2⟩
 ·obtain⟨o',e1⟩:=I.base.there b o e hx;exact free b o' (neC b o e hx) e1 (I.base.free b o e n hx)
 ·obtain⟨o',e1⟩:=I.base.there b o e hx;exact there b o' (neC b o e hx) e1
 ·obtain⟨m1,e1⟩:=I.base.tbls b ps e;obtain⟨m2,e2⟩:=tbls b _ e1;exact⟨m1++m2,by rw[e2,Array.append_assoc]⟩
 ·obtain⟨m,hn,hl⟩:=I.loc;refine⟨m,ns m hn,λi x v e1 e2 e3=>?_⟩;obtain⟨u,r,l⟩:=hl i x v e1 e2 e3;refine⟨u,r,?_⟩;rcases l with l|⟨k,c,e,z⟩
  ·exact .inl l
  ·exact .inr ⟨k,c,e,cellK x c e _ z⟩
 ·obtain⟨v,z⟩:=I.cell x c e;exact⟨v,cellK x c e v z⟩
 ·obtain⟨m,⟨o,_,_,ho,_⟩,_⟩:=I.loc;exact free _ o (λz=>(hch _ z).2.1 rfl) ho I.free
 ·obtain⟨v,o,ho,hd⟩:=I.cell x c e;exact free c o (λz=>(hch c z).2.2.1 x c e rfl) ho (I.freeC x c e)
 ·obtain⟨e,n,ne,nf,d⟩:=I.pin p hp;have nch:p.1∉ch:=λz=>(hch p.1 z).2.2.2 p hp rfl;exact⟨keep p.1 p.2 ne nf nch e n,free p.1 p.2 nch e n,ne,nf,d⟩
theorem Inv.un{t':Nat}(I:Inv X pins σ H s)(u:Un X.fs [] H H' s.heap h')(hok:HOk X.prog X.w H' h'):Inv X pins σ H' { s with heap:=h',toks:=t' }:=by
 obtain⟨m,⟨o,es,ep,ho,r⟩,_⟩:=id I.loc;obtain⟨sl,hL⟩:=u.any ho I.free (by simp);exact I.step (g':=s.gens) (d':=s.drawn) (ch:=[]) (λ_ z=>nomatch z) (λb o _ hb _ e n=>u.keep b o e n hb (by simp)) (λb o _ hb _ e n=>u.slot b o e n hb (by simp)) (λb o _ e n=>u.free b o e n (by simp)) (λb o _ e=>u.there b o e (by simp)) u.tups u.frzs u.tbls (λm' hm=>by
  obtain ⟨o',es',ep',ho',r'⟩:=hm;rw [ho] at ho';cases ho';exact ⟨_,es',ep',hL,r'⟩) hok I.bare
theorem Inv.call{g':Array GenState}{t':Nat}{d':Drawn}{ch:List ad}(I:Inv X pins σ H s)(u:Un (frs X.stack) ch H H' s.heap h')(hok:HOk X.prog X.w H' h')(hg:AllBare g')
  (hch:∀b∈ch,(b∈X.ex∨X.s₀.heap.objs.size≤b)/\b≠X.env.locals/\(∀x c,X.env.cells.lookup x=some c->c≠b)/\∀p∈X.pn++pins,p.1≠b) :
  Inv X pins σ H' { s with heap:=h',gens:=g',drawn:=d',toks:=t' }:=by
 obtain ⟨m,⟨o,es,ep,ho,r⟩,_⟩:=id I.loc;obtain ⟨sl,hL⟩:=u.any ho I.free λz=>(hch _ z).2.1 rfl;exact I.step (ch:=ch) hch (λb o hL hb hc e n=>u.keep b o e n (λz=>(bE.mp (I.stkSub b z)).elim hL hb) hc) (λb o _ _ hc e n=>u.any e n hc) (λb o hc e n=>u.free b o e n hc) (λb o hc e=>u.there b o e hc) u.tups u.frzs u.tbls (λm' hm=>by
  obtain ⟨o',es',ep',ho',r'⟩:=hm;rw [ho] at ho';cases ho';exact ⟨_,es',ep',hL,r'⟩) hok hg
theorem Inv.turned{t':Nat}{it:ad}(I:Inv X pins σ H s)(k:∀b o,b≠it->s.heap.get? b=some o->h'.get? b=some o)(hn:H it=none)(hL:it≠X.env.locals)
  (h1:it∈X.ex∨X.s₀.heap.objs.size≤it) (h2:∀x c,X.env.cells.lookup x=some c->c≠it) (h3:∀p∈X.pn++pins,p.1≠it):Inv X pins σ H { s with heap:=h',toks:=t' }:=by
 have nit:∀b u,H b=some u->b≠it:=λb u e z=>by rw[z,hn]at e;cases e
 refine I.step (g':=s.gens) (d':=s.drawn) (ch:=[it]) (λb hb=>?_) (λb o _ _ hc e _=>k b o (λz=>hc (by simp[z])) e) (λb o _ _ hc e _=>⟨o.slots,k b o (λz=>hc (by simp[z])) e⟩) (λ_ _ _ _ n=>n)
  (λb o hc e=>⟨o,k b o (λz=>hc (by simp[z])) e⟩) (λ_ _ e=>e) (λ_ _ _ e=>e) (λb ps e=>⟨#[],by rw[e];simp⟩) (λm hm=>?_) (λb u e=>?_) I.bare
 ·have e:b=it:=by simpa using hb
  subst e;exact⟨h1,hL,h2,h3⟩
 ·obtain⟨o,es,ep,ho,r⟩:=hm;exact⟨o,es,ep,k _ o (Ne.symm hL) ho,r⟩
 ·refine(I.hok b u e).stay (λc v hc q=>k c v ?_ q) (λ_ q=>q) λ_ _ q=>q;rcases hc with z|z
  ·rw[z];exact nit b u e
  ·exact nit c _ z
theorem Inv.tok(I:Inv X pins σ H s)(t:Nat):Inv X pins σ H { s with toks:=t }:=I.un (h':=s.heap) (t':=t) Un.refl I.hok
theorem Inv.kept{t':Nat}(I:Inv X pins σ H s)(k:∀b u,s.heap.get? b=some u->h'.get? b=some u):Inv X pins σ H { s with heap:=h',toks:=t' }:=I.un (Un.kept k) (I.hok.kept k)
theorem Inv.laid{a:ad}{o:HO}{t':Nat}(I:Inv X pins σ H s)(k:∀b u,s.heap.get? b=some u->h'.get? b=some u)(hp:s.heap.objs.size≤a)(new:bW X.prog X.w (upd H a o) h' a o) :
  Inv X pins σ (upd H a o) { s with heap:=h',toks:=t' }:=I.un (Un.laid k hp (I.hok.fresh hp)) (I.hok.laid k hp new)
theorem Inv.write{x e:ad}{o:HO}{t':Nat}(I:Inv X pins σ H s)(mu:Mut (H x))(he:e=x∨H e=some (.own x))(k:∀b u,b≠e->s.heap.get? b=some u->h'.get? b=some u)(heo:∃u,h'.get? e=some u)
  (new:bW X.prog X.w (upd H x o) h' x o):Inv X pins σ (upd H x o) { s with heap:=h',toks:=t' }:=I.un (Un.write mu he k heo) (I.hok.write mu he k heo new)
theorem Inv.pins_of{pins':List (ad×aw)}(I:Inv X pins σ H s)(h:∀p∈pins',s.heap.get? p.1=some p.2/\H p.1=none/\p.1≠X.env.locals/\p.1∉X.fs/\∀v,p.2.data≠.cell v):Inv X pins' σ H s:=
 ⟨I.ok,I.os,I.bare,I.base,I.loc,I.cell,I.free,I.freeC,λp hp=>(c6.mp hp).elim (λz=>I.pin p (gp _ z)) (h p),I.hok,I.len⟩
theorem vB{N:List Str}(hN:N.Nodup){i j:Nat}{x:Str}(a:N[i]?=some x)(b:N[j]?=some x):i=j:=by
 obtain⟨h1,e1⟩:=bT.mp a;obtain⟨h2,e2⟩:=bT.mp b;exact(List.getElem_inj hN).mp (e1.trans e2.symm)
theorem D9{M:Model}{A:aX}{E:ae->ag->Prop}{i:Nat}{x:Str}{v:V}{u:ae}{Q:Unit->ag->Prop}(I:Inv X pins σ H s)(hN:X.N.Nodup)(hi:X.N[i]?=some x)(hx:Loc X.env.scope x)(r:aT v u)
  (h:∀s',Inv X pins (σ.set i (some v)) H s'->(∃a,om a s.heap s'.heap/\(a=X.env.locals∨X.env.cells.lookup x=some a))->Q () s') (hf:X.fn x=true∨X.env.scope.names.lookup x=some .local:=by first|exact .inl rfl|exact .inr rfl|assumption):aq M A (storeName X.env x u) Q E s:=by
 obtain⟨m,hn,hl⟩:=id I.loc;have hcls:(X.env.scope.kind == .class||(X.env.scope.kind == .module&&X.env.locals != X.env.globals))=false:=by rw[I.ok.kind];rfl
 have hiσ:i<σ.length:=by rw[I.len];exact(bT.mp hi).1
 have cne:=I.cne;have tracked:∀{a:ad}{h':aI},(∃o,s.heap.get? a=some o/\H a=none)->om a s.heap h'->HOk X.prog X.w H h':=λ{a h'} ha hs b ob e=>by
  obtain⟨_,_,hfree⟩:=ha;refine(I.hok b ob e).stay (λc w' hc q=>(hs.2 c ?_).trans q) (λ_ q=>q) λ_ _ q=>q;rintro rfl;rcases hc with rfl|hc
  ·rw[hfree]at e;cases e
  ·rw[hfree]at hc;cases hc
 rcases hx with hk|hk
 ·refine wpAny_storeName_local hk hn (λh' hn' hs=>?_) hcls;obtain⟨oL,_,_,hoL,_⟩:=id hn;refine h _ ⟨I.ok,I.os,I.bare,⟨λb o e n hb hx=>?_,λb o e n hb hx=>?_,I.base.free,λb o e hx=>?_,I.base.tups,I.base.frzs,I.base.tbls⟩,⟨_,hn',λj y v' e1 e2 e3=>?_⟩,λy c e=>?_,I.free,I.freeC,λp hp=>?_,tracked ⟨oL,hoL,I.free⟩ hs,by simpa using I.len⟩ ⟨_,hs,.inl rfl⟩
  ·exact(hs.2 b (cT (c5 (bC e) I.ok.above))).trans (I.base.keep b o e n hb hx)
  ·obtain⟨sl,e1⟩:=I.base.slot b o e n hb hx;exact⟨sl,(hs.2 b (cT (c5 (bC e) I.ok.above))).trans e1⟩
  ·obtain⟨o',e1⟩:=I.base.there b o e hx;exact⟨o',(hs.2 b (cT (c5 (bC e) I.ok.above))).trans e1⟩
  ·by_cases hj:j=i
   ·subst hj;rw[hi]at e1;cases e1;rw[iA hiσ]at e2;cases e2;exact⟨u,r,.inl ⟨hk,by simp⟩⟩
   ·rw[je (Ne.symm hj)]at e2;obtain⟨u',r',q⟩:=hl j y v' e1 e2 e3;refine⟨u',r',?_⟩;rcases q with⟨k,e⟩|⟨k,c,e,z⟩
    ·refine .inl ⟨k,?_⟩;have:y≠x:=λe=>hj (vB hN e1 (e▸hi));simp[this,e]
    ·exact .inr ⟨k,c,e,z.sameBut hs (cne y c e)⟩
  ·obtain⟨w',z⟩:=I.cell y c e;exact⟨w',z.sameBut hs (cne y c e)⟩
  ·obtain⟨e,n,ne,nf,d⟩:=I.pin p hp;exact⟨(hs.2 p.1 ne).trans e,n,ne,nf,d⟩
 ·have hfn:X.fn x=true:=by
   rcases hf with z|z
   ·exact z
   ·rw[z]at hk;cases hk
  obtain⟨c,hc⟩:=I.ok.has x (.inl hk);obtain⟨w',z⟩:=I.cell x c hc;refine wpAny_storeName_cell I.ok.kind hk hc z (λh' hc' hs=>?_);obtain⟨oc,hoc,hocd⟩:=id z;refine h { s with heap:=h' } ⟨I.ok,I.os,I.bare,⟨λb o e n hb hx=>?_,λb o e n hb hx=>?_,I.base.free,λb o e hx=>?_,I.base.tups,I.base.frzs,I.base.tbls⟩,⟨m,hn.sameBut hs (Ne.symm (cne x c hc)),λj y v' e1 e2 e3=>?_⟩,λy c' e=>?_,I.free,I.freeC,λp hp=>?_,tracked ⟨oc,hoc,I.freeC x c hc⟩ hs,by simpa using I.len⟩ ⟨c,hs,.inr hc⟩
  ·exact(hs.2 b (cT (c5 (bC e) (I.ok.cab x c hfn hc)))).trans (I.base.keep b o e n hb hx)
  ·obtain⟨sl,e1⟩:=I.base.slot b o e n hb hx;exact⟨sl,(hs.2 b (cT (c5 (bC e) (I.ok.cab x c hfn hc)))).trans e1⟩
  ·obtain⟨o',e1⟩:=I.base.there b o e hx;exact⟨o',(hs.2 b (cT (c5 (bC e) (I.ok.cab x c hfn hc)))).trans e1⟩
  ·by_cases hj:j=i
   ·subst hj;rw[hi]at e1;cases e1;rw[iA hiσ]at e2;cases e2;exact⟨u,r,.inr ⟨.inl hk,c,hc,hc'⟩⟩
   ·rw[je (Ne.symm hj)]at e2;obtain⟨u',r',q⟩:=hl j y v' e1 e2 e3;refine⟨u',r',?_⟩;rcases q with q|⟨k,c',e,z'⟩
    ·exact .inl q
    ·refine .inr ⟨k,c',e,z'.sameBut hs ?_⟩;rintro rfl;exact hj (vB hN e1 (I.ok.inj _ _ _ e hc▸hi))
  ·by_cases hcc:c'=c
   ·subst hcc;exact⟨_,hc'⟩
   ·obtain⟨w2,z2⟩:=I.cell y c' e;exact⟨w2,z2.sameBut hs hcc⟩
  ·obtain⟨e,n,ne,nf,d⟩:=I.pin p hp;refine⟨(hs.2 p.1 ?_).trans e,n,ne,nf,d⟩;intro q;rw[q,hoc]at e;have q':oc=p.2:=Option.some.inj e;exact d w' (by rw[←q'];exact hocd)
theorem nQ{M:Model}{A:aX}{E:ae->ag->Prop}{i:Nat}{x:Str}{v:V}{u:ae}{Q:Unit->ag->Prop}(I:Inv X pins σ H s)(hN:X.N.Nodup)(hi:X.N[i]?=some x)(hx:Loc X.env.scope x)(r:aT v u)
  (h:∀s',Inv X pins (σ.set i (some v)) H s'->Q () s') (hf:X.fn x=true∨X.env.scope.names.lookup x=some .local:=by first|exact .inl rfl|exact .inr rfl|assumption):aq M A (storeName X.env x u) Q E s:=
 D9 I hN hi hx r (λs' I' _=>h s' I') hf
theorem Inv.call'{s':ag}{ch:List ad}(I:Inv X pins σ H s)(ho:s'.os=s.os)(u:Un (frs X.stack) ch H H' s.heap s'.heap)(hok:HOk X.prog X.w H' s'.heap)(hg:AllBare s'.gens)
  (hch:∀b∈ch,(b∈X.ex∨X.s₀.heap.objs.size≤b)/\b≠X.env.locals/\(∀x c,X.env.cells.lookup x=some c->c≠b)/\∀p∈X.pn++pins,p.1≠b):Inv X pins σ H' s':=by
 obtain⟨h',g',d',t',o'⟩:=s';have e:o'=s.os:=ho;subst e;exact I.call (g':=g') (t':=t') (d':=d') u hok hg hch
end
abbrev XK:=ae->Option ad->Hp->Prop
abbrev St:=List (Option V)
abbrev VK:=V->Hp->Prop
abbrev TE:=St->Hp->VK->Prop
abbrev TT:=St->Hp->(Bool->Hp->Prop)->Prop
abbrev TA:=St->Hp->(List V->Hp->Prop)->Prop
structure Ends where
 nx:St->Hp->Prop
 rt:VK
 bk:St->Hp->Prop:=λ_ _=>False
 ct:St->Hp->Prop:=λ_ _=>False
abbrev TS:=Ends->St->Hp->Prop
def EP(X:Cx)(pins:List (ad×aw))(σ:St)(Q:VK)(u:ae)(s':ag):Prop:=∃v H',Inv X pins σ H' s'/\aT v u/\Q v H'
def TP(X:Cx)(pins:List (ad×aw))(σ:St)(Q:Bool->Hp->Prop)(b:Bool)(s':ag):Prop:=∃H',Inv X pins σ H' s'/\Q b H'
def AP(X:Cx)(pins:List (ad×aw))(σ:St)(Q:List V->Hp->Prop)(us:List ae)(s':ag):Prop:=∃vs H',Inv X pins σ H' s'/\Vals vs us/\Q vs H'
def SP(X:Cx)(pins:List (ad×aw))(D:Ends)(f:Flow)(s':ag):Prop:=
 match f with
 |.next=>∃σ' H',Inv X pins σ' H' s'/\D.nx σ' H'
 |.brk=>∃σ' H',Inv X pins σ' H' s'/\D.bk σ' H'
 |.cont=>∃σ' H',Inv X pins σ' H' s'/\D.ct σ' H'
 |.ret u=>∃v σ' H',Inv X pins σ' H' s'/\aT v u/\D.rt v H'
def PE(X:Cx)(e:az)(t:TE):Prop:=
 ∀(pins:List (ad×aw)) (s:ag) (σ:St) (H:Hp) (Q:VK),Inv X pins σ H s->t σ H Q->aq (au X.prog X.w) X.A (aK e X.env) (EP X pins σ Q) X.xe s
def PT(X:Cx)(e:az)(t:TT):Prop:=
 ∀(pins:List (ad×aw)) (s:ag) (σ:St) (H:Hp) (Q:Bool->Hp->Prop),Inv X pins σ H s->t σ H Q->aq (au X.prog X.w) X.A (isTrue e X.env (aK e X.env)) (TP X pins σ Q) X.xe s
def PW(X:Cx)(e:az)(t:TT):Prop:=
 ∀(whole:Sem ae) (pins:List (ad×aw)) (s:ag) (σ:St) (H:Hp) (Q:Bool->Hp->Prop),Inv X pins σ H s->t σ H Q->aq (au X.prog X.w) X.A (isTrue e X.env whole) (TP X pins σ Q) X.xe s
theorem PW.pt{X:Cx}{e:az}{t:TT}(h:PW X e t):PT X e t:=h _
def PA(X:Cx)(es:List az)(t:TA):Prop:=
 ∀(pos:Pos) (pins:List (ad×aw)) (s:ag) (σ:St) (H:Hp) (Q:List V->Hp->Prop),Inv X pins σ H s->t σ H Q->aq (au X.prog X.w) X.A (spliced (backTo pos (aU es X.env))) (AP X pins σ Q) X.xe s
def PS(X:Cx)(st:aV)(t:TS):Prop:=
 ∀(pins:List (ad×aw)) (s:ag) (σ:St) (H:Hp) (D:Ends),Inv X pins σ H s->t D σ H->aq (au X.prog X.w) X.A (exec st X.env) (SP X pins D) X.xe s
def PSs(X:Cx)(st:List aV)(t:TS):Prop:=
 ∀(pins:List (ad×aw)) (s:ag) (σ:St) (H:Hp) (D:Ends),Inv X pins σ H s->t D σ H->aq (au X.prog X.w) X.A (execs st X.env) (SP X pins D) X.xe s
theorem thn{α:Type}{t:Sem α}{Q Q':α->ag->Prop}{M:Model}{A:aX}{E:ae->ag->Prop}{s:ag}(h:aq M A t Q E s)(hQ:∀a s,Q a s->Q' a s):aq M A t Q' E s:=br h hQ λ_ _ x=>x
section
variable {X:Cx}
def Aj(i:Nat):TE:=λσ H Q=>∃v,σ[i]?=some (some v)/\Q v H
def tC(v:V):TE:=λ_ H Q=>Q v H
theorem CN{i:Nat}{x:Str}{pos:Pos}(hN:X.N[i]?=some x)(hv:Vis X.env.scope x)(hd:(x == ("__debug__":Str))=false:=by decide)(hcd:(x == ("__classdict__":Str))=false:=by decide):PE X (.Name x pos) (Aj i):=by
 intro pins s σ H Q I h;obtain⟨v,e,h⟩:=h;obtain⟨m,hn,hl⟩:=I.loc;obtain⟨u,r,l⟩:=hl i x v hN e hv;have fin:EP X pins σ Q u s:=⟨v,H,I,r,h⟩;rcases l with⟨hk,hm⟩|⟨hk,c,hc,hcell⟩
 ·exact wpAny_Name (wpAny_loadName_local I.ok.kind hk hn hm fin) hd
 ·rcases hk with hk|hk
  ·exact wpAny_Name (wpAny_loadName_cell I.ok.kind hk hc hcell fin) hd
  ·exact wpAny_Name (wpAny_loadName_free I.ok.kind hk hc hcell fin hcd) hd
theorem Az{i j pos}:PE X (.Constant (.int i) j pos) (tC (.int i)):=λ_ _ _ H _ I h=>wpAny_Constant_int ⟨.int i,H,I.tok _,⟨_,rfl⟩,h⟩
theorem DQ{b j pos}:PE X (.Constant (.bool b) j pos) (tC (.bl b)):=λ_ _ _ H _ I h=>Constant_bool ⟨.bl b,H,I,rfl,h⟩
theorem sV{j pos}:PE X (.Constant .none j pos) (tC .non):=λ_ _ _ H _ I h=>Constant_none ⟨.non,H,I,rfl,h⟩
theorem wo{x j pos}:PE X (.Constant (.str x) j pos) (tC (.str x)):=λ_ _ _ H _ I h=>Calls.Constant_str ⟨.str x,H,I.tok _,⟨_,rfl⟩,h⟩
def Gl(X:Cx)(x:Str):Prop:=X.env.kindOf x=some .globalImplicit
theorem hI{E:ae->ag->Prop}{pins:List (ad×aw)}{s:ag}{σ:St}{H:Hp}{x:Str}{u:ae}{pos:Pos}{Q:ae->ag->Prop}(I:Inv X pins σ H s)(hg:Gl X x)(hm:X.mg x=some u)(h:Q u s)
  (hd:(x == ("__debug__":Str))=false:=by decide):aq (au X.prog X.w) X.A (aK (.Name x pos) X.env) Q E s:=
 Calls.Name_function_global I.ok.kind hg (Calls.loadGlobal_global (by rw[I.ok.glob];exact I.mod.glob.keeps I.bk) hm h) hd
theorem kn{E:ae->ag->Prop}{pins:List (ad×aw)}{s:ag}{σ:St}{H:Hp}{x:Str}{u:ae}{pos:Pos}{Q:ae->ag->Prop}(I:Inv X pins σ H s)(hg:Gl X x)(hm:X.mg x=none)(hv:bootBuiltins x=some u)(h:Q u s)
  (hn:x≠"__name__":=by decide) (hd:(x == ("__debug__":Str))=false:=by decide):aq (au X.prog X.w) X.A (aK (.Name x pos) X.env) Q E s:=by
 obtain⟨mb,h1,h2⟩:=I.mod.blt;exact Calls.Name_function_global I.ok.kind hg (Calls.loadGlobal_builtin (by rw[I.ok.glob];exact I.mod.glob.keeps I.bk) hm (by rw[I.ok.blt];exact h1.keeps I.bk) ((h2 x hn).trans hv) h) hd
theorem lL{x:Str}{v:V}{u:ae}{pos:Pos}(hg:Gl X x)(hm:X.mg x=some u)(r:aT v u)(hd:(x == ("__debug__":Str))=false:=by decide):PE X (.Name x pos) (tC v):=
 λ_ _ _ H _ I h=>hI I hg hm ⟨v,H,I,r,h⟩ hd
variable {a b:az}{ta tb:TE}{pos:Pos}
def tB(t:TE):TT:=λσ H Q=>t σ H λx H1=>∃c,x=.bl c/\Q c H1
theorem DO{e:az}{t:TE}(h:PE X e t)(he:∀whole,isTrue e X.env whole=(do let v ←whole;standAt e.pos;holding [v] (truthy v)):=by intro _;rfl):PT X e (tB t):=by
 intro pins s σ H Q I hw;refine isTrue_plain (thn (h pins s σ H _ I hw) λv s1 e0=>bD e0 λx H1 I1 r1 q1=>?_) (he _);obtain⟨d,rfl,q⟩:=q1;cases r1;exact wpAny_truthy_bool ⟨H1,I1,q⟩
variable {tA tB':TT}{rest:List az}
def Hj(t u:TT):TT:=λσ H Q=>t σ H λc H1=>if c=true then u σ H1 Q else Q false H1
def tOr(t u:TT):TT:=λσ H Q=>t σ H λc H1=>if c=true then Q true H1 else u σ H1 Q
def Cz(t:TT):TT:=λσ H Q=>t σ H λc H1=>Q (!c) H1
theorem Fv(ha:PT X a tA):PW X (.BoolOp .And [a] pos) tA:=by
 intro wh pins s σ H Q I h;refine isTrue_and (thn (ha pins s σ H Q I h) λc s1 e=>?_);cases c with
 |true=>exact isTrue_and_nil e
 |false=>exact e
theorem Al(ha:PT X a tA):PW X (.BoolOp .Or [a] pos) tA:=by
 intro wh pins s σ H Q I h;refine isTrue_or (thn (ha pins s σ H Q I h) λc s1 e=>?_);cases c with
 |false=>exact isTrue_or_nil e
 |true=>exact e
theorem Dc(ha:PT X a tA)(hb:PW X (.BoolOp .And (b::rest) pos) tB'):PW X (.BoolOp .And (a::b::rest) pos) (Hj tA tB'):=by
 intro wh pins s σ H Q I h;refine isTrue_and (thn (ha pins s σ H _ I h) λc s1 e0=>e0.elim λH1 e1=>e1.elim λI1 q1=>?_);cases c with
 |true=>exact hb wh pins s1 σ H1 Q I1 q1
 |false=>exact⟨H1,I1,q1⟩
theorem Cb(ha:PT X a tA)(hb:PW X (.BoolOp .Or (b::rest) pos) tB'):PW X (.BoolOp .Or (a::b::rest) pos) (tOr tA tB'):=by
 intro wh pins s σ H Q I h;refine isTrue_or (thn (ha pins s σ H _ I h) λc s1 e0=>e0.elim λH1 e1=>e1.elim λI1 q1=>?_);cases c with
 |true=>exact⟨H1,I1,q1⟩
 |false=>exact hb wh pins s1 σ H1 Q I1 q1
theorem AJ(ha:PT X a tA):PT X (.UnaryOp .Not a pos) (Cz tA):=by
 intro pins s σ H Q I h;exact isTrue_not (ha pins s σ H (λc H1=>Q (!c) H1) I h)
def DU(ta tb:TE):TE:=λσ H Q=>ta σ H λx H1=>∃c,x=.bl c/\if c=true then tb σ H1 Q else Q (.bl false) H1
def EN(ta tb:TE):TE:=λσ H Q=>ta σ H λx H1=>∃c,x=.bl c/\if c=true then Q (.bl true) H1 else tb σ H1 Q
def EV(ta:TE):TE:=λσ H Q=>ta σ H λx H1=>∃c,x=.bl c/\Q (.bl (!c)) H1
theorem Bf{op}{t:TE}(h:PE X a t):PE X (.BoolOp op [a] pos) t:=λpins s σ H Q I hw=>BoolOp_one (h pins s σ H Q I hw)
theorem EY(ha:PE X a ta)(hb:PE X (.BoolOp .And (b::rest) pos) tb):PE X (.BoolOp .And (a::b::rest) pos) (DU ta tb):=by
 intro pins s σ H Q I h;refine BoolOp_and (thn (ha pins s σ H _ I h) λv s1 e0=>bD e0 λx H1 I1 r1 q1=>?_);obtain⟨c,rfl,q1⟩:=q1;cases r1;refine wpAny_truthy_bool ?_;cases c with
 |true=>exact hb pins s1 σ H1 Q I1 q1
 |false=>exact⟨.bl false,H1,I1,rfl,q1⟩
theorem E1(ha:PE X a ta)(hb:PE X (.BoolOp .Or (b::rest) pos) tb):PE X (.BoolOp .Or (a::b::rest) pos) (EN ta tb):=by
 intro pins s σ H Q I h;refine BoolOp_or (thn (ha pins s σ H _ I h) λv s1 e0=>bD e0 λx H1 I1 r1 q1=>?_);obtain⟨c,rfl,q1⟩:=q1;cases r1;refine wpAny_truthy_bool ?_;cases c with
 |false=>exact hb pins s1 σ H1 Q I1 q1
 |true=>exact⟨.bl true,H1,I1,rfl,q1⟩
theorem Ha(ha:PE X a ta):PE X (.UnaryOp .Not a pos) (EV ta):=by
 intro pins s σ H Q I h;refine UnaryOp_ (thn (ha pins s σ H _ I h) λv s1 e0=>bD e0 λx H1 I1 r1 q1=>?_);obtain⟨c,rfl,q1⟩:=q1;cases r1;exact not_of (wpAny_truthy_bool ⟨.bl (!c),H1,I1,rfl,q1⟩)
def tIf(t:TT)(ta tb:TE):TE:=λσ H Q=>t σ H λc H1=>if c=true then ta σ H1 Q else tb σ H1 Q
theorem Cw{c:az}(hc:PT X c tA)(ha:PE X a ta)(hb:PE X b tb):PE X (.IfExp c a b pos) (tIf tA ta tb):=by
 intro pins s σ H Q I h;refine wpAny_IfExp (thn (hc pins s σ H _ I h) λd s1 e0=>e0.elim λH1 e1=>e1.elim λI1 q1=>?_);cases d with
 |true=>exact ha pins s1 σ H1 Q I1 q1
 |false=>exact hb pins s1 σ H1 Q I1 q1
end
def SqL(K:PySem.W.Frag)(H:Hp)(a:ad)(xs:List V):Prop:=
 Rd H a (.lst xs) ∨
  ∃(o:aw) (its:Array ae) (n:Nat),K.lookup a=some o/\o.cls=.type "list"/\o.dict=none/\o.data=.seq its n/\its.size≤aW/\Vals xs its.toList
def SqT(K:PySem.W.Frag)(H:Hp)(a:ad)(xs:List V):Prop:=
 Rd H a (.tup xs) ∨
  ∃(o:aw) (its:Array ae) (n:Nat),K.lookup a=some o/\o.cls=.type "tuple"/\o.data=.seq its n/\its.size≤aW/\Vals xs its.toList
noncomputable def Es:ae->Option V
 |.none=>some .non
 |.bool b=>some (.bl b)
 |.int i _=>some (.int i)
 |.str x _=>some (.str x)
 |.bytes b _=>some (.byt b)
 |.float b _=>some (.flt b)
 |.ref a=>some (.ref a)
 |.type n=>some (.ty n)
 |_=>none
theorem aT.abs{x:V}{u:ae}(r:aT x u):Es u=some x:=by
 cases x with
 |non=>cases r;rfl
 |bl _=>cases r;rfl
 |int _=>obtain⟨t,rfl⟩:=r;rfl
 |str _=>obtain⟨t,rfl⟩:=r;rfl
 |byt _=>obtain⟨t,rfl⟩:=r;rfl
 |flt _=>obtain⟨t,rfl⟩:=r;rfl
 |ref _=>cases r;rfl
 |ty _=>cases r;rfl
theorem aT.inj{x y:V}{u:ae}(r:aT x u)(q:aT y u):x=y:=Option.some.inj (r.abs.symm.trans q.abs)
theorem Vals.inj:∀{xs ys:List V}{us:List ae},Vals xs us->Vals ys us->xs=ys
 |_,_,_,.nil,.nil=>rfl
 |_,_,_,.cons r t,.cons r' t'=>by rw[r.inj r',Vals.inj t t']
section
variable {X:Cx}{pins:List (ad×aw)}{σ:St}{H:Hp}{s:ag}{a:ad}{xs ys:List V}
theorem SqL.of{K:PySem.W.Frag}(h:H a=some (.lst xs)):SqL K H a xs:=.inl (.inl h)
theorem SqT.of{K:PySem.W.Frag}(h:H a=some (.tup xs)):SqT K H a xs:=.inl (.inl h)
theorem Inv.list(I:Inv X pins σ H s)(h:SqL X.K H a xs):∃its:List ae,Vals xs its/\PlainL s.heap a its.toArray/\xs.length≤aW:=by
 rcases h with h|⟨o,its,n,hk,hc,hd,hs,hz,r⟩
 ·obtain⟨z,its,n,r,e⟩:=h.ok I.hok;exact⟨its,r,⟨_,n,e,rfl,rfl,rfl⟩,z⟩
 ·refine⟨its.toList,r,⟨o,n,I.kIn a o hk,hc,hd,by simpa using hs⟩,?_⟩;have e:=r.length;simp only[pD]at e;lia
theorem Inv.tuple(I:Inv X pins σ H s)(h:SqT X.K H a xs):∃its:List ae,Vals xs its/\IsTup s.heap a its.toArray/\xs.length≤aW:=by
 rcases h with h|⟨o,its,n,hk,hc,hs,hz,r⟩
 ·obtain⟨z,its,r,p⟩:=h.ok I.hok;exact⟨its,r,p,z⟩
 ·refine⟨its.toList,r,⟨o,I.kIn a o hk,hc,n,by simpa using hs⟩,?_⟩;have e:=r.length;simp only[pD]at e;lia
theorem Inv.list_inj(I:Inv X pins σ H s)(h:SqL X.K H a xs)(h':SqL X.K H a ys):xs=ys:=by
 obtain⟨its,r,⟨o,n,e,_,_,d⟩,_⟩:=I.list h;obtain⟨its',r',⟨o',n',e',_,_,d'⟩,_⟩:=I.list h';rw[e]at e';cases e';rw[d]at d';injection d' with d1 _;have:its=its':=by simpa using congrArg Array.toList d1
 subst this;exact r.inj r'
end
noncomputable abbrev Cx.wish(X:Cx)(E:ae->ag->Prop):Cx:={ X with xe:=E }
theorem Cx.Ok.wish{X:Cx}(ok:X.Ok)(E:ae->ag->Prop):(X.wish E).Ok:=
 ⟨ok.mod,ok.kind,ok.glob,ok.blt,ok.above,ok.inj,ok.has,ok.cab,ok.hd,ok.frames,ok.stk,ok.exf,ok.bs,ok.bsz,ok.noex,ok.exfs,ok.funs,ok.frf⟩
theorem Cx.Ok.unwish{X:Cx}{E:ae->ag->Prop}(ok:(X.wish E).Ok):X.Ok:=
 ⟨ok.mod,ok.kind,ok.glob,ok.blt,ok.above,ok.inj,ok.has,ok.cab,ok.hd,ok.frames,ok.stk,ok.exf,ok.bs,ok.bsz,ok.noex,ok.exfs,ok.funs,ok.frf⟩
section
variable {X:Cx}{pins:List (ad×aw)}{σ:St}{H:Hp}{s:ag}{E:ae->ag->Prop}
theorem Inv.wish(I:Inv X pins σ H s)(E:ae->ag->Prop):Inv (X.wish E) pins σ H s:=⟨I.ok.wish E,I.os,I.bare,I.base,I.loc,I.cell,I.free,I.freeC,I.pin,I.hok,I.len⟩
theorem Inv.unwish(I:Inv (X.wish E) pins σ H s):Inv X pins σ H s:=⟨I.ok.unwish,I.os,I.bare,I.base,I.loc,I.cell,I.free,I.freeC,I.pin,I.hok,I.len⟩
theorem SP.unwish{D:Ends}{f:Flow}{s':ag}(h:SP (X.wish E) pins D f s'):SP X pins D f s':=by
 cases f with
 |next=>obtain⟨σ',H',I,q⟩:=h;exact⟨σ',H',I.unwish,q⟩
 |brk=>obtain⟨σ',H',I,q⟩:=h;exact⟨σ',H',I.unwish,q⟩
 |cont=>obtain⟨σ',H',I,q⟩:=h;exact⟨σ',H',I.unwish,q⟩
 |ret u=>obtain⟨v,σ',H',I,r,q⟩:=h;exact⟨v,σ',H',I.unwish,r,q⟩
end
section
variable {X:Cx}{st:aV}{rest:List aV}{t u:TS}{e:az}{te:TE}{pos:Pos}
def A7:TS:=λD σ H=>D.nx σ H
def DJ(t u:TS):TS:=λD σ H=>t { D with nx:=u D } σ H
theorem Gp:PSs X [] A7:=λ_ _ σ H _ I h=>wpAny_execs_nil ⟨σ,H,I,h⟩
theorem Bh(h1:PS X st t)(h2:PSs X rest u):PSs X (st::rest) (DJ t u):=by
 intro pins s σ H D I h;refine wpAny_execs_cons (thn (h1 pins s σ H { D with nx:=u D } I h) λf s1 q=>?_);cases f with
 |next=>
   obtain⟨σ',H',I',q⟩:=q;exact h2 pins s1 σ' H' D I' q
 |ret v=>exact q
 |brk=>exact q
 |cont=>exact q
theorem G8(h1:PS X st t):PSs X [st] t:=by
 intro pins s σ H D I h;refine wpAny_execs_cons (thn (h1 pins s σ H D I h) λf s1 q=>?_);cases f with
 |next=>exact wpAny_execs_nil q
 |ret v=>exact q
 |brk=>exact q
 |cont=>exact q
theorem Inv.quiet{pins:List (ad×aw)}{σ:St}{H:Hp}{s:ag}(I:Inv X pins σ H s):interactive X.env=false:=by simp[interactive,I.ok.kind]
def FX(te:TE):TS:=λD σ H=>te σ H λ_ H1=>D.nx σ H1
theorem BL(he:PE X e te)(hs:swapsWith e none pos.line X.env=pure false:=by rfl):PS X (.Expr e pos) (FX te):=by
 intro pins s σ H D I h;exact wpAny_Expr_any (thn (he pins s σ H _ I h) λv s1 e0=>bD e0 λx H1 I1 r1 q1=>⟨σ,H1,I1,q1⟩) I.quiet hs
def G2(te:TE):TS:=λD σ H=>te σ H D.rt
theorem z8(he:PE X e te):PS X (.Return (some e) pos) (G2 te):=by
 intro pins s σ H D I h;exact wpAny_Return_some (thn (he pins s σ H _ I h) λv s1 e0=>bD e0 λx H1 I1 r1 q1=>⟨x,σ,H1,I1,r1,q1⟩)
def As(c:TT)(t u:TS):TS:=λD σ H=>c σ H λb H1=>if b=true then t D σ H1 else u D σ H1
theorem Ew{c:az}{a b:List aV}{tc:TT}(hc:PT X c tc)(ha:PSs X a t)(hb:PSs X b u):PS X (.If c a b pos) (As tc t u):=by
 intro pins s σ H D I h;refine wpAny_If (thn (hc pins s σ H _ I h) λd s1 e0=>e0.elim λH1 e1=>e1.elim λI1 q1=>?_);cases d with
 |true=>exact ha pins s1 σ H1 D I1 q1
 |false=>exact hb pins s1 σ H1 D I1 q1
end
abbrev TG:=V->St->Hp->(St->Hp->Prop)->Prop
def PG(X:Cx)(target:az)(t:TG):Prop:=
 ∀(pins:List (ad×aw)) (s:ag) (σ:St) (H:Hp) (v:V) (u:ae) (Q:St->Hp->Prop),Inv X pins σ H s->aT v u->t v σ H Q ->
  aq (au X.prog X.w) X.A (assign target X.env u) (λ_ s'=>∃σ' H',Inv X pins σ' H' s'/\Q σ' H') X.xe s
abbrev TSet:=V->V->V->Hp->(Hp->Prop)->Prop
def PSet(X:Cx)(t:TSet):Prop:=
 ∀(pins:List (ad×aw)) (s:ag) (σ:St) (H:Hp) (o i v:V) (ov iv u:ae) (Q:Hp->Prop),Inv X pins σ H s->aT o ov->aT i iv->aT v u->t o i v H Q ->
  aq (au X.prog X.w) X.A (setItem ov iv u) (λ_ s'=>∃H',Inv X pins σ H' s'/\Q H') X.xe s
section
variable {X:Cx}{pos:Pos}
def tN(i:Nat):TG:=λv σ H Q=>Q (σ.set i (some v)) H
theorem Gs{i:Nat}{x:Str}(hN:X.N.Nodup)(hi:X.N[i]?=some x)(hx:Loc X.env.scope x)(hf:X.fn x=true∨X.env.scope.names.lookup x=some .local:=by first|exact .inl rfl|exact .inr rfl|assumption):PG X (.Name x pos) (tN i):=by
 intro pins s σ H v u Q I r h;exact wpAny_assign_Name (nQ I hN hi hx r (λs' I'=>⟨_,H,I',h⟩) hf)
def xz(to ti:TE)(t:TSet):TG:=λv σ H Q=>to σ H λo H1=>ti σ H1 λi H2=>t o i v H2 λH3=>Q σ H3
theorem mK{o i:az}{to ti:TE}{t:TSet}(ho:PE X o to)(hi:PE X i ti)(hs:PSet X t)
  (ha:∀v,assign (.Subscript o i pos) X.env v=(do
   let ov ←holding [v] (aK o X.env)
   let iv ←holding [v,ov] (aK i X.env)
   standAt pos
   holding [v,ov,iv] (setItem ov iv v)
   release [v,ov,iv] []):=by intro _;rfl):PG X (.Subscript o i pos) (xz to ti t):=by
 intro pins s σ H v u Q I r h;rw[ha];refine ak (wpAny_holding (thn (ho pins s σ H _ I h) λov s1 e0=>bD e0 λx H1 I1 r1 q1=>?_));refine ak (wpAny_holding (thn (hi pins s1 σ H1 _ I1 q1) λiv s2 e0=>bD e0 λy H2 I2 r2 q2=>?_));refine ak (wpAny_standAt (ak (wpAny_holding (thn (hs pins s2 σ H2 x y v ov iv u _ I2 r1 r2 r q2) λ_ s3 e0=>e0.elim λH3 e1=>e1.elim λI3 q3=>?_))));exact wpAny_release ⟨σ,H3,I3,q3⟩
def xL(te:TE)(g:TG):TS:=λD σ H=>te σ H λx H1=>g x σ H1 D.nx
theorem Dy{tg e:az}{te:TE}{g:TG}(he:PE X e te)(hg:PG X tg g)(hs:swapsWithSole [tg] e pos.line X.env=pure false:=by rfl)(hw:swappedStores [tg] e X.env=pure none:=by rfl)
  (h1:(assignEach [tg] X.env).map (·.2)=[assign tg X.env]:=by rfl):PS X (.Assign [tg] e pos) (xL te g):=by
 intro pins s σ H D I h;refine wpAny_Assign_stores (thn (he pins s σ H _ I h) λv s1 e0=>bD e0 λx H1 I1 r1 q1=>?_) hs hw;rw[h1];exact thn (hg pins s1 σ H1 x v _ I1 r1 q1) λ_ s2 q=>q
theorem En{i:Nat}{x:Str}{e:az}{te:TE}{pos':Pos}(hN:X.N.Nodup)(hi:X.N[i]?=some x)(hx:Loc X.env.scope x)(he:PE X e te)(hs:swapsWith e (some (.Name x pos')) pos.line X.env=pure false:=by rfl)(hf:X.fn x=true∨X.env.scope.names.lookup x=some .local:=by first|exact .inl rfl|exact .inr rfl|assumption) :
  PS X (.Assign [.Name x pos'] e pos) (xL te (tN i)):=by
 intro pins s σ H D I h;refine wpAny_Assign_Name (thn (he pins s σ H _ I h) λv s1 e0=>bD e0 λy H1 I1 r1 q1=>?_) hs;exact nQ I1 hN hi hx r1 (λs2 I2=>⟨_,H1,I2,q1⟩) hf
end
section
variable {X:Cx}{pos:Pos}
end
structure It where
 go:Nat->Hp->Prop
 yld:Nat->Hp->V->Hp->Prop
 stop:Nat->Hp->Prop
def fe(X:Cx)(pins:List (ad×aw))(H:Hp)(b:ad):Prop:=
 H b=none/\b≠X.env.locals/\b∉X.fs/\(b∈X.ex∨X.s₀.heap.objs.size≤b)/\(∀x c,X.env.cells.lookup x=some c->c≠b)/\∀p∈X.pn++pins,p.1≠b
theorem Inv.fpOk{X:Cx}{pins:List (ad×aw)}{σ:St}{H H':Hp}{s:ag}{b:ad}(I:Inv X pins σ H s)(hb:s.heap.objs.size≤b)(hn:H' b=none):fe X pins H' b:=by
 refine⟨hn,jR (c5 I.lt hb),I.nofs hb,.inr (bV I.sz hb),λx c e z=>?_,λp hp z=>?_⟩
 ·obtain⟨v,q⟩:=I.cell x c e;exact absurd (c5 q.lt (by rw[z];exact hb)) (iN _)
 ·exact absurd (c5 (bC (I.pin p hp).1) (by rw[z];exact hb)) (iN _)
structure Turn(P:bh)(w:aR)(K:PySem.W.Frag)(tg:az)(J:It)(fp:List ad)(it:ad)(tn:Nat->aI->Prop):Prop where
 mem:it∈fp
 obj:∀i h,tn i h->∀b∈fp,∃o,h.get? b=some o/\∀v,o.data≠.cell v
 keep:∀i h h',tn i h->(∀b∈fp,∀o,h.get? b=some o->h'.get? b=some o)->tn i h'
 item:∀(X:Cx),X.prog=P->X.w=w->X.K=K->X.calm=true->∀(i:Nat) (pins:List (ad×aw)) (s:ag) (σ:St) (H:Hp) (E:ae->ag->Prop),Inv X pins σ H s->(∀b∈fp,fe X pins H b)->tn i s.heap->J.go i H ->
  aq (au P w) X.A (pyNext (.ref it)) (λr s1=>∃u,r=some u /\
   aq (au P w) X.A (letOwnedTupleGo tg (.ref it) u) (λ_ s2=>∃x H',Inv X pins σ H' s2/\aT x u/\J.yld i H x H'/\tn (i + 1) s2.heap/\∀b∈fp,H' b=none) E s1) E s
 done:∀(X:Cx),X.prog=P->X.w=w->X.K=K->X.calm=true->∀(i:Nat) (pins:List (ad×aw)) (s:ag) (σ:St) (H:Hp) (E:ae->ag->Prop),Inv X pins σ H s->(∀b∈fp,fe X pins H b)->tn i s.heap->J.stop i H ->
  aq (au P w) X.A (pyNext (.ref it)) (λr s1=>r=none/\Inv X pins σ H s1) E s
 self:∀(A:aX) (i:Nat) (s:ag) (Q:ae->ag->Prop) (E:ae->ag->Prop),tn i s.heap->Q (.ref it) s->aq (au P w) A (pyIter (.ref it)) Q E s
abbrev TI:=St->Hp->(It->Hp->Prop)->Prop
def PIE(X:Cx)(pins:List (ad×aw))(σ:St)(tg:az)(R:It->Hp->Prop)(itv:ae)(s2:ag):Prop:=
 ∃(it:ad) (fp:List ad) (tn:Nat->aI->Prop) (J:It) (H':Hp),itv=.ref it/\Inv X pins σ H' s2/\Turn X.prog X.w X.K tg J fp it tn/\tn 0 s2.heap/\(∀b∈fp,fe X pins H' b)/\R J H'
def PI(X:Cx)(tg iter:az)(wi:TI):Prop:=
 ∀(pins:List (ad×aw)) (s:ag) (σ:St) (H:Hp) (R:It->Hp->Prop),Inv X pins σ H s->wi σ H R ->
  aq (au X.prog X.w) X.A (aK iter X.env) (λv s1=>aq (au X.prog X.w) X.A (pyIter v) (PIE X pins σ tg R) X.xe s1) X.xe s
theorem tP{M:Model}{A:aX}{E:ae->ag->Prop}{s:ag}{tg:az}{it:ad}{u:ae}{o:aw}{n:String}{vs:Array ae}{Q:Unit->ag->Prop}(ho:s.heap.get? it=some o)(hc:o.cls=.type n)(hd:o.data=.fields vs)
  (hn:["enumerate","zip","dict_itemiterator","dict_reverseitemiterator","odict_iterator","itertools.zip_longest","itertools.pairwise"].contains n=false) (hQ:Q () s):aq M A (letOwnedTupleGo tg (.ref it) u) Q E s:=by
 unfold letOwnedTupleGo;cases tg <;> first
  |exact aF hQ
  | (cases u <;> first
    |exact aF hQ
    | (refine ak (wpAny_load ho ?_)
       rw[hc,hd];show aq M A (if(["enumerate","zip","dict_itemiterator","dict_reverseitemiterator","odict_iterator","itertools.zip_longest","itertools.pairwise"].contains n&&vs[0]? == some (rawInt _))=true then _ else _) Q E s;rw[if_neg (by intro h;rw[hn,Bool.false_and]at h;cases h)];exact aF hQ))
noncomputable def Itl(K:PySem.W.Frag)(a:ad):It:=
 ⟨λi H=>∃xs x,SqL K H a xs/\xs[i]?=some x,λi H x H'=>H'=H/\∀xs,SqL K H a xs->xs[i]?=some x,λi H=>∃xs,SqL K H a xs/\xs.length≤i⟩
noncomputable def Itr(lo:Int)(n:Nat):It:=⟨λi _=>i<n,λi H x H'=>H'=H/\x=.int (lo+i),λi _=>n≤i⟩
theorem BG{P:bh}{w:aR}{K:PySem.W.Frag}{tg:az}(a it:ad):Turn P w K tg (Itl K a) [it] it (λi h=>h.IsListIter it a i) where
 mem:=by simp
 obj:=λi h st b hb=>by
  have e:b=it:=by simpa using hb
  subst e;obtain⟨o,e,c,d⟩:=st;exact⟨o,e,λv z=>by rw[d]at z;cases z⟩
 keep:=λi h h' st k=>st.at λo e=>k it (by simp) o e
 item:=by
  intro X hP hw hK hc i pins s σ H E I hf st hg;subst hP hw hK;obtain⟨xs,x,hq,hx⟩:=hg;obtain⟨its,rv,p,hz⟩:=I.list hq;obtain⟨u,hu,ru⟩:=rv.get hx;obtain⟨f0,f1,f2,f3,f4,f5⟩:=hf it (by simp);refine wpAny_pyNext_list_item st p.isList (x:=u) (by simpa using hu) λh' st' sb=>?_;have I1:Inv X pins σ H { s with heap:=h' }:=I.turned (t':=s.toks) (λb o hb e=>(sb.2 b hb).trans e) f0 f1 f3 f4 f5;obtain⟨o,e,c,d⟩:=id st';exact⟨u,rfl,tP (s:={ s with heap:=h' }) e c d (by decide) ⟨x,H,I1,ru,⟨rfl,λys hy=>by rw[I.list_inj hy hq];exact hx⟩,st',λb hb=>(hf b hb).1⟩⟩
 done:=by
  intro X hP hw hK hc i pins s σ H E I hf st hg;subst hP hw hK;obtain⟨xs,hq,hx⟩:=hg;obtain⟨its,rv,p,hz⟩:=I.list hq;obtain⟨f0,f1,f2,f3,f4,f5⟩:=hf it (by simp);have hl:=rv.length;exact wpAny_pyNext_list_end (I.ok.hd hc) st p.isList (by simp;lia) λh' eb=>⟨rfl,I.turned (t':=s.toks) (λb o hb e=>eb b o hb e) f0 f1 f3 f4 f5⟩
 self:=λ_ _ _ _ _ st h=>wpAny_pyIter_listiter st h
theorem Gx{P:bh}{w:aR}{K:PySem.W.Frag}{tg:az}(it:ad)(lo:Int)(n:Nat):Turn P w K tg (Itr lo n) [it] it (λi h=>IsRangeIter h it (lo+(i:Nat)*1) ((n:Int)-(i:Nat)) 1) where
 mem:=by simp
 obj:=λi h st b hb=>by
  have e:b=it:=by simpa using hb
  subst e;exact ⟨_,st,λv z=>by
   have z':Data.fields _=Data.cell v:=z;cases z'⟩
 keep:=λi h h' st k=>k it (by simp) _ st
 item:=by
  intro X hP hw hK hc i pins s σ H E I hf st hg;subst hP hw hK;obtain⟨f0,f1,f2,f3,f4,f5⟩:=hf it (by simp);have W:=Walks.range (prog:=X.prog) (w:=X.w) (I.ok.hd hc) it lo 1 n;refine W.item i s _ _ hg st λv h' tk hv st' kk=>?_;obtain⟨t,rfl⟩:=hv;have I1:Inv X pins σ H { s with heap:=h',toks:=tk }:=I.turned (λb o hb e=>kk b o (by simpa using hb) e) f0 f1 f3 f4 f5;refine⟨_,rfl,tP (s:={ s with heap:=h',toks:=tk }) (n:="range_iterator") st' rfl rfl (by decide) ⟨.int (lo+i),H,I1,⟨t,?_⟩,⟨rfl,rfl⟩,st',λb hb=>(hf b hb).1⟩⟩;rw[Int.mul_one]
 done:=by
  intro X hP hw hK hc i pins s σ H E I hf st hg;subst hP hw hK;obtain⟨f0,f1,f2,f3,f4,f5⟩:=hf it (by simp);exact wpAny_pyNext_range_end (I.ok.hd hc) st (by have:n≤i:=hg;lia) λh' eb=>⟨rfl,I.turned (t':=s.toks) (λb o hb e=>eb b o hb e) f0 f1 f3 f4 f5⟩
 self:=λ_ _ _ _ _ st h=>wpAny_pyIter_rangeiter st h
section
variable {X:Cx}{tg:az}
def du(K:PySem.W.Frag)(tl:TE):TI:=λσ H R=>tl σ H λx H1=>∃a,x=.ref a/\(∃xs,SqL K H1 a xs)/\R (Itl K a) H1
theorem FZ{l:az}{tl:TE}(hl:PE X l tl):PI X tg l (du X.K tl):=by
 intro pins s σ H R I h;refine thn (hl pins s σ H _ I h) λv s1 e0=>bD e0 λx H1 I1 r1 q1=>?_;obtain⟨a,e,⟨xs,hq⟩,q⟩:=q1;subst e;cases r1;obtain⟨its,rv,p,hz⟩:=I1.list hq;refine wpAny_pyIter_list p.isList ?_;refine⟨s1.heap.objs.size,[s1.heap.objs.size],_,_,H1,rfl,I1.kept (t':=s1.toks) λb o e=>bJ _ e,BG a _,⟨_,dH _ rfl,rfl,rfl⟩,λb hb=>?_,q⟩;have e:b=s1.heap.objs.size:=by simpa using hb
 subst e;exact I1.fpOk (bc _) (I1.hok.fresh (bc _))
theorem vU{pins:List (ad×aw)}{σ:St}{H:Hp}{s:ag}{R:It->Hp->Prop}{E:ae->ag->Prop}{lo hi:Int}{t u v:Tok}{tk:Nat}(I:Inv X pins σ H s)(h1:-(2 ^ 62)≤lo)(h2:lo<2 ^ 62)(h3:-(2 ^ 62)≤hi)(h4:hi<2 ^ 62)
  (q:R (Itr lo (hi-lo).toNat) H):aq (au X.prog X.w) X.A (pyIter (.ref s.heap.objs.size)) (PIE X pins σ tg R) E { s with heap:=s.heap.push { cls:=.type "range",data:=.fields #[.int lo t,.int hi u,.int 1 v] },toks:=tk }:=by
 refine wpAny_pyIter_range (IsRange.new ..) (small_one h1 h2 h3 h4) ?_;have I1:Inv X pins σ H { s with heap:=s.heap.push { cls:=.type "range",data:=.fields #[.int lo t,.int hi u,.int 1 v] },toks:=tk }:=I.kept λb o e=>bJ _ e;refine ⟨(s.heap.push { cls:=.type "range",data:=.fields #[.int lo t,.int hi u,.int 1 v] }).objs.size,[(s.heap.push { cls:=.type "range",data:=.fields #[.int lo t,.int hi u,.int 1 v] }).objs.size],_,_,H,rfl,
  I1.kept (t':=tk) λb o e=>bJ _ e,Gx _ lo (hi - lo).toNat,?_,λb hb=>?_,q⟩
 ·have e1:lo+((0:Nat):Int)*1=lo:=by simp
  have e2:(((hi-lo).toNat:Nat):Int)-((0:Nat):Int)=Builtin.Range.rangeSize lo hi 1:=by rw[rangeSize_one];split <;> lia
  show IsRangeIter _ _ (lo+((0:Nat):Int)*1) ((((hi-lo).toNat:Nat):Int)-((0:Nat):Int)) 1;rw[e1,e2];exact dH _ rfl
 ·have e:b=(s.heap.push { cls:=.type "range",data:=.fields #[.int lo t,.int hi u,.int 1 v] }).objs.size:=by simpa using hb
  subst e;exact I1.fpOk (bc _) (I1.hok.fresh (bc _))
def fw(ta:TA):TI:=λσ H R=>ta σ H λvs H1=>∃j:Int,vs=[.int j]/\-(2 ^ 62)≤j/\j<2 ^ 62/\R (Itr 0 j.toNat) H1
def gM(ta:TA):TI:=λσ H R=>ta σ H λvs H1=>∃i j:Int,vs=[.int i,.int j]/\(-(2 ^ 62)≤i/\i<2 ^ 62/\-(2 ^ 62)≤j/\j<2 ^ 62)/\R (Itr i (j-i).toNat) H1
theorem DF{a:az}{ta:TA}{p pos:Pos}(hg:Gl X "range")(hm:X.mg "range"=none)(ha:PA X [a] ta)(hs:aU [a] X.env=[(false,aK a X.env)]:=by rfl):PI X tg (.Call (.Name "range" p) [a] [] pos) (fw ta):=by
 intro pins s σ H R I h;refine Call_ (kn I hg hm boot_range (PyProof.Rows.callWith_type1 (thn (ha pos pins s σ H _ I h) λus s1 e0=>bD e0 λvs H1 I1 r1 q1=>?_) hs rfl));obtain⟨j,e,q1,q2,q⟩:=q1;subst e;cases r1 with
 |cons r rr=>
   cases rr;obtain⟨t,rfl⟩:=r;exact call_range_1 (vU I1 (by lia) (by lia) q1 q2 (by simpa using q))
theorem F3{a b:az}{ta:TA}{p pos:Pos}(hg:Gl X "range")(hm:X.mg "range"=none)(ha:PA X [a,b] ta)(hs:aU [a,b] X.env=[(false,aK a X.env),(false,aK b X.env)]:=by rfl)(hs2:aU [b] X.env=[(false,aK b X.env)]:=by rfl) :
  PI X tg (.Call (.Name "range" p) [a,b] [] pos) (gM ta):=by
 intro pins s σ H R I h;refine Call_ (kn I hg hm boot_range (PyProof.Rows.callWith_type1 (thn (ha pos pins s σ H _ I h) λus s1 e0=>bD e0 λvs H1 I1 r1 q1=>?_) (by rw[hs,hs2]) (by rw[hs2];rfl)));obtain⟨i,j,e,⟨q1,q2,q3,q4⟩,q⟩:=q1;subst e;cases r1 with
 |cons r rr=>
   cases rr with
   |cons r' rr=>
     cases rr;obtain⟨t,rfl⟩:=r;obtain⟨t',rfl⟩:=r';exact call_range_2 (vU I1 q1 q2 q3 q4 q)
def Fm(wi:TI)(g:TG)(tb:TS):TS:=λD σ H=>wi σ H λJ H1=>∃W:Nat->Nat->St->Hp->Prop,(∃m,W 0 m σ H1)/\∀i m σ H,W i m σ H ->
 (J.stop i H/\D.nx σ H)∨(J.go i H/\∃N:St->Hp->Prop,(∀σ' H',N σ' H'->∃m',m'<m/\W (i+1) m' σ' H')/\∀x H',J.yld i H x H'->g x σ H' λσ2 H2=>tb { D with nx:=N,ct:=N,bk:=D.nx } σ2 H2)
noncomputable def jf(fp:List ad)(h:aI):List (ad×aw):=fp.filterMap λb=>(h.get? b).map λo=>(b,o)
theorem pR{fp:List ad}{h:aI}{b:ad}{o:aw}(hb:b∈fp)(e:h.get? b=some o):(b,o)∈jf fp h:=um.mpr ⟨b,hb,by rw[e];rfl⟩
theorem Eo{fp:List ad}{h:aI}{p:ad×aw}(hp:p∈jf fp h):p.1∈fp/\h.get? p.1=some p.2:=by
 obtain⟨b,hb,e⟩:=um.mp hp;cases q:h.get? b with
 |none=>rw[q]at e;cases e
 |some o=>
   rw[q]at e;have e':(b,o)=p:=Option.some.inj e;subst e';exact⟨hb,q⟩
theorem Inv.pinned{pins:List (ad×aw)}{σ:St}{H:Hp}{s:ag}{fp:List ad}(I:Inv X pins σ H s)(hf:∀b∈fp,fe X pins H b)(ho:∀b∈fp,∃o,s.heap.get? b=some o/\∀v,o.data≠.cell v):Inv X (pins++jf fp s.heap) σ H s:=
 I.pins_of λp hp=>(c6.mp hp).elim (λz=>I.pin p (cK _ z)) λz=>by
  obtain⟨hb,e⟩:=Eo z;obtain⟨f0,f1,f2,_⟩:=hf p.1 hb;obtain⟨o,e',d⟩:=ho p.1 hb;rw[e]at e';cases e';exact⟨e,f0,f1,f2,d⟩
theorem Inv.unpinned{pins pl:List (ad×aw)}{σ:St}{H:Hp}{s:ag}(I:Inv X (pins++pl) σ H s):Inv X pins σ H s:=I.pins_of λp hp=>I.pin p (cK _ (gp _ hp))
theorem D3{iter:az}{body:List aV}{wi:TI}{g:TG}{tb:TS}{pos:Pos}(hp:PassesOwn (au X.prog X.w) X.A X.env X.xe)(hc:X.calm=true)(hi:PI X tg iter wi)(hg:PG X tg g)(hb:PSs X body tb)
  (hs:∀x,foldedSetIterable iter X.env x=pure x:=by intro _;rfl):PS X (.For tg iter body [] pos) (Fm wi g tb):=by
 intro pins s σ H D I h;refine wpAny_For (thn (hi pins s σ H _ I h) λv s1 h1=>thn h1 λitv s2 h2=>?_) hs;obtain⟨it,fp,tn,J,H2,e,I2,T,st2,f2,W,⟨m0,w0⟩,turn⟩:=h2;subst e;have stat:∀{H':Hp},(∀b∈fp,H' b=none)->∀b∈fp,fe X pins H' b:=λhn b hb=>⟨hn b hb,(f2 b hb).2⟩;refine codeAny_forLoop_any (λn s'=>∃i σ' H',Inv X pins σ' H' s'/\tn i s'.heap/\(∀b∈fp,H' b=none)/\W i n σ' H') ?_ m0 ⟨0,σ,H2,I2,st2,λb hb=>(f2 b hb).1,w0⟩;rintro n s3 ⟨i,σ3,H3,I3,st3,fr3,w3⟩;rcases turn i n σ3 H3 w3 with⟨stop,qn⟩|⟨go,N,hN,step⟩
 ·refine wpAny_passesOwn hp (thn (T.done X rfl rfl rfl hc i pins s3 σ3 H3 X.xe I3 (stat fr3) st3 stop) λr s4 e0=>e0.elim λhr I4=>?_);subst hr;exact wpAny_execs_nil ⟨σ3,H3,I4,qn⟩
 ·refine wpAny_passesOwn hp (thn (T.item X rfl rfl rfl hc i pins s3 σ3 H3 X.xe I3 (stat fr3) st3 go) λr s4 e0=>e0.elim λu e1=>e1.elim λhr h4=>?_);subst hr;refine wpAny_passesOwn hp (thn h4 λ_ s5 e0=>bD e0 λx H5 I5 r5 e4=>e4.elim λy5 e5=>e5.elim λst5 fr5=>?_);have I5':=I5.pinned (stat fr5) (T.obj _ _ st5);refine wpAny_passesOwn hp (thn (hg _ s5 σ3 H5 x u _ I5' r5 (step x H5 y5)) λ_ s6 e0=>e0.elim λσ6 e1=>e1.elim λH6 e2=>e2.elim λI6 q6=>?_);refine wpAny_passesOwn hp (thn (hb _ s6 σ6 H6 _ I6 q6) λf s7 q7=>?_);have again:∀{σ7:St}{H7:Hp},Inv X (pins++jf fp s5.heap) σ7 H7 s7->N σ7 H7->∃m,m<n/\∃i σ' H',Inv X pins σ' H' s7/\tn i s7.heap/\(∀b∈fp,H' b=none)/\W i m σ' H':=λ{σ7 H7} I7 n7=>by
   obtain⟨m',hm,w7⟩:=hN σ7 H7 n7;refine⟨m',hm,i+1,σ7,H7,I7.unpinned,T.keep _ _ _ st5 λb hb o e=>(I7.pin (b,o) (cK _ (cK _ (pR hb e)))).1,λb hb=>?_,w7⟩;obtain⟨o,e,d⟩:=T.obj _ _ st5 b hb;exact(I7.pin (b,o) (cK _ (cK _ (pR hb e)))).2.1
  cases f with
  |next=>obtain⟨σ7,H7,I7,n7⟩:=q7;exact again I7 n7
  |cont=>obtain⟨σ7,H7,I7,n7⟩:=q7;exact again I7 n7
  |brk=>obtain⟨σ7,H7,I7,q7⟩:=q7;exact⟨σ7,H7,I7.unpinned,q7⟩
  |ret v=>obtain⟨x7,σ7,H7,I7,r7,q7⟩:=q7;exact⟨x7,σ7,H7,I7.unpinned,r7,q7⟩
end
abbrev R2:=V->V->Hp->VK->Prop
def OpR(X:Cx)(f:ae->ae->Sem ae)(r:R2):Prop:=
 ∀(pins:List (ad×aw)) (s:ag) (σ:St) (H:Hp) (x y:V) (v u:ae) (Q:VK),Inv X pins σ H s->aT x v->aT y u->r x y H Q ->
  aq (au X.prog X.w) X.A (f v u) (EP X pins σ Q) X.xe s
def UnR(X:Cx)(f:ae->Sem ae)(r:V->Hp->VK->Prop):Prop:=
 ∀(pins:List (ad×aw)) (s:ag) (σ:St) (H:Hp) (x:V) (v:ae) (Q:VK),Inv X pins σ H s->aT x v->r x H Q ->
  aq (au X.prog X.w) X.A (f v) (EP X pins σ Q) X.xe s
def eQ(X:Cx)(f:ae)(r:List V->Hp->VK->Prop):Prop:=
 ∀(pins:List (ad×aw)) (s:ag) (σ:St) (H:Hp) (xs:List V) (us:List ae) (Q:VK),Inv X pins σ H s->Vals xs us->r xs H Q ->
  aq (au X.prog X.w) X.A (call f us) (EP X pins σ Q) X.xe s
def tOp(r:R2)(ta tb:TE):TE:=λσ H Q=>ta σ H λx H1=>tb σ H1 λy H2=>r x y H2 Q
def tUn(r:V->Hp->VK->Prop)(ta:TE):TE:=λσ H Q=>ta σ H λx H1=>r x H1 Q
def rI(C:Int->Int->Prop)(g:Int->Int->V):R2:=λx y H Q=>∃i j,x=.int i/\y=.int j/\C i j/\Q (g i j) H
def rI0(g:Int->Int->V):R2:=λx y H Q=>∃i j,x=.int i/\y=.int j/\Q (g i j) H
def rU(g:Int->V):V->Hp->VK->Prop:=λx H Q=>∃i,x=.int i/\Q (g i) H
section
variable {X:Cx}{a b c:az}{ta tb tc:TE}{pos:Pos}
theorem tm(ha:PE X a ta)(hb:PE X b tb){pins:List (ad×aw)}{s:ag}{σ:St}{H:Hp}{R:V->V->Hp->Prop}(I:Inv X pins σ H s)
  (h:ta σ H λx H1=>tb σ H1 λy H2=>R x y H2) {Q:ae->ag->Prop} {f:ae->ae->Sem ae}
  (hf:∀v u s2 x y H2,Inv X pins σ H2 s2->aT x v->aT y u->R x y H2->aq (au X.prog X.w) X.A (f v u) Q X.xe s2) :
  aq (au X.prog X.w) X.A (aK a X.env) (λv s₁=>aq (au X.prog X.w) X.A (aK b X.env) (λu s₂=>aq (au X.prog X.w) X.A (f v u) Q X.xe s₂) X.xe s₁) X.xe s:=by
 refine thn (ha pins s σ H _ I h) λv s1 e0=>bD e0 λx H1 I1 r1 q1=>?_;refine thn (hb pins s1 σ H1 _ I1 q1) λu s2 e0=>bD e0 λy H2 I2 r2 q2=>?_;exact hf v u s2 x y H2 I2 r1 r2 q2
theorem Bj{op:Operator}{r:R2}(ho:OpR X (binaryOp op) r)(ha:PE X a ta)(hb:PE X b tb):PE X (.BinOp a op b pos) (tOp r ta tb):=by
 intro pins s σ H Q I h;exact wpAny_BinOp (tm ha hb I h λv u s2 x y H2 I2 rx ry q=>ho pins s2 σ H2 x y v u Q I2 rx ry q)
theorem Ac{op:UnaryOp}{r:V->Hp->VK->Prop}(ho:UnR X (unaryOp op) r)(ha:PE X a ta):PE X (.UnaryOp op a pos) (tUn r ta):=by
 intro pins s σ H Q I h;exact UnaryOp_ (thn (ha pins s σ H _ I h) λv s1 e0=>bD e0 λx H1 I1 r1 q1=>ho pins s1 σ H1 x v Q I1 r1 q1)
theorem opI{f:ae->ae->Sem ae}{C:Int->Int->Prop}{g:Int->Int->Int}
  (rule:∀(i j:Int) (t u:Tok) (s:ag) (Q:ae->ag->Prop) (E:ae->ag->Prop),C i j->Q (.int (g i j) s.toks) { s with toks:=s.toks+1 }->aq (au X.prog X.w) X.A (f (.int i t) (.int j u)) Q E s) :
  OpR X f (rI C λi j=>.int (g i j)):=by
 intro pins s σ H x y v u Q I rx ry h;obtain⟨i,j,rfl,rfl,hc,q⟩:=h;obtain⟨t,rfl⟩:=rx;obtain⟨t',rfl⟩:=ry;exact rule i j t t' s _ _ hc ⟨.int (g i j),H,I.tok _,⟨_,rfl⟩,q⟩
theorem xk{f:ae->ae->Sem ae}{g:Int->Int->Int}
  (rule:∀(i j:Int) (t u:Tok) (s:ag) (Q:ae->ag->Prop) (E:ae->ag->Prop),Q (.int (g i j) s.toks) { s with toks:=s.toks+1 }->aq (au X.prog X.w) X.A (f (.int i t) (.int j u)) Q E s) :
  OpR X f (rI0 λi j=>.int (g i j)):=by
 intro pins s σ H x y v u Q I rx ry h;obtain⟨i,j,rfl,rfl,q⟩:=h;obtain⟨t,rfl⟩:=rx;obtain⟨t',rfl⟩:=ry;exact rule i j t t' s _ _ ⟨.int (g i j),H,I.tok _,⟨_,rfl⟩,q⟩
theorem pZ{f:ae->ae->Sem ae}{g:Int->Int->Bool}
  (rule:∀(i j:Int) (t u:Tok) (s:ag) (Q:ae->ag->Prop) (E:ae->ag->Prop),Q (.bool (g i j)) s->aq (au X.prog X.w) X.A (f (.int i t) (.int j u)) Q E s) :
  OpR X f (rI0 λi j=>.bl (g i j)):=by
 intro pins s σ H x y v u Q I rx ry h;obtain⟨i,j,rfl,rfl,q⟩:=h;obtain⟨t,rfl⟩:=rx;obtain⟨t',rfl⟩:=ry;exact rule i j t t' s _ _ ⟨.bl (g i j),H,I,rfl,q⟩
def CDiv(i j:Int):Prop:=0<j/\j<1073741824
def CMul(i j:Int):Prop:=(-(2 ^ 64)<i/\i<2 ^ 64)∨(-(2 ^ 64)<j/\j<2 ^ 64)
theorem CMul.ok{i j:Int}(h:CMul i j):IntMulOk i j:=by
 rcases h with⟨h1,h2⟩|⟨h1,h2⟩
 ·exact .of_left (intBits_le_64 h1 h2)
 ·exact .of_right (intBits_le_64 h1 h2)
theorem Ck:OpR X (binaryOp .Add) (rI0 λi j=>.int (i+j)):=xk λ_ _ _ _ _ _ _ q=>add_int q
theorem sF:OpR X (binaryOp .Sub) (rI0 λi j=>.int (i-j)):=xk λ_ _ _ _ _ _ _ q=>sub_int q
theorem AG:OpR X (binaryOp .Mult) (rI CMul λi j=>.int (i*j)):=opI λ_ _ _ _ _ _ _ hc q=>mul_int q hc.ok
theorem g5:OpR X (binaryOp .FloorDiv) (rI CDiv λi j=>.int (i/j)):=opI λi j _ _ _ _ _ hc q=>by
 have h1:(0:Int)<j:=hc.1;have h2:j<1073741824:=hc.2;exact floordiv_int (by lia) (by rw[Int.fdiv_eq_ediv_of_nonneg i (by lia)];exact q) (.inl (PyProof.noPylong_small (by lia)))
theorem dP:OpR X (binaryOp .Mod) (rI (λ_ j=>0<j) λi j=>.int (i%j)):=opI λi j _ _ _ _ _ hc q=>by
 have h1:(0:Int)<j:=hc;exact mod_int' (by lia) (by rw[Int.fmod_eq_emod_of_nonneg i (by lia)];exact q)
theorem unI{f:ae->Sem ae}{g:Int->Int}
  (rule:∀(i:Int) (t:Tok) (s:ag) (Q:ae->ag->Prop) (E:ae->ag->Prop),Q (.int (g i) s.toks) { s with toks:=s.toks+1 }->aq (au X.prog X.w) X.A (f (.int i t)) Q E s) :
  UnR X f (rU λi=>.int (g i)):=by
 intro pins s σ H x v Q I rx h;obtain⟨i,rfl,q⟩:=h;obtain⟨t,rfl⟩:=rx;exact rule i t s _ _ ⟨.int (g i),H,I.tok _,⟨_,rfl⟩,q⟩
theorem Ek:UnR X (unaryOp .USub) (rU λi=>.int (-i)):=unI λ_ _ _ _ _ q=>neg_int q
end
noncomputable def scal:V->V->Bool
 |.non,.non=>true|.non,.int _=>true|.int _,.non=>true|.non,.bl _=>true|.bl _,.non=>true|.non,.str _=>true|.str _,.non=>true
 |.int _,.int _=>true|.bl _,.bl _=>true|.str _,.str _=>true|.byt _,.byt _=>true
 |.int _,.str _=>true|.str _,.int _=>true|.bl _,.str _=>true|.str _,.bl _=>true
 |_,_=>false
def rEq:R2:=λx y H Q=>scal x y=true/\Q (.bl (decide (x=y))) H
def rNe:R2:=λx y H Q=>scal x y=true/\Q (.bl (!decide (x=y))) H
theorem xg{i j:Int}:decide (V.int i=V.int j)=(i == j):=by
 rw[mE];simp
theorem xR{i j:Bool}:decide (V.bl i=V.bl j)=(i == j):=by
 rw[mE];simp
theorem zw{i j:Str}:decide (V.str i=V.str j)=(i == j):=by
 rw[mE];simp
theorem zQ{i j:Array UInt8}:decide (V.byt i=V.byt j)=(i.toList == j.toList):=by
 rw[mE];cases i;cases j;simp
section
variable {X:Cx}{a b c:az}{ta tb tc:TE}{pos:Pos}
theorem cA{pins:List (ad×aw)}{σ:St}{H:Hp}{s:ag}{Q:VK}{k k':Bool}(I:Inv X pins σ H s)(q:Q (.bl k) H)(e:k=k'):EP X pins σ Q (.bool k') s:=by
 subst e;exact⟨.bl k,H,I,rfl,q⟩
theorem CU:OpR X (cP .Eq) rEq:=by
 intro pins s σ H x y v u Q I rx ry h;obtain⟨hs,q⟩:=h;cases x with
 |non=>
   cases rx;cases y with
   |non=>cases ry;exact PySem.EqNone.eq_none_none (cA I q (by simp))
   |bl j=>cases ry;exact PySem.EqNone.eq_none_bool (cA I q (by simp))
   |int j=>obtain⟨t',rfl⟩:=ry;exact PySem.EqNone.eq_none_int (cA I q (by simp))
   |str j=>obtain⟨t',rfl⟩:=ry;exact PySem.EqNone.eq_none_str (cA I q (by simp))
   |_=>exact absurd (show false=true from hs) cp
 |bl i=>
   cases rx;cases y with
   |non=>cases ry;exact PySem.EqNone.eq_bool_none (cA I q (by simp))
   |bl j=>cases ry;exact eq_bool (cA I q xR)
   |str j=>obtain⟨t',rfl⟩:=ry;exact PySem.EqMixed.eq_bool_str (cA I q (by simp))
   |_=>exact absurd (show false=true from hs) cp
 |int i=>
   obtain⟨t,rfl⟩:=rx;cases y with
   |non=>cases ry;exact PySem.EqNone.eq_int_none (cA I q (by simp))
   |int j=>obtain⟨t',rfl⟩:=ry;exact eq_int (cA I q xg)
   |str j=>obtain⟨t',rfl⟩:=ry;exact PySem.EqMixed.eq_int_str (cA I q (by simp))
   |_=>exact absurd (show false=true from hs) cp
 |str i=>
   obtain⟨t,rfl⟩:=rx;cases y with
   |non=>cases ry;exact PySem.EqNone.eq_str_none (cA I q (by simp))
   |bl j=>cases ry;exact PySem.EqMixed.eq_str_bool (cA I q (by simp))
   |int j=>obtain⟨t',rfl⟩:=ry;exact PySem.EqMixed.eq_str_int (cA I q (by simp))
   |str j=>obtain⟨t',rfl⟩:=ry;exact eq_str (cA I q zw)
   |_=>exact absurd (show false=true from hs) cp
 |byt i=>
   obtain⟨t,rfl⟩:=rx;cases y with
   |byt j=>obtain⟨t',rfl⟩:=ry;exact PySem.W.eq_bytes (cA I q zQ)
   |_=>exact absurd (show false=true from hs) cp
 |_=>cases y <;> exact absurd (show false=true from hs) cp
theorem Bi:OpR X (cP .NotEq) rNe:=by
 intro pins s σ H x y v u Q I rx ry h;obtain⟨hs,q⟩:=h;cases x with
 |non=>
   cases rx;cases y with
   |non=>cases ry;exact PySem.EqNone.ne_none_none (cA I q (by simp))
   |bl j=>cases ry;exact PySem.EqNone.ne_none_bool (cA I q (by simp))
   |int j=>obtain⟨t',rfl⟩:=ry;exact PySem.EqNone.ne_none_int (cA I q (by simp))
   |str j=>obtain⟨t',rfl⟩:=ry;exact PySem.EqNone.ne_none_str (cA I q (by simp))
   |_=>exact absurd (show false=true from hs) cp
 |bl i=>
   cases rx;cases y with
   |non=>cases ry;exact PySem.EqNone.ne_bool_none (cA I q (by simp))
   |bl j=>cases ry;exact ne_bool (cA I q (congrArg not xR))
   |str j=>obtain⟨t',rfl⟩:=ry;exact PySem.EqMixed.ne_bool_str (cA I q (by simp))
   |_=>exact absurd (show false=true from hs) cp
 |int i=>
   obtain⟨t,rfl⟩:=rx;cases y with
   |non=>cases ry;exact PySem.EqNone.ne_int_none (cA I q (by simp))
   |int j=>obtain⟨t',rfl⟩:=ry;exact ne_int (cA I q (congrArg not xg))
   |str j=>obtain⟨t',rfl⟩:=ry;exact PySem.EqMixed.ne_int_str (cA I q (by simp))
   |_=>exact absurd (show false=true from hs) cp
 |str i=>
   obtain⟨t,rfl⟩:=rx;cases y with
   |non=>cases ry;exact PySem.EqNone.ne_str_none (cA I q (by simp))
   |bl j=>cases ry;exact PySem.EqMixed.ne_str_bool (cA I q (by simp))
   |int j=>obtain⟨t',rfl⟩:=ry;exact PySem.EqMixed.ne_str_int (cA I q (by simp))
   |str j=>obtain⟨t',rfl⟩:=ry;exact ne_str (cA I q (congrArg not zw))
   |_=>exact absurd (show false=true from hs) cp
 |byt i=>
   obtain⟨t,rfl⟩:=rx;cases y with
   |byt j=>obtain⟨t',rfl⟩:=ry;exact PySem.W.ne_bytes (cA I q (congrArg not zQ))
   |_=>exact absurd (show false=true from hs) cp
 |_=>cases y <;> exact absurd (show false=true from hs) cp
theorem jX:OpR X (cP .Lt) (rI0 λi j=>.bl (decide (i<j))):=pZ λ_ _ _ _ _ _ _ q=>lt_int q
theorem wl:OpR X (cP .LtE) (rI0 λi j=>.bl (decide (i≤j))):=pZ λ_ _ _ _ _ _ _ q=>le_int q
theorem gL:OpR X (cP .Gt) (rI0 λi j=>.bl (decide (j<i))):=pZ λ_ _ _ _ _ _ _ q=>gt_int q
theorem wZ:OpR X (cP .GtE) (rI0 λi j=>.bl (decide (j≤i))):=pZ λ_ _ _ _ _ _ _ q=>ge_int q
theorem vg:OpR X (cP .In) (λx y H Q=>∃i j,x=.str i/\y=.str j/\Q (.bl (!(Builtin.Str.occurrences j i 0 j.length 1).isEmpty)) H):=by
 intro pins s σ H x y v u Q I rx ry h;obtain⟨i,j,rfl,rfl,q⟩:=h;obtain⟨t,rfl⟩:=rx;obtain⟨t',rfl⟩:=ry;exact in_str (cA I q rfl)
theorem G6:OpR X (cP .Is) (λx y H Q=>y=.non/\Q (.bl (decide (x=.non))) H):=by
 intro pins s σ H x y v u Q I rx ry h;obtain⟨rfl,q⟩:=h;cases ry;refine is_none_gen (cA I q ?_);cases x <;> first
  |(cases rx;rfl)
  |(obtain⟨t,rfl⟩:=rx;rfl)
theorem AN:OpR X (cP .IsNot) (λx y H Q=>y=.non/\Q (.bl (!decide (x=.non))) H):=by
 intro pins s σ H x y v u Q I rx ry h;obtain⟨rfl,q⟩:=h;cases ry;refine isnot_none_gen (cA I q ?_);cases x <;> first
  |(cases rx;rfl)
  |(obtain⟨t,rfl⟩:=rx;rfl)
theorem zF:OpR X (cP .NotIn) (λx y H Q=>∃i j,x=.str i/\y=.str j/\Q (.bl (!(!(Builtin.Str.occurrences j i 0 j.length 1).isEmpty))) H):=by
 intro pins s σ H x y v u Q I rx ry h;obtain⟨i,j,rfl,rfl,q⟩:=h;obtain⟨t,rfl⟩:=rx;obtain⟨t',rfl⟩:=ry;exact notIn_str (cA I q rfl)
theorem OpR.or{f:ae->ae->Sem ae}{r r':R2}(h:OpR X f r)(h':OpR X f r'):OpR X f (λx y H Q=>r x y H Q∨r' x y H Q):=by
 intro pins s σ H x y v u Q I rx ry q;rcases q with q|q
 ·exact h pins s σ H x y v u Q I rx ry q
 ·exact h' pins s σ H x y v u Q I rx ry q
theorem bQ(b:az){op:CmpOp}(h:op≠.In:=by decide)(h2:op≠.NotIn:=by decide):behindInMarks op b=false:=by
 have e1:(op == CmpOp.In)=false:=by cases op <;> first|rfl|exact absurd rfl h
 have e2:(op == CmpOp.NotIn)=false:=by cases op <;> first|rfl|exact absurd rfl h2
 cases b <;> simp[behindInMarks,e1,e2]
theorem Dr{op:CmpOp}{r:R2}(ho:OpR X (cP op) r)(ha:PE X a ta)(hb:PE X b tb)(hm:behindInMarks op b=false):PE X (.Compare a [op] [b] pos) (tOp r ta tb):=by
 intro pins s σ H Q I h;exact wpAny_Compare1 (tm ha hb I h λv u s2 x y H2 I2 rx ry q=>ho pins s2 σ H2 x y v u Q I2 rx ry q) hm
def zR(t:TE):TT:=λσ H Q=>t σ H λx H'=>∃k,x=.bl k/\Q k H'
theorem tD{op:CmpOp}{r:R2}(ho:OpR X (cP op) r)(ha:PE X a ta)(hb:PE X b tb)(hm:behindInMarks op b=false):PT X (.Compare a [op] [b] pos) (zR (tOp r ta tb)):=by
 intro pins s σ H Q I h;refine wpAny_isTrue_Compare1 (thn (ha pins s σ H _ I h) λv s1 e0=>bD e0 λx H1 I1 r1 q1=>thn (hb pins s1 σ H1 _ I1 q1) λu s2 e0=>bD e0 λy H2 I2 r2 q2=>
  thn (ho pins s2 σ H2 x y v u _ I2 r1 r2 q2) λc s3 e0=>bD e0 λz H3 I3 r3 e4=>e4.elim λk e5=>e5.elim λe q3=>?_) hm
 subst e;cases r3;exact wpAny_truthy_bool ⟨H3,I3,q3⟩
def xJ(r r':R2)(ta tb tc:TE):TE:=λσ H Q=>ta σ H λx H1=>tb σ H1 λy H2=>r x y H2 λz H3=>∃k,z=.bl k /\
 (if k=true then tc σ H3 λw' H4=>r' y w' H4 Q else Q (.bl false) H3)
theorem Bl{op op':CmpOp}{r r':R2}(ho:OpR X (cP op) r)(ho':OpR X (cP op') r')(ha:PE X a ta)(hb:PE X b tb)(hc:PE X c tc)
  (hm:lastMarks [op,op'] [b,c]=false:=by with_unfolding_all rfl):PT X (.Compare a [op,op'] [b,c] pos) (zR (xJ r r' ta tb tc)):=by
 intro pins s σ H Q I h;refine isTrue_chain (thn (ha pins s σ H _ I h) λv s1 e0=>bD e0 λx H1 I1 r1 q1=>test_link (thn (hb pins s1 σ H1 _ I1 q1) λu s2 e0=>bD e0 λy H2 I2 r2 q2=>
  thn (ho pins s2 σ H2 x y v u _ I2 r1 r2 q2) λd s3 e0=>bD e0 λz H3 I3 r3 e4=>e4.elim λk e5=>e5.elim λe q3=>?_)) hm
 subst e;cases r3;refine wpAny_truthy_bool ?_;cases k with
 |false=>
   obtain⟨k',e',q'⟩:=q3;cases e';exact ite_ff ⟨H3,I3,q'⟩
 |true=>
   refine ite_tt (test_last (thn (hc pins s3 σ H3 _ I3 q3) λw' s4 e0=>e0.elim λz' e1=>e1.elim λH4 e2=>e2.elim λI4 e3=>e3.elim λr4 q4=>thn (ho' pins s4 σ H4 y z' u w' _ I4 r2 r4 q4) λd' s5 e0=>bD e0 λz2 H5 I5 r5 e4=>e4.elim λk2 e5=>e5.elim λe2 q5=>?_));subst e2;cases r5;exact wpAny_truthy_bool ⟨H5,I5,q5⟩
theorem nU:(aW:Nat)<2 ^ 63:=by rw[sizeLine_eq];decide
theorem Dh:OpR X (binaryOp .Add) (λx y H Q=>∃i j,x=.str i/\y=.str j/\i.length+j.length≤aW/\Q (.str (i++j)) H):=by
 intro pins s σ H x y v u Q I rx ry h;obtain⟨i,j,rfl,rfl,hz,q⟩:=h;obtain⟨t,rfl⟩:=rx;obtain⟨t',rfl⟩:=ry;exact add_str (λt' tk=>⟨.str (i++j),H,I.tok _,⟨_,rfl⟩,q⟩) hz
theorem vals1{x:V}{us:List ae}(r:Vals [x] us):∃u,us=[u]/\aT x u:=by
 cases r with
 |cons r1 r2=>cases r2;exact⟨_,rfl,r1⟩
theorem vals2{x y:V}{us:List ae}(r:Vals [x,y] us):∃u w',us=[u,w']/\aT x u/\aT y w':=by
 cases r with
 |cons r1 r2=>
   cases r2 with
   |cons r3 r4=>cases r4;exact⟨_,_,rfl,r1,r3⟩
theorem lM:eQ X (.type "str") (λxs H Q=>∃i,xs=[.int i]/\i.natAbs.log2<1920/\Q (.str (toString i)) H):=by
 intro pins s σ H xs us Q I r h;obtain⟨i,rfl,hz,q⟩:=h;obtain⟨u,rfl,t,rfl⟩:=vals1 r;exact PySem.P.str_of_int hz ⟨.str _,H,I.tok _,⟨_,rfl⟩,q⟩
def wT(K:PySem.W.Frag)(x:V)(H:Hp)(n:Nat):Prop:=
 match x with
 |.str y=>y.length≤aW/\n=y.length
 |.byt y=>y.size≤aW/\n=y.size
 |.ref p=>(∃xs,SqL K H p xs/\n=xs.length)∨∃xs,SqT K H p xs/\n=xs.length
 |_=>False
theorem Gk:eQ X (.builtin "len") (λxs H Q=>∃x n,xs=[x]/\wT X.K x H n/\Q (.int n) H):=by
 intro pins s σ H xs us Q I r h;obtain⟨x,n,rfl,e,q⟩:=h;obtain⟨u,rfl,rx⟩:=vals1 r;have hl:=nU;have hs:aW=16777216:=sizeLine_eq;cases x with
 |str y=>
   obtain⟨t,rfl⟩:=rx;obtain⟨hy,e'⟩:y.length≤aW/\n=y.length:=e;subst e';exact len_str (by lia) ⟨.int _,H,I.tok _,⟨_,rfl⟩,q⟩
 |byt y=>
   obtain⟨t,rfl⟩:=rx;obtain⟨hy,e'⟩:y.size≤aW/\n=y.size:=e;subst e';exact PySem.W.len_bytes (by lia) ⟨.int _,H,I.tok _,⟨_,rfl⟩,q⟩
 |ref p=>
   cases rx;have e':(∃xs,SqL X.K H p xs/\n=xs.length)∨∃xs,SqT X.K H p xs/\n=xs.length:=e;rcases e' with⟨xs,hx,e'⟩|⟨xs,hx,e'⟩
   ·subst e';obtain⟨its,r',pl,hz⟩:=I.list hx;have hlen:=r'.length;exact Calls.call_len_list pl.isList (by simp only[cB];lia) ⟨.int xs.length,H,I.tok _,⟨_,by simp only[cB];rw[hlen]⟩,q⟩
   ·subst e';obtain⟨its,r',pl,hz⟩:=I.tuple hx;have hlen:=r'.length;exact len_tuple pl (by simp only[cB];lia) ⟨.int xs.length,H,I.tok _,⟨_,by simp only[cB];rw[hlen]⟩,q⟩
 |_=>exact(show False from e).elim
end
structure j6(h:aI)(x dx C:ad)(mA:Str->Option ae):Prop where
 obj:h.get? x=some (PySem.W.instObj C dx)
 ns:h.Ns1 dx mA
 ne:dx≠x
theorem Ee{h:aI}{dx:ad}{mA:Str->Option ae}(n:h.Ns1 dx mA):∃od,h.get? dx=some od/\∀name,PySem.W.lookIn name od=some (mA name):=by
 obtain⟨o,es,ep,ho,hd,hk,_,hm⟩:=n;refine⟨o,ho,λname=>?_⟩;have e:=hm name;unfold nsFind findBy at e;rw[←Array.find?_toList]at e;unfold PySem.W.lookIn;rw[hd];dsimp only;split
 ·rename_i y q;rw[q]at e;exact congrArg some e
 ·rename_i q;rw[q]at e;have a:es.toList.any (·.refKey)=false:=by
   rw[List.any_eq_false];intro y hy;obtain⟨z,t,hkey⟩:=hk y (Array.mem_toList_iff.mp hy);simp[DictEntry.refKey,hkey]
  have a':¬es.toList.any (·.refKey)=true:=by rw[a];exact cp
  rw[if_neg a'];exact congrArg some e
theorem j6.look{h:aI}{x dx C:ad}{mA:Str->Option ae}(I:j6 h x dx C mA):∃od,PySem.W.InstAt h x (PySem.W.instObj C dx) C (some od)/\∀name,PySem.W.lookIn name od=some (mA name):=
 let ⟨od,ho,hl⟩:=Ee I.ns
 ⟨od,⟨I.obj,rfl,rfl,ho⟩,hl⟩
section
variable {prog:bh}{w:aR}{A:aX}{E:ae->ag->Prop}{s:ag}{K:PySem.W.Frag}{x dx C f:ad}{mA:Str->Option ae}{name:Str}{v:ae}
theorem BK{expr:Bool}{Q:ae->ag->Prop}(X:K.In s.heap)(I:j6 s.heap x dx C mA)(hg:PySem.W.plainGet K C name=true)(hh:PySem.W.hasDictIn K C=true)
  (ha:PySem.W.findIn K (.ref C) name=some none) (hv:mA name=some v) (hv':PySem.W.handedIn v=true) (h:Q v { s with toks:=s.toks+1 }) :
  aq (au prog w) A (getAttr (.ref x) name expr) Q E s:=by
 obtain⟨od,J,hl⟩:=I.look;exact PySem.W.get_value X J (PySem.W.plainGet_of hg).1 (PySem.W.findObj_own hh ha rfl (by rw[hl,hv])) hv' h
theorem CS{pl:Sem Bool}{Q:ae×List ae->ag->Prop}(X:K.In s.heap)(I:j6 s.heap x dx C mA)(hg:PySem.W.plainGet K C name=true)
  (hf:PySem.W.findIn K (.ref C) name=some (some (.ref f))) (ht:PySem.W.isFn K (.ref f)=true) (hv:mA name=none) (h:Q (.ref f,[.ref x]) s) :
  aq (au prog w) A (getMethod (.ref x) name pl) Q E s:=by
 obtain⟨od,J,hl⟩:=I.look;exact PySem.W.method_fn X J (PySem.W.plainGet_of hg).1 (PySem.W.plainGet_of hg).2 hf (beq_iff_eq.mp ht) (by show(PySem.W.lookIn name od).map (·.isSome)=some false;rw[hl,hv];rfl) h
theorem E7{ns:List Str}{Q:Unit->ag->Prop}(X:K.In s.heap)(I:j6 s.heap x dx C mA)
  (hs:PySem.W.findIn K (.ref C) "__setattr__"=some (some (.builtin "object.__setattr__"))) (hp:PySem.W.plainOver K C=true) (ht:PySem.W.takerIn K C name=some none) (hh:PySem.W.hasDictIn K C=true)
  (hw:PySem.Within mA ns) (hsz:ns.length≤aW)
  (h:∀h',j6 h' x dx C (λy=>if y=name then some v else mA y)->om dx s.heap h'->Q () { s with heap:=h',toks:=s.toks+2 }) :
  aq (au prog w) A (setAttr (.ref x) name v) Q E s:=by
 obtain⟨od,J,hl⟩:=I.look;refine PySem.W.set_plain X J hs (PySem.W.osa_open (s:={ s with toks:=s.toks+1 }) (r:=none) X J hp ht λb=>?_);obtain⟨cd,hc,hd'⟩:=PySem.W.any_some hh;have hx:s.heap.get? x=some ⟨.ref C,some dx,.plain,#[]⟩:=I.obj;refine ak (aF (ak (ak (wpAny_loadPart hx (ak (PySem.W.Looks.here (s:={ s with toks:=s.toks+1 }) (PySem.W.looks_clsIn X hc) ?_))))));rw[hd'];refine aF (a:=some dx) (ak (aF (ak ?_)));refine wpAny_nsSet1 (s:={ s with toks:=s.toks+1 }) I.ns λh' hn2 hs2=>?_;obtain⟨oD,esD,epD,hoD,hdD,hcD⟩:=hn2.count (PySem.Within.cons name v hw);refine ak (wpAny_lookBehind hoD (by rw[hdD];exact pastItsLine_dict (bV hcD (by rw[cr];lia))) ?_);exact aF (h _ ⟨(hs2.2 _ (Ne.symm I.ne)).trans I.obj,hn2,I.ne⟩ hs2)
theorem FQ{R:Result->ag->Prop}{vs:List ae}{kw:List (Str×ae)}(X:K.In s.heap)(hm:PySem.W.makesIn K C=true)
  (hi:PySem.W.findIn K (.ref C) "__init__"=some (some (.ref f))) (hf:PySem.W.typeIn K (.ref f)=some (.type "function"))
  (h:codeAny (au prog w) (A.under (.builtin "type.__call__" ⟨.ref C::vs,kw⟩)) (.call (.ref f) ⟨.ref (s.heap.objs.size + 1)::vs,kw⟩) (PySem.W.InitBack (s.heap.objs.size + 1) R)
   { s with heap:=(s.heap.push PySem.W.emptyDict).push (PySem.W.instObj C s.heap.objs.size) }) :
  codeAny (au prog w) A (.call (.ref C) ⟨vs,kw⟩) R s:=by
 obtain⟨hh,g,d,t,os⟩:=s;exact PySem.W.make_core (PySem.W.makes_of X hm) (PySem.W.looks_findIn X hi) (λself=>PySem.W.bind_fn X self hf) (.inl rfl) h
end
noncomputable def putF(f:Str)(v:V):List (Str×V)->List (Str×V)
 |[]=>[(f,v)]
 |(g,x)::r=>if g=f then(g,v)::r else(g,x)::putF f v r
theorem wO(f g:Str)(v:V):∀fs:List (Str×V),(putF f v fs).lookup g=if g=f then some v else fs.lookup g
 |[]=>by
   show gC g [(f,v)]=_;by_cases h:g=f
   ·have hb:(g == f)=true:=beq_iff_eq.mpr h;simp only[gC,hb,if_pos h]
   ·have hb:(g == f)=false:=beq_eq_false_iff_ne.mpr h;simp only[gC,hb,if_neg h]
 |(k,x)::r=>by
   have ih:=wO f g v r;rw[show putF f v ((k,x)::r)=(if k=f then(k,v)::r else(k,x)::putF f v r) from rfl];by_cases hk:k=f
   ·rw[if_pos hk];by_cases h:g=k
    ·have hb:(g == k)=true:=beq_iff_eq.mpr h;simp only[gC,hb,if_pos (h.trans hk)]
    ·have hb:(g == k)=false:=beq_eq_false_iff_ne.mpr h;simp only[gC,hb,if_neg (λe:g=f=>h (e.trans hk.symm))]
   ·rw[if_neg hk];by_cases h:g=k
    ·have hb:(g == k)=true:=beq_iff_eq.mpr h;simp only[gC,hb,if_neg (λe:g=f=>hk (h.symm.trans e))]
    ·have hb:(g == k)=false:=beq_eq_false_iff_ne.mpr h;simp only[gC,hb];exact ih
theorem sL(f:Str)(v:V):∀fs:List (Str×V),f∈(putF f v fs).map (·.1)/\∀g,g∈fs.map (·.1)->g∈(putF f v fs).map (·.1)
 |[]=>⟨by simp[putF],λg h=>by simp at h⟩
 |(k,x)::r=>by
   obtain⟨i1,i2⟩:=sL f v r;rw[show putF f v ((k,x)::r)=(if k=f then(k,v)::r else(k,x)::putF f v r) from rfl];by_cases hk:k=f
   ·rw[if_pos hk];subst hk;exact⟨by simp,λg h=>by simpa using h⟩
   ·rw[if_neg hk];refine⟨?_,λg h=>?_⟩
    ·rw[aN];exact cS _ i1
    ·rw[aN]at h ⊢;rcases bE.mp h with e|e
     ·exact bE.mpr (.inl e)
     ·exact cS _ (i2 g e)
theorem xK(f:Str)(v:V):∀fs:List (Str×V),(putF f v fs).length≤fs.length+1
 |[]=>by simp[putF]
 |(k,x)::r=>by
   have ih:=xK f v r;rw[show putF f v ((k,x)::r)=(if k=f then(k,v)::r else(k,x)::putF f v r) from rfl];by_cases hk:k=f
   ·rw[if_pos hk,cr,cr];lia
   ·rw[if_neg hk,cr,cr];lia
theorem ff.some_of{v:V}{o:Option ae}(r:ff (some v) o):∃u,o=some u/\aT v u:=by
 cases o with
 |none=>exact(show False from r).elim
 |some u=>exact⟨u,rfl,r⟩
theorem ff.none_of{o:Option ae}(r:ff none o):o=none:=by
 cases o with
 |none=>rfl
 |some u=>exact(show False from r).elim
theorem Am{v:V}{u:ae}(r:aT v u):PySem.W.handedIn u=true:=by
 cases v with
 |non=>cases(show u=Value.none from r);rfl
 |bl b=>cases(show u=Value.bool b from r);rfl
 |int i=>obtain⟨t,e⟩:=(show ∃t,u=Value.int i t from r);cases e;rfl
 |str x=>obtain⟨t,e⟩:=(show ∃t,u=Value.str x t from r);cases e;rfl
 |byt b=>obtain⟨t,e⟩:=(show ∃t,u=Value.bytes b t from r);cases e;rfl
 |flt b=>obtain⟨t,e⟩:=(show ∃t,u=Value.float b t from r);cases e;rfl
 |ref a=>cases(show u=Value.ref a from r);rfl
 |ty n=>cases(show u=Value.type n from r);rfl
section
variable {P:bh}{w:aR}{H H':Hp}{h h':aI}{a C dx:ad}{fs fs':List (Str×V)}
theorem p9(hok:HOk P w H h)(e:H a=some (.ins C dx fs)):∃mA,j6 h a dx C mA/\(∀f,ff (fs.lookup f) (mA f))/\PySem.Within mA (fs.map (·.1))/\fs.length≤1000/\H dx=some (.own a):=by
 obtain⟨d,z,ne,ob,mA,n,r,q⟩:=(show bW P w H h a (.ins C dx fs) from hok a _ e);exact⟨mA,⟨ob,n,ne⟩,r,q,z,d⟩
end
structure Cls(K:PySem.W.Frag)(C:ad):Prop where
 pg:PySem.W.plainGet K C Str.empty=true
 hd:PySem.W.hasDictIn K C=true
 po:PySem.W.plainOver K C=true
 sa:PySem.W.findIn K (.ref C) "__setattr__"=some (some (.builtin "object.__setattr__"))
theorem Cls.get{K:PySem.W.Frag}{C:ad}(c:Cls K C)(f:Str):PySem.W.plainGet K C f=true:=c.pg
def fE(K:PySem.W.Frag)(C:ad)(f:Str):Prop:=PySem.W.findIn K (.ref C) f=some none
theorem fE.taker{K:PySem.W.Frag}{C:ad}{f:Str}(n:fE K C f):PySem.W.takerIn K C f=some none:=by
 unfold PySem.W.takerIn;rw[show PySem.W.findIn K (.ref C) f=some none from n];rfl
structure Meth(K:PySem.W.Frag)(C:ad)(m:Str)(f:ad):Prop where
 at_:PySem.W.findIn K (.ref C) m=some (some (.ref f))
 fn:PySem.W.isFn K (.ref f)=true
 kp:PySem.W.keepIn K (.ref f)=true
section
variable {X:Cx}{pins:List (ad×aw)}{σ:St}{H:Hp}{s:ag}{a C dx:ad}{fs:List (Str×V)}{f:Str}{v:V}{A:aX}{E:ae->ag->Prop}
theorem CY{b:Bool}{Q:ae->ag->Prop}(I:Inv X pins σ H s)(e:H a=some (.ins C dx fs))(c:Cls X.K C)(n:fE X.K C f)(l:fs.lookup f=some v)
  (h:∀u s',Inv X pins σ H s'->aT v u->Q u s'):aq (au X.prog X.w) A (getAttr (.ref a) f b) Q E s:=by
 obtain⟨mA,O,r,_,_,_⟩:=p9 I.hok e;obtain⟨u,hu,ru⟩:=ff.some_of (v:=v) (o:=mA f) (by rw[←l];exact r f);exact BK I.kIn O (c.get f) c.hd n hu (Am ru) (h u _ (I.tok _) ru)
theorem wF{m:Str}{g:ad}{pl:Sem Bool}{Q:ae×List ae->ag->Prop}(I:Inv X pins σ H s)(e:H a=some (.ins C dx fs))(c:Cls X.K C)(k:Meth X.K C m g)(l:fs.lookup m=none)
  (h:Q (.ref g,[.ref a]) s):aq (au X.prog X.w) A (getMethod (.ref a) m pl) Q E s:=by
 obtain⟨mA,O,r,_,_,_⟩:=p9 I.hok e;have hn:mA m=none:=ff.none_of (by rw[←l];exact r m);exact CS I.kIn O (c.get m) k.at_ k.fn hn h
theorem A2{y:V}{u:ae}{Q:Unit->ag->Prop}(I:Inv X pins σ H s)(e:H a=some (.ins C dx fs))(c:Cls X.K C)(n:fE X.K C f)(hl:fs.length<1000)(ry:aT y u)
  (h:∀s',Inv X pins σ (upd H a (.ins C dx (putF f y fs))) s'->Q () s'):aq (au X.prog X.w) A (setAttr (.ref a) f u) Q E s:=by
 obtain⟨mA,O,r,wi,_,ho⟩:=p9 I.hok e;have hz:(fs.map (·.1)).length≤aW:=by rw[bB,sizeLine_eq];lia
 refine E7 I.kIn O c.sa c.po n.taker c.hd wi hz λh' O' sb=>h _ ?_;have hd:∃o,h'.get? dx=some o:=let ⟨o,_,_,e',_⟩:=O'.ns;⟨o,e'⟩;refine I.write (x:=a) (e:=dx) (by rw[e];exact True.intro) (.inr ho) (λb q hb z=>(sb.2 b hb).trans z) hd ?_;refine⟨by rw[aY O.ne];exact ho,?_,O.ne,O'.obj,_,O'.ns,λg=>?_,λg hg=>?_⟩
 ·have:=xK f y fs;lia
 ·show ff ((putF f y fs).lookup g) (if g=f then some u else mA g);rw[wO];by_cases q:g=f
  ·rw[if_pos q,if_pos q];exact ry
  ·rw[if_neg q,if_neg q];exact r g
 ·by_cases q:g=f
  ·rw[q];exact(sL f y fs).1
  ·refine(sL f y fs).2 g (wi g λz=>hg ?_);show(if g=f then some u else mA g)=none;rw[if_neg q];exact z
theorem Inv.made(I:Inv X pins σ H s):Inv X pins σ (upd (upd H s.heap.objs.size (.own (s.heap.objs.size+1))) (s.heap.objs.size+1) (.ins C s.heap.objs.size []))
  { s with heap:=(s.heap.push PySem.W.emptyDict).push (PySem.W.instObj C s.heap.objs.size) }:=by
 have e1:(s.heap.push PySem.W.emptyDict).get? s.heap.objs.size=some PySem.W.emptyDict:=dH s.heap rfl;have e2:((s.heap.push PySem.W.emptyDict).push (PySem.W.instObj C s.heap.objs.size)).get? (s.heap.objs.size+1)=some (PySem.W.instObj C s.heap.objs.size):=by
  have:=dH (s.heap.push PySem.W.emptyDict) (o:=PySem.W.instObj C s.heap.objs.size) rfl
  rwa [Heap.size_push]at this
 have e3:(s.heap.push PySem.W.emptyDict).Ns s.heap.objs.size (λ_=>none):=⟨PySem.W.emptyDict,#[],_,e1,rfl,(λe he=>absurd he (by simp)),λ_=>rfl⟩
 have I1:=I.laid (a:=s.heap.objs.size) (o:=.own (s.heap.objs.size+1)) (h':=s.heap.push PySem.W.emptyDict) (t':=s.toks) (λb u q=>bJ _ q) (bc _) ⟨_,e1⟩;refine I1.laid (a:=s.heap.objs.size+1) (o:=.ins C s.heap.objs.size []) (t':=s.toks) (λb u q=>bJ _ q) (mh (Heap.size_push _ _)) ?_;have ne:s.heap.objs.size≠s.heap.objs.size+1:=cT (Nat.lt_succ_self _);refine⟨by rw[aY ne,dE],d9 _,ne,e2,λ_=>none,(Heap.Ns1.of_empty e3).at λo q=>bJ _ q,λ_=>True.intro,λy hy=>absurd rfl hy⟩
theorem DE{prog:bh}{w:aR}{env:Env}{e:az}{f:Str}{pos:Pos}{s:ag}{Q:ae->ag->Prop}(hb:attributeBase e f env (aK e env)=aK e env)
  (h:aq (au prog w) A (aK e env) (λo s₁=>aq (au prog w) A (getAttr o f true) Q E s₁) E s):aq (au prog w) A (aK (.Attribute e f pos) env) Q E s:=
 Attribute_any_ h (by rw[arm_eval_Attribute,hb])
end
def Ap(K:PySem.W.Frag)(ta:TE)(f:Str):TE:=λσ H Q=>ta σ H λx H1=>∃a C dx fs v,x=.ref a/\H1 a=some (.ins C dx fs)/\Cls K C/\fE K C f/\fs.lookup f=some v/\Q v H1
def gB(K:PySem.W.Frag)(ta tv:TE)(f:Str):TS:=λD σ H=>tv σ H λy H1=>ta σ H1 λx H2=>∃a C dx fs,x=.ref a/\H2 a=some (.ins C dx fs)/\Cls K C/\fE K C f/\fs.length<1000 /\
 D.nx σ (upd H2 a (.ins C dx (putF f y fs)))
section
variable {X:Cx}{o e value:az}{f:Str}{pos pos' tpos:Pos}{ta tv:TE}
theorem B7(he:PE X e ta)(hb:attributeBase e f X.env (aK e X.env)=aK e X.env):PE X (.Attribute e f pos) (Ap X.K ta f):=by
 intro pins s σ H Q I h;refine DE hb (thn (he pins s σ H _ I h) λu s1 e0=>bD e0 λx H1 I1 rx e4=>e4.elim λa e5=>e5.elim λC e6=>e6.elim λdx e7=>e7.elim λfs e8=>e8.elim λv e9=>e9.elim λex e10=>e10.elim λea e11=>e11.elim λc e12=>e12.elim λn e13=>e13.elim λl q=>?_);subst ex;obtain rfl:u=Value.ref a:=rx;exact CY I1 ea c n l λu' s2 I2 ru=>⟨v,H1,I2,ru,q⟩
theorem DW(ha:PE X o ta)(hv:PE X value tv)(hs:swapsWith value (some (.Attribute o f pos')) pos.line X.env=pure false):PS X (.Assign [.Attribute o f pos'] value pos) (gB X.K ta tv f):=by
 intro pins s σ H D I h;refine plainObj_wpAny_Assign_Attribute (thn (hv pins s σ H _ I h) λu s1 e0=>bD e0 λy H1 I1 ry q=>thn (ha pins s1 σ H1 _ I1 q) λov s2 e0=>bD e0 λx H2 I2 rx e4=>e4.elim λa e5=>e5.elim λC e6=>e6.elim λdx e7=>e7.elim λfs e8=>e8.elim λex e9=>e9.elim λea e10=>e10.elim λc e11=>e11.elim λn e12=>e12.elim λl q2=>?_) hs;subst ex;obtain rfl:ov=Value.ref a:=rx;exact A2 I2 ea c n l ry λs3 I3=>⟨σ,_,I3,q2⟩
end
section
variable {X:Cx}{pins:List (ad×aw)}{σ:St}{H:Hp}{s:ag}{A:aX}{E:ae->ag->Prop}{Q:ae->ag->Prop}{c:ae}{b:Bool}
inductive fX(K:PySem.W.Frag)(H:Hp):V->ae->Prop where
 |non:fX K H .non (.type "NoneType")
 |bl (x:Bool):fX K H (.bl x) (.type "bool")
 |int (i:Int):fX K H (.int i) (.type "int")
 |str (x:Str):fX K H (.str x) (.type "str")
 |flt (x:UInt64):fX K H (.flt x) (.type "float")
 |lst {a:ad} {xs:List V} (e:H a=some (.lst xs)):fX K H (.ref a) (.type "list")
 |frz {a:ad} {o:aw} {xs:List V} (e:H a=some (.frz o (.lst xs))):fX K H (.ref a) (.type "list")
 |tup {a:ad} {xs:List V} (e:H a=some (.tup xs)):fX K H (.ref a) (.type "tuple")
 |dK {a:ad} {kvs:List (Key×V)} (e:H a=some (.dK kvs)):fX K H (.ref a) (.type "dict")
 |dT {a:ad} {kvs:List (List Key×V)} (e:H a=some (.dT kvs)):fX K H (.ref a) (.type "dict")
 |ins {a C dx:ad} {fs:List (Str×V)} (e:H a=some (.ins C dx fs)) (cl:Cls K C) (ha:PySem.W.findIn K (.ref C) "__class__"=some (some (.builtin "object.__class__")))
   (hn:PySem.W.specialIn K (.builtin "object.__class__") "__get__"=some (some (.builtin "getset_descriptor.__get__"))) (htk:PySem.W.takesIn K (.builtin "object.__class__")=some true)
   (hm:PySem.W.mroIn K C (.type "object")=some true):fX K H (.ref a) (.ref C)
theorem Du{x:V}{u t:ae}(I:Inv X pins σ H s)(rx:aT x u)(ty:fX X.K H x t)(e:PySem.W.kitOne X.K t c=some b)(h:∀tk,Q (.bool b) { s with toks:=tk }) :
  aq (au X.prog X.w) A (call (.builtin "isinstance") [u,c]) Q E s:=by
 cases ty with
 |non=>cases(show u=Value.none from rx);exact PySem.W.kia_one PySem.W.kitx_none I.kIn True.intro e (λz=>nomatch z) h
 |bl y=>cases(show u=Value.bool y from rx);exact PySem.W.kia_one PySem.W.kitx_bool I.kIn True.intro e (λz=>nomatch z) h
 |int i=>obtain⟨t,q⟩:=(show ∃t,u=Value.int i t from rx);cases q;exact PySem.W.kia_one PySem.W.kitx_int I.kIn True.intro e (λz=>nomatch z) h
 |str y=>obtain⟨t,q⟩:=(show ∃t,u=Value.str y t from rx);cases q;exact PySem.W.kia_one PySem.W.kitx_str I.kIn True.intro e (λz=>nomatch z) h
 |flt y=>obtain⟨t,q⟩:=(show ∃t,u=Value.float y t from rx);cases q;exact PySem.W.kia_one PySem.W.kitx_float I.kIn True.intro e (λz=>nomatch z) h
 |@lst a xs ea=>
   cases(show u=Value.ref a from rx);obtain⟨_,_,n,_,h1⟩:=(show bW X.prog X.w H s.heap a (.lst xs) from I.hok a _ ea);exact PySem.W.kia_one PySem.W.kitx_list I.kIn ⟨_,h1,rfl⟩ e (λz=>nomatch z) h
 |@frz a ob xs ea=>
   cases(show u=Value.ref a from rx);obtain⟨_,_,_,n,_,h1⟩:=(show bW X.prog X.w H s.heap a (.frz ob (.lst xs)) from I.hok a _ ea);exact PySem.W.kia_one PySem.W.kitx_list I.kIn ⟨_,h1,rfl⟩ e (λz=>nomatch z) h
 |@tup a xs ea=>
   cases(show u=Value.ref a from rx);obtain⟨_,_,_,p⟩:=(show bW X.prog X.w H s.heap a (.tup xs) from I.hok a _ ea);obtain⟨o,h1,h2,_⟩:=p;exact PySem.W.kia_one PySem.W.kitx_tuple I.kIn ⟨o,h1,h2⟩ e (λz=>nomatch z) h
 |@dK a kvs ea=>
   cases(show u=Value.ref a from rx);obtain⟨_,_,vs,_,p⟩:=(show bW X.prog X.w H s.heap a (.dK kvs) from I.hok a _ ea);obtain⟨o,es,ep,h1,h2,_⟩:=p;exact PySem.W.kia_one PySem.W.kitx_dict I.kIn ⟨o,h1,h2.1⟩ e (λz=>nomatch z) h
 |@dT a kvs ea=>
   cases(show u=Value.ref a from rx);obtain⟨_,_,xs,_,o,es,ep,h1,h2,_⟩:=(show bW X.prog X.w H s.heap a (.dT kvs) from I.hok a _ ea);exact PySem.W.kia_one PySem.W.kitx_dict I.kIn ⟨o,h1,h2.1⟩ e (λz=>nomatch z) h
 |@ins a C dx fs ea cl ha hn htk hm=>
   cases(show u=Value.ref a from rx);obtain⟨mA,O,_⟩:=p9 I.hok ea;obtain⟨od,J,_⟩:=O.look;exact PySem.W.kia_one (PySem.W.kitx_own (cl.get _) cl.hd ha hn htk hm) I.kIn J e (λz=>nomatch z) h
end
structure Room(k:Nat)(A:aX):Prop where
 hd:A.handled=none
 dp:A.depth+3*k+5<recursionLimit
 un:A.units+16*k+200<cLine
theorem Room.mono{j k:Nat}{A:aX}(r:Room k A)(h:j≤k):Room j A:=⟨r.hd,by have:=r.dp;lia,by have:=r.un;lia⟩
theorem Room.deeper{k:Nat}{A:aX}(r:Room (k+1) A)(env:Env):Room k (A.deeper env):=
 ⟨r.hd,by have:=r.dp;show A.depth+1+3*k+5<_;lia,by have:=r.un;show A.units+3+16*k+200<_;lia⟩
theorem Cs{A:aX}{C:ad}{us:List ae}{kw:List (Str×ae)}:(A.under (.builtin "type.__call__" ⟨.ref C::us,kw⟩)).depth=A.depth+1:=by
 first|rfl|simp[Around.under,Code.weight,Code.isCreation,Code.isGuard,Code.isCaller,Code.frames,Code.isFrame,guardIds]
theorem DC{A:aX}{C:ad}{us:List ae}{kw:List (Str×ae)}:(A.under (.builtin "type.__call__" ⟨.ref C::us,kw⟩)).units=A.units+1:=by
 first|rfl|simp[Around.under,Code.cUnits,Code.frames,Code.isFrame]
theorem Room.make{k:Nat}{A:aX}(r:Room (k+1) A)(C:ad)(us:List ae)(kw:List (Str×ae)):Room k (A.under (.builtin "type.__call__" ⟨.ref C::us,kw⟩)):=
 ⟨r.hd,by have:=r.dp;rw[Cs];lia,by have:=r.un;rw[DC];lia⟩
theorem Room.depth{k:Nat}{A:aX}(r:Room k A):A.depth<recursionLimit:=by have:=r.dp;lia
theorem Room.units{k:Nat}{A:aX}(r:Room k A):A.units+64<cLine:=by have:=r.un;lia
def u0:TA:=λ_ H Q=>Q [] H
def uE(ta:TE)(tr:TA):TA:=λσ H Q=>ta σ H λx H1=>tr σ H1 λxs H2=>Q (x::xs) H2
section
variable {X:Cx}{e:az}{es:List az}{te:TE}{t:TA}{pos:Pos}
theorem sE:PA X [] u0:=λ_ _ _ _ H Q I h=>Calls.spliced_nil ⟨[],H,I,.nil,h⟩
theorem lU(ha:PE X e te)(hr:PA X es t)(hs:aU (e::es) X.env=(false,aK e X.env)::aU es X.env:=by rfl):PA X (e::es) (uE te t):=by
 intro pos pins s σ H Q I h;rw[hs];show aq _ _ (spliced ((false,aK e X.env)::backTo pos (aU es X.env))) _ _ s;refine Calls.spliced_cons (thn (ha pins s σ H _ I h) λu s1 e0=>bD e0 λx H1 I1 r1 q1=>?_);exact thn (hr pos pins s1 σ H1 _ I1 q1) λus s2 e0=>bD e0 λxs H2 I2 r2 q2=>⟨x::xs,H2,I2,.cons r1 r2,q2⟩
def Cv(t:TA):TE:=λσ H Q=>t σ H λxs H1=>xs.length≤aW/\∀p,H1 p=none->Q (.ref p) (upd H1 p (.tup xs))
def DG(t:TA):TE:=λσ H Q=>t σ H λxs H1=>xs.length≤aW/\∀p,H1 p=none->Q (.ref p) (upd H1 p (.lst xs))
theorem GL{x1}(h:PA X es t):PE X (.Tuple es x1 pos) (Cv t):=by
 intro pins s σ H Q I hq;refine wpAny_Tuple_spliced (thn (h pos pins s σ H _ I hq) λus s1 e0=>bD e0 λxs H1 I1 r e4=>e4.elim λz q=>⟨by rw[←r.length];exact z,?_⟩);have hf:H1 s1.heap.objs.size=none:=I1.hok.fresh (bc _);refine⟨.ref s1.heap.objs.size,upd H1 s1.heap.objs.size (.tup xs),I1.laid (t':=s1.toks) (λb u e=>bJ _ e) (bc _) ?_,rfl,q _ hf⟩;exact⟨z,us,r,⟨_,dH _ rfl,rfl,_,rfl⟩⟩
theorem Ba(h:PA X es t):PE X (.List es pos) (DG t):=by
 intro pins s σ H Q I hq;refine wpAny_List_spliced (thn (h pos pins s σ H _ I hq) λus s1 e0=>bD e0 λxs H1 I1 r e4=>e4.elim λz q=>⟨by rw[←r.length];exact z,?_⟩);have hf:H1 s1.heap.objs.size=none:=I1.hok.fresh (bc _);refine⟨.ref s1.heap.objs.size,upd H1 s1.heap.objs.size (.lst xs),I1.laid (t':=s1.toks) (λb u e=>bJ _ e) (bc _) ?_,rfl,q _ hf⟩;exact⟨z,us,0,r,dH _ rfl⟩
end
abbrev Sp:=List V->Hp->VK->XK->Prop
abbrev CXT:=List Env->Hp->ag->XK->ae->ag->Prop
structure Env0(P:bh)(w:aR)(K:PySem.W.Frag)(mg:Str->Option ae)(base:aI)(A:aX)(outer:List Env)(s:ag)(H:Hp):Prop where
 frames:A.frames=some outer
 mod:Mod K mg base
 bs:∀b o,base.get? b=some o->s.heap.get? b=some o/\H b=none
 bsz:base.objs.size≤s.heap.objs.size
 funs:s.heap.FunFrames base outer
 frf:∀b∈frs outer,H b=none
 hok:HOk P w H s.heap
 bare:AllBare s.gens
def CE(outer:List Env)(P:bh)(w:aR)(H:Hp)(s:ag)(Q:VK)(u:ae)(s':ag):Prop:=
 ∃v H',s'.os=s.os/\AllBare s'.gens/\Un (frs outer) [] H H' s.heap s'.heap/\HOk P w H' s'.heap/\aT v u/\Q v H'
def CR(CX:CXT)(outer:List Env)(P:bh)(w:aR)(H:Hp)(s:ag)(Q:VK)(E:XK)(r:Result)(s':ag):Prop:=
 match r with
 |.ok (.ret u)=>CE outer P w H s Q u s'
 |.ok _=>False
 |.error e=>CX outer H s E e s'
structure iV(P:bh)(w:aR)(K:PySem.W.Frag)(mg:Str->Option ae)(base:aI)(CX:CXT)(k:Nat)(f:ad)(fd:bq)(ps:List Str)(sp:Sp):Prop where
 len:∀vs H Q E,sp vs H Q E->vs.length=ps.length
 run:∀(A:aX) (outer:List Env) (s:ag) (H:Hp) (args:Args) (us:List ae) (vs:List V) (Q:VK) (E:XK),Room k A->Env0 P w K mg base A outer s H->BindsTo s fd args (ps.zip us)->Vals vs us->sp vs H Q E ->
  codeAny (au P w) A (.call (.ref f) args) (CR CX outer P w H s Q E) s
theorem iV.imp{P:bh}{w:aR}{K:PySem.W.Frag}{mg:Str->Option ae}{base:aI}{CX:CXT}{k:Nat}{f:ad}{fd:bq}{ps:List Str}{sp sp':Sp}(F:iV P w K mg base CX k f fd ps sp)
  (h:∀vs H Q E,sp' vs H Q E->sp vs H Q E):iV P w K mg base CX k f fd ps sp':=
 ⟨λvs H Q E q=>F.len vs H Q E (h _ _ _ _ q),λA outer s H args us vs Q E hr he hb hv hs=>F.run A outer s H args us vs Q E hr he hb hv (h _ _ _ _ hs)⟩
theorem Env0.make{P:bh}{w:aR}{K:PySem.W.Frag}{mg:Str->Option ae}{base:aI}{A:aX}{outer:List Env}{s:ag}{H:Hp}(e:Env0 P w K mg base A outer s H)(C:ad)(us:List ae)(kw:List (Str×ae)) :
  Env0 P w K mg base (A.under (.builtin "type.__call__" ⟨.ref C::us,kw⟩)) outer s H:=⟨by first|exact e.frames|(simpa[Around.under,Code.envs,Code.isFrame,pushEnvs] using e.frames),e.mod,e.bs,e.bsz,e.funs,e.frf,e.hok,e.bare⟩
section
variable {X:Cx}{pins:List (ad×aw)}{σ:St}{H:Hp}{s s':ag}
theorem Inv.env0(I:Inv X pins σ H s):Env0 X.prog X.w X.K X.mg X.base X.A X.stack s H:=
 ⟨I.ok.frames,I.ok.mod,I.bs,bV I.ok.bsz I.sz,I.stack,I.stkFree,I.hok,I.bare⟩
theorem Inv.after{Q:VK}{u:ae}(I:Inv X pins σ H s)(h:CE X.stack X.prog X.w H s Q u s'):EP X pins σ Q u s':=by
 obtain⟨v,H',os,bare,un,hok,r,q⟩:=h;obtain⟨hh,g,d,t,os'⟩:=s';obtain rfl:os'=s.os:=os;exact⟨v,H',I.call (h':=hh) (g':=g) (d':=d) (t':=t) (ch:=[]) un hok bare (λb z=>absurd z (by simp)),r,q⟩
end
def Binds(K:PySem.W.Frag)(fd:bq)(ps:List Str)(ds:List ae):Prop:=
 ∀(s:ag) (us:List ae),K.In s.heap->(us++ds).length=ps.length->BindsTo s fd ⟨us,[]⟩ (ps.zip (us++ds))
theorem Binds.all{K:PySem.W.Frag}{fd:bq}{ps:List Str}(h:∀us:List ae,us.length=ps.length->bindArgs fd ⟨us,[]⟩=pure (ps.zip us)):Binds K fd ps []:=λs us _ hl=>by
 rw[va]at hl ⊢;exact .of_eq (h us hl)
section
variable {X:Cx}{CX:CXT}{k:Nat}{f C:ad}{fd:bq}{ps:List Str}{sp:Sp}{dvs:List V}{ds:List ae}{E:XK}{x m:Str}{p pos apos:Pos}{e o:az}{es:List az}{ta:TE}{t:TA}
structure Mk(K:PySem.W.Frag)(C f:ad):Prop where
 makes:PySem.W.makesIn K C=true
 init:PySem.W.findIn K (.ref C) "__init__"=some (some (.ref f))
 fn:PySem.W.isFn K (.ref f)=true
 kp:PySem.W.keepIn K (.ref C)=true
end
section
variable {X:Cx}{CX:CXT}{k:Nat}{f C:ad}{fd:bq}{ps ks:List Str}{sp:Sp}{E:XK}{x m:Str}{p pos apos kpos:Pos}{e o:az}{es:List az}{kws:List Keyword}{te ta:TE}{t tk:TA}{nm:Option Str}
variable {g:List ae->List ae->List ae}{gV:List V->List V->List V}
end
structure cf(N P:List Str)(sc:Scope):Prop where
 kind:sc.kind=.function
 co:sc.isCoroutine=false
 gen:sc.isGenerator=false
 nd:N.Nodup
 pre:N.take P.length=P
 par:∀x∈P,sc.names.lookup x=some .local∨sc.names.lookup x=some .cell
 nofree:∀y∈sc.names,y.2≠.free
theorem wB{kindOf:Str->Option NameKind}{x:Str}:∀{binds:List (Str×ae)}{m:Str->Option ae},(∀v,(x,v)∉binds)->bindL kindOf binds m x=m x
 |[],_,_=>rfl
 |(n,v)::r,m,h=>by
   unfold bindL;rw[wB λw hw=>h w (cS _ hw)];split
   ·have:x≠n:=by rintro rfl;exact h v dn
    simp[this]
   ·rfl
theorem zD{kindOf:Str->Option NameKind}{x:Str}:∀{binds:List (Str×ae)}{m:Str->Option ae},(∀v,(x,v)∉binds)->bindC kindOf binds m x=m x
 |[],_,_=>rfl
 |(n,v)::r,m,h=>by
   unfold bindC;rw[zD λw hw=>h w (cS _ hw)];split
   ·rfl
   ·have:x≠n:=by rintro rfl;exact h v dn
    simp[this]
theorem vK{kindOf:Str->Option NameKind}{x:Str}{v:ae}:∀{P:List Str}{vs:List ae}{i:Nat}{m:Str->Option ae},P.Nodup->P[i]?=some x->vs[i]?=some v->kindOf x=some .local ->
  bindL kindOf (P.zip vs) m x=some v
 |[],_,_,_,_,h,_,_=>by simp at h
 |_::_,[],_,_,_,_,h,_=>by simp at h
 |p::P,w::vs,0,m,nd,h1,h2,hk=>by
   simp at h1 h2;subst h1;subst h2;show bindL kindOf ((p,w)::P.zip vs) m p=_;unfold bindL;rw[wB λv hv=>(mZ.mp nd).1 (uP hv).1,if_pos hk];simp
 |p::P,w::vs,i+1,m,nd,h1,h2,hk=>by
   show bindL kindOf ((p,w)::P.zip vs) m x=_;unfold bindL;exact vK (i:=i) (mZ.mp nd).2 (by simpa using h1) (by simpa using h2) hk
theorem xV{kindOf:Str->Option NameKind}{x:Str}{v:ae}:∀{P:List Str}{vs:List ae}{i:Nat}{m:Str->Option ae},P.Nodup->P[i]?=some x->vs[i]?=some v->kindOf x≠some .local ->
  bindC kindOf (P.zip vs) m x=some v
 |[],_,_,_,_,h,_,_=>by simp at h
 |_::_,[],_,_,_,_,h,_=>by simp at h
 |p::P,w::vs,0,m,nd,h1,h2,hk=>by
   simp at h1 h2;subst h1;subst h2;show bindC kindOf ((p,w)::P.zip vs) m p=_;unfold bindC;rw[zD λv hv=>(mZ.mp nd).1 (uP hv).1,if_neg hk];simp
 |p::P,w::vs,i+1,m,nd,h1,h2,hk=>by
   show bindC kindOf ((p,w)::P.zip vs) m x=_;unfold bindC;exact xV (i:=i) (mZ.mp nd).2 (by simpa using h1) (by simpa using h2) hk
noncomputable def start(N:List Str)(vs:List V):St:=vs.map some++bF (N.length-vs.length) none
noncomputable def jo(CX:CXT)(P:bh)(w:aR)(K:PySem.W.Frag)(mg:Str->Option ae)(base:aI)(N:List Str)(qual:Str)(scope:Scope)(f:ad)(cd:ae)(A:aX)(outer:List Env)(s:ag)(H:Hp)(E:XK):Cx where
 prog:=P
 w:=w
 K:=K
 mg:=mg
 base:=base
 A:=A.deeper (envOfC qual scope s.heap.objs.size f cd)
 N:=N
 s₀:=s
 H₀:=H
 env:=envOfC qual scope s.heap.objs.size f cd
 outer:=outer
 stack:=envOfC qual scope s.heap.objs.size f cd::outer
 ex:=[]
 calm:=true
 fn:=λ_=>true
 pn:=[]
 xe:=λe s'=>aq (au P w) (A.deeper (envOfC qual scope s.heap.objs.size f cd)) (leaving (envOfC qual scope s.heap.objs.size f cd) e) (λ_ s''=>CX outer H s E e s'') (λe' s''=>CX outer H s E e' s'') s'
theorem yS{sc:Scope}{n:Nat}{x:Str}(h:sc.names.lookup x=some .cell):∃c,(cellsFrom n sc.names []).lookup x=some c:=by
 have q:=PySem.W.cellsFrom_some sc.names n [] (.inl h);exact kP.mp q
theorem DZ{CX:CXT}{P:bh}{w:aR}{K:PySem.W.Frag}{mg:Str->Option ae}{base:aI}{N ps:List Str}{qual:Str}{scope:Scope}{f:ad}{cd:ae}{A:aX}{outer:List Env}{s s1:ag}{H:Hp}{E:XK}{us:List ae}{vs:List V}
  (S:cf N ps scope) (hd:A.handled=none) (e0:Env0 P w K mg base A outer s H) (hl:vs.length=ps.length) (r:Vals vs us)
  (x:InCallC s s.heap.objs.size (bindL (envOfC qual scope s.heap.objs.size f cd).kindOf (ps.zip us) λ_=>none) (cellsFrom (s.heap.objs.size+1) scope.names []) (bindC (envOfC qual scope s.heap.objs.size f cd).kindOf (ps.zip us) λ_=>none) s1) :
  Inv (jo CX P w K mg base N qual scope f cd A outer s H E) [] (start N vs) H s1:=by
 have hpl:ps.length≤N.length:=by have:=congrArg eF S.pre;rw[pN]at this;lia
 obtain⟨h1,tk,rfl,hk⟩:=x.done;have noA:∀b:ad,b∉(jo CX P w K mg base N qual scope f cd A outer s H E).ex:=λb z=>absurd (show b∈([]:List ad) from z) (by simp);refine ⟨⟨e0.mod,S.kind,rfl,rfl,bc _,λy z c h1 h2=>?_,λy hy=>?_,λy c _ h=>?_,λ_=>hd,Around.frames_deeper e0.frames,.inr ⟨rfl,rfl⟩,λb z=>absurd z (noA b),e0.bs,e0.bsz,λb _ _=>noA b,λb z=>absurd z (noA b),e0.funs,e0.frf⟩,
  rfl,e0.bare,Un.kept hk,⟨_,x.toInCall.ns,λi y v h1 h2 h3=>?_⟩,λy c h=>⟨_,x.cell y c h⟩,e0.hok.fresh (bc _),λy c h=>?_,λp hp=>absurd (show p∈([]:List (ad × aw)) from hp) (by simp),e0.hok.kept hk,?_⟩
 ·exact name_of_addr x.apart (PySem.mem_of_lookup h1) (PySem.mem_of_lookup h2)
 ·have hy:scope.names.lookup y=some .cell∨scope.names.lookup y=some .free:=hy;rcases hy with hy|hy
  ·exact yS hy
  ·exact absurd rfl (S.nofree _ (PySem.mem_of_lookup hy))
 ·exact nL (x.above y c (PySem.mem_of_lookup h))
 ·have hi:i<vs.length:=by
   unfold start at h2;by_cases hi:i<vs.length
   ·exact hi
   ·rw[ic (by simpa using hi)]at h2;rw[iC]at h2;split at h2 <;> cases h2
  have ha:vs[i]?=some v:=by
   unfold start at h2;rw[eM (by simpa using hi),bX]at h2;cases e:vs[i]? with
   |none=>rw[e]at h2;cases h2
   |some a=>rw[e]at h2;cases h2;rfl
  obtain⟨u,hu,rv⟩:=r.get ha;have hp:ps[i]?=some y:=by
   rw[←S.pre,List.getElem?_take_of_lt (by lia)];exact h1
  have ndP:ps.Nodup:=by rw[←S.pre];exact S.nd.sublist (List.take_sublist _ _)
  refine⟨u,rv,?_⟩;rcases S.par y (dR hp) with k|k
  ·exact .inl ⟨k,vK ndP hp hu k⟩
  ·obtain⟨c,e⟩:=yS (n:=s.heap.objs.size+1) k;refine .inr ⟨.inl k,c,e,?_⟩;have q:=x.cell y c e;rw[xV ndP hp hu (by show scope.names.lookup y≠_;rw[k];decide)]at q;exact q
 ·exact e0.hok.fresh (nL (x.above y c (PySem.mem_of_lookup h)))
 ·unfold start;show _=N.length;rw[cQ,bB,List.length_replicate];lia
theorem GN{CX:CXT}{P:bh}{w:aR}{K:PySem.W.Frag}{mg:Str->Option ae}{base:aI}{k:Nat}{f:ad}{name qual:Str}{params:Arguments}{body:List aV}{scope:Scope}{dV kV doc pm cdv ct oc:ae}{an od:Option ad}
  {osl:Array (Option ae)} {N ps:List Str} {sp:Sp} (lk:K.lookup f=some ⟨oc,od,.func (PySem.W.fnOf name qual params body scope dV kV doc pm an cdv ct),osl⟩) (hcd:PySem.W.codeIn K cdv qual=true) (S:cf N ps scope)
  (len:∀vs H Q E,sp vs H Q E->vs.length=ps.length)
  (hbody:∀(A:aX) (outer:List Env) (s:ag) (H:Hp) (vs:List V) (Q:VK) (E:XK),Room k (A.deeper (envOfC qual scope s.heap.objs.size f cdv))->sp vs H Q E ->
   ∃t,PSs (jo CX P w K mg base N qual scope f cdv A outer s H E) body t/\t { nx:=λ_ H'=>Q .non H',rt:=Q } (start N vs) H) :
  iV P w K mg base CX (k+1) f (PySem.W.fnOf name qual params body scope dV kV doc pm an cdv ct) ps sp:=by
 refine⟨len,λA outer s H args us vs Q E hr e0 hb r hsp=>?_⟩;have hl:=len _ _ _ _ hsp;have KX:K.In s.heap:=e0.mod.kin.keeps λb o e=>(e0.bs b o e).1;have lim:s.heap.NoLimit:=e0.mod.nolimit.keeps λb o e=>(e0.bs b o e).1;have hkind:∀y∈ps.zip us,scope.names.lookup y.1=some .local∨(scope.names.lookup y.1=some .cell/\((cellsFrom (s.heap.objs.size+1) scope.names []).lookup y.1).isSome=true):=λ⟨n,v⟩ hy=>by
  rcases S.par n (uP hy).1 with q|q
  ·exact .inl q
  ·exact .inr ⟨q,PySem.W.cellsFrom_some _ _ _ (.inl q)⟩
 refine codeAny_call_function hr.depth (KX _ _ lk) rfl S.co S.gen rfl (PySem.W.codeRec_of KX hcd) (hb _ _ _ _ ?_);refine wpAny_newFunctionEnv_cells S.kind hkind λenv he s1 x=>?_;subst he;refine⟨lim.keeps x.toInCall.keep,codeAny_func ?_⟩;obtain⟨t,ht,hq⟩:=hbody A outer s H vs Q E (hr.deeper _) hsp;have I:Inv (jo CX P w K mg base N qual scope f cdv A outer s H E) [] (start N vs) H s1:=DZ S hr.hd e0 hl r x;refine br (ht [] s1 (start N vs) H _ I hq) (λfl s' hs=>?_) λe s' hs=>hs;have fin:∀{σ':St}{H':Hp}{v:V}{u:ae},Inv (jo CX P w K mg base N qual scope f cdv A outer s H E) [] σ' H' s'->aT v u->Q v H'->CE outer P w H s Q u s':=
  λ{σ' H' v u} J rv q=>⟨v,H',J.os,J.bare,J.base,J.hok,rv,q⟩
 cases fl with
 |ret u=>
   obtain⟨v,σ',H',J,rv,q⟩:=hs;exact fin J rv q
 |next=>
   obtain⟨σ',H',J,q⟩:=hs;exact fin (v:=V.non) (u:=Value.none) J rfl q
 |brk=>
   obtain⟨_,_,_,q⟩:=hs;exact False.elim q
 |cont=>
   obtain⟨_,_,_,q⟩:=hs;exact False.elim q
section
variable {X:Cx}{x:Str}{p pos:Pos}{e:az}{es:List az}{t:TA}{id T:String}{r:List V->Hp->VK->Prop}
def tCB(r:List V->Hp->VK->Prop)(t:TA):TE:=λσ H Q=>t σ H λvs H1=>r vs H1 Q
theorem wQ(hc:eQ X (.builtin id) r)(hg:Gl X x)(hm:X.mg x=none)(hv:bootBuiltins x=some (.builtin id))(ha:PA X (e::es) t)(hn:x≠"__name__":=by decide)(hdb:(x == ("__debug__":Str))=false:=by decide)
  (he:aU (e::es) X.env=(false,aK e X.env)::aU es X.env:=by rfl) (hpl:(backTo pos (aU es X.env)).any (·.1)=false:=by rfl):PE X (.Call (.Name x p) (e::es) [] pos) (tCB r t):=by
 intro pins s σ H Q I h;refine wpAny_Call_Name_kw (kn I hg hm hv ?_ hn hdb);exact PyProof.Rows.callWith_builtin1 (thn (ha pos pins s σ H _ I h) λus s1 e0=>bD e0 λvs H1 I1 r1 q1=>hc pins s1 σ H1 vs us Q I1 r1 q1) he hpl
theorem BN(hc:eQ X (.type T) r)(hg:Gl X x)(hm:X.mg x=none)(hv:bootBuiltins x=some (.type T))(ha:PA X (e::es) t)(hn:x≠"__name__":=by decide)(hdb:(x == ("__debug__":Str))=false:=by decide)
  (he:aU (e::es) X.env=(false,aK e X.env)::aU es X.env:=by rfl) (hpl:(backTo pos (aU es X.env)).any (·.1)=false:=by rfl):PE X (.Call (.Name x p) (e::es) [] pos) (tCB r t):=by
 intro pins s σ H Q I h;refine wpAny_Call_Name_kw (kn I hg hm hv ?_ hn hdb);exact PyProof.Rows.callWith_type1 (thn (ha pos pins s σ H _ I h) λus s1 e0=>bD e0 λvs H1 I1 r1 q1=>hc pins s1 σ H1 vs us Q I1 r1 q1) he hpl
end
end L2
namespace HT
open PySem PyProof.Rows
section
open PySem.SeqAt
open PySem.AutoSeq1 (wpAny_loadPart')
open PySem.MeetsSeq PySem.MeetsSeq2 PySem.MeetsSeq3
end
section
variable {prog:bh}{w:aR}{A:aX}{E:ae->ag->Prop}{s:ag}
noncomputable def sIx(n d:Nat):Option Int->Nat
 |none=>d
 |some v=>if v<0 then(v+(n:Int)).toNat else min v.toNat n
theorem FL(n d:Nat)(hd:d≤n)(o:Option Int):sIx n d o≤n:=by
 cases o with
 |none=>exact hd
 |some v=>
   show(if v<0 then(v+(n:Int)).toNat else min v.toNat n)≤n;by_cases hv:v<0
   ·rw[if_pos hv];lia
   ·rw[if_neg hv];exact Nat.min_le_right _ _
theorem wK(v:Int)(n d:Nat):(if v<0 then max (v+(n:Int)) 0 else min v (n:Int))=((sIx n d (some v):Nat):Int):=by
 show(if v<0 then max (v+(n:Int)) 0 else min v (n:Int))=(((if v<0 then(v+(n:Int)).toNat else min v.toNat n):Nat):Int);by_cases hv:v<0
 ·simp only[if_pos hv];lia
 ·simp only[if_neg hv];lia
theorem Fr(lo hi:Option Int)(n:Nat):Builtin.Slice.sliceAdjust lo hi 1 (n:Int)=(((sIx n 0 lo:Nat):Int),((sIx n n hi:Nat):Int)):=by
 have h1:¬((1:Int)<0):=by lia
 unfold Builtin.Slice.sliceAdjust;simp only[h1,if_false];refine Prod.ext ?_ ?_
 ·cases lo with
  |none=>rfl
  |some v=>exact wK v n 0
 ·cases hi with
  |none=>rfl
  |some v=>exact wK v n n
theorem Dv(i j:Nat):Builtin.Slice.slicePlaces (i:Int) (j:Int) 1=j-i:=by
 unfold Builtin.Slice.slicePlaces;have h1:(1:Int)>0:=by lia
 simp only[h1,if_true,Int.ediv_one];split <;> lia
theorem v4{v:ae}{o:Option Int}{Q:Option Int->ag->Prop}(p:IsPart v o)(h:Q o s):aq (au prog w) A (Builtin.Slice.slicePartIndex v) Q E s:=by
 cases p with
 |none=>exact slicePart_none h
 |int i t=>exact slicePart_int h
theorem Fk{sl:ad}{vl vu:ae}{lo hi:Option Int}{n:Nat}{Q:Int×Int×Nat->ag->Prop}(hs:s.heap.IsSliceOf sl vl vu .none)(pl:IsPart vl lo)(pu:IsPart vu hi)
  (h:Q (((sIx n 0 lo:Nat):Int),1,sIx n n hi-sIx n 0 lo) s):aq (au prog w) A (Builtin.Slice.sliceApplied (.ref sl) (pure (n:Int))) Q E s:=by
 obtain⟨os,hos,hcs,hds⟩:=id hs;unfold Builtin.Slice.sliceApplied Builtin.Slice.sliceFields;refine ak (ak (wpAny_field hos hds (x:=vl) rfl (ak (wpAny_field hos hds (x:=vu) rfl (ak (wpAny_field hos hds (x:=.none) rfl (aF ?_)))))));refine ak (slicePart_none ?_);show aq _ _ (if((1:Int) == 0)=true then _ else _) _ _ s;rw[if_neg (by decide)];refine ak (v4 pl (ak (v4 pu (ak (aF ?_)))));show aq _ _ (match Builtin.Slice.sliceAdjust lo hi 1 (n:Int) with|(lo,hi)=>pure (lo,(1:Int),Builtin.Slice.slicePlaces lo hi 1)) _ _ s;rw[Fr lo hi n];show aq _ _ (pure (((sIx n 0 lo:Nat):Int),(1:Int),Builtin.Slice.slicePlaces ((sIx n 0 lo:Nat):Int) ((sIx n n hi:Nat):Int) 1)) _ _ s;rw[Dv];exact aF h
theorem EO(xs:Array ae)(i k:Nat):((cM k).filterMap λ(m:Nat)=>xs[((i:Int)+(m:Int)*1).toNat]?).toArray=((xs.toList.drop i).take k).toArray:=by
 have e:(λ(m:Nat)=>xs[((i:Int)+(m:Int)*1).toNat]?)=λm=>xs[i+m]?:=by
  funext m;have:((i:Int)+(m:Int)*1).toNat=i+m:=by lia
  rw[this]
 rw[e];have:=pick_run xs i k;rw[List.filterMap_map]at this;have e2:((λx=>xs[x]?)∘λx=>i+x)=λm=>xs[i+m]?:=rfl;rw[e2]at this;rw[this]
theorem getItem_tuple_cut{t sl:ad}{items:Array ae}{vl vu:ae}{lo hi:Option Int}{Q:ae->ag->Prop}(ht:IsTup s.heap t items)(hs:s.heap.IsSliceOf sl vl vu .none)(pl:IsPart vl lo)(pu:IsPart vu hi)
  (hw:¬(sIx items.size 0 lo=0/\sIx items.size items.size hi=items.size))
  (h:Q (.ref s.heap.objs.size) { s with heap:=s.heap.push { cls:=.type "tuple",data:=.seq ((items.toList.drop (sIx items.size 0 lo)).take (sIx items.size items.size hi-sIx items.size 0 lo)).toArray } })
  (hsz:items.size≤aW):aq (au prog w) A (getItem (.ref t) (.ref sl)) Q E s:=by
 have htake:sizeOk (.seq ((items.toList.drop (sIx items.size 0 lo)).take (sIx items.size items.size hi-sIx items.size 0 lo)).toArray):=by
  show((items.toList.drop (sIx items.size 0 lo)).take (sIx items.size items.size hi-sIx items.size 0 lo)).toArray.size≤aW;rw[cB,pN,lG,pD];lia
 have hj:sIx items.size items.size hi≤items.size:=FL _ _ (bc _) hi;obtain⟨os,hos,hcs,hds⟩:=id hs;have hTs:s.TypeIs (.ref sl) "slice":=⟨os,hos,hcs⟩
 unfold getItem
 try with_reducible refine wpAny_holding ?_
 first|refine ak (aF ?_)|skip
 refine ak (wpAny_sequenceKey ht.typeIs (by decide) ?_);refine ak (wpAny_callSpecial?_slot (name:=ah "__getitem__") ht.typeIs PyProof.Rows.slot_tuple_getitem
  (wpAny_call_entry PyProof.Rows.slot_tuple_getitem ht.typeIs entry_tuple_getitem ?_ (args_tuple_getitem _ _)))
 show aq _ _ (Builtin.Tuple.tupleItemsOf (.ref t) >>= _) _ _ s;refine ak (tupleItemsOf_ ht ?_);refine ak (wpAny_typeOf hTs ?_);rw[if_pos (by decide)];refine ak (Fk hs pl pu ?_);have hno:¬((((sIx items.size 0 lo:Nat):Int) == 0&&(1:Int) == 1&&(sIx items.size items.size hi-sIx items.size 0 lo) == items.size)=true):=by
  intro q;rw[eP,eP]at q;have q1:((sIx items.size 0 lo:Nat):Int)=0:=eq_of_beq q.1.1;have q2:sIx items.size items.size hi-sIx items.size 0 lo=items.size:=eq_of_beq q.2;exact hw ⟨by lia,by lia⟩
 show aq _ _ (if(((sIx items.size 0 lo:Nat):Int) == 0&&(1:Int) == 1&&(sIx items.size items.size hi-sIx items.size 0 lo) == items.size)=true then _ else _) _ _ s;rw[if_neg hno,EO]
 first
  |exact ak (m:=Builtin.Tuple.tupleExact _) (wpAny_newObj_type (aF ⟨_,rfl,aF h⟩) htake)
  |exact ak (m:=Builtin.Tuple.tupleExact _) (wpAny_newObj_type (ak (aF (aF ⟨_,rfl,aF h⟩))) htake)
  |exact ak (ak (m:=Builtin.Tuple.tupleExact _) (wpAny_newObj_type (aF (aF ⟨_,rfl,aF h⟩)) htake))
  |exact ak (ak (m:=Builtin.Tuple.tupleExact _) (wpAny_newObj_type (aF ⟨_,rfl,aF h⟩) htake))
end
end HT
namespace L2
open PySem PySem.Spec PyProof.Rows
abbrev TO:=St->Hp->(Option Int->Hp->Prop)->Prop
def PO(X:Cx)(e:Option az)(t:TO):Prop:=
 ∀(pins:List (ad×aw)) (s:ag) (σ:St) (H:Hp) (Q:Option Int->Hp->Prop),Inv X pins σ H s->t σ H Q ->
  aq (au X.prog X.w) X.A (evalPart e X.env) (λu s'=>∃o H',Inv X pins σ H' s'/\IsPart u o/\Q o H') X.xe s
def xC:TO:=λ_ H Q=>Q none H
def zB(t:TE):TO:=λσ H Q=>t σ H λx H1=>∃i,x=.int i/\Q (some i) H1
section
variable {X:Cx}{e:az}{te:TE}{lo hi:Option az}{tl th:TO}{pos p2:Pos}
theorem Ev:PO X none xC:=by
 intro pins s σ H Q I h;rw[evalPart_none];exact aF ⟨none,H,I,.none,h⟩
theorem He(h:PE X e te):PO X (some e) (zB te):=by
 intro pins s σ H Q I hw;rw[evalPart_some];refine thn (h pins s σ H _ I hw) λu s1 e0=>bD e0 λx H1 I1 r1 q1=>?_;obtain⟨i,rfl,q⟩:=q1;obtain⟨t,rfl⟩:=r1;exact⟨some i,H1,I1,.int i t,q⟩
def SlR(X:Cx)(r:V->Option Int->Option Int->Hp->VK->Prop):Prop:=
 ∀(pins:List (ad×aw)) (s:ag) (σ:St) (H:Hp) (x:V) (v vl vu:ae) (lo hi:Option Int) (sl:ad) (Q:VK),Inv X pins σ H s->aT x v->s.heap.IsSliceOf sl vl vu .none->IsPart vl lo->IsPart vu hi->r x lo hi H Q ->
  ∃T id,typeLookup (.type T) "__getitem__"=pure (some (.builtin id))/\s.TypeIs v T/\aq (au X.prog X.w) X.A (getItem v (.ref sl)) (EP X pins σ Q) X.xe s
theorem SlR.or{r r':V->Option Int->Option Int->Hp->VK->Prop}(h:SlR X r)(h':SlR X r'):SlR X (λx lo hi H Q=>r x lo hi H Q∨r' x lo hi H Q):=by
 intro pins s σ H x v vl vu lo hi sl Q I rx hs pl pu q;rcases q with q|q
 ·exact h pins s σ H x v vl vu lo hi sl Q I rx hs pl pu q
 ·exact h' pins s σ H x v vl vu lo hi sl Q I rx hs pl pu q
def tSl(r:V->Option Int->Option Int->Hp->VK->Prop)(te:TE)(tl th:TO):TE:=λσ H Q=>te σ H λx H1=>tl σ H1 λl H2=>th σ H2 λu H3=>r x l u H3 Q
theorem B8{r:V->Option Int->Option Int->Hp->VK->Prop}(hr:SlR X r)(he:PE X e te)(hl:PO X lo tl)(hu:PO X hi th):PE X (.Subscript e (.Slice lo hi none p2) pos) (tSl r te tl th):=by
 intro pins s σ H Q I h;refine Subscript_ (thn (he pins s σ H _ I h) λv s1 e0=>bD e0 λx H1 I1 r1 q1=>?_);refine wpAny_Slice (thn (hl pins s1 σ H1 _ I1 q1) λvl s2 e0=>bD e0 λl H2 I2 pl q2=>thn (hu pins s2 σ H2 _ I2 q2) λvu s3 e0=>bD e0 λu H3 I3 pu q3=>?_);rw[evalPart_none];refine aF ?_;have I4:Inv X pins σ H3 { s3 with heap:=s3.heap.push { cls:=.type "slice",data:=.fields #[vl,vu,.none] } }:=I3.kept (t':=s3.toks) λb ob q=>bJ _ q;obtain⟨T,id,hT,ht,hg⟩:=hr pins { s3 with heap:=s3.heap.push { cls:=.type "slice",data:=.fields #[vl,vu,.none] } } σ H3 x v vl vu l u s3.heap.objs.size Q I4 r1 (Heap.IsSliceOf.new ..) pl pu q3;show aq (au X.prog X.w) X.A (subscriptTail e (.Slice lo hi none p2) v (.ref s3.heap.objs.size)) (EP X pins σ Q) X.xe { s3 with heap:=s3.heap.push { cls:=.type "slice",data:=.fields #[vl,vu,.none] } };exact tail_any (ops:=[.ref s3.heap.objs.size,v]) ht hT hg (by with_unfolding_all rfl)
noncomputable def jh(xs:List V)(lo hi:Option Int):List V:=(xs.drop (HT.sIx xs.length 0 lo)).take (HT.sIx xs.length xs.length hi-HT.sIx xs.length 0 lo)
theorem zq(xs:List V)(lo hi:Option Int):(jh xs lo hi).length≤xs.length:=by
 unfold jh;rw[pN,lG];lia
def wN(K:PySem.W.Frag):V->Option Int->Option Int->Hp->VK->Prop:=λx lo hi H Q=>∃a xs,x=.ref a/\SqT K H a xs /\
 ¬(HT.sIx xs.length 0 lo=0/\HT.sIx xs.length xs.length hi=xs.length)/\∀p,H p=none->Q (.ref p) (upd H p (.tup (jh xs lo hi)))
theorem Ez:SlR X (wN X.K):=by
 intro pins s σ H x v vl vu lo hi sl Q I rx hs pl pu h;obtain⟨a,xs,rfl,hx,hw,q⟩:=h;cases rx;obtain⟨its,r,ht,hz⟩:=I.tuple hx;have hlen:its.toArray.size=xs.length:=by rw[cB];exact r.length.symm
 refine⟨"tuple",_,PyProof.Rows.slot_tuple_getitem.lookup,ht.typeIs,?_⟩;refine HT.getItem_tuple_cut ht hs pl pu (by rw[hlen];exact hw) ?_ (by rw[hlen];exact hz);rw[hlen];refine⟨.ref s.heap.objs.size,_,I.laid (t':=s.toks) (o:=.tup (jh xs lo hi)) (λb ob q=>bJ _ q) (bc _) ?_,rfl,q _ (I.hok.fresh (bc _))⟩;exact⟨bV (zq xs lo hi) hz,_,(r.drop (HT.sIx xs.length 0 lo)).take (HT.sIx xs.length xs.length hi-HT.sIx xs.length 0 lo),IsTup.new _ _⟩
end
noncomputable def ixN(n:Nat)(i:Int):Option Nat:=if 0≤i then(if i<n then some i.toNat else none) else if -(n:Int)≤i then some (i+n).toNat else none
noncomputable def atI{α:Type}(xs:List α)(i:Int):Option α:=(ixN xs.length i).bind λj=>xs[j]?
theorem xH{n:Nat}{i:Int}{j:Nat}(h:ixN n i=some j):seqIndex? i n=some j/\j<n/\-(n:Int)≤i/\i<n:=by
 unfold ixN at h;by_cases h0:0≤i
 ·rw[if_pos h0]at h;by_cases h1:i<n
  ·rw[if_pos h1]at h;have e:i.toNat=j:=Option.some.inj h;exact⟨by rw[seqIndex_of h0 h1,e],by lia,by lia,h1⟩
  ·rw[if_neg h1]at h;cases h
 ·rw[if_neg h0]at h;by_cases h1:-(n:Int)≤i
  ·rw[if_pos h1]at h;have e:(i+n).toNat=j:=Option.some.inj h;exact⟨by rw[seqIndex_neg (by lia) h1,e],by lia,h1,by lia⟩
  ·rw[if_neg h1]at h;cases h
theorem uZ{α:Type}{xs:List α}{i:Int}{v:α}(h:atI xs i=some v):∃j,seqIndex? i xs.length=some j/\xs[j]?=some v/\j<xs.length/\-(xs.length:Int)≤i/\i<xs.length:=by
 unfold atI at h;cases e:ixN xs.length i with
 |none=>rw[e]at h;cases h
 |some j=>
   rw[e]at h;obtain⟨h1,h2,h3,h4⟩:=xH e;exact⟨j,h1,h,h2,h3,h4⟩
def w8(b:az):Prop:=∀o i,subscripted b false o i=operate [o,i] (getItem o i)
def IxR(X:Cx)(r:R2):Prop:=
 ∀(value slice:az) (pins:List (ad×aw)) (s:ag) (σ:St) (H:Hp) (x y:V) (v u:ae) (Q:VK),Inv X pins σ H s->aT x v->aT y u->r x y H Q ->
  subscripted slice false v u=operate [v,u] (getItem v u)->aq (au X.prog X.w) X.A (subscriptTail value slice v u) (EP X pins σ Q) X.xe s
def MtR(X:Cx)(id:String)(r:V->List V->Hp->VK->Prop):Prop:=
 ∀(pins:List (ad×aw)) (s:ag) (σ:St) (H:Hp) (x:V) (xs:List V) (v:ae) (us:List ae) (Q:VK),Inv X pins σ H s->aT x v->Vals xs us->r x xs H Q ->
  aq (au X.prog X.w) X.A (call (.builtin id) (v::us)) (EP X pins σ Q) X.xe s
section
variable {X:Cx}{a b:az}{ta tb:TE}{pos:Pos}
theorem IxR.or{r r':R2}(h:IxR X r)(h':IxR X r'):IxR X (λx y H Q=>r x y H Q∨r' x y H Q):=by
 intro value slice pins s σ H x y v u Q I rx ry q hs;rcases q with q|q
 ·exact h value slice pins s σ H x y v u Q I rx ry q hs
 ·exact h' value slice pins s σ H x y v u Q I rx ry q hs
theorem Be{r:R2}(hr:IxR X r)(ha:PE X a ta)(hb:PE X b tb)(hs:w8 b):PE X (.Subscript a b pos) (tOp r ta tb):=by
 intro pins s σ H Q I h;exact Subscript_ (tm ha hb I h λv u s2 x y H2 I2 rx ry q=>hr a b pins s2 σ H2 x y v u Q I2 rx ry q (hs _ _))
def wU(K:PySem.W.Frag):R2:=λx y H Q=>∃p xs i v,x=.ref p/\y=.int i/\SqL K H p xs/\atI xs i=some v/\Q v H
def yu(K:PySem.W.Frag):R2:=λx y H Q=>∃p xs i v,x=.ref p/\y=.int i/\SqT K H p xs/\atI xs i=some v/\Q v H
def yr:R2:=λx y H Q=>∃z i c,x=.str z/\y=.int i/\z.length≤aW/\atI z.cps.toList i=some c/\Q (.str ⟨#[c]⟩) H
theorem CF:IxR X (wU X.K):=by
 intro value slice pins s σ H x y v u Q I rx ry h hs;obtain⟨p,xs,i,z,rfl,rfl,hq,he,q⟩:=h;cases rx;obtain⟨t,rfl⟩:=ry;obtain⟨its,r,pl,hz⟩:=I.list hq;obtain⟨j,h1,h2,h3,h4,h5⟩:=uZ he;obtain⟨w,ew,rw'⟩:=r.get h2;have hl:=r.length;have hn:=nU;have fin:EP X pins σ Q w s:=⟨z,H,I,rw',q⟩
 by_cases h0:0≤i
 ·have hj:i.toNat=j:=by
   rw[seqIndex_of h0 h5]at h1;exact Option.some.inj h1
  exact item_listR pl.isList h0 (by lia) (by rw[hj];simpa using ew) fin hs
 ·have hj:(i+(its.toArray.size:Int)).toNat=j:=by
   rw[seqIndex_neg (by lia) h4]at h1;rw[cB,←hl];exact Option.some.inj h1
  exact subscriptTail_builtinR (x:=w) pl.isList.typeIs slot_list_getitem.lookup
   (wpAny_getItem_list_neg (Q:=λr s'=>r=w/\EP X pins σ Q r s') pl.isList (by lia) (by rw[cB] <;> lia) (by lia) (by rw[hj];simpa using ew) ⟨rfl,fin⟩) hs
theorem CJ:IxR X (yu X.K):=by
 intro value slice pins s σ H x y v u Q I rx ry h hs;obtain⟨p,xs,i,z,rfl,rfl,hq,he,q⟩:=h;cases rx;obtain⟨t,rfl⟩:=ry;obtain⟨its,r,pl,hz⟩:=I.tuple hq;obtain⟨j,h1,h2,h3,h4,h5⟩:=uZ he;obtain⟨w,ew,rw'⟩:=r.get h2;have hl:=r.length;have hn:=nU;have fin:EP X pins σ Q w s:=⟨z,H,I,rw',q⟩;exact subscriptTail_builtinR (x:=w) pl.typeIs slot_tuple_getitem.lookup
  (getItem_tuple (j:=j) (Q:=λr s'=>r=w/\EP X pins σ Q r s') pl (by lia) (by lia) (by rw[cB,←hl];exact h1) (by simpa using ew) ⟨rfl,fin⟩) hs
theorem DP:IxR X yr:=by
 intro value slice pins s σ H x y v u Q I rx ry h hs;obtain⟨z,i,c,rfl,rfl,hz,he,q⟩:=h;obtain⟨t,rfl⟩:=rx;obtain⟨t',rfl⟩:=ry;obtain⟨j,h1,h2,h3,h4,h5⟩:=uZ he;have hl:z.cps.toList.length=z.length:=by simp[mU]
 rw [hl] at h1 h4 h5;have hn:=nU;exact tail_any (typeIs_str s z t) slot_str_getitem.lookup (getItem_str (c:=c) (by
  have e1:decide (i < -(2 ^ 63:Int))=false:=decide_eq_false (by lia);have e2:decide (i≥2 ^ 63)=false:=decide_eq_false (by lia);rw [e1,e2,qE]) (by rw [h1];simpa using h2) ⟨.str ⟨#[c]⟩,H,I.tok _,⟨_,rfl⟩,q⟩) hs
def rIx(K:PySem.W.Frag):R2:=λx y H Q=>wU K x y H Q∨yu K x y H Q∨yr x y H Q
theorem vf:IxR X (rIx X.K):=CF.or (CJ.or DP)
theorem Gv(its:List ae)(n j:Nat)(u:ae):Obj.mapSeq (·.setIfInBounds j u) { cls:=.type "list",data:=.seq its.toArray n }={ cls:=.type "list",data:=.seq (its.set j u).toArray n }:=by
 simp[Obj.mapSeq]
theorem Inv.lst{pins:List (ad×aw)}{σ:St}{H:Hp}{s:ag}{p:ad}{xs:List V}(I:Inv X pins σ H s)(h:H p=some (.lst xs)) :
  ∃(its:List ae) (n:Nat),Vals xs its/\s.heap.get? p=some { cls:=.type "list",data:=.seq its.toArray n }/\xs.length≤aW:=by
 obtain⟨z,its,n,r,e⟩:=I.hok p _ h;exact⟨its,n,r,e,z⟩
theorem Inv.lstUpd{pins:List (ad×aw)}{σ:St}{H:Hp}{s:ag}{p:ad}{xs ys:List V}{its its':List ae}{n n':Nat}{f:aw->aw}(I:Inv X pins σ H s)(h:H p=some (.lst xs))
  (ho:s.heap.get? p=some { cls:=.type "list",data:=.seq its.toArray n }) (hf:f { cls:=.type "list",data:=.seq its.toArray n }={ cls:=.type "list",data:=.seq its'.toArray n' }) (r:Vals ys its') (hz:ys.length≤aW) (t:Nat) :
  Inv X pins σ (upd H p (.lst ys)) { s with heap:=s.heap.update p f,toks:=t }:=by
 have e:(s.heap.update p f).get? p=some { cls:=.type "list",data:=.seq its'.toArray n' }:=by
  rw[i7 f ho (by rw[hf] <;> rfl),hf]
 refine I.write (x:=p) (e:=p) (by rw[h];trivial) (.inl rfl) (λb u hb q=>(fu _ _ (Ne.symm hb)).trans q) ⟨_,e⟩ ?_;exact⟨hz,its',n',r,e⟩
def xy:V->V->V->Hp->(Hp->Prop)->Prop:=λo i v H Q=>∃p xs k j,o=.ref p/\i=.int k/\H p=some (.lst xs)/\ixN xs.length k=some j/\Q (upd H p (.lst (xs.set j v)))
theorem G5:PSet X xy:=by
 intro pins s σ H o i v ov iv u Q I ro ri rv h;obtain⟨p,xs,k,j,rfl,rfl,hp,hj,q⟩:=h;cases ro;obtain⟨t,rfl⟩:=ri;obtain⟨its,n,r,ho,hz⟩:=I.lst hp;obtain⟨h1,h2,h3,h4⟩:=xH hj;have hl:=r.length;have hn:=nU;have I':Inv X pins σ (upd H p (.lst (xs.set j v))) { s with heap:=s.heap.update p (Obj.mapSeq (·.setIfInBounds j u)) }:=
  I.lstUpd hp ho (Gv its n j u) (r.set rv j) (by rw[uW];exact hz) s.toks
 by_cases h0:0≤k
 ·have hk:k.toNat=j:=by
   rw[seqIndex_of h0 h4]at h1;exact Option.some.inj h1
  exact PySem.W.ki_setAt ho h0 (by lia) (by rw[cB,←hl];exact h4) (by rw[hk];exact⟨_,I',q⟩)
 ·have hk:(k+(its.toArray.size:Int)).toNat=j:=by
   rw[seqIndex_neg (by lia) h3]at h1;rw[cB,←hl];exact Option.some.inj h1
  exact PySem.W.ki_setBack ho (by lia) (by rw[cB,←hl];exact h3) (by lia) (by rw[hk];exact⟨_,I',q⟩)
theorem Bg(lo hi:Option Int)(n:Nat):(sliceBounds lo hi none n).1=((HT.sIx n 0 lo:Nat):Int)/\(sliceBounds lo hi none n).2.1=((HT.sIx n n hi:Nat):Int)/\(sliceBounds lo hi none n).2.2=1:=by
 refine⟨?_,?_,rfl⟩
 ·cases lo with
  |none=>simp[sliceBounds,HT.sIx]
  |some i=>
    simp only[sliceBounds,HT.sIx,Option.getD_none,show(1:Int)>0 by decide,if_true];by_cases h:i<0
    ·simp only[h,if_true] <;> lia
    ·simp only[h,if_false] <;> lia
 ·cases hi with
  |none=>simp[sliceBounds,HT.sIx]
  |some i=>
    simp only[sliceBounds,HT.sIx,Option.getD_none,show(1:Int)>0 by decide,if_true];by_cases h:i<0
    ·simp only[h,if_true] <;> lia
    ·simp only[h,if_false] <;> lia
theorem Bo(its:List ae)(lo hi:Option Int):slicePick its.toArray lo hi none=((its.drop (HT.sIx its.length 0 lo)).take (HT.sIx its.length its.length hi-HT.sIx its.length 0 lo)).toArray:=by
 obtain⟨h1,h2,h3⟩:=Bg lo hi its.toArray.size;unfold slicePick;rw[h1,h2,h3];simp only[sliceRange_one,pick_run,cB] <;> rfl
def yD(K:PySem.W.Frag):V->Option Int->Option Int->Hp->VK->Prop:=λx lo hi H Q=>∃a xs,x=.ref a/\SqL K H a xs/\∀p,H p=none->Q (.ref p) (upd H p (.lst (jh xs lo hi)))
theorem B5:SlR X (yD X.K):=by
 intro pins s σ H x v vl vu lo hi sl Q I rx hs pl pu h;obtain⟨a,xs,rfl,hx,q⟩:=h;cases rx;obtain⟨its,r,ht,hz⟩:=I.list hx;have hlen:=r.length;refine⟨"list",_,slot_list_getitem.lookup,ht.isList.typeIs,?_⟩
 refine wpAny_getItem_list_slice ht.isList hs pl pu .none (by simp) ?_ (by rw[cB] <;> lia);rw[Bo,←hlen];refine⟨.ref s.heap.objs.size,_,I.laid (t':=s.toks) (o:=.lst (jh xs lo hi)) (λb ob q=>bJ _ q) (bc _) ?_,rfl,q _ (I.hok.fresh (bc _))⟩;exact⟨bV (zq xs lo hi) hz,_,0,(r.drop (HT.sIx xs.length 0 lo)).take (HT.sIx xs.length xs.length hi-HT.sIx xs.length 0 lo),dH _ rfl⟩
noncomputable def il:V->Bool
 |.non=>true
 |.bl _=>true
 |.int _=>true
 |.str _=>true
 |_=>false
noncomputable def eqV:V->V->Bool
 |.non,.non=>true
 |.bl a,.bl b=>a == b
 |.bl a,.int b=>(if a then 1 else 0) == b
 |.int a,.bl b=>a == (if b then 1 else 0)
 |.int a,.int b=>a == b
 |.str a,.str b=>a == b
 |_,_=>false
theorem A6{A:aX}{s:ag}{y x:V}{u v:ae}(ry:aT y u)(rx:aT x v)(fy:il y=true)(fx:il x=true):SeqAt.EqAt A s u v (eqV y x):=by
 cases y with
 |non=>
   cases ry;cases x with
   |non=>cases rx;exact SeqAt.EqAt.same _
   |bl b=>cases rx;exact SeqAt.EqAt.none_bool b
   |int b=>obtain⟨t,rfl⟩:=rx;exact SeqAt.EqAt.none_int b t
   |str b=>obtain⟨t,rfl⟩:=rx;exact SeqAt.EqAt.none_str b t
   |_=>exact absurd (show false=true from fx) cp
 |bl a=>
   cases ry;cases x with
   |non=>cases rx;exact SeqAt.EqAt.bool_none a
   |bl b=>cases rx;exact SeqAt.EqAt.bool_bool a b
   |int b=>obtain⟨t,rfl⟩:=rx;exact SeqAt.EqAt.bool_int a b t
   |str b=>obtain⟨t,rfl⟩:=rx;exact SeqAt.EqAt.bool_str a b t
   |_=>exact absurd (show false=true from fx) cp
 |int a=>
   obtain⟨t',rfl⟩:=ry;cases x with
   |non=>cases rx;exact SeqAt.EqAt.int_none a t'
   |bl b=>cases rx;exact SeqAt.EqAt.int_bool a t' b
   |int b=>obtain⟨t,rfl⟩:=rx;exact SeqAt.EqAt.int_int a t' b t
   |str b=>obtain⟨t,rfl⟩:=rx;exact SeqAt.EqAt.int_str a t' b t
   |_=>exact absurd (show false=true from fx) cp
 |str a=>
   obtain⟨t',rfl⟩:=ry;cases x with
   |non=>cases rx;exact SeqAt.EqAt.str_none a t'
   |bl b=>cases rx;exact SeqAt.EqAt.str_bool a t' b
   |int b=>obtain⟨t,rfl⟩:=rx;exact SeqAt.EqAt.str_int a t' b t
   |str b=>obtain⟨t,rfl⟩:=rx;exact SeqAt.EqAt.str_str a t' b t
   |_=>exact absurd (show false=true from fx) cp
 |_=>exact absurd (show false=true from fy) cp
noncomputable def eqU(x:V)(u:ae):Bool:=match u with
 |.none=>eqV .non x
 |.bool b=>eqV (.bl b) x
 |.int i _=>eqV (.int i) x
 |.str z _=>eqV (.str z) x
 |_=>false
theorem y9{x y:V}{u:ae}(r:aT y u)(f:il y=true):eqU x u=eqV y x:=by
 cases y with
 |non=>cases r;rfl
 |bl b=>cases r;rfl
 |int i=>obtain⟨t,rfl⟩:=r;rfl
 |str z=>obtain⟨t,rfl⟩:=r;rfl
 |_=>exact absurd (show false=true from f) cp
theorem mW{x:V}:∀{xs:List V}{us:List ae},Vals xs us->xs.all il=true->us.any (eqU x)=xs.any λy=>eqV y x
 |_,_,.nil,_=>rfl
 |y::xs,u::us,.cons r t,f=>by
   rw[mF,eP]at f;rw[j0,j0,y9 r f.1,mW t f.2]
theorem oF{A:aX}{s:ag}{x:V}{v:ae}(rx:aT x v)(fx:il x=true):∀{xs:List V}{us:List ae},Vals xs us->xs.all il=true->∀u∈us,SeqAt.EqAt A s u v (eqU x u)
 |_,_,.nil,_=>λu hu=>by cases hu
 |y::xs,u::us,.cons r t,f=>λu' hu=>by
   rw[mF,eP]at f;rcases bE.mp hu with rfl|hu
   ·rw[y9 r f.1];exact A6 r rx f.1 fx
   ·exact oF rx fx t f.2 u' hu
noncomputable def inV(x:V)(xs:List V):Bool:=xs.any λy=>eqV y x
def rIn(K:PySem.W.Frag)(neg:Bool):R2:=λx y H Q=>∃p xs,y=.ref p/\(SqL K H p xs∨SqT K H p xs)/\il x=true/\xs.all il=true/\Q (.bl (if neg then !inV x xs else inV x xs)) H
theorem EU:OpR X (cP .In) (rIn X.K false):=by
 intro pins s σ H x y v u Q I rx ry h;obtain⟨p,xs,rfl,hq,fx,fs,q⟩:=h;cases ry;rcases hq with hq|hq
 ·obtain⟨its,r,pl,hz⟩:=I.list hq;refine SeqAt.in_listAt (eqU x) pl.isList (λw hw=>oF rx fx r fs w (by simpa using hw)) ⟨.bl _,H,I,rfl,?_⟩;rw[show its.toArray.any (eqU x)=its.any (eqU x) by simp,mW r fs];exact q
 ·obtain⟨its,r,pl,hz⟩:=I.tuple hq;refine SeqAt.in_tupleAt (eqU x) pl (λw hw=>oF rx fx r fs w (by simpa using hw)) ⟨.bl _,H,I,rfl,?_⟩;rw[show its.toArray.any (eqU x)=its.any (eqU x) by simp,mW r fs];exact q
theorem Fe:OpR X (cP .NotIn) (rIn X.K true):=by
 intro pins s σ H x y v u Q I rx ry h;obtain⟨p,xs,rfl,hq,fx,fs,q⟩:=h;cases ry;rcases hq with hq|hq
 ·obtain⟨its,r,pl,hz⟩:=I.list hq;refine SeqAt.notIn_listAt (eqU x) pl.isList (λw hw=>oF rx fx r fs w (by simpa using hw)) ⟨.bl _,H,I,rfl,?_⟩;rw[show its.toArray.any (eqU x)=its.any (eqU x) by simp,mW r fs];exact q
 ·obtain⟨its,r,pl,hz⟩:=I.tuple hq;refine SeqAt.notIn_tupleAt (eqU x) pl (λw hw=>oF rx fx r fs w (by simpa using hw)) ⟨.bl _,H,I,rfl,?_⟩;rw[show its.toArray.any (eqU x)=its.any (eqU x) by simp,mW r fs];exact q
theorem eQ.or{f:ae}{r r':List V->Hp->VK->Prop}(h:eQ X f r)(h':eQ X f r'):eQ X f (λxs H Q=>r xs H Q∨r' xs H Q):=by
 intro pins s σ H xs us Q I rs q;rcases q with q|q
 ·exact h pins s σ H xs us Q I rs q
 ·exact h' pins s σ H xs us Q I rs q
theorem ye:eQ X (.type "list") (λxs H Q=>∃p ys,xs=[.ref p]/\(SqL X.K H p ys∨SqT X.K H p ys)/\∀l,H l=none->Q (.ref l) (upd H l (.lst ys))):=by
 intro pins s σ H xs us Q I r h;obtain⟨p,ys,rfl,hq,q⟩:=h;obtain⟨u,rfl,rx⟩:=vals1 r;cases rx;have fin:∀(its:List ae),Vals ys its->ys.length≤aW->∀(h':aI) (c':Nat),(∀b o',s.heap.get? b=some o'->h'.get? b=some o') ->
   h'.get? s.heap.objs.size=some { cls:=.type "list",dict:=none,data:=.seq its.toArray c',slots:=#[] }->EP X pins σ Q (.ref s.heap.objs.size) { s with heap:=h' }:=λits r' hz h' c' kp e=>
  ⟨.ref s.heap.objs.size,_,I.laid (t':=s.toks) kp (bc _) (show bW X.prog X.w _ h' _ (.lst ys) from⟨hz,its,c',r',e⟩),rfl,q _ (I.hok.fresh (bc _))⟩
 rcases hq with hq|hq
 ·obtain⟨its,r',pl,hz⟩:=I.list hq;have hlen:=r'.length;obtain⟨o,ho,hc,n,hd⟩:=pl.isList;exact call_list_seq p (.inl rfl) ho hc hd (λh' c' kp e=>fin its r' hz h' c' kp e) (by simp only[cB] <;> lia)
 ·obtain⟨its,r',pl,hz⟩:=I.tuple hq;have hlen:=r'.length;obtain⟨o,ho,hc,n,hd⟩:=pl;exact call_list_seq p (.inr rfl) ho hc hd (λh' c' kp e=>fin its r' hz h' c' kp e) (by simp only[cB] <;> lia)
def tyV(K:PySem.W.Frag)(T:String)(x:V)(H:Hp):Prop:=match x with
 |.str _=>T="str"
 |.int _=>T="int"
 |.ref p=>(T="list"/\∃xs,SqL K H p xs)∨(T="tuple"/\∃o,K.lookup p=some o/\o.cls=.type "tuple"/\o.dict=none) ∨
   (T="dict"/\((∃kvs,H p=some (.dK kvs))∨∃kvs,H p=some (.dT kvs)))∨(T="set"/\∃S n,H p=some (.set S n))
 |_=>False
theorem Dn{pins:List (ad×aw)}{σ:St}{H:Hp}{s:ag}{T:String}{x:V}{v:ae}(I:Inv X pins σ H s)(r:aT x v)(ty:tyV X.K T x H) :
  s.TypeIs v T/\∀a,v=.ref a->∃ob,s.heap.get? a=some ob/\ob.dict=none:=by
 cases x with
 |str z=>
   obtain⟨t,rfl⟩:=r;cases(show T="str" from ty)
   exact⟨typeIs_str s z t,λ_ e=>nomatch e⟩
 |int i=>
   obtain⟨t,rfl⟩:=r;cases(show T="int" from ty)
   exact⟨typeIs_int s i t,λ_ e=>nomatch e⟩
 |ref p=>
   cases r;rcases ty with⟨rfl,xs,hq⟩|⟨rfl,o,hk,hc,hd⟩|⟨rfl,hk⟩|⟨rfl,S,n,hk⟩
   ·obtain⟨its,_,pl,_⟩:=I.list hq;refine⟨pl.isList.typeIs,λa e=>?_⟩;cases e;obtain⟨o,n,e,c,hd,_⟩:=pl;exact⟨o,e,hd⟩
   ·refine⟨⟨o,I.kIn p o hk,hc⟩,λa e=>?_⟩;cases e;exact⟨o,I.kIn _ o hk,hd⟩
   ·have z:∃o,s.heap.get? p=some o/\o.ExactDict:=by
     rcases hk with⟨kvs,hk⟩|⟨kvs,hk⟩
     ·obtain⟨_,_,_,_,o,_,_,e,ex,_⟩:=I.hok p _ hk;exact⟨o,e,ex⟩
     ·obtain⟨_,_,_,_,o,_,_,e,ex,_⟩:=I.hok p _ hk;exact⟨o,e,ex⟩
    obtain⟨o,e,ex⟩:=z;refine⟨⟨o,e,ex.1⟩,λa e2=>?_⟩;cases e2;exact⟨o,e,ex.2.1⟩
   ·obtain⟨o,_,_,_,e,ex,_⟩:=I.hok p _ hk;refine⟨⟨o,e,ex.1⟩,λa e2=>?_⟩;cases e2;exact⟨o,e,ex.2.1⟩
 |_=>exact False.elim ty
def tBM(K:PySem.W.Frag)(T:String)(r:V->List V->Hp->VK->Prop)(to:TE)(t:TA):TE:=λσ H Q=>to σ H λx H1=>tyV K T x H1/\t σ H1 λxs H2=>r x xs H2 Q
variable {o e:az}{es:List az}{to:TE}{t:TA}{name:Str}{apos cpos:Pos}{T id:String}{r:V->List V->Hp->VK->Prop}
theorem oP(pa:PlainAttrs T)(slot:Slot T name id)(hty:typeOf (.builtin id)=pure (.type "method_descriptor"))(hm:MtR X id r)(ho:PE X o to)(ha:PA X (e::es) t)
  (hbase:attributeBase o name X.env (aK o X.env)=aK o X.env:=by rfl)
  (hfew:((backTo cpos (aU (e::es) X.env)).all (λx=>!x.1) && (backToKw cpos (keywordEach [] X.env)).all (λx=>x.1.isSome)
   && decide ((e::es).length + ([]:List Keyword).length + (if ([]:List Keyword).isEmpty then 0 else 1) < 30))=true:=by rfl)
  (hline:(apos.endLine == cpos.line)=true:=by rfl) (hs:aU (e::es) X.env=(false,aK e X.env)::aU es X.env:=by rfl) (hplain:(backTo cpos (aU es X.env)).any (·.1)=false:=by rfl) :
  PE X (.Call (.Attribute o name apos) (e::es) [] cpos) (tBM X.K T r to t):=by
 intro pins s σ H Q I h;refine wpAny_Call_method_late hbase hfew hline rfl (thn (ho pins s σ H _ I h) λv s1 e0=>bD e0 λx H1 I1 r1 e4=>e4.elim λty q1=>?_);obtain⟨h1,h2⟩:=Dn I1 r1 ty;refine⟨T,id,pa,slot,hty,h1,h2,?_⟩;have hA:=ha cpos pins s1 σ H1 _ I1 q1;rw[hs]at hA ⊢;refine Calls.callWith_builtin (by show(false||(backTo cpos (aU es X.env)).any (·.1))=false;rw[hplain] <;> rfl) (Calls.evalArgs_plain ?_);exact thn hA λus s2 e0=>bD e0 λvs H2 I2 r2 q2=>hm pins s2 σ H2 x vs v us Q I2 r1 r2 q2
/- xs.append(e),list.index on a module's tuple .. are MtR facts of 06m -/
end
def MtM(X:Cx)(id:String)(r:V->List V->Hp->VK->Prop):Prop:=
 ∀(pins:List (ad×aw)) (s:ag) (σ:St) (H:Hp) (x:V) (xs:List V) (v:ae) (us:List ae) (Q:VK),Inv X pins σ H s->aT x v->Vals xs us->r x xs H Q ->
  aq (au X.prog X.w) X.A (call (.builtin id) (v::us)) (EP X pins σ Q) X.xe s
theorem Vals.one:∀{x:V}{us:List ae},Vals [x] us->∃u,us=[u]/\aT x u
 |_,_,.cons r .nil=>⟨_,rfl,r⟩
theorem Vals.eraseIdx:∀{xs:List V}{us:List ae}(i:Nat),Vals xs us->Vals (xs.eraseIdx i) (us.eraseIdx i)
 |_,_,_,.nil=>.nil
 |_,_,0,.cons _ t=>t
 |_,_,i+1,.cons r t=>.cons r (Vals.eraseIdx i t)
theorem Vals.rep{xs:List V}{us:List ae}(h:Vals xs us):∀k:Nat,Vals (bF k xs).flatten (bF k us).flatten
 |0=>.nil
 |k+1=>by
   rw[f7,f7,f8,f8];exact Vals.append h (Vals.rep h k)
theorem zj{α:Type}:∀(l:List α) (i:Nat),(l.eraseIdx i).length≤l.length
 |[],_=>bc _
 |_::_,0=>Nat.le_succ _
 |_::r,i+1=>Nat.succ_le_succ (zj r i)
theorem xm(its:List ae):∀(k:Nat) (acc:List ae),
  kg (λx1 x2=>x1++x2) acc.toArray (bF k its.toArray)=(acc++(bF k its).flatten).toArray
 |0,acc=>by simp
 |k+1,acc=>by
   have e:acc.toArray++its.toArray=(acc++its).toArray:=by simp
   have e2:(acc++its)++(bF k its).flatten=acc++(bF (k+1) its).flatten:=by
    rw[f7,f8,vb]
   rw[←e2,←xm its k (acc++its),←e,f7,jp]
section
variable {X:Cx}{pins:List (ad×aw)}{σ:St}{H:Hp}{s:ag}{l b:ad}{xs ys zs:List V}
theorem Inv.lset{its its':List ae}{n:Nat}{f:Array ae->Array ae}{t':Nat}(I:Inv X pins σ H s)(hH:H l=some (.lst xs))
  (e:s.heap.get? l=some { cls:=.type "list",data:=.seq its.toArray n }) (hf:f its.toArray=its'.toArray) (hv:Vals ys its') (hz:ys.length≤aW) :
  Inv X pins σ (upd H l (.lst ys)) { s with heap:=s.heap.update l (Obj.mapSeq f),toks:=t' }:=by
 have q:=PySem.IsL.update e f;rw[hf]at q;refine I.write (x:=l) (e:=l) (by rw[hH];exact trivial) (.inl rfl) (λb' u hb hu=>(fu s.heap (Obj.mapSeq f) (Ne.symm hb)).trans hu) ⟨_,q⟩ ?_;exact⟨hz,its',_,hv,q⟩
theorem Inv.lnew{its:List ae}{t':Nat}(I:Inv X pins σ H s)(hv:Vals ys its)(hz:ys.length≤aW) :
  Inv X pins σ (upd H s.heap.objs.size (.lst ys)) { s with heap:=s.heap.push { cls:=.type "list",data:=.seq its.toArray },toks:=t' }:=
 I.laid (λ_ _ q=>bJ _ q) (bc _) ⟨hz,its,0,hv,dH _ rfl⟩
theorem Inv.fresh(I:Inv X pins σ H s):H s.heap.objs.size=none:=I.hok.fresh (bc _)
theorem Inv.lstM(I:Inv X pins σ H s)(hH:H l=some (.lst xs)):xs.length≤aW/\∃(its:List ae) (n:Nat),Vals xs its/\xs.length=its.length/\s.heap.get? l=some { cls:=.type "list",data:=.seq its.toArray n }:=by
 obtain⟨z,its,n,r,e⟩:=I.hok l _ hH;exact⟨z,its,n,r,r.length,e⟩
theorem Dq{n:Nat}(h:n≤aW):Builtin.List.listTooLong n=false:=by
 unfold Builtin.List.listTooLong;exact decide_eq_false (by lia)
end
section
variable {X:Cx}
def F6:V->List V->Hp->VK->Prop:=λx vs H Q=>∃l xs y,x=.ref l/\vs=[y]/\H l=some (.lst xs)/\xs.length<aW/\Q .non (upd H l (.lst (xs++[y])))
theorem uF:MtM X "list.append" F6:=by
 intro pins s σ H x vs v us Q I rx rv h;obtain⟨l,xs,y,rfl,rfl,hH,hz,q⟩:=h;cases rx;obtain⟨u,rfl,ru⟩:=rv.one;obtain⟨z,its,n,r,hl,e⟩:=I.lstM hH;refine call_meets F.slot_list_append ⟨_,e,rfl⟩ F.entry_list_append (F.args_list_append_2 _ _) (PySem.list_append l its.toArray n u (by rw[cB];lia)) ⟨e,?_⟩
 refine⟨.non,_,I.lset (its':=its++[u]) hH e (by simp) (r.append (.cons ru .nil)) ?_,rfl,q⟩;rw[cQ,uV];lia
def yO:V->List V->Hp->VK->Prop:=λx vs H Q=>∃l xs i k y,x=.ref l/\vs=[.int i]/\H l=some (.lst xs)/\-(2 ^ 63)≤i/\i<2 ^ 63/\seqIndex? i xs.length=some k/\xs[k]?=some y/\Q y (upd H l (.lst (xs.eraseIdx k)))
theorem AH:MtM X "list.pop" yO:=by
 intro pins s σ H x vs v us Q I rx rv h;obtain⟨l,xs,i,k,y,rfl,rfl,hH,h1,h2,hk,hy,q⟩:=h;cases rx;obtain⟨u,rfl,ru⟩:=rv.one;obtain⟨t,rfl⟩:=ru;obtain⟨z,its,n,r,hl,e⟩:=I.lstM hH;obtain⟨w,hw,rw'⟩:=r.get hy;refine call_meets F.slot_list_pop ⟨_,e,rfl⟩ F.entry_list_pop (F.args_list_pop_2 _ _)
  (MeetsSeq.list_pop_at l its.toArray n i t k w (fitsIndex_both h1 h2) (by rw[cB,←hl];exact hk) (by rw[←Array.getElem?_toList];exact hw) (by rw[cB];lia)) ⟨e,?_⟩
 refine⟨y,_,I.lset (its':=its.eraseIdx k) hH e ?_ (r.eraseIdx k) ?_,rw',q⟩
 ·show its.toArray.eraseIdxIfInBounds k=(its.eraseIdx k).toArray;rw[List.eraseIdxIfInBounds_toArray]
 ·have:=zj xs k;lia
def zA:R2:=λx y H Q=>∃l b xs zs,x=.ref l/\y=.ref b/\H l=some (.lst xs)/\H b=some (.lst zs)/\xs.length+zs.length≤aW/\∀p,H p=none->Q (.ref p) (upd H p (.lst (xs++zs)))
theorem ES:OpR X (binaryOp .Add) zA:=by
 intro pins s σ H x y v u Q I rx ry h;obtain⟨l,b,xs,zs,rfl,rfl,hH,hB,hz,q⟩:=h;cases rx;cases ry;obtain⟨z,its,n,r,hl,e⟩:=I.lstM hH;obtain⟨z2,its2,n2,r2,hl2,e2⟩:=I.lstM hB;refine PySem.P.add_list e e2 ?_ (by rw[cB,cB];lia)
 have ea:its.toArray++its2.toArray=(its++its2).toArray:=by simp
 rw[ea];exact⟨.ref _,_,I.lnew (t':=s.toks) (r.append r2) (by rw[cQ];lia),rfl,q _ I.fresh⟩
def yX:R2:=λx y H Q=>∃l k xs,x=.ref l/\y=.int k/\H l=some (.lst xs)/\-(2 ^ 63)≤k/\k<2 ^ 63/\xs.length*k.toNat≤aW /\
 ∀p,H p=none->Q (.ref p) (upd H p (.lst (bF k.toNat xs).flatten))
theorem Ak{α:Type}(xs:List α)(k:Nat):(bF k xs).flatten.length=k*xs.length:=by
 induction k with
 |zero=>simp
 |succ k ih=>rw[f7,f8,cQ,ih,Nat.succ_mul,Nat.add_comm]
theorem Aa:OpR X (binaryOp .Mult) yX:=by
 intro pins s σ H x y v u Q I rx ry h;obtain⟨l,k,xs,rfl,rfl,hH,h1,h2,hz,q⟩:=h;cases rx;obtain⟨t,rfl⟩:=ry;obtain⟨z,its,n,r,hl,e⟩:=I.lstM hH;have hlen:its.toArray.size*k.toNat≤aW:=by rw[cB,←hl];exact hz
 have hcap:¬its.toArray.size*k.toNat>(2 ^ 63-1)/8:=by
  have:(aW:Nat)≤(2 ^ 63-1)/8:=by decide
  lia
 have hfit:¬(!Builtin.List.listFitsIndex k)=true:=by
  rw[fitsIndex_both h1 h2];exact cp
 have hlong:¬Builtin.List.listTooLong (its.toArray.size*k.toNat)=true:=by
  rw[Dq hlen];exact cp
 have hnew:kg (λx1 x2=>x1++x2) #[] (bF (if its.toArray.isEmpty=true then 0 else k.toNat) its.toArray)=(bF k.toNat its).flatten.toArray:=by
  have f0:∀m:Nat,kg (λx1 x2=>x1++x2) #[] (bF m its.toArray)=(bF m its).flatten.toArray:=λm=>by
   have:=xm its m [];rw[fJ]at this;exact this
  rw[f0];cases its with
  |nil=>simp
  |cons a r'=>rw[if_neg (by simp)]
 refine wpAny_binaryOp_repeat_ref (T:="list") (U:="int") (by decide) ⟨_,e,rfl⟩ (λs'=>typeIs_int s' k t) noFill_list_mul F.fills_int_mul F.slot_int_rmul repeat_list F.slot_int_index.lookup
  (call_meets F.slot_int_rmul (typeIs_int s k t) F.entry_int_rmul (F.args_int_rmul_2 _ _) (int___rmul___int_list k t l its.toArray n)
   ⟨e,rfl,⟨_,e,rfl⟩,call_meets F.slot_list_mul ⟨_,e,rfl⟩ F.entry_list_mul (F.args_list_mul_2 _ _) (AutoListH.list___mul___list_int_3 l its.toArray n k t hfit hcap hlong) ⟨e,?_⟩⟩)
 rw[hnew];exact⟨.ref _,_,I.lnew (t':=s.toks) (r.rep k.toNat) (by rw[Ak,Nat.mul_comm];exact hz),rfl,q _ I.fresh⟩
end
section
variable {prog:bh}{w:aR}{A:aX}{E:ae->ag->Prop}{s:ag}
end
section
variable {X:Cx}
end
section
variable {κ:Type}[DecidableEq κ]
noncomputable def fR(kvs:List (κ×V))(k:κ):Option V:=(kvs.find? λkv=>decide (kv.1=k)).map (·.2)
noncomputable def fB(kvs:List (κ×V))(k:κ)(v:V):List (κ×V):=
 if(kvs.any λkv=>decide (kv.1=k))=true then kvs.map (λkv=>if kv.1=k then(kv.1,v) else kv) else kvs++[(k,v)]
theorem o7{p:κ×V}{r:List (κ×V)}{k:κ}(e:p.1=k):fR (p::r) k=some p.2:=by simp[fR,kU,e]
theorem qJ{p:κ×V}{r:List (κ×V)}{k:κ}(e:¬p.1=k):fR (p::r) k=fR r k:=by simp[fR,kU,e]
theorem qK(k:κ):∀kvs:List (κ×V),(kvs.any λkv=>decide (kv.1=k))=(fR kvs k).isSome
 |[]=>rfl
 |p::r=>by
   rw[j0];by_cases e:p.1=k
   ·simp only[o7 e,decide_eq_true e,Bool.true_or,Option.isSome_some]
   ·rw[qJ e,decide_eq_false e,Bool.false_or];exact qK k r
theorem vp(kvs:List (κ×V))(k:κ)(v:V):(fB kvs k v).length≤kvs.length+1:=by
 unfold fB;split
 ·rw[bB];lia
 ·rw[cQ,cr,jZ];lia
theorem ff.isSome_eq{o:Option V}{u:Option ae}(r:ff o u):o.isSome=u.isSome:=by
 cases o with
 |none=>cases u with
   |none=>rfl
   |some _=>exact(show False from r).elim
 |some _=>cases u with
   |none=>exact(show False from r).elim
   |some _=>rfl
theorem KV.val{kvs:List (κ×V)}{vs:List (κ×ae)}(r:KV kvs vs)(k:κ):ff (fR kvs k) (valueAt vs k):=by
 unfold KV at r
 induction r with
 |nil=>exact True.intro
 |@cons p q ps qs h t ih=>
   obtain⟨h1,h2⟩:=h;by_cases e:p.1=k
   ·have e':q.1=k:=h1.symm.trans e;have b:valueAt (q::qs) k=some q.2:=by simp[valueAt,kU,e']
    rw[o7 e,b];exact h2
   ·have e':¬q.1=k:=λz=>e (h1.trans z);have b:valueAt (q::qs) k=valueAt qs k:=by simp[valueAt,kU,e']
    rw[qJ e,b];exact ih
theorem KV.any{kvs:List (κ×V)}{vs:List (κ×ae)}(r:KV kvs vs)(k:κ):(kvs.any λkv=>decide (kv.1=k))=vs.any λkv=>decide (kv.1=k):=by
 unfold KV at r
 induction r with
 |nil=>rfl
 |cons h t ih=>rw[j0,j0,ih,h.1]
theorem KV.repl{kvs:List (κ×V)}{vs:List (κ×ae)}(r:KV kvs vs)(k:κ){y:V}{u:ae}(ry:aT y u) :
  KV (kvs.map λkv=>if kv.1=k then(kv.1,y) else kv) (vs.map λkv=>if kv.1=k then(kv.1,u) else kv):=by
 unfold KV at r ⊢
 induction r with
 |nil=>exact .nil
 |@cons p q ps qs h t ih=>
   rw[aN,aN];refine .cons ?_ ih;obtain⟨h1,h2⟩:=h;by_cases e:p.1=k
   ·rw[if_pos e,if_pos (h1.symm.trans e)];exact⟨h1,ry⟩
   ·rw[if_neg e,if_neg (λz=>e (h1.trans z))];exact⟨h1,h2⟩
theorem KV.put{kvs:List (κ×V)}{vs:List (κ×ae)}(r:KV kvs vs)(k:κ){y:V}{u:ae}(ry:aT y u):KV (fB kvs k y) (stored vs k u):=by
 unfold fB stored;rw[r.any k];by_cases e:(vs.any λkv=>decide (kv.1=k))=true
 ·rw[if_pos e,if_pos e];exact r.repl k ry
 ·rw[if_neg e,if_neg e];exact Paired.snoc r ⟨rfl,ry⟩
theorem KV.length{kvs:List (κ×V)}{vs:List (κ×ae)}(r:KV kvs vs):kvs.length=vs.length:=Paired.length r
end
theorem oJ{P:bh}{w:aR}{k:Key}{u:ae}(r:aT (kV k) u):(bR P w).is k u=true:=by
 cases k with
 |inl i=>obtain⟨t,e⟩:=(show ∃t,u=Value.int i t from r);subst e;exact DH P w i t
 |inr x=>obtain⟨t,e⟩:=(show ∃t,u=Value.str x t from r);subst e;exact Gc P w x t
theorem yY{P:bh}{w:aR}:∀{ks:List Key}{us:List ae},Vals (ks.map kV) us->ItemsAre (bR P w) ks us
 |[],_,r=>by rw[dQ]at r;cases r;exact .nil
 |k::ks,_,r=>by
   rw[aN]at r;cases r with
   |cons h t=>exact .cons (oJ h) (yY t)
abbrev KT(H:Hp):List (List Key×V)->List (List Key×ad×ae)->Prop:=cg λp q=>p.1=q.1/\H q.2.1=some (.tup (p.1.map kV))/\aT p.2 q.2.2
theorem KT.val{H:Hp}{kvs:List (List Key×V)}{xs:List (List Key×ad×ae)}(r:KT H kvs xs)(k:List Key):ff (fR kvs k) ((atKey xs k).map (·.2)):=by
 induction r with
 |nil=>exact True.intro
 |@cons p q ps qs h t ih=>
   obtain⟨h1,_,h2⟩:=h;by_cases e:p.1=k
   ·have e':q.1=k:=h1.symm.trans e;have b:atKey (q::qs) k=some q.2:=by simp[atKey,kU,e']
    rw[o7 e,b];exact h2
   ·have e':¬q.1=k:=λz=>e (h1.trans z);have b:atKey (q::qs) k=atKey qs k:=by simp[atKey,kU,e']
    rw[qJ e,b];exact ih
theorem KT.repl{H:Hp}{kvs:List (List Key×V)}{xs:List (List Key×ad×ae)}(r:KT H kvs xs)(k:List Key){y:V}{u:ae}(ry:aT y u) :
  KT H (kvs.map λkv=>if kv.1=k then(kv.1,y) else kv) (xs.map (putAt k u)):=by
 induction r with
 |nil=>exact .nil
 |@cons p q ps qs h t ih=>
   rw[aN,aN];refine .cons ?_ ih;obtain⟨h1,h2,h3⟩:=h;unfold putAt;by_cases e:p.1=k
   ·rw[if_pos e,if_pos (h1.symm.trans e)];exact⟨h1,h2,ry⟩
   ·rw[if_neg e,if_neg (λz=>e (h1.trans z))];exact⟨h1,h2,h3⟩
theorem KT.put{H:Hp}{kvs:List (List Key×V)}{xs:List (List Key×ad×ae)}(r:KT H kvs xs)(k:List Key){b:ad}{y:V}{u:ae}(hb:H b=some (.tup (k.map kV)))(ry:aT y u) :
  KT H (fB kvs k y) (storedH xs k b u):=by
 have e:(kvs.any λkv=>decide (kv.1=k))=(atKey xs k).isSome:=by
  rw[qK,(r.val k).isSome_eq,sH]
 unfold fB storedH;rw[e];by_cases q:(atKey xs k).isSome=true
 ·rw[if_pos q,if_pos q];exact r.repl k ry
 ·rw[if_neg q,if_neg q];exact Paired.snoc r ⟨rfl,hb,ry⟩
theorem KT.keeps{H H':Hp}{kvs:List (List Key×V)}{xs:List (List Key×ad×ae)}(r:KT H kvs xs)(ht:∀b ys,H b=some (.tup ys)->H' b=some (.tup ys)):KT H' kvs xs:=
 Paired.mapP r λ_ _ z=>⟨z.1,ht _ _ z.2.1,z.2.2⟩
section
variable {P:bh}{w:aR}{H:Hp}{h:aI}{a:ad}
theorem v9{u:HO}(ok:HOk P w H h)(e:Rd H a u):bW P w H h a u:=e.ok ok
theorem kW{kvs:List (Key×V)}(ok:HOk P w H h)(e:Rd H a (.dK kvs)):kvs.length≤aW/\(a == sysModules)=false/\∃vs,KV kvs vs/\h.DictOf (bR P w) a vs:=
 show bW P w H h a (.dK kvs) from v9 ok e
theorem vq{kvs:List (Key×V)}(ok:HOk P w H h)(e:H a=some (.dK kvs)):kvs.length≤aW/\(a == sysModules)=false/\∃vs,KV kvs vs/\h.DictOf (bR P w) a vs:=kW ok (.inl e)
theorem iP{ks:List Key}(ok:HOk P w H h)(e:H a=some (.tup (ks.map kV))):(tupleKind (bR P w)).is h ks a:=by
 obtain⟨_,its,r,o,h1,h2,n,h3⟩:=(show bW P w H h a (.tup (ks.map kV)) from ok a _ e);exact⟨o,its.toArray,n,h1,h2,h3,by simpa using yY r⟩
theorem nE{kvs:List (List Key×V)}(ok:HOk P w H h)(e:Rd H a (.dT kvs)):kvs.length≤aW/\(a == sysModules)=false /\
  ∃xs,KT H kvs xs/\h.DictOfH (tupleKind (bR P w)) a xs:=by
 obtain⟨z,y,xs,r,o,es,ep,h1,h2,h3,h4,h5⟩:=(show bW P w H h a (.dT kvs) from v9 ok e);refine⟨z,y,xs,r,o,es,ep,h1,h2,h3,h4,λx hx=>?_,h5⟩;have all:∀{l:List (List Key×V)}{m:List (List Key×ad×ae)},KT H l m->∀x∈m,(tupleKind (bR P w)).is h x.1 x.2.1:=by
  intro l m q
  induction q with
  |nil=>intro x hx;exact nomatch hx
  |@cons p q ps qs hq t ih=>
    intro x hx;rcases bE.mp hx with e|hx
    ·subst e;exact iP ok (by rw[←hq.1];exact hq.2.1)
    ·exact ih x hx
 exact all r x hx
theorem FS{kvs:List (List Key×V)}(ok:HOk P w H h)(e:H a=some (.dT kvs)):kvs.length≤aW/\(a == sysModules)=false /\
  ∃xs,KT H kvs xs/\h.DictOfH (tupleKind (bR P w)) a xs:=nE ok (.inl e)
end
def DGet(H:Hp)(a:ad)(y:V)(r:Option V):Prop:=
 (∃kvs k,Rd H a (.dK kvs)/\y=kV k/\r=fR kvs k)∨∃kvs k b,Rd H a (.dT kvs)/\y=.ref b/\H b=some (.tup (k.map kV))/\r=fR kvs k
def DPut(H:Hp)(a:ad)(y v:V)(H':Hp):Prop:=
 (∃kvs k,H a=some (.dK kvs)/\y=kV k/\kvs.length<aW/\H'=upd H a (.dK (fB kvs k v))) ∨
 ∃kvs k b,H a=some (.dT kvs)/\y=.ref b/\H b=some (.tup (k.map kV))/\kvs.length<aW/\H'=upd H a (.dT (fB kvs k v))
theorem DGet.k{H:Hp}{a:ad}{kvs:List (Key×V)}{k:Key}(e:H a=some (.dK kvs)):DGet H a (kV k) (fR kvs k):=.inl ⟨kvs,k,.inl e,rfl,rfl⟩
theorem DPut.k{H:Hp}{a:ad}{kvs:List (Key×V)}{k:Key}{v:V}(e:H a=some (.dK kvs))(hl:kvs.length<aW):DPut H a (kV k) v (upd H a (.dK (fB kvs k v))):=.inl ⟨kvs,k,e,rfl,hl,rfl⟩
section
variable {X:Cx}{pins:List (ad×aw)}{σ:St}{H:Hp}{s:ag}{a:ad}{y v:V}{u r:ae}{o:Option V}{A:aX}{E:ae->ag->Prop}
theorem Inv.big(I:Inv X pins σ H s):sysModules<s.heap.objs.size:=by
 have h:dA<s.heap.objs.size:=(I.mod.glob.keeps I.bk).lt;exact Nat.lt_trans (by decide) h
theorem GB{Q:ae->ag->Prop}(hu:A.units+1<cLine)(I:Inv X pins σ H s)(g:DGet H a y (some v))(ry:aT y u)(h:∀w' s',Inv X pins σ H s'->aT v w'->Q w' s') :
  aq (au X.prog X.w) A (getItem (.ref a) u) Q E s:=by
 rcases g with⟨kvs,k,e,ey,l⟩|⟨kvs,k,b,e,ey,eb,l⟩
 ·subst ey;obtain⟨z,hd,vs,rel,dd⟩:=kW I.hok e;obtain⟨w',hw,rw'⟩:=ff.some_of (v:=v) (o:=valueAt vs k) (by rw[l];exact rel.val k);exact wpAny_getItem_of (oJ ry) dd.mapOf hw (h w' _ (I.tok _) rw')
 ·subst ey;cases(show u=Value.ref b from ry);obtain⟨z,hd,xs,rel,dd⟩:=nE I.hok e;obtain⟨w',hw,rw'⟩:=ff.some_of (v:=v) (o:=(atKey xs k).map (·.2)) (by rw[l];exact rel.val k)
  obtain⟨p,hp,hp2⟩:=Option.map_eq_some_iff.mp hw;refine wpAny_getItem_heap (tupleKind_room_in1 hu) (iP I.hok eb) dd hp ?_;rw[hp2];exact h w' _ (I.tok _) rw'
theorem GU{Q:ae->ag->Prop}(hu:A.units+1<cLine)(I:Inv X pins σ H s)(g:DGet H a y o)(ry:aT y u)(h:∀s',Inv X pins σ H s'->Q (.bool o.isSome) s') :
  aq (au X.prog X.w) A (cP .In u (.ref a)) Q E s:=by
 rcases g with⟨kvs,k,e,ey,l⟩|⟨kvs,k,b,e,ey,eb,l⟩
 ·subst ey;obtain⟨z,hd,vs,rel,dd⟩:=kW I.hok e;refine wpAny_in_of (oJ ry) hd dd.mapOf ?_;rw[←(rel.val k).isSome_eq,←l];exact h _ (I.tok _)
 ·subst ey;cases(show u=Value.ref b from ry);obtain⟨z,hd,xs,rel,dd⟩:=nE I.hok e;refine wpAny_in_heap (tupleKind_room_in1 hu) (iP I.hok eb) hd dd ?_;have q:=(rel.val k).isSome_eq;rw[sH]at q;rw[←q,←l];exact h _ (I.tok _)
theorem E5{Q:ae->ag->Prop}(hu:A.units+1<cLine)(I:Inv X pins σ H s)(g:DGet H a y o)(ry:aT y u)(h:∀s',Inv X pins σ H s'->Q (.bool (!o.isSome)) s') :
  aq (au X.prog X.w) A (cP .NotIn u (.ref a)) Q E s:=by
 rcases g with⟨kvs,k,e,ey,l⟩|⟨kvs,k,b,e,ey,eb,l⟩
 ·subst ey;obtain⟨z,hd,vs,rel,dd⟩:=kW I.hok e;refine wpAny_notIn_of (oJ ry) hd dd.mapOf ?_;rw[←(rel.val k).isSome_eq,←l];exact h _ (I.tok _)
 ·subst ey;cases(show u=Value.ref b from ry);obtain⟨z,hd,xs,rel,dd⟩:=nE I.hok e;refine wpAny_notIn_heap (tupleKind_room_in1 hu) (iP I.hok eb) hd dd ?_;have q:=(rel.val k).isSome_eq;rw[sH]at q;rw[←q,←l];exact h _ (I.tok _)
theorem yo{h':aI}{t':Nat}{ob:HO}(I:Inv X pins σ H s)(mu:Mut (H a))(hs:om a s.heap h')(he:∃q,h'.get? a=some q)(new:bW X.prog X.w (upd H a ob) h' a ob) :
  Inv X pins σ (upd H a ob) { s with heap:=h',toks:=t' }:=
 I.write (x:=a) (e:=a) mu (.inl rfl) (λb q hb z=>(hs.2 b hb).trans z) he new
theorem Ey{P:bh}{w:aR}{H':Hp}{h':aI}{kvs:List (Key×V)}{vs:List (Key×ae)}(z:kvs.length≤aW)(hd:(a == sysModules)=false)(rel:KV kvs vs)(dd:h'.DictOf (bR P w) a vs) :
  bW P w H' h' a (.dK kvs):=⟨z,hd,vs,rel,dd⟩
theorem CL{H':Hp}{Q:Unit->ag->Prop}(hu:A.units+1<cLine)(I:Inv X pins σ H s)(g:DPut H a y v H')(ry:aT y u)(rv:aT v r)(h:∀s',Inv X pins σ H' s'->Q () s') :
  aq (au X.prog X.w) A (setItem (.ref a) u r) Q E s:=by
 rcases g with⟨kvs,k,e,ey,l,eH⟩|⟨kvs,k,b,e,ey,eb,l,eH⟩
 ·subst ey eH;obtain⟨z,hd,vs,rel,dd⟩:=vq I.hok e;have hz:vs.length≤aW:=by rw[←rel.length];exact z
  have hl:(fB kvs k v).length≤aW:=by have:=vp kvs k v;lia
  refine wpAny_setItem_pairs (hsz:=hz) (oJ ry) dd λh' dd' hs=>h _ ?_;have he:∃q,h'.get? a=some q:=let ⟨q,_,_,hq,_⟩:=dd';⟨q,hq⟩;exact yo I (by rw[e];exact True.intro) hs he (Ey hl hd (rel.put k rv) dd')
 ·subst ey eH;cases(show u=Value.ref b from ry);obtain⟨z,hd,xs,rel,dd⟩:=FS I.hok e;have hz:xs.length≤aW:=by rw[←Paired.length rel];exact z
  have hl:(fB kvs k v).length≤aW:=by have:=vp kvs k v;lia
  refine wpAny_setItem_heap (hsz:=hz) (tupleKind_room_in1 hu) (iP I.hok eb) dd λh' dd' hs=>h _ ?_;obtain⟨q,es,ep,hq,h2,h3,h4,_,h5⟩:=dd';refine yo I (by rw[e];exact True.intro) hs ⟨q,hq⟩ ⟨hl,hd,_,(rel.put k eb rv).keeps λc ys ec=>?_,q,es,ep,hq,h2,h3,h4,h5⟩;rw[aY (BX ec e (λz=>nomatch z))];exact ec
end
section
variable {X:Cx}{pins:List (ad×aw)}{σ:St}{H:Hp}{s:ag}{a:ad}{kvs:List (Key×V)}{k:Key}{u:ae}{A:aX}{E:ae->ag->Prop}
theorem CM{Q:ae->ag->Prop}(I:Inv X pins σ H s)(e:Rd H a (.dK kvs))(h:∀t s',Inv X pins σ H s'->Q (.int kvs.length t) s'):aq (au X.prog X.w) A (call (.builtin "len") [.ref a]) Q E s:=by
 obtain⟨z,hd,vs,rel,dd⟩:=kW I.hok e;refine call_len_dict hd dd (by rw[←rel.length];rw[sizeLine_eq]at z;lia) ?_;rw[←rel.length];exact h _ _ (I.tok _)
end
theorem Bu{X:Cx}{pins:List (ad×aw)}{σ:St}{H:Hp}{s:ag}{a:ad}{y:V}{o:Option V}(I:Inv X pins σ H s)(g:DGet H a y o):s.TypeIs (.ref a) "dict":=by
 rcases g with⟨kvs,k,e,_,_⟩|⟨kvs,k,b,e,_,_,_⟩
 ·obtain⟨_,_,vs,_,dd⟩:=kW I.hok e;exact dd.typeIs
 ·obtain⟨_,_,xs,_,dd⟩:=nE I.hok e;exact dd.typeIs
section
variable {X:Cx}{o i e value:az}{pos pos' tpos:Pos}{td ty tv:TE}
end
theorem Ex{P:bh}{w:aR}{H:Hp}(h:aI)(hb:sysModules<h.objs.size):bW P w H (h.push { cls:=.type "dict",data:=.dict #[] }) h.objs.size (.dK []):=
 ⟨d9 _,beq_eq_false_iff_ne.mpr (Ne.symm (cT hb)),[],.nil,Heap.DictOf.new h⟩
def BZ:TE:=λ_ H Q=>∀p,H p=none->Q (.ref p) (upd H p (.dK []))
section
variable {X:Cx}{pos:Pos}
theorem EA:PE X (.Dict [] [] pos) BZ:=λpins s σ H Q I h=>
 wpAny_Dict_empty ⟨.ref s.heap.objs.size,_,I.laid (a:=s.heap.objs.size) (o:=.dK []) (t':=s.toks) (λ_ _ q=>bJ _ q) (bc _) (Ex s.heap I.big),rfl,h _ (I.hok.fresh (bc _))⟩
end
section
variable {X:Cx}{pins:List (ad×aw)}{σ:St}{H:Hp}{s:ag}{a:ad}{y d:V}{u r:ae}{o:Option V}{A:aX}{E:ae->ag->Prop}
end
section
variable {X:Cx}{o e f:az}{apos cpos:Pos}{td ty tx:TE}
end
section
variable {X:Cx}{pins:List (ad×aw)}{σ:St}{H:Hp}{s:ag}{a:ad}{kvs:List (Key×V)}{A:aX}{E:ae->ag->Prop}
end
section
variable {X:Cx}{pins:List (ad×aw)}{σ:St}{H:Hp}{s:ag}{a:ad}{y:V}{u:ae}{A:aX}{E:ae->ag->Prop}
end
end L2
namespace Att
open PySem PySem.W PySem.Calls PyProof.Rows
theorem Ar{P:Params}{h:aI}:∀(ns:List Int) (vs:List ae),WellAll P h vs (ns.map WData.int)->IntsAre vs ns:=by
 intro ns
 induction ns with
 |nil=>
   intro vs w;rw[dQ]at w;cases w;exact .nil
 |cons n ns ih=>
   intro vs w;rw[aN]at w;cases w with
   |cons a b=>
     cases a;exact .cons _ _ (ih _ b)
theorem Ff{l:OpenLaw}{n:Nat}(hn:l.most=some n){P:Params}{h:aI}{args:List WData}{vals:List ae}
  (hpre:l.row.toRowW.claim.pre args=true) (hwl:WellAll P h vals args) :
  ∃a vs ns,vals=[Value.ref a]/\args=[WData.list (ns.map WData.int)]/\h.get? a=some { cls:=.type "list",data:=.seq vs.toArray }/\IntsAre vs ns/\ns.length≤n:=by
 have hsh:WShape.hasAll [] args [.list .int]=true:=(pre_splitW hpre).1;have hc:l.pre.holds [] { args:=args }=true:=(pre_splitW hpre).2;obtain⟨d,r,rfl,h1,h2⟩:=hasAllW_cons hsh;obtain rfl:=hasAllW_nil h2;obtain⟨xs,rfl,h3⟩:=hasW_list h1;obtain⟨ns,rfl⟩:=items_int h3;have hlen:ns.length≤n:=by
  unfold OpenLaw.pre at hc;have h4:(WTm.not (.lt (.lit (.int (n:Int))) (.len (.arg 0)))).holds [] { args:=[.list (ns.map .int)] }=true:=by
   have h4:=(holds_andW hc).1;rw[hn]at h4;exact h4
  have h5:=condW_of h4 (w_not (w_lt w_lit (w_len_list (w_arg rfl))));rw[bB]at h5;refine kM λq=>?_;have q':(n:Int)<((ns.length:Nat):Int):=by lia
  first
   |(rw[decide_eq_true q']at h5;exact absurd h5 (by decide))
   |(simp at h5;lia)
 cases hwl with
 |cons w1 w2=>
   cases w2;cases w1 with
   |list ho hall=>exact⟨_,_,ns,rfl,rfl,ho,Ar ns _ hall,hlen⟩
theorem Er(l:OpenLaw)(args:List WData):l.row.toRowW.claim.post args (.bool true) args=true:=
 postW_of (r:=l.row.toRowW) (X:=(true == true))
  (show WShape.has [] (.bool true) .bool=true by first|rfl|decide|simp[WShape.has,WShape.arms,WShape.armsAll])
  (show(WTm.eq .res (.lit (.bool true))).value [] { args:=args,res:=some (.bool true),after:=args }=some (.bool (true == true)) from w_eq_bool (w_res rfl) w_lit) rfl
theorem attach_call{l:OpenLaw}{n:Nat}{q:bh}{loose:List Str}{XP:(Str->Option ae)->aI->Prop}{YP:aR->aI->Prop}{d:DefRec}
  (hn:l.most=some n) (hdf:d.params.defaults=[])
  (call:∀(w:aR) (s₀ s₁:ag) (mg mb:Str->Option ae) (fa:ad) (o:aw) (pm cd doc:ae) (a:ad) (vs:List ae) (ns:List Int),
   Ground q loose [] XP w s₀ mg mb s₁.heap->YP w s₁.heap ->
   s₁.heap.get? fa=some o->o.data=.func (docDef d.name d.params d.body d.scope pm cd doc)->s₁.heap.CodeRec cd d.name->mg d.name=some (.ref fa) ->
   s₁.heap.get? a=some { cls:=.type "list",data:=.seq vs.toArray }->IntsAre vs ns->ns.length≤n->s₁.gens=#[] ->
   codeAny (au l.prog w) callerA (.call (.ref fa) ⟨[.ref a],[]⟩) (λr s'=>r=.ok (.ret (.bool true))/\OldK s₁.heap s'.heap/\s'.os=s₁.os/\AllBare s'.gens) s₁) :
  WalkO q loose XP YP l.row.toRowW d [] (λf vs=>PySem.call f vs):=by
 intro w s₀ s₁ mg mb G Y fa o pm cd doc dV kV ho hd hcd hD hmg hg args vals as hpre hlay hrd hwl hlo;obtain rfl:dV=.none:=Dflts.none hD hdf;obtain rfl:kV=.none:=Dflts.noKw hD;obtain⟨a,vs,ns,rfl,rfl,hobj,hints,hlen⟩:=Ff hn hpre hwl;refine enter_call (codeAny_mono (call w s₀ s₁ mg mb fa o pm cd doc a vs ns G Y ho (fd_plain hd) hcd hmg hobj hints hlen hg) λr s' hq=>?_);obtain⟨rfl,h2,h3,h4⟩:=hq;exact⟨.inl ⟨.bool true,.bool true,[],rfl,λ_=>rfl,.bool true,Er l _,λ_=>⟨List.Pairwise.nil,λ_ hm=>(nomatch hm)⟩⟩,h2,h3,h4⟩
section
variable {prog:bh}{w:aR}{A:aX}{E:ae->ag->Prop}{s:ag}{K:Frag}
end
end Att
namespace L2
open PySem PySem.Spec PyProof.Rows
theorem xj:∀{vs:List ae}{ns:List Int},IntsAre vs ns->Vals (ns.map V.int) vs
 |_,_,.nil=>.nil
 |_,_,.cons n t h=>.cons ⟨t,rfl⟩ (xj h)
end L2
/- THE LAST THEOREM (shape;LID,My.* are yours):
  My.Adr: a structure of the addresses that your layer names (classes,functions);My.Txt K t: a structure (Prop) of the equations over K;
  My.txt_mk:{K} {implicit addresses ..} (e1:nsIn K dA "law"=some (some (.ref f))) (e2:K.lookup f=some ⟨oc,od,.func (fnOf "law" "law" params body scope dV kV doc pm an cdv ct),sl⟩) (e3:codeIn K cdv "law"=true) ..:∃t,My.Txt K t
set_option maxRecDepth 100000 in
set_option maxHeartbeats 0 in
theorem PySem.Challenge.cw_LID_holds:PySem.Challenge.rw_LID.Holds:=by
 w_on;o_law;k_head;(case hw=>w_witness2)
 k_fill
 refine L2.walk_of (l:=PySem.Challenge.rw_LID) (n:=63) (k:=40) (x:="script") (CX:=λw=>..) (sp:=λ_=>My.sp_law) rfl (by decide) rfl ⟨rfl,by decide,by decide⟩ (λw h Y=>PySem.W.kIn_of Y) ?F ?S ?C
 case F=>
  intro w mg fa h KX G hmg;have T:∃t,My.Txt (L2.KOf KX) t:=by
   dsimp only[L2.KOf]                          -- K must stand as «<heap const> w.params» for k_is;refine' My.txt_mk ?e1 ?e2 ?e3 ..
   (case e1=>PySem.W.k_is)                    -- in the order: a name -> its address -> its object -> its parts
   (case e2=>PySem.W.k_is)
   ..
  obtain⟨t,T⟩:=T;have e0:=hmg.symm.trans (PySem.W.mg_of KX G T.law);cases e0                                       -- fa is the law's own address;exact⟨_,λs u=>.of_eq rfl,λbase kb nb=>My.law_fn T kb nb⟩     -- if «.of_eq rfl» comes too early: refine' ⟨_,?b,λbase kb nb=>My.law_fn T kb nb⟩;exact λs u=>.of_eq rfl
 case S=>exact λw H a ns hl hO hS=>..
 case C=>exact ..
(the tactic k_is has no namespace: write k_is) -/
namespace L2
open PySem PySem.Spec PyProof.Rows
noncomputable def eO(s:aV)(j:Nat):aV:=match s with
 |.ClassDef _ _ _ body _ _ _ _ _ _ _=>body.getD j (.Pass ⟨0,0,0,0⟩)
 |_=>.Pass ⟨0,0,0,0⟩
noncomputable def ol(s:aV):Arguments:=match s with
 |.FunctionDef _ a _ _ _ _ _ _ _ _=>a
 |_=>{ posonlyargs:=[],args:=[],vararg:=none,kwonlyargs:=[],kw_defaults:=[],kwarg:=none,defaults:=[] }
noncomputable def j3(s:aV):List aV:=match s with
 |.FunctionDef _ _ b _ _ _ _ _ _ _=>b
 |_=>[]
noncomputable def bM(s:aV):Scope:=match s with
 |.FunctionDef _ _ _ _ _ _ sc _ _ _=>sc
 |_=>{ kind:=.function,names:=[],isGenerator:=false,isCoroutine:=false }
structure Fun(K:PySem.W.Frag)(x qual:Str)(st:aV)(f:ad)(fd:bq):Prop where
 ex:∃(oc:ae) (od:Option ad) (kV doc pm:ae) (an:Option ad) (cdv ct:ae) (osl:Array (Option ae)),
  fd=PySem.W.fnOf x qual (ol st) (j3 st) (bM st) .none kV doc pm an cdv ct/\K.lookup f=some ⟨oc,od,.func fd,osl⟩/\PySem.W.codeIn K cdv qual=true
 kp:PySem.W.keepIn K (.ref f)=true
section
variable {P:bh}{w:aR}{K:PySem.W.Frag}{mg:Str->Option ae}{base:aI}
theorem Fb{x qual:Str}{st:aV}{f:ad}{oc:ae}{od an:Option ad}{osl:Array (Option ae)}{kV doc pm cdv ct:ae}(l:K.lookup f=some ⟨oc,od,.func (PySem.W.fnOf x qual (ol st) (j3 st) (bM st) .none kV doc pm an cdv ct),osl⟩)
  (c:PySem.W.codeIn K cdv qual=true) (k:PySem.W.keepIn K (.ref f)=true):Fun K x qual st f (PySem.W.fnOf x qual (ol st) (j3 st) (bM st) .none kV doc pm an cdv ct):=⟨⟨oc,od,kV,doc,pm,an,cdv,ct,osl,rfl,l,c⟩,k⟩
end
theorem bz{A:aX}{k:Nat}(hr:Room k A):A.units+1<cLine:=qS (Nat.add_le_add_left (by decide:1≤64) _) hr.units
theorem C6{n:Nat}(h:n≤1000):n<aW:=qS h (by decide)
section
variable {X:Cx}
end
section
variable {X:Cx}
theorem DV:eQ X (.builtin "len") (λxs H Q=>∃a kvs,xs=[V.ref a]/\H a=some (.dK kvs)/\Q (.int kvs.length) H):=by
 intro pins s σ H xs us Q I r h;obtain⟨a,kvs,rfl,ha,q⟩:=h;obtain⟨u,rfl,ru⟩:=vals1 r;cases ru;exact CM I (.inl ha) λt s' I'=>⟨.int kvs.length,H,I',⟨t,rfl⟩,q⟩
end
section
variable {κ:Type}[DecidableEq κ]
end
end L2
namespace L2.Rv
open PySem PySem.Spec PySem.W PyProof.Rows
section
variable {prog:bh}{w:aR}{A:aX}{E:ae->ag->Prop}{s:ag}{K:Frag}{x C:ad}{ox:aw}
theorem Cj{M:Model}{v:ae}{Q:Unit->ag->Prop}(kx:K.In s.heap)(I:InstAt s.heap x ox C none)(hsub:subIn K (.ref C) (.type "BaseException")=some true)(hQ:Q () s) :
  aq M A (checkBuiltinCall "BaseException.__getattribute__" ⟨[.ref x,v],[]⟩) Q E s:=by
 have hsplit:splitId "BaseException.__getattribute__"=some ("BaseException","__getattribute__"):=by decide +kernel
 have hk:builtinKind "BaseException.__getattribute__"=some .slot:=by decide +kernel
 have ha:=F.args_bexc_ga (.ref x) v;obtain⟨hh,g,d,t,os⟩:=s;have L0:=I.type (M:=M);have L1:=looks_subIn (M:=M) kx hsub;simp only[checkBuiltinCall,hk,hsplit];unfold isInstance;refine ak (ak (L0.at (L1.at ?_)));simp only[d3,bd,if_false];cases hsig:Manifest.signature? "BaseException.__getattribute__" with
 |none=>exact aF hQ
 |some sig=>
   simp only[argsOk,hsig]at ha;exact wpAny_of_eq ha hQ
theorem FU{tk:Tok}{P:ae->ag->Prop}(kx:K.In s.heap)(I:InstAt s.heap x ox C none)(hf:findObj K C none "__class__"=some (.bind (.builtin "getset_descriptor.__get__") (.builtin "object.__class__")))
  (hm:mroIn K C (.type "object")=some true) (h:P (.ref C) s) :
  aq (au prog w) A (Builtin.«object.__getattribute__» ⟨[.ref x,.str "__class__" tk],[]⟩) (λfin s'=>match fin with|.done (.ret v)=>P v s'|_=>False) E s:=by
 obtain⟨hh,g,d,t,os⟩:=s;have L0:=I.type (M:=au prog w);have L1:=looks_find (M:=au prog w) kx I hf;unfold Builtin.«object.__getattribute__»;refine ak (aF (ak (aF (ak (L0.at (ak (L1.at ?_)))))));show aq _ _ (holding [Value.builtin "object.__class__"] (call (.builtin "getset_descriptor.__get__") [.builtin "object.__class__",.ref x,.ref C]) >>= ret) _ _ _;exact ak (wpAny_holding (wpAny_call (class_get (s:=⟨hh,g,d,t,os⟩) kx I hm (aF h))))
theorem FY{Q:Option ae->ag->Prop}(kx:K.In s.heap)(I:InstAt s.heap x ox C none)(hga:findIn K (.ref C) "__getattribute__"=some (some (.builtin "BaseException.__getattribute__")))(hk:findIn K (.ref C) "__getattr__"=some none)
  (hsub:subIn K (.ref C) (.type "BaseException")=some true) (hf:findObj K C none "__class__"=some (.bind (.builtin "getset_descriptor.__get__") (.builtin "object.__class__"))) (hm:mroIn K C (.type "object")=some true)
  (h:Q (some (.ref C)) { s with toks:=s.toks+1 }):aq (au prog w) A (getAttr? (.ref x) "__class__") Q E s:=by
 obtain⟨hh,g,d,t,os⟩:=s;have L0:=I.type (M:=au prog w);have L1:=looks_findIn (M:=au prog w) kx hga;have L2:=looks_findIn (M:=au prog w) kx hk;have hb:bindSpecial (.builtin "BaseException.__getattribute__") (.ref x)=pure (.builtin "BaseException.__getattribute__",[.ref x]):=F.excAttr_ValueError.ga.bind _;unfold getAttr? getAttrBy? getAttrBy;refine ak (wpAny_mkText (ak (wpAny_attempt (wpAny_holding (ak (L0.at (ak (L1.at ?_))))))));dsimp only;rw[if_neg (show ¬((onTheHeap (Value.ref C)&&(Value.builtin "BaseException.__getattribute__" == Value.builtin "object.__getattribute__"))=true) from by simp)];unfold getAttrByItsOwn hookBefore;rw[if_pos (show onTheHeap (.ref C)=true from rfl)];refine ak (L2.at (ak (wpAny_attempt (wpAny_holding ?_))));unfold callGetattribute boundAndCalled;rw[if_neg (by decide)];refine ak (wpAny_of_eq hb ?_);refine wpAny_call (codeAny_call_builtin F.excAttr_ValueError.ga.plain F.entry_bexc_ga (Cj (s:=⟨hh,g,d,t+1,os⟩) kx I hsub ?_));refine br (FU (s:=⟨hh,g,d,t+1,os⟩) (P:=λv s'=>aq (au prog w) A (handedOut v) (λv s''=>Q (some v) s'') (λ_ _=>False) s') kx I hf hm (handed_on rfl h)) (λfin s' z=>?_) λ_ _ z=>z;cases fin with
 |done fl=>
   cases fl with
   |ret v=>exact br z (λ_ _ y=>aF y) (λ_ _ y=>absurd y id)
   |_=>exact z.elim
 |_=>exact z.elim
theorem FV{a:ad}(hga:findIn K (.ref C) "__getattribute__"=some (some (.builtin "BaseException.__getattribute__")))(hk:findIn K (.ref C) "__getattr__"=some none)(hsub:subIn K (.ref C) (.type "BaseException")=some true)
  (hf:findObj K C none "__class__"=some (.bind (.builtin "getset_descriptor.__get__") (.builtin "object.__class__"))) (hm:mroIn K C (.type "object")=some true) (hc:(clsIn K C).isSome=true) :
  KitX K (.ref a) (.ref C) (λhp=>∃o vs,hp.get? a=some o/\o.cls=.ref C/\o.dict=none/\o.data=.fields vs) where
 ty:=λM hp kx e0=>e0.elim λo e1=>e1.elim λvs e2=>e2.elim λe1 e3=>e3.elim λe2 e4=>e4.elim λe3 e4=>(show InstAt hp a o C none from⟨e1,e2,by unfold notCls;rw[e4],by rw[e3];trivial⟩).type
 it:=λM hp kx _=>by
  obtain⟨cd,hcd⟩:=kP.mp hc;unfold clsIn at hcd;split at hcd
  ·rename_i z1 z2 z3 z4 ho;intro A' Q' E' s' kk q;unfold isType loadHead;exact ak (wpAny_loadPart (kk _ _ (kx _ _ ho)) (aF q))
  ·cases hcd
 ne:=λhp tp dd its n sl kx htp=>by
  obtain⟨cd,hcd⟩:=kP.mp hc;refine nZ.mpr λq=>?_;cases Value.ref.inj (beq_iff_eq.mp q);unfold clsIn at hcd
  split at hcd
  ·rename_i z1 z2 z3 z4 ho;have z:=(kx _ _ ho).symm.trans htp;cases z
  ·cases hcd
 ca:=λ{prog w A E Q s} kx ⟨o,vs,e1,e2,e3,e4⟩ k=>FY kx (show InstAt s.heap a o C none from⟨e1,e2,by unfold notCls;rw[e4],by rw[e3];trivial⟩) hga hk hsub hf hm k
theorem A8:isSubtype (.type "type") (.type "tuple")=pure false:=by rw[isSubtype_type];kernel_rfl
theorem uK{M:Model}{a C':ad}{oe:aw}{b:Bool}{Q:Bool->ag->Prop}(kx:K.In s.heap)(he:s.heap.get? a=some oe)(hc:oe.cls=.ref C)(hty:typeIn K (.ref C')=some (.type "type"))(hcl:(clsIn K C').isSome=true)
  (hex:subIn K (.ref C') (.type "BaseException")=some true) (hsub:subIn K (.ref C) (.ref C')=some b) (h:Q b s):aq M A (excMatches (.ref a) (.ref C')) Q E s:=by
 obtain⟨hh,g,d,t,os⟩:=s;have L0:=looks_typeIn (M:=M) kx hty;have L1:=looks_subIn (M:=M) kx hex;have L2:=looks_subIn (M:=M) kx hsub;have L3:Looks M hh (isType (.ref C')) true:=by
  obtain⟨cd,hcd⟩:=kP.mp hcl;unfold clsIn at hcd;split at hcd
  ·rename_i z1 z2 z3 z4 ho;intro A' Q' E' s' kk q;unfold isType loadHead;exact ak (wpAny_loadPart (kk _ _ (kx _ _ ho)) (aF q))
  ·cases hcd
 have L4:Looks M hh (typeOf (.ref a)) (.ref C):=hc▸(Looks.ld he).andThen .now;unfold excMatches isInstance isExcClass;refine ak (ak (L0.at (wpAny_of_eq A8 ?_)));simp only[bd,if_false];refine ak (aF ?_);simp only[pS,oj];refine ak (ak (ak (ak (L3.at ?_))));rw[if_pos rfl];refine L1.at ?_;simp only[d3,bd,if_false];refine aF (aF (ak (L4.at (ak (ak (ak (L2.at ?_)))))));cases b with
 |true=>exact aF (aF (aF h))
 |false=>exact aF (aF (aF h))
end
end L2.Rv
namespace L2.Rv
open PySem.W PyProof.Rows
noncomputable def dk{α:Type}(ask:Nat->Nat->Option Bool):KasT α->Option α
 |.ret a=>some a
 |.ask i j k=>match ask i j with
   |some b=>dk ask (k b)
   |none=>none
theorem lE{α β:Type}{ask:Nat->Nat->Option Bool}{f:α->KasT β}:∀(t:KasT α),dk ask (t.bind f)=(dk ask t).bind λa=>dk ask (f a)
 |.ret a=>rfl
 |.ask i j k=>by
   simp only[KasT.bind,dk];cases ask i j with
   |none=>rfl
   |some b=>exact lE (k b)
structure SOrd(ask:Nat->Nat->Option Bool)(lt:Nat->Nat->Bool)(n:Nat):Prop where
 an:∀i j,i<n->j<n->i≠j->ask i j=some (lt i j)
 tot:∀i j,i<n->j<n->i≠j->lt i j=false->lt j i=true
 asy:∀i j,i<n->j<n->lt i j=true->lt j i=false
 tr:∀i j k,i<n->j<n->k<n->lt i j=true->lt j k=true->lt i k=true
structure SPm(n:Nat)(p:Array Nat):Prop where
 pm:p.Perm (cM n).toArray
section
variable {ask:Nat->Nat->Option Bool}{lt:Nat->Nat->Bool}{n:Nat}{p:Array Nat}
theorem SPm.size(P:SPm n p):p.size=n:=by have:=P.pm.size_eq;simpa using this
theorem SPm.list(P:SPm n p):p.toList.Perm (cM n):=by have:=Array.perm_iff_toList_perm.mp P.pm;simpa using this
theorem SPm.lo(P:SPm n p){i:Nat}(hi:i<n):p.getD i 0<n:=by
 have hs:=P.size;have hi':i<p.size:=by lia
 have e:p.getD i 0=p[i]:=by simp[Array.getD,hi']
 rw[e];have:p[i]∈p.toList:=by simp
 have:=P.list.mem_iff.mp this;simpa using this
theorem SPm.inj(P:SPm n p){i j:Nat}(hi:i<n)(hj:j<n)(hne:i≠j):p.getD i 0≠p.getD j 0:=by
 have hs:=P.size;have hi':i<p.size:=by lia
 have hj':j<p.size:=by lia
 have nd:p.toList.Nodup:=P.list.nodup_iff.mpr List.nodup_range;have ei:p.getD i 0=p.toList[i]'(by simpa using hi'):=by simp[Array.getD,hi']
 have ej:p.getD j 0=p.toList[j]'(by simpa using hj'):=by simp[Array.getD,hj']
 rw[ei,ej];intro z;have pw:=pz.mp nd;rcases Nat.lt_or_gt_of_ne hne with q|q
 ·exact pw i j _ _ q z
 ·exact pw j i _ _ q z.symm
abbrev SUp(lt:Nat->Nat->Bool)(p:Array Nat)(k:Nat):Prop:=∀i j,i<j->j<k->lt (p.getD i 0) (p.getD j 0)=true
abbrev SDn(lt:Nat->Nat->Bool)(p:Array Nat)(k:Nat):Prop:=∀i j,i<j->j<k->lt (p.getD j 0) (p.getD i 0)=true
theorem uo(O:SOrd ask lt n)(P:SPm n p):∀(f a:Nat),1≤a->a+f≤n->SUp lt p a->∃m,dk ask (kas_asc p f a)=some m/\a≤m/\m≤a+f/\SUp lt p m/\(m<a+f->lt (p.getD m 0) (p.getD (m-1) 0)=true)
 |0,a,_,_,u=>⟨a,rfl,bc _,bc _,u,λz=>absurd z (iN _)⟩
 |f+1,a,h1,h2,u=>by
   have b1:a<n:=by lia
   have b2:a-1<n:=by lia
   have e:=O.an _ _ (P.lo b1) (P.lo b2) (P.inj b1 b2 (by lia));unfold kas_asc;simp only[dk,e];cases c:lt (p.getD a 0) (p.getD (a-1) 0) with
   |true=>exact⟨a,rfl,bc _,by lia,u,λ_=>c⟩
   |false=>
     have t:=O.tot _ _ (P.lo b1) (P.lo b2) (P.inj b1 b2 (by lia)) c;have u':SUp lt p (a+1):=λi j hij hj=>by
      by_cases hja:j<a
      ·exact u i j hij hja
      ·have ej:j=a:=by lia
       subst ej;by_cases hi:i=j-1
       ·subst hi;exact t
       ·exact O.tr _ _ _ (P.lo (by lia)) (P.lo b2) (P.lo b1) (u i (j-1) (by lia) (by lia)) t
     obtain⟨m,q1,q2,q3,q4,q5⟩:=uo O P f (a+1) (by lia) (by lia) u';exact⟨m,by simpa using q1,by lia,by lia,q4,λz=>q5 (by lia)⟩
theorem wI(O:SOrd ask lt n)(P:SPm n p):∀(f a:Nat),1≤a->a+f≤n->SDn lt p a->∃m,dk ask (kas_desc f p a 0)=some (p,m,0)/\a≤m/\m≤a+f/\SDn lt p m
 |0,a,_,_,u=>⟨a,rfl,bc _,bc _,u⟩
 |f+1,a,h1,h2,u=>by
   have b1:a<n:=by lia
   have b2:a-1<n:=by lia
   have e:=O.an _ _ (P.lo b1) (P.lo b2) (P.inj b1 b2 (by lia));have e':=O.an _ _ (P.lo b2) (P.lo b1) (P.inj b2 b1 (by lia));unfold kas_desc;simp only[dk,e];cases c:lt (p.getD a 0) (p.getD (a-1) 0) with
   |true=>
     have u':SDn lt p (a+1):=λi j hij hj=>by
      by_cases hja:j<a
      ·exact u i j hij hja
      ·have ej:j=a:=by lia
       subst ej;by_cases hi:i=j-1
       ·subst hi;exact c
       ·exact O.tr _ _ _ (P.lo b1) (P.lo b2) (P.lo (by lia)) c (u i (j-1) (by lia) (by lia))
     obtain⟨m,q1,q2,q3,q4⟩:=wI O P f (a+1) (by lia) (by lia) u';exact⟨m,by simpa using q1,by lia,by lia,q4⟩
   |false=>
     have t:=O.tot _ _ (P.lo b1) (P.lo b2) (P.inj b1 b2 (by lia)) c;refine⟨a,?_,bc _,by lia,u⟩;simp only[bd,if_false,dk,e',t,if_true]
theorem wz{j k:Nat}(hj:j≤p.size)(hk:k<p.size):(kas_rev p 0 j).getD k 0=if k<j then p.getD (j-1-k) 0 else p.getD k 0:=by
 have e:=getElem?_mirror_all (xs:=p) (i:=0) hj k;have h1:(kas_rev p 0 j).getD k 0=((kas_rev p 0 j)[k]?).getD 0:=by simp
 rw[h1];unfold kas_rev;rw[e];by_cases c:k<j
 ·rw[if_pos ⟨d9 _,c⟩,if_pos c];simp
 ·rw[if_neg (by lia),if_neg c];simp
theorem Ah(P:SPm n p){k:Nat}(hk:k≤n)(d:SDn lt p k):SPm n (kas_rev p 0 k)/\SUp lt (kas_rev p 0 k) k:=by
 have hs:=P.size;refine⟨⟨(mirror_perm _ _ _ _).trans P.pm⟩,λi j hij hj=>?_⟩;rw[wz (by lia) (by lia),wz (by lia) (by lia),if_pos (by lia),if_pos (by lia)];exact d _ _ (by lia) (by lia)
theorem Gf(O:SOrd ask lt n)(P:SPm n p)(hn:1≤n):∃m p',dk ask (kas_count n p)=some (m,p')/\SPm n p'/\1≤m/\m≤n/\SUp lt p' m:=by
 obtain⟨m,q1,q2,q3,q4,q5⟩:=uo O P (n-1) 1 (bc _) (by lia) (λi j hij hj=>by lia);unfold kas_count;rw[lE,q1];show ∃m' p',dk ask (if(m == n)=true then _ else _)=_/\_;by_cases hm:m=n
 ·rw[if_pos (by simpa using hm)];exact⟨m,p,rfl,P,q2,by lia,q4⟩
 ·rw[if_neg (by simpa using hm)];by_cases h1:m>1
  ·rw[if_pos h1];have e:=O.an _ _ (P.lo (i:=0) (by lia)) (P.lo (i:=m-1) (by lia)) (P.inj (by lia) (by lia) (by lia));have t:=q4 0 (m-1) (by lia) (by lia);simp only[dk,e,t,if_true];exact⟨m,p,rfl,P,q2,by lia,q4⟩
  ·rw[if_neg h1];have em:m=1:=by lia
   subst em;have d2:SDn lt p 2:=λi j hij hj=>by
    have:i=0:=by lia
    have:j=1:=by lia
    subst i;subst j;exact q5 (by lia)
   obtain⟨k,w1,w2,w3,w4⟩:=wI O P (n-2) 2 (by lia) (by lia) d2;unfold kas_descPart;rw[lE,w1];show ∃m' p',dk ask (if 0>0 then _ else kas_tail3 k n p)=_/\_;rw[if_neg (by lia)];obtain⟨P2,U2⟩:=Ah P (k:=k) (by lia) w4;obtain⟨m,r1,r2,r3,r4,r5⟩:=uo O P2 (n-k) k (by lia) (by lia) U2;unfold kas_tail3;rw[lE,r1];exact⟨m,_,rfl,P2,by lia,by lia,r4⟩
theorem uB(O:SOrd ask lt n)(P:SPm n p){k:Nat}(hk:k<n):∀(f l r:Nat),l≤r->r≤k->r-l≤f->(∀i,i<l->lt (p.getD i 0) (p.getD k 0)=true)->(∀i,r≤i->i<k->lt (p.getD k 0) (p.getD i 0)=true)->SUp lt p k ->
  ∃l',dk ask (kas_place p k f l r)=some l'/\l'≤k/\(∀i,i<l'->lt (p.getD i 0) (p.getD k 0)=true)/\(∀i,l'≤i->i<k->lt (p.getD k 0) (p.getD i 0)=true)
 |0,l,r,h1,h2,h3,a,b,u=>⟨l,rfl,by lia,a,λi x y=>b i (by lia) y⟩
 |f+1,l,r,h1,h2,h3,a,b,u=>by
   unfold kas_place;by_cases c:l≥r
   ·rw[if_pos c];exact⟨l,rfl,by lia,a,λi x y=>b i (by lia) y⟩
   ·rw[if_neg c];have hm:(l+r)/2<k:=by lia
    have e:=O.an _ _ (P.lo hk) (P.lo (i:=(l+r)/2) (by lia)) (P.inj hk (by lia) (by lia));simp only[dk,e];cases t:lt (p.getD k 0) (p.getD ((l+r)/2) 0) with
    |true=>
      simp only[if_true];refine uB O P hk f l ((l+r)/2) (by lia) (by lia) (by lia) a (λi x y=>?_) u;by_cases z:i=(l+r)/2
      ·subst z;exact t
      ·exact O.tr _ _ _ (P.lo hk) (P.lo (by lia)) (P.lo (by lia)) t (u _ _ (by lia) y)
    |false=>
      have t':=O.tot _ _ (P.lo hk) (P.lo (i:=(l+r)/2) (by lia)) (P.inj hk (by lia) (by lia)) t;simp only[bd,if_false];refine uB O P hk f ((l+r)/2+1) r (by lia) (by lia) (by lia) (λi x=>?_) b u;by_cases z:i=(l+r)/2
      ·subst z;exact t'
      ·exact O.tr _ _ _ (P.lo (by lia)) (P.lo (i:=(l+r)/2) (by lia)) (P.lo hk) (u _ _ (by lia) hm) t'
theorem zv{k d i:Nat}(hk:k<p.size)(hd:d≤k):(bubble p k d).getD i 0=if i=k-d then p.getD k 0 else if k-d<i/\i≤k then p.getD (i-1) 0 else p.getD i 0:=by
 have e:=getElem?_bubble hk d hd i;have h1:(bubble p k d).getD i 0=((bubble p k d)[i]?).getD 0:=by simp
 rw[h1,e];have g:∀q:Nat,(p[q]?).getD 0=p.getD q 0:=λq=>by simp
 by_cases c1:i=k-d
 ·rw[if_pos c1,if_pos c1];exact g _
 ·rw[if_neg c1,if_neg c1];by_cases c2:k-d<i/\i≤k
  ·rw[if_pos c2,if_pos c2];exact g _
  ·rw[if_neg c2,if_neg c2];exact g _
theorem wV(O:SOrd ask lt n):∀(f k:Nat) (p:Array Nat),SPm n p->k+f≤n->SUp lt p k->∃p',dk ask (kas_bin f p k)=some p'/\SPm n p'/\SUp lt p' (k+f)
 |0,k,p,P,_,u=>⟨p,rfl,P,u⟩
 |f+1,k,p,P,h,u=>by
   have hs:=P.size;obtain⟨l,q1,q2,q3,q4⟩:=uB O P (k:=k) (by lia) k 0 k (by lia) (bc _) (by lia) (λi z=>by lia) (λi x y=>by lia) u;unfold kas_bin;rw[lE,q1];have P2:SPm n (bubble p k (k-l)):=⟨(bubble_perm _ _ _).trans P.pm⟩;have U2:SUp lt (bubble p k (k-l)) (k+1):=λi j hij hj=>by
    rw[zv (by lia) (by lia),zv (by lia) (by lia)];have e:k-(k-l)=l:=by lia
    rw[e];by_cases a1:i=l
    ·rw[if_pos a1,if_neg (by lia),if_pos (by lia)];exact q4 (j-1) (by lia) (by lia)
    ·rw[if_neg a1];by_cases a2:j=l
     ·rw[if_pos a2,if_neg (by lia)];exact q3 i (by lia)
     ·rw[if_neg a2];by_cases b1:l<i/\i≤k
      ·rw[if_pos b1,if_pos (by lia)];exact u _ _ (by lia) (by lia)
      ·rw[if_neg b1];by_cases b2:l<j/\j≤k
       ·rw[if_pos b2];exact u _ _ (by lia) (by lia)
       ·rw[if_neg b2];exact u _ _ (by lia) (by lia)
   obtain⟨p',r1,r2,r3⟩:=wV O f (k+1) _ P2 (by lia) U2;exact⟨p',r1,r2,(show k+1+f=k+(f+1) by lia)▸r3⟩
theorem FF(O:SOrd ask lt n)(hn:1≤n):∃p,dk ask (kas_sort n)=some p/\SPm n p/\SUp lt p n:=by
 obtain⟨m,p',q1,q2,q3,q4,q5⟩:=Gf O (p:=(cM n).toArray) ⟨Array.Perm.refl _⟩ hn;unfold kas_sort;rw[lE,q1];show ∃p,dk ask (if m<n then kas_bin (n-max m 1) p' (max m 1) else .ret p')=some p/\_;have em:max m 1=m:=by lia
 rw[em];by_cases h:m<n
 ·rw[if_pos h];obtain⟨p2,r1,r2,r3⟩:=wV O (n-m) m p' q2 (by lia) q5;exact⟨p2,r1,r2,(show m+(n-m)=n by lia)▸r3⟩
 ·rw[if_neg h];have:m=n:=by lia
  subst this;exact⟨p',rfl,q2,q5⟩
end
end L2.Rv
namespace L2.Rv
noncomputable section
open PySem (Str)
inductive MV where
 |non|bl (b:Bool)|int (i:Int)|str (s:Str)|ref (n:Nat)|scr (ns:List Int)|tup (xs:List MV)|any
instance:DecidableEq MV:=λ_ _=>yi _
inductive MO where
 |lst (xs:List MV)|dct (kvs:List (Str×MV))|ins (c:Nat) (fs:List (String×MV))|exn (c:Nat)
  |frz (kvs:List (Str×MV))
instance:DecidableEq MO:=λ_ _=>yi _
abbrev MH:=List MO
inductive Res(α:Type) where
 |ok (a:α) (h:MH)|exc (c:Nat) (h:MH)|stuck
abbrev M(α:Type):=MH->Res α
noncomputable def bnd{α β:Type}(m:M α)(f:α->M β):M β:=λh=>match m h with
 |.ok a h'=>f a h'
 |.exc c h'=>.exc c h'
 |.stuck=>.stuck
noncomputable def ret{α:Type}(a:α):M α:=λh=>.ok a h
noncomputable def stk{α:Type}:M α:=λ_=>.stuck
noncomputable def rse{α:Type}(c:Nat):M α:=λh=>.exc c h
noncomputable def new(o:MO):M MV:=λh=>.ok (.ref h.length) (h++[o])
noncomputable def look(n:Nat):M MO:=λh=>match h[n]? with
 |some o=>.ok o h
 |none=>.stuck
noncomputable def put(n:Nat)(o:MO):M Unit:=λh=>if n<h.length then .ok () (h.set n o) else .stuck
abbrev MSt:=List (Option MV)
abbrev ME:=MSt->M MV
inductive MF where
 |next (σ:MSt)|brk (σ:MSt)|cnt (σ:MSt)|ret (v:MV)
abbrev MS:=MSt->M MF
noncomputable def af(i:Nat):ME:=λσ=>match σ[i]? with
 |some (some v)=>ret v
 |_=>stk
noncomputable def eC(v:MV):ME:=λ_=>ret v
abbrev Op2:=MV->MV->M MV
abbrev Op1:=MV->M MV
noncomputable def aj(f:Op2)(a b:ME):ME:=λσ=>bnd (a σ) λx=>bnd (b σ) λy=>f x y
noncomputable def eUn(f:Op1)(a:ME):ME:=λσ=>bnd (a σ) f
noncomputable def asB:MV->M Bool
 |.bl b=>ret b
 |_=>stk
noncomputable def tst(g:ME)(σ:MSt):M Bool:=bnd (g σ) asB
noncomputable def ia(a:ME):ME:=λσ=>bnd (tst a σ) λb=>ret (.bl (!b))
noncomputable def iE(a b:ME):ME:=λσ=>bnd (tst a σ) λc=>if c=true then b σ else ret (.bl false)
noncomputable def eOr(a b:ME):ME:=λσ=>bnd (tst a σ) λc=>if c=true then ret (.bl true) else b σ
noncomputable def eIf(c a b:ME):ME:=λσ=>bnd (tst c σ) λk=>if k=true then a σ else b σ
abbrev MA:=MSt->M (List MV)
noncomputable def aD:MA:=λ_=>ret []
noncomputable def ao(e:ME)(r:MA):MA:=λσ=>bnd (e σ) λx=>bnd (r σ) λxs=>ret (x::xs)
noncomputable def eJ(a:MA):ME:=λσ=>bnd (a σ) λxs=>if xs.length≤1000 then new (.lst xs) else stk
noncomputable def fh(a:MA):ME:=λσ=>bnd (a σ) λxs=>if xs.length≤1000 then ret (.tup xs) else stk
abbrev Fn:=List MV->M MV
noncomputable def bO(f:Fn)(a:MA):ME:=λσ=>bnd (a σ) f
noncomputable def lK(c:Nat)(f:Fn)(a:MA):ME:=λσ=>bnd (a σ) λxs=>bnd (new (.ins c [])) λo=>bnd (f (o::xs)) λv=>match v with
 |.non=>ret o
 |_=>stk
noncomputable def dJ(c:Nat)(mth:String)(f:Fn)(o:ME)(a:MA):ME:=λσ=>bnd (o σ) λx=>match x with
 |.ref n=>bnd (look n) λob=>match ob with
   |.ins c' fs=>if c'=c/\fs.lookup mth=none then bnd (a σ) λxs=>f (x::xs) else stk
   |_=>stk
 |_=>stk
noncomputable def cj(o:ME)(cs:List Nat)(f:String):ME:=λσ=>bnd (o σ) λx=>match x with
 |.ref n=>bnd (look n) λob=>match ob with
   | .ins c fs=>if cs.contains c=true then (match fs.lookup f with
     |some v=>ret v
     | none=>stk) else stk
   |_=>stk
 |_=>stk
noncomputable def bG:Op2:=λx y=>match x,y with
 |.int i,.int j=>ret (.int (i+j))
 |.str i,.str j=>if i.length+j.length≤100000 then ret (.str (i++j)) else stk
 |.ref a,.ref b=>bnd (look a) λoa=>bnd (look b) λob=>match oa,ob with
   |.lst xs,.lst ys=>if xs.length+ys.length≤100000 then new (.lst (xs++ys)) else stk
   |_,_=>stk
 |_,_=>stk
noncomputable def oh:Op2:=λx y=>match x,y with
 |.int i,.int j=>ret (.int (i-j))
 |_,_=>stk
noncomputable def hU:Op2:=λx y=>match x,y with
 |.int i,.int j=>if(-(2 ^ 64)<i/\i<2 ^ 64)∨(-(2 ^ 64)<j/\j<2 ^ 64) then ret (.int (i*j)) else stk
 |.ref a,.int k=>bnd (look a) λo=>match o with
   |.lst xs=>if -1000000≤k/\k≤1000000/\xs.length*k.toNat≤100000 then new (.lst (bF k.toNat xs).flatten) else stk
   |_=>stk
 |_,_=>stk
noncomputable def cR:Op2:=λx y=>match x,y with
 |.int i,.int j=>if 0<j then ret (.int (i%j)) else stk
 |_,_=>stk
noncomputable def fF:Op2:=λx y=>match x,y with
 |.int i,.int j=>if 0<j/\j<1073741824 then ret (.int (i/j)) else stk
 |_,_=>stk
noncomputable def i8:Op1:=λx=>match x with
 |.int i=>ret (.int (-i))
 |_=>stk
noncomputable def oLt:Op2:=λx y=>match x,y with
 |.int i,.int j=>ret (.bl (decide (i<j)))
 |_,_=>stk
noncomputable def oLe:Op2:=λx y=>match x,y with
 |.int i,.int j=>ret (.bl (decide (i≤j)))
 |_,_=>stk
noncomputable def oGt:Op2:=λx y=>match x,y with
 |.int i,.int j=>ret (.bl (decide (j<i)))
 |_,_=>stk
noncomputable def oGe:Op2:=λx y=>match x,y with
 |.int i,.int j=>ret (.bl (decide (j≤i)))
 |_,_=>stk
noncomputable def iy:MV->Bool
 |.non=>true
 |_=>false
noncomputable def kT:Op1:=λx=>match x with
 |.any=>stk
 |x=>ret (.bl (iy x))
noncomputable def nG:Op1:=λx=>match x with
 |.any=>stk
 |x=>ret (.bl (!iy x))
noncomputable def dget(k:Str):List (Str×MV)->Option MV
 |[]=>none
 |(a,v)::r=>if a=k then some v else dget k r
noncomputable def dput(k:Str)(v:MV)(kvs:List (Str×MV)):List (Str×MV):=if(dget k kvs).isSome=true then kvs.map (λkv=>if kv.1=k then(kv.1,v) else kv) else kvs++[(k,v)]
noncomputable def atN{α:Type}(xs:List α)(i:Int):Option α:=
 if 0≤i then xs[i.toNat]? else if -(xs.length:Int)≤i then xs[(i+xs.length).toNat]? else none
noncomputable def oIx:Op2:=λx y=>match x,y with
 |.ref a,.int i=>bnd (look a) λo=>match o with
   | .lst xs=>(match atN xs i with
     |some v=>ret v
     | none=>stk)
   |_=>stk
 | .tup xs,.int i=>(match atN xs i with
   |some v=>ret v
   | none=>stk)
 | .scr ns,.int i=>(match atN ns i with
   |some v=>ret (.int v)
   | none=>stk)
 | .str s,.int i=>if s.length≤100000 then (match atN s.cps.toList i with
   |some c=>ret (.str ⟨#[c]⟩)
   | none=>stk) else stk
 |.ref a,.str k=>bnd (look a) λo=>match o with
   | .dct kvs=>(match dget k kvs with
     |some v=>ret v
     | none=>stk)
   |_=>stk
 |_,_=>stk
noncomputable def bL:Op1:=λx=>match x with
 |.ref a=>bnd (look a) λo=>match o with
   |.lst xs=>ret (.int xs.length)
   |.dct xs=>ret (.int xs.length)
   |_=>stk
 |.str s=>if s.length≤100000 then ret (.int s.length) else stk
 |.scr ns=>ret (.int ns.length)
 |.tup xs=>ret (.int xs.length)
 |_=>stk
noncomputable def oH:Op1:=λx=>match x with
 |.ref a=>bnd (look a) λo=>match o with
   |.lst xs=>new (.lst xs)
   |_=>stk
 |_=>stk
noncomputable def flat:MV->Bool
 |.ref _=>false
 |.scr _=>false
 |.tup _=>false
 |.any=>false
 |_=>true
noncomputable def iL:MV->MV->Bool
 |.int _,.int _=>true
 |.bl _,.bl _=>true
 |.str _,.str _=>true
 |_,_=>false
noncomputable def gH(f:MV->Option PySem.PyData):List MV->Option (List PySem.PyData)
 |[]=>some []
 |x::r=>match f x,gH f r with
   |some d,some ds=>some (d::ds)
   |_,_=>none
noncomputable def dat(h:MH):Nat->MV->Option PySem.PyData
 |_,.non=>some .none
 |_,.bl b=>some (.bool b)
 |_,.int i=>some (.int i)
 |_,.str s=>some (.str s)
 | n + 1,.tup xs=>(match gH (dat h n) xs with
   |some ds=>some (.tuple ds)
   | none=>none)
 | n + 1,.ref a=>(match h[a]? with
   | some (.lst xs)=>(match gH (dat h n) xs with
     |some ds=>some (.list ds)
     | none=>none)
   | _=>none)
 |_,_=>none
noncomputable def jI(x y:MV):M Bool:=λh=>match dat h 6 x,dat h 6 y with
 |some d,some e=>if PySem.SeqAt.shaped d=true/\PySem.SeqAt.shaped e=true then .ok (PySem.PyData.eqv d e) h else .stuck
 |_,_=>.stuck
def oEq:Op2:=λx y=>if iL x y=true then ret (.bl (decide (x=y))) else bnd (jI x y) λb=>ret (.bl b)
def oNe:Op2:=λx y=>if iL x y=true then ret (.bl (!decide (x=y))) else bnd (jI x y) λb=>ret (.bl (!b))
noncomputable def eqM:MV->MV->Bool
 |.non,.non=>true
 |.bl a,.bl b=>a == b
 |.bl a,.int b=>(if a then 1 else 0) == b
 |.int a,.bl b=>a == (if b then 1 else 0)
 |.int a,.int b=>a == b
 |.str a,.str b=>a == b
 |_,_=>false
noncomputable def inM(x:MV)(xs:List MV):Bool:=xs.any λy=>eqM y x
noncomputable def oIn(neg:Bool):Op2:=λx y=>match y with
 |.ref a=>bnd (look a) λo=>match o with
   |.lst xs=>if flat x=true/\xs.all flat=true then ret (.bl (if neg then !inM x xs else inM x xs)) else stk
   | .dct kvs=>(match x with
     |.str k=>ret (.bl (if neg then !(dget k kvs).isSome else(dget k kvs).isSome))
     | _=>stk)
   |_=>stk
 |.tup xs=>if flat x=true/\xs.all flat=true then ret (.bl (if neg then !inM x xs else inM x xs)) else stk
 |_=>stk
abbrev MKey:=Sum Int Str
noncomputable def me:MV->Option MKey
 |.int i=>some (.inl i)
 |.str s=>some (.inr s)
 |_=>none
noncomputable def jL:List MV->Option (List MKey)
 |[]=>some []
 |x::r=>match me x,jL r with
   |some k,some ks=>some (k::ks)
   |_,_=>none
noncomputable def fP:MV->Option (List MKey)
 |.tup xs=>jL xs
 |_=>none
noncomputable def lV:MV->Option (List MKey)
 |.tup (x::_)=>fP x
 |_=>none
noncomputable def eB(f:MV->Option (List MKey)):List MV->Option (List (List MKey))
 |[]=>some []
 |x::r=>match f x,eB f r with
   |some k,some ks=>some (k::ks)
   |_,_=>none
noncomputable def ltK:List MKey->List MKey->Option Bool
 |[],[]=>some false
 |[],_::_=>some true
 |_::_,[]=>some false
 |x::xs,y::ys=>if x=y then ltK xs ys else match x,y with
   |.inl i,.inl j=>some (decide (i<j))
   |.inr a,.inr b=>some (decide (a.cps.toList<b.cps.toList))
   |_,_=>none
noncomputable def ji(rows:List (List MKey))(i j:Nat):Option Bool:=match rows[i]?,rows[j]? with
 |some x,some y=>if x=y then none else ltK x y
 |_,_=>none
noncomputable def d8(rows:List (List MKey)):Option (List Nat):=
 if rows.length < 2 then some (cM rows.length) else if rows.length < 64 then (match dk (ji rows) (PySem.W.kas_sort rows.length) with
  |some p=>some p.toList
  | none=>none) else none
noncomputable def gT:List MKey->Bool
 |.inl _::_=>true
 |_=>false
noncomputable def pick(xs:List MV)(ix:List Nat):List MV:=ix.map λi=>xs.getD i .non
noncomputable def oE:Op1:=λx=>match x with
 |.ref a=>bnd (look a) λo=>match o with
   | .lst xs=>(match eB fP xs with
     | some rows=>if rows.all gT=true then (match d8 rows with
       |some ix=>new (.lst (pick xs ix))
       | none=>stk) else stk
     | none=>(match eB lV xs with
       | some rows=>(match d8 rows with
         |some ix=>new (.lst (pick xs ix))
         | none=>stk)
       | none=>stk))
   |_=>stk
 |_=>stk
def d7(ke:ME)(fr:MSt):List Str->M (List MV)
 |[]=>ret []
 |k::r=>λh=>match ke (some (.str k)::fr) h with
   |.ok v h'=>if h'=h then bnd (d7 ke fr r) (λvs=>ret (v::vs)) h else .stuck
   |_=>.stuck
def oS(o:ME)(i:Nat)(ke:ME):ME:=λσ=>bnd (o σ) λd=>match d with
 |.ref n=>bnd (look n) λob=>match ob with
   | .dct kvs=>if kvs.length < 64 then bnd (d7 ke [(σ[i]?).getD none] (kvs.map (·.1))) λks=>(match eB fP ks with
     | some rows=>if rows.all gT=true then (match d8 rows with
       |some ix=>new (.lst (pick (kvs.map λkv=>.str kv.1) ix))
       | none=>stk) else stk
     | none=>stk) else stk
   |_=>stk
 |_=>stk
inductive FP where
 |lit (s:Str)|pl (e:ME)|rp (e:ME)
noncomputable def iO(s:Str):Bool:=decide (s.length≤1000)&&s.cps.toList.all λc=>decide (c<16 ^ 8)
noncomputable def g9:FP->MSt->M (Option Str)
 |.lit s,_=>if s.length≤1000 then ret (some s) else stk
 |.pl e,σ=>bnd (e σ) λv=>match v with
   |.str s=>if s.length≤10000 then ret (some s) else stk
   |.int i=>if i.natAbs.log2<100 then ret (some (ah (toString i))) else stk
   |_=>stk
 |.rp e,σ=>bnd (e σ) λv=>match v with
   |.str s=>if iO s=true then ret none else stk
   |_=>stk
noncomputable def fV:List FP->MSt->M (List (Option Str))
 |[],_=>ret []
 |p::r,σ=>bnd (g9 p σ) λx=>bnd (fV r σ) λxs=>ret (x::xs)
noncomputable def iS:Str->List (Option Str)->Option Str
 |acc,[]=>some acc
 |acc,some y::r=>iS (acc++y) r
 |_,none::_=>none
noncomputable def ju(ps:List FP):ME:=λσ=>if ps.length≤100 then bnd (fV ps σ) λxs=>ret (match iS PySem.Str.empty xs with
 |some s=>.str s
 | none=>.any) else stk
noncomputable def fW:List MV->Option (List Str)
 |[]=>some []
 | .str s::r=>(match fW r with
   |some ss=>some (s::ss)
   | none=>none)
 |_=>none
noncomputable def oG:Op2:=λx y=>match x,y with
 |.str sep,.ref a=>bnd (look a) λo=>match o with
   | .lst xs=>(match fW xs with
     |some ss=>if sep.length≤16/\(ss.map (·.length)).sum+ss.length≤100000 then ret (.str (PySem.Txt.join sep ss)) else stk
     | none=>stk)
   |_=>stk
 |_,_=>stk
noncomputable def iD(o e:ME):ME:=λσ=>bnd (o σ) λx=>match x with
 |.str s=>bnd (e σ) λy=>oG (.str s) y
 |_=>stk
inductive Ty where
 |int|bool|str|list|tuple|exn (al cs:List Nat)
noncomputable def js(t:Ty):Op1:=λx=>match x with
 | .non=>(match t with
   |.exn _ _=>stk
   | _=>ret (.bl false))
 | .bl _=>(match t with
   |.bool=>ret (.bl true)
   |.int=>ret (.bl true)
   |.exn _ _=>stk
   | _=>ret (.bl false))
 | .int _=>(match t with
   |.int=>ret (.bl true)
   |.exn _ _=>stk
   | _=>ret (.bl false))
 | .str _=>(match t with
   |.str=>ret (.bl true)
   |.exn _ _=>stk
   | _=>ret (.bl false))
 |.ref n=>bnd (look n) λo=>match o,t with
   |.lst _,.list=>ret (.bl true)
   |.lst _,.exn _ _=>stk
   |.lst _,_=>ret (.bl false)
   |.exn c,.exn al cs=>if al.contains c=true then ret (.bl (cs.contains c)) else stk
   |_,_=>stk
 | .tup _=>(match t with
   |.tuple=>ret (.bl true)
   |.exn _ _=>stk
   | _=>ret (.bl false))
 |.scr _=>stk
 |.any=>stk
noncomputable def cu:MS:=λσ=>ret (.next σ)
noncomputable def aB(a b:MS):MS:=λσ=>bnd (a σ) λf=>match f with
 |.next σ'=>b σ'
 |f=>ret f
noncomputable def fN(e:ME):MS:=λσ=>bnd (e σ) λ_=>ret (.next σ)
noncomputable def aS(i:Nat)(e:ME):MS:=λσ=>bnd (e σ) λv=>ret (.next (σ.set i (some v)))
noncomputable def bI(e:ME):MS:=λσ=>bnd (e σ) λv=>ret (.ret v)
noncomputable def sIf(c:ME)(a b:MS):MS:=λσ=>bnd (tst c σ) λk=>if k=true then a σ else b σ
noncomputable def d6(c:Nat)(a:MA):MS:=λσ=>bnd (a σ) λxs=>if xs.length≤1000 then rse c else stk
noncomputable def putF(f:String)(v:MV):List (String×MV)->List (String×MV)
 |[]=>[(f,v)]
 |(g,u)::r=>if g=f then(g,v)::r else(g,u)::putF f v r
noncomputable def gB(o:ME)(cs:List Nat)(f:String)(e:ME):MS:=λσ=>bnd (e σ) λv=>bnd (o σ) λx=>match x with
 |.ref n=>bnd (look n) λob=>match ob with
   |.ins c fs=>if cs.contains c=true/\fs.length<1000 then bnd (put n (.ins c (putF f v fs))) λ_=>ret (.next σ) else stk
   |_=>stk
 |_=>stk
noncomputable def ixN(n:Nat)(i:Int):Option Nat:=if 0≤i then(if i<n then some i.toNat else none) else if -(n:Int)≤i then some (i+n).toNat else none
noncomputable def kH(o i v:MV):M Unit:=match o,i with
 |.ref n,.int k=>bnd (look n) λob=>match ob with
   | .lst xs=>(match ixN xs.length k with
     |some j=>put n (.lst (xs.set j v))
     | none=>stk)
   |_=>stk
 |.ref n,.str k=>bnd (look n) λob=>match ob with
   |.dct kvs=>if kvs.length<1000 then put n (.dct (dput k v kvs)) else stk
   |_=>stk
 |_,_=>stk
noncomputable def ib(o i e:ME):MS:=λσ=>bnd (e σ) λv=>bnd (o σ) λx=>bnd (i σ) λy=>bnd (kH x y v) λ_=>ret (.next σ)
noncomputable def ul:ME:=λ_=>new (.dct [])
noncomputable def d4(n d:Nat):Option Int->Nat
 |none=>d
 |some v=>if v<0 then(v+(n:Int)).toNat else min v.toNat n
noncomputable def fk{α:Type}(xs:List α)(lo hi:Option Int):List α:=(xs.drop (d4 xs.length 0 lo)).take (d4 xs.length xs.length hi-d4 xs.length 0 lo)
noncomputable def part(e:Option ME)(σ:MSt):M (Option Int):=match e with
 |none=>ret none
 |some g=>bnd (g σ) λv=>match v with
   |.int i=>ret (some i)
   |_=>stk
noncomputable def jF(x:MV)(lo hi:Option Int):M MV:=match x with
 |.ref a=>bnd (look a) λo=>match o with
   |.lst xs=>new (.lst (fk xs lo hi))
   |_=>stk
 |.tup xs=>if d4 xs.length 0 lo=0/\d4 xs.length xs.length hi=xs.length then stk else ret (.tup (fk xs lo hi))
 |.str s=>if s.length≤100000 then ret (.str (PySem.Txt.slice s lo hi)) else stk
 |_=>stk
noncomputable def eSl(a:ME)(lo hi:Option ME):ME:=λσ=>bnd (a σ) λx=>bnd (part lo σ) λl=>bnd (part hi σ) λu=>jF x l u
noncomputable def yf(x v:MV):M MV:=match x with
 |.ref n=>bnd (look n) λob=>match ob with
   |.lst xs=>if xs.length<100000 then bnd (put n (.lst (xs++[v]))) λ_=>ret .non else stk
   |_=>stk
 |_=>stk
noncomputable def oV(o e:ME):ME:=λσ=>bnd (o σ) λx=>match x with
 |.ref n=>bnd (look n) λob=>match ob with
   |.lst _=>bnd (e σ) λv=>yf x v
   |_=>stk
 |_=>stk
inductive Stay where
 |l (p:Nat×List MV)|d (n:Nat) (kvs:List (Str×MV))
instance:Coe (Nat×List MV) Stay:=⟨Stay.l⟩
structure Src where
 items:List (List MV)
 stays:List Stay
def nV(h:MH):List Stay->Bool
 |[]=>true
 |.l (n,xs)::r=>decide (h[n]?=some (.lst xs))&&nV h r
 |.d n kvs::r=>decide (h[n]?=some (.frz kvs))&&nV h r
def Src.okIn(s:Src)(h:MH):Bool:=nV h s.stays
abbrev MI:=MSt->M Src
noncomputable def du(e:ME):MI:=λσ=>bnd (e σ) λx=>match x with
 |.ref n=>bnd (look n) λo=>match o with
   |.lst xs=>ret ⟨xs.map λv=>[v],[(n,xs)]⟩
   |_=>stk
 |_=>stk
noncomputable def de(lo:Int)(n:Nat):List (List MV):=(cM n).map λk=>[.int (lo+(k:Nat))]
noncomputable def fw(e:ME):MI:=λσ=>bnd (e σ) λx=>match x with
 |.int j=>if -(2 ^ 62)≤j/\j<2 ^ 62 then ret ⟨de 0 j.toNat,[]⟩ else stk
 |_=>stk
noncomputable def gM(e e':ME):MI:=λσ=>bnd (e σ) λx=>bnd (e' σ) λy=>match x,y with
 |.int i,.int j=>if -(2 ^ 62)≤i/\i<2 ^ 62/\-(2 ^ 62)≤j/\j<2 ^ 62 then ret ⟨de i (j-i).toNat,[]⟩ else stk
 |_,_=>stk
noncomputable def dI:List Nat->List MV->MSt->MSt
 |i::is,v::vs,σ=>dI is vs (σ.set i (some v))
 |_,_,σ=>σ
def eZ(s:Src)(is:List Nat)(body:MS):List (List MV)->MSt->M MF
 |[],σ=>λh=>if s.okIn h=true then .ok (.next σ) h else .stuck
 | vs::r,σ=>λh=>if s.okIn h=true then bnd (body (dI is vs σ)) (λf=>match f with
   |.next σ'=>eZ s is body r σ'
   |.cnt σ'=>eZ s is body r σ'
   |.brk σ'=>ret (.next σ')
   | .ret v=>ret (.ret v)) h else .stuck
def iu(is:List Nat)(src:MI)(body:MS):MS:=λσ=>bnd (src σ) λs=>eZ s is body s.items σ
def bS(s:Src)(cond:Option ME)(elt:ME)(σ:MSt):List (List MV)->M (List MV)
 |[]=>λh=>if s.okIn h=true then .ok [] h else .stuck
 | vs::r=>λh=>if s.okIn h=true then bnd (match cond with
   |none=>ret true
   | some c=>tst c (σ++vs.map some)) (λk=>if k=true then bnd (elt (σ++vs.map some)) λv=>bnd (bS s cond elt σ r) λws=>ret (v::ws) else bS s cond elt σ r) h else .stuck
noncomputable def noExc{α:Type}(m:M α):M α:=λh=>match m h with
 |.exc _ _=>.stuck
 |r=>r
def cZ(src:MI)(cond:Option ME)(elt:ME):ME:=λσ=>bnd (src σ) λs=>if s.items.length≤100000 then bnd (noExc (bS s cond elt σ s.items)) λvs=>new (.lst vs) else stk
structure Hd where
 cs:List Nat
 nm:Option Nat
 body:MS
noncomputable def wu(i:Nat):MF->MF
 |.next σ=>.next (σ.set i none)
 |.brk σ=>.brk (σ.set i none)
 |.cnt σ=>.cnt (σ.set i none)
 |.ret v=>.ret v
noncomputable def i9(c:Nat)(σ:MSt):List Hd->M MF
 |[]=>stk
 | d::r=>if d.cs.contains c=true then (match d.nm with
   |none=>noExc (d.body σ)
   | some i=>bnd (new (.exn c)) λe=>bnd (noExc (d.body (σ.set i (some e)))) λf=>ret (wu i f))
  else i9 c σ r
noncomputable def mI(al:List Nat)(body:MS)(hs:List Hd):MS:=λσ h=>match body σ h with
 |.ok f h'=>.ok f h'
 |.exc c h'=>if al.contains c=true then i9 c σ hs h' else .stuck
 |.stuck=>.stuck
noncomputable def fnOf(p n:Nat)(body:MS):Fn:=λvs=>if vs.length=p then bnd (body (vs.map some++bF (n-vs.length) none)) λf=>match f with
 |.next _=>ret .non
 |.ret v=>ret v
 |_=>stk
 else stk
end
end L2.Rv
namespace L2.Rv
open PySem PySem.Spec PyProof.Rows
structure Gb where
 cl:Nat->ad
 K:PySem.W.Frag
 sa:ad
 ns:List Int
variable {G:Gb}{m m' m1 m2:List ad}{h h' h1 h2:MH}{H H' H1 H2:Hp}
mutual
def VR(G:Gb)(m:List ad)(H:Hp):MV->V->Prop
 |.non,v=>v=.non
 |.bl b,v=>v=.bl b
 |.int i,v=>v=.int i
 |.str s,v=>v=.str s
 |.ref n,v=>∃a,m[n]?=some a/\v=.ref a
 |.scr ns,v=>ns=G.ns/\v=.ref G.sa
 |.tup xs,v=>∃a vs,v=.ref a/\a∉m/\H a=some (.tup vs)/\VRl G m H xs vs
 |.any,_=>True
def VRl(G:Gb)(m:List ad)(H:Hp):List MV->List V->Prop
 |[],vs=>vs=[]
 |x::xs,vs=>∃y ys,vs=y::ys/\VR G m H x y/\VRl G m H xs ys
end
abbrev VRs(G:Gb)(m:List ad)(H:Hp):List MV->List V->Prop:=cg (VR G m H)
theorem VRl.to:∀{xs:List MV}{vs:List V},VRl G m H xs vs->VRs G m H xs vs
 |[],vs,r=>by cases(show vs=[] from r);exact .nil
 |x::xs,vs,r=>by
   obtain⟨y,ys,e,q,t⟩:=(show ∃y ys,vs=y::ys/\VR G m H x y/\VRl G m H xs ys from r);subst e;exact .cons q (VRl.to t)
theorem VRl.of:∀{xs:List MV}{vs:List V},VRs G m H xs vs->VRl G m H xs vs
 |_,_,.nil=>rfl
 |_,_,.cons q t=>⟨_,_,rfl,q,VRl.of t⟩
def FR(G:Gb)(m:List ad)(H:Hp):List (String×MV)->List (Str×V)->Prop:=cg λp q=>q.1=ah p.1/\VR G m H p.2 q.2
def DR(G:Gb)(m:List ad)(H:Hp):List (Str×MV)->List (Key×V)->Prop:=cg λp q=>q.1=Sum.inr p.1/\VR G m H p.2 q.2
def ExcΦ(a C:ad)(hp:aI):Prop:=∃o vs,hp.get? a=some o/\o.cls=.ref C/\o.dict=none/\o.data=.fields vs
def OR(G:Gb)(m:List ad)(H:Hp)(a:ad):MO->Prop
 |.lst xs=>∃vs,VRs G m H xs vs/\H a=some (.lst vs)
 |.dct kvs=>∃ws,DR G m H kvs ws/\H a=some (.dK ws)
 |.ins c fs=>∃dx ws,FR G m H fs ws/\H a=some (.ins (G.cl c) dx ws)
 |.exn c=>H a=some (.ext (ExcΦ a (G.cl c)))
 |.frz kvs=>∃ws o,DR G m H kvs ws/\H a=some (.frz o (.dK ws))
noncomputable def ip:Str:="Book.names.<locals>.<lambda>"
def LamΦ(c:ad)(hp:aI):Prop:=∃oc vs t,hp.get? c=some oc/\oc.data=.fields vs/\vs[1]?=some (.str ip t)
def qZ(G:Gb)(m:List ad)(H:Hp):Prop:=G.cl 996=0∨(G.cl 999∉m/\(H (G.cl 999)=some (.tbl #[]) ∨
 ∃c,c∉m/\H c=some (.ext (LamΦ c))/\H (G.cl 999)=some (.tbl #[rawInt (G.cl 998),rawInt (G.cl 997),.ref c])))
def TbX:HO->Prop
 |.tbl _=>True
 |.ext _=>True
 |_=>False
theorem qZ.keep(t:qZ G m H)(k:∀a u,H a=some u->a∉m->TbX u->H' a=some u/\a∉m'):qZ G m' H':=by
 rcases t with t|⟨n,t⟩
 ·exact .inl t
 ·rcases t with t|⟨c,nc,ec,t⟩
  ·obtain⟨e,n'⟩:=k _ _ t n trivial;exact .inr ⟨n',.inl e⟩
  ·obtain⟨e,n'⟩:=k _ _ t n trivial;obtain⟨e2,n2⟩:=k _ _ ec nc trivial;exact .inr ⟨n',.inr ⟨c,n2,e2,e⟩⟩
structure HR(G:Gb)(m:List ad)(h:MH)(H:Hp):Prop where
 len:m.length=h.length
 nd:m.Nodup
 ob:∀(n:Nat) (a:ad) (o:MO),m[n]?=some a->h[n]?=some o->OR G m H a o
 scr:(∃o,H G.sa=some (.frz o (.lst (G.ns.map V.int))))∨∀H0:Hp,SqL G.K H0 G.sa (G.ns.map V.int)
 tab:qZ G m H
structure Ext(m:List ad)(H:Hp)(m':List ad)(H':Hp):Prop where
 pre:∃e,m'=m++e
 fr:∀a o,H a=some o->a∉m->(∀ps,o≠.tbl ps)->H' a=some o/\a∉m'
 fz:∀a o u,H a=some (.frz o u)->H' a=some (.frz o u)
theorem Ext.refl:Ext m H m H:=⟨⟨[],by simp⟩,λ_ _ e n _=>⟨e,n⟩,λ_ _ _ e=>e⟩
theorem Ext.trans(x:Ext m H m1 H1)(y:Ext m1 H1 m2 H2):Ext m H m2 H2:=by
 obtain⟨e,rfl⟩:=x.pre;obtain⟨f,rfl⟩:=y.pre;exact⟨⟨e++f,by simp⟩,λa o q n nt=>let ⟨q1,n1⟩:=x.fr a o q n nt;y.fr a o q1 n1 nt,λa o u q=>y.fz a o u (x.fz a o u q)⟩
theorem Ext.get(x:Ext m H m' H'){n:Nat}{a:ad}(e:m[n]?=some a):m'[n]?=some a:=by
 obtain⟨f,rfl⟩:=x.pre;have hn:n<m.length:=(bT.mp e).1;rw[eM hn];exact e
structure Mn(m:List ad)(H:Hp)(m':List ad)(H':Hp):Prop where
 get:∀(n:Nat) (a:ad),m[n]?=some a->m'[n]?=some a
 tup:∀a vs,H a=some (.tup vs)->a∉m->H' a=some (.tup vs)/\a∉m'
theorem Ext.mn(x:Ext m H m' H'):Mn m H m' H':=⟨λ_ _=>x.get,λa vs e n=>x.fr a _ e n λ_ z=>nomatch z⟩
mutual
theorem VR.mono(x:Mn m H m' H'):∀{v:MV}{v':V},VR G m H v v'->VR G m' H' v v'
 |.ref n,v',r=>by
   obtain⟨a,e,q⟩:=(show ∃a,m[n]?=some a/\v'=.ref a from r);exact⟨a,x.get n a e,q⟩
 |.tup xs,v',r=>by
   obtain⟨a,vs,q,e,z,t⟩:=(show ∃a vs,v'=.ref a/\a∉m/\H a=some (.tup vs)/\VRl G m H xs vs from r);obtain⟨z',e'⟩:=x.tup a vs z e;exact⟨a,vs,q,e',z',VRl.mono x t⟩
 |.non,_,r=>r
 |.bl _,_,r=>r
 |.int _,_,r=>r
 |.str _,_,r=>r
 |.scr _,_,r=>r
 |.any,_,r=>trivial
theorem VRl.mono(x:Mn m H m' H'):∀{xs:List MV}{vs:List V},VRl G m H xs vs->VRl G m' H' xs vs
 |[],_,r=>r
 |y::ys,vs,r=>by
   obtain⟨z,zs,e,q,t⟩:=(show ∃z zs,vs=z::zs/\VR G m H y z/\VRl G m H ys zs from r);exact⟨z,zs,e,VR.mono x q,VRl.mono x t⟩
end
theorem Ext.vr{v:MV}{v':V}(x:Ext m H m' H')(r:VR G m H v v'):VR G m' H' v v':=VR.mono x.mn r
theorem VRs.mono{xs:List MV}{vs:List V}(x:Mn m H m' H')(r:VRs G m H xs vs):VRs G m' H' xs vs:=Paired.imp' (λ_ _ q=>VR.mono x q) r
theorem Ext.vrs{xs:List MV}{vs:List V}(x:Ext m H m' H')(r:VRs G m H xs vs):VRs G m' H' xs vs:=VRs.mono x.mn r
theorem OR.mono{a:ad}{o:MO}(x:Mn m H m' H')(e:H' a=H a)(r:OR G m H a o):OR G m' H' a o:=by
 cases o with
 |lst xs=>obtain⟨vs,q,z⟩:=r;exact⟨vs,VRs.mono x q,e.trans z⟩
 |dct kvs=>obtain⟨ws,q,z⟩:=r;exact⟨ws,Paired.imp' (λ_ _ p=>⟨p.1,VR.mono x p.2⟩) q,e.trans z⟩
 |ins c fs=>obtain⟨dx,ws,q,z⟩:=r;exact⟨dx,ws,Paired.imp' (λ_ _ p=>⟨p.1,VR.mono x p.2⟩) q,e.trans z⟩
 |exn c=>exact e.trans r
 |frz kvs=>obtain⟨ws,o,q,z⟩:=r;exact⟨ws,o,Paired.imp' (λ_ _ p=>⟨p.1,VR.mono x p.2⟩) q,e.trans z⟩
theorem OR.some{a:ad}{o:MO}(r:OR G m H a o):∃u,H a=some u:=by
 cases o with
 |lst xs=>obtain⟨vs,q,z⟩:=r;exact⟨_,z⟩
 |dct kvs=>obtain⟨ws,q,z⟩:=r;exact⟨_,z⟩
 |ins c fs=>obtain⟨dx,ws,q,z⟩:=r;exact⟨_,z⟩
 |exn c=>exact⟨_,r⟩
 |frz kvs=>obtain⟨_,_,_,z⟩:=r;exact⟨_,z⟩
theorem HR.get(R:HR G m h H){n:Nat}{a:ad}(e:m[n]?=some a):∃o,h[n]?=some o/\OR G m H a o:=by
 have hn:n<m.length:=(bT.mp e).1;have hn':n<h.length:=by rw[←R.len];exact hn
 exact⟨h[n],by simp[hn'],R.ob n a _ e (by simp[hn'])⟩
theorem HR.mem(R:HR G m h H){a:ad}(e:a∈m):∃u,H a=some u:=by
 obtain⟨n,hn⟩:=mX.mp e;obtain⟨o,_,q⟩:=R.get hn;exact OR.some q
theorem HR.fresh(R:HR G m h H){p:ad}(e:H p=none):p∉m:=λz=>by
 obtain⟨u,q⟩:=R.mem z;rw[e]at q;cases q
theorem xY{α:Type}{l:List α}{x:α}{n:Nat}{a:α}(e:l[n]?=some a):(l++[x])[n]?=some a:=by
 rw[eM (bT.mp e).1];exact e
theorem lq{α:Type}{l:List α}{x:α}{n:Nat}{a:α}(e:(l++[x])[n]?=some a):l[n]?=some a∨(n=l.length/\a=x):=by
 by_cases hn:n<l.length
 ·rw[eM hn]at e;exact .inl e
 ·rw[ic (by lia)]at e;have:n-l.length=0:=by
   have:=(bT.mp e).1;simp at this;lia
  rw[this]at e;simp at e;exact .inr ⟨by lia,e.symm⟩
theorem HR.new(R:HR G m h H){p:ad}{o:MO}{u:HO}(e:H p=none)(ro:OR G (m++[p]) (upd H p u) p o):HR G (m++[p]) (h++[o]) (upd H p u):=by
 have np:=R.fresh e;refine⟨by simp[R.len],?_,λn a ob ea eo=>?_,?_,R.tab.keep λb u z nb _=>⟨by rw[aY (dF z e)];exact z,by simp[nb];exact dF z e⟩⟩
 ·rw[kI];exact⟨R.nd,by simp,λa ha b hb=>by simp at hb;subst hb;intro z;subst z;exact np ha⟩
 ·rcases lq ea with ea|⟨rfl,rfl⟩
  ·have hne:a≠p:=λz=>np (z▸dR ea);have eo':h[n]?=some ob:=by
    rcases lq eo with eo|⟨q,_⟩
    ·exact eo
    ·have:=(bT.mp ea).1;rw[R.len]at this;lia
   exact OR.mono ⟨λ_ _=>xY,λb vs z nb=>⟨by rw[aY (dF z e)];exact z,by simp[nb];exact dF z e⟩⟩ (aY hne) (R.ob n a ob ea eo')
  ·have:ob=o:=by
    rcases lq eo with eo|⟨_,q⟩
    ·have:=(bT.mp eo).1;rw[←R.len]at this;lia
    ·exact q
   subst this;exact ro
 ·rcases R.scr with⟨o',q⟩|q
  ·exact .inl ⟨o',by rw[aY (dF q e)];exact q⟩
  ·exact .inr q
theorem Ext.new(R:HR G m h H){p:ad}{u:HO}(e:H p=none):Ext m H (m++[p]) (upd H p u):=
 ⟨⟨[p],rfl⟩,λa o q n _=>⟨by rw[aY (dF q e)];exact q,by simp[n];exact dF q e⟩,λa o u q=>by rw[aY (dF q e)];exact q⟩
theorem zd{α:Type}{l:List α}(nd:l.Nodup){i j:Nat}{a:α}(e:l[i]?=some a)(f:l[j]?=some a):i=j:=by
 obtain⟨hi,ei⟩:=bT.mp e;obtain⟨hj,ej⟩:=bT.mp f;have p:=pz.mp nd;rcases Nat.lt_trichotomy i j with z|z|z
 ·exact absurd (ei.trans ej.symm) (p i j hi hj z)
 ·exact z
 ·exact absurd (ej.trans ei.symm) (p j i hj hi z)
theorem HR.upd(R:HR G m h H){n:Nat}{a:ad}{o:MO}{u:HO}(ea:m[n]?=some a)(nz:∀o' ys,H a≠some (.frz o' (.lst ys)))(ro:OR G m (L2.upd H a u) a o):HR G m (h.set n o) (L2.upd H a u):=by
 refine⟨by simp[R.len],R.nd,λk b ob eb eo=>?_,?_,R.tab.keep λb u z nb _=>⟨by rw[aY (show b≠a from λy=>nb (by rw[y];exact dR ea))];exact z,nb⟩⟩
 ·by_cases hk:k=n
  ·subst hk;rw[ea]at eb;cases eb;rw[iA (by have:=(bT.mp ea).1;rw[←R.len];exact this)]at eo
   cases eo;exact ro
  ·rw[je (Ne.symm hk)]at eo;have hne:b≠a:=λz=>by
    subst z;exact hk (zd R.nd eb ea)
   exact OR.mono ⟨λ_ _ q=>q,λc vs z nc=>⟨by rw[aY (show c≠a from λy=>nc (by rw[y];exact dR ea))];exact z,nc⟩⟩ (aY hne) (R.ob k b ob eb eo)
 ·rcases R.scr with⟨o',q⟩|q
  ·exact .inl ⟨o',by rw[aY (λz=>nz o' _ (z▸q))];exact q⟩
  ·exact .inr q
theorem Ext.upd{n:Nat}{a:ad}{u v:HO}(ea:m[n]?=some a)(z:H a=some v)(nf:∀o w,v≠.frz o w:=by intro _ _ q;cases q):Ext m H m (L2.upd H a u):=
 ⟨⟨[],by simp⟩,λb o q nb _=>⟨by rw[aY (show b≠a from λz=>nb (by rw[z];exact dR ea))];exact q,nb⟩,λb o w q=>by rw[aY (show b≠a from λy=>nf o w (Option.some.inj (z.symm.trans (y▸q))))];exact q⟩
theorem Ext.side{q:ad}{u:HO}(e:H q=none):Ext m H m (L2.upd H q u):=⟨⟨[],by simp⟩,λa o z n _=>⟨by rw[aY (dF z e)];exact z,n⟩,λa o u z=>by rw[aY (dF z e)];exact z⟩
theorem HR.side{q:ad}{u:HO}(R:HR G m h H)(e:H q=none):HR G m h (L2.upd H q u):=
 ⟨R.len,R.nd,λn a ob ea eo=>OR.mono (Ext.side e).mn (aY (show a≠q from λz=>R.fresh e (by rw [←z];exact dR ea))) (R.ob n a ob ea eo),by
  rcases R.scr with⟨o',z⟩|z
  ·exact .inl ⟨o',by rw[aY (dF z e)];exact z⟩
  ·exact .inr z,R.tab.keep λb u z nb _=>⟨by rw [aY (dF z e)];exact z,nb⟩⟩
theorem Mn.sideSet{q:ad}{u:HO}(nt:∀ys,H q≠some (.tup ys)):Mn m H m (L2.upd H q u):=⟨λ_ _ e=>e,λa vs z n=>⟨by rw[aY (show a≠q from λy=>nt vs (by rw[←y];exact z))];exact z,n⟩⟩
theorem HR.sideSet{q:ad}{u:HO}(R:HR G m h H)(nq:q∉m)(nt:∀ys,H q≠some (.tup ys))(nz:∀o' ys,H q≠some (.frz o' ys))(nx:∀v,H q=some v->¬TbX v):HR G m h (L2.upd H q u):=
 ⟨R.len,R.nd,λn a ob ea eo=>OR.mono (Mn.sideSet nt) (aY (show a≠q from λz=>nq (by rw [←z];exact dR ea))) (R.ob n a ob ea eo),by
  rcases R.scr with⟨o',z⟩|z
  ·exact .inl ⟨o',by rw[aY (show G.sa≠q from λy=>nz o' _ (by rw[←y];exact z))];exact z⟩
  ·exact .inr z,R.tab.keep λb u z nb tx=>⟨by rw [aY (show b≠q from λy=>nx u (by rw [←y];exact z) tx)];exact z,nb⟩⟩
structure SR(G:Gb)(m:List ad)(H:Hp)(σ:MSt)(σ':St):Prop where
 len:σ.length=σ'.length
 sl:∀(i:Nat) (v:MV),σ[i]?=some (some v)->∃v',σ'[i]?=some (some v')/\VR G m H v v'
theorem SR.mono{σ:MSt}{σ':St}(x:Ext m H m' H')(S:SR G m H σ σ'):SR G m' H' σ σ':=⟨S.len,λi v e=>let ⟨v',q,r⟩:=S.sl i v e;⟨v',q,x.vr r⟩⟩
theorem SR.mn{σ:MSt}{σ':St}(x:Mn m H m' H')(S:SR G m H σ σ'):SR G m' H' σ σ':=⟨S.len,λi v e=>let ⟨v',q,r⟩:=S.sl i v e;⟨v',q,VR.mono x r⟩⟩
theorem SR.set{σ:MSt}{σ':St}(S:SR G m H σ σ')(i:Nat){v:MV}{v':V}(r:VR G m H v v'):SR G m H (σ.set i (some v)) (σ'.set i (some v')):=by
 refine⟨by simp[S.len],λj w e=>?_⟩;by_cases hj:i=j
 ·subst hj;have hl:i<σ.length:=by
   have:=(bT.mp e).1;simpa using this
  rw[iA hl]at e;cases e;exact⟨v',by rw[iA (by rw[←S.len];exact hl)],r⟩
 ·rw[je hj]at e ⊢;exact S.sl j w e
theorem SR.forget{σ:MSt}{σ':St}(S:SR G m H σ σ')(i:Nat)(u:Option V):SR G m H (σ.set i none) (σ'.set i u):=by
 refine⟨by simp[S.len],λj w e=>?_⟩;by_cases hj:i=j
 ·subst hj;have hl:i<σ.length:=by
   have:=(bT.mp e).1;simpa using this
  rw[iA hl]at e;cases e
 ·rw[je hj]at e ⊢;exact S.sl j w e
noncomputable def fl(c:Nat):Option ad:=if c<200 then none else some 0
def ij(zf:Option ad)(C a:ad)(ok:ad->Prop)(hp:aI):Prop:=
 ∃oe vs,hp.get? a=some oe/\oe.cls=.ref C/\oe.dict=none/\oe.data=.fields vs/\1<vs.size/\ok a /\
  (vs[1]?=some .none∨∃T oT ts,vs[1]?=some (.ref T)/\T≠a/\hp.get? T=some oT/\oT.data=.fields ts/\3<ts.size/\ok T)/\(zf=none->vs[2]?=some .none)
structure Fp(X:Cx)(pins:List (ad×aw))(H:Hp)(b:ad):Prop where
 un:H b=none
 loc:b≠X.env.locals
 fs:b∉X.fs
 new:b∈X.ex∨X.s₀.heap.get? b=none
 ce:∀x c,X.env.cells.lookup x=some c->c≠b
 pin:∀p∈X.pn++pins,p.1≠b
abbrev Exc(X:Cx)(pins:List (ad×aw))(H:Hp)(zf:Option ad)(C a:ad)(s:ag):Prop:=ij zf C a (Fp X pins H) s.heap
theorem ij.imp{zf:Option ad}{C a:ad}{p q:ad->Prop}{hp:aI}(f:∀b,p b->q b)(x:ij zf C a p hp):ij zf C a q hp:=by
 obtain⟨oe,vs,a1,a2,a3,a4,a5,a6,a7,a8⟩:=x;refine⟨oe,vs,a1,a2,a3,a4,a5,f _ a6,?_,a8⟩;rcases a7 with a7|⟨T,oT,ts,b1,b2,b3,b4,b5,b6⟩
 ·exact .inl a7
 ·exact .inr ⟨T,oT,ts,b1,b2,b3,b4,b5,f _ b6⟩
def XP(G:Gb)(X:Cx)(E:ae->ag->Prop)(EX:St->Prop)(m:List ad)(H:Hp)(c:Nat)(h':MH):Prop:=
 ∀(pins:List (ad×aw)) (σ':St) (m':List ad) (H':Hp) (a:ad) (s':ag),EX σ'->Ext m H m' H'->HR G m' h' H'->Inv X pins σ' H' s'->Exc X pins H' (fl c) (G.cl c) a s'->E (.ref a) s'
def Post{α:Type}(G:Gb)(X:Cx)(E:ae->ag->Prop)(EX:St->Prop)(m:List ad)(H:Hp)(r:Res α)(Q:α->List ad->MH->Hp->Prop):Prop:=
 match r with
 |.ok v h'=>∀m' H',Ext m H m' H'->HR G m' h' H'->Q v m' h' H'
 |.exc c h'=>XP G X E EX m H c h'
 |.stuck=>False
variable {X:Cx}{E:ae->ag->Prop}{EX:St->Prop}
theorem Post.ext{α:Type}{r:Res α}{Q:α->List ad->MH->Hp->Prop}(x:Ext m H m1 H1)(P:Post G X E EX m H r Q):Post G X E EX m1 H1 r Q:=by
 cases r with
 |ok v h'=>exact λm' H' y R=>P m' H' (x.trans y) R
 |exc c h'=>exact λpins σ' m' H' a s' ex y R I q=>P pins σ' m' H' a s' ex (x.trans y) R I q
 |stuck=>exact P
theorem Post.bind{α β:Type}{a:M α}{k:α->M β}{Q:β->List ad->MH->Hp->Prop}(P:Post G X E EX m H (bnd a k h) Q):Post G X E EX m H (a h) λv m1 h1 H1=>Post G X E EX m1 H1 (k v h1) Q:=by
 unfold bnd at P;cases e:a h with
 |ok v h1=>
   rw[e]at P;exact λm' H' y _=>P.ext y
 |exc c h1=>rw[e]at P;exact P
 |stuck=>rw[e]at P;exact P
theorem Post.mono{α:Type}{r:Res α}{Q Q':α->List ad->MH->Hp->Prop}(P:Post G X E EX m H r Q)(f:∀v m' h' H',Ext m H m' H'->HR G m' h' H'->Q v m' h' H'->Q' v m' h' H'):Post G X E EX m H r Q':=by
 cases r with
 |ok v h'=>exact λm' H' y R=>f _ _ _ _ y R (P m' H' y R)
 |exc c h'=>exact P
 |stuck=>exact P
theorem Post.here{α:Type}{v:α}{Q:α->List ad->MH->Hp->Prop}(R:HR G m h H)(P:Post G X E EX m H (.ok v h) Q):Q v m h H:=P m H .refl R
def TGe(G:Gb)(X:Cx)(E:ae->ag->Prop)(EX:St->Prop)(g:ME):TE:=λσ' H Q=>
 ∃m h σ,EX σ'/\SR G m H σ σ'/\HR G m h H/\Post G X E EX m H (g σ h) λv m' _ H'=>∀v',VR G m' H' v v'->Q v' H'
def TGt(G:Gb)(X:Cx)(E:ae->ag->Prop)(EX:St->Prop)(g:ME):TT:=λσ' H Q=>
 ∃m h σ,EX σ'/\SR G m H σ σ'/\HR G m h H/\Post G X E EX m H (tst g σ h) λb _ _ H'=>Q b H'
def TGa(G:Gb)(X:Cx)(E:ae->ag->Prop)(EX:St->Prop)(g:MA):TA:=λσ' H Q=>
 ∃m h σ,EX σ'/\SR G m H σ σ'/\HR G m h H/\Post G X E EX m H (g σ h) λvs m' _ H'=>∀vs',VRs G m' H' vs vs'->Q vs' H'
def TGs(G:Gb)(X:Cx)(E:ae->ag->Prop)(EX:St->Prop)(g:MS):TS:=λD σ' H=>
 ∃m h σ,EX σ'/\SR G m H σ σ'/\HR G m h H/\Post G X E EX m H (g σ h) λf m' _ H'=>match f with
  |.next σ1=>∀σ1',SR G m' H' σ1 σ1'->D.nx σ1' H'
  |.brk σ1=>∀σ1',SR G m' H' σ1 σ1'->D.bk σ1' H'
  |.cnt σ1=>∀σ1',SR G m' H' σ1 σ1'->D.ct σ1' H'
  |.ret v=>∀v',VR G m' H' v v'->D.rt v' H'
end L2.Rv
namespace L2.Rv
open PySem PySem.Spec PyProof.Rows
variable {G:Gb}{m m' m1 m2:List ad}{h h' h1 h2:MH}{H H' H1 H2:Hp}{X:Cx}{E:ae->ag->Prop}{EX:St->Prop}{σ:MSt}{σ':St}
def GE(G:Gb)(X:Cx)(e:az)(g:ME):Prop:=∀E EX,PE (X.wish E) e (TGe G X E EX g)
def GT(G:Gb)(X:Cx)(e:az)(g:ME):Prop:=∀E EX,PT (X.wish E) e (TGt G X E EX g)
def GW(G:Gb)(X:Cx)(e:az)(g:ME):Prop:=∀E EX,PW (X.wish E) e (TGt G X E EX g)
def GA(G:Gb)(X:Cx)(es:List az)(g:MA):Prop:=∀E EX,PA (X.wish E) es (TGa G X E EX g)
def GS(G:Gb)(EX:St->Prop)(X:Cx)(st:aV)(g:MS):Prop:=∀E,PassesOwn (au X.prog X.w) X.A X.env E->PS (X.wish E) st (TGs G X E EX g)
def GSs(G:Gb)(EX:St->Prop)(X:Cx)(st:List aV)(g:MS):Prop:=∀E,PassesOwn (au X.prog X.w) X.A X.env E->PSs (X.wish E) st (TGs G X E EX g)
abbrev ET:St->Prop:=λ_=>True
theorem dD{e:az}{t t':TE}(p:PE X e t)(f:∀σ H Q,t' σ H Q->t σ H Q):PE X e t':=λpins s σ H Q I hw=>p pins s σ H Q I (f σ H Q hw)
theorem lc{e:az}{t t':TT}(p:PT X e t)(f:∀σ H Q,t' σ H Q->t σ H Q):PT X e t':=λpins s σ H Q I hw=>p pins s σ H Q I (f σ H Q hw)
theorem ze{e:az}{t t':TT}(p:PW X e t)(f:∀σ H Q,t' σ H Q->t σ H Q):PW X e t':=λwh pins s σ H Q I hw=>p wh pins s σ H Q I (f σ H Q hw)
theorem y6{e:List az}{t t':TA}(p:PA X e t)(f:∀σ H Q,t' σ H Q->t σ H Q):PA X e t':=λpos pins s σ H Q I hw=>p pos pins s σ H Q I (f σ H Q hw)
theorem ko{e:aV}{t t':TS}(p:PS X e t)(f:∀D σ H,t' D σ H->t D σ H):PS X e t':=λpins s σ H D I hw=>p pins s σ H D I (f D σ H hw)
theorem zx{e:List aV}{t t':TS}(p:PSs X e t)(f:∀D σ H,t' D σ H->t D σ H):PSs X e t':=λpins s σ H D I hw=>p pins s σ H D I (f D σ H hw)
theorem sub{ga:ME}{β:Type}{k:MV->M β}{Q:β->List ad->MH->Hp->Prop}(ex:EX σ')(S:SR G m H σ σ')(R:HR G m h H)(P:Post G X E EX m H (bnd (ga σ) k h) Q){Rr:V->Hp->Prop}
  (hk:∀v m1 h1 H1 v',Ext m H m1 H1->HR G m1 h1 H1->VR G m1 H1 v v'->Post G X E EX m1 H1 (k v h1) Q->Rr v' H1):TGe G X E EX ga σ' H Rr:=
 ⟨m,h,σ,ex,S,R,P.bind.mono λv m1 h1 H1 x R1 P1 v' r=>hk v m1 h1 H1 v' x R1 r P1⟩
theorem kJ{ga:MA}{β:Type}{k:List MV->M β}{Q:β->List ad->MH->Hp->Prop}(ex:EX σ')(S:SR G m H σ σ')(R:HR G m h H)(P:Post G X E EX m H (bnd (ga σ) k h) Q){Rr:List V->Hp->Prop}
  (hk:∀v m1 h1 H1 v',Ext m H m1 H1->HR G m1 h1 H1->VRs G m1 H1 v v'->Post G X E EX m1 H1 (k v h1) Q->Rr v' H1):TGa G X E EX ga σ' H Rr:=
 ⟨m,h,σ,ex,S,R,P.bind.mono λv m1 h1 H1 x R1 P1 v' r=>hk v m1 h1 H1 v' x R1 r P1⟩
theorem u3{ga:ME}{β:Type}{k:Bool->M β}{Q:β->List ad->MH->Hp->Prop}(ex:EX σ')(S:SR G m H σ σ')(R:HR G m h H)(P:Post G X E EX m H (bnd (tst ga σ) k h) Q){Rr:Bool->Hp->Prop}
  (hk:∀b m1 h1 H1,Ext m H m1 H1->HR G m1 h1 H1->Post G X E EX m1 H1 (k b h1) Q->Rr b H1):TGe G X E EX ga σ' H λx H1=>∃c,x=.bl c/\Rr c H1:=by
 refine⟨m,h,σ,ex,S,R,(Post.bind (a:=ga σ) (k:=asB) P.bind).mono λv m1 h1 H1 x R1 P1 v' r=>?_⟩;cases v with
 |bl b=>
   cases(show v'=V.bl b from r);exact⟨b,rfl,hk b m1 h1 H1 x R1 (Post.here R1 P1)⟩
 |_=>exact P1.elim
theorem mH{ga:ME}{β:Type}{k:Bool->M β}{Q:β->List ad->MH->Hp->Prop}(ex:EX σ')(S:SR G m H σ σ')(R:HR G m h H)(P:Post G X E EX m H (bnd (tst ga σ) k h) Q){Rr:Bool->Hp->Prop}
  (hk:∀b m1 h1 H1,Ext m H m1 H1->HR G m1 h1 H1->Post G X E EX m1 H1 (k b h1) Q->Rr b H1):TGt G X E EX ga σ' H Rr:=
 ⟨m,h,σ,ex,S,R,P.bind.mono λb m1 h1 H1 x R1 P1=>hk b m1 h1 H1 x R1 P1⟩
theorem mV{ga:ME}{Rr:Bool->Hp->Prop}(t:TGt G X E EX ga σ' H Rr):TGe G X E EX ga σ' H λx H1=>∃c,x=.bl c/\Rr c H1:=by
 obtain⟨m,h,σ,ex,S,R,P⟩:=t;refine⟨m,h,σ,ex,S,R,(Post.bind (a:=ga σ) (k:=asB) P).mono λv m1 h1 H1 x R1 P1 v' r=>?_⟩;cases v with
 |bl b=>
   cases(show v'=V.bl b from r);exact⟨b,rfl,Post.here R1 P1⟩
 |_=>exact P1.elim
theorem ai(i:Nat){x:Str}{pos:Pos}(hN:X.N[i]?=some x:=by rfl)(hv:Vis X.env.scope x:=by first|exact Or.inl rfl|exact Or.inr (Or.inl rfl)|exact Or.inr (Or.inr rfl))(hd:(x == ("__debug__":Str))=false:=by decide)
  (hcd:(x == ("__classdict__":Str))=false:=by decide):GE G X (.Name x pos) (af i):=λE EX=>dD (CN (X:=X.wish E) hN hv hd hcd) λσ' H Q e0=>bY e0 λm h σ ex S R P=>by
 unfold af at P;cases e:σ[i]? with
 |none=>simp only[e]at P;exact P.elim
 |some u=>cases u with
   |none=>simp only[e]at P;exact P.elim
   |some v=>
     simp only[e]at P;obtain⟨v',q,r⟩:=S.sl i v e;exact⟨v',q,Post.here R P v' r⟩
theorem kR{e:az}{v:MV}{v':V}(p:∀E,PE (X.wish E) e (tC v'))(r:∀m H,VR G m H v v'):GE G X e (eC v):=λE EX=>dD (p E) λσ' H Q ⟨m,h,σ,ex,S,R,P⟩=>Post.here R P v' (r m H)
theorem ge_int{i j pos}:GE G X (.Constant (.int i) j pos) (eC (.int i)):=kR (λ_=>Az) λ_ _=>rfl
theorem qr{i j pos}:GE G X (.Constant (.bool i) j pos) (eC (.bl i)):=kR (λ_=>DQ) λ_ _=>rfl
theorem lI{j pos}:GE G X (.Constant .none j pos) (eC .non):=kR (λ_=>sV) λ_ _=>rfl
theorem ba{x j pos}:GE G X (.Constant (.str x) j pos) (eC (.str x)):=kR (λ_=>wo) λ_ _=>rfl
theorem kO{x:Str}{i:Int}{u:ae}{pos:Pos}(hg:Gl X x)(hm:X.mg x=some u)(r:aT (.int i) u)(hd:(x == ("__debug__":Str))=false:=by decide):GE G X (.Name x pos) (eC (.int i)):=
 kR (λE=>lL (X:=X.wish E) hg hm r hd) λ_ _=>rfl
def VO(G:Gb)(f:Op2)(r:R2):Prop:=∀(X:Cx) (E:ae->ag->Prop) (EX:St->Prop) (m:List ad) (h:MH) (H:Hp) (x y:MV) (x' y':V) (Q:VK),HR G m h H->VR G m H x x'->VR G m H y y' ->
 Post G X E EX m H (f x y h) (λv m' _ H'=>∀v',VR G m' H' v v'->Q v' H')->r x' y' H Q
section
variable {a b:az}{ga gb:ME}{pos:Pos}{f:Op2}{r:R2}
theorem opG{ta:TE->TE->TE}(vo:VO G f r){Q:VK}(t:TGe G X E EX (aj f ga gb) σ' H Q):tOp r (TGe G X E EX ga) (TGe G X E EX gb) σ' H Q:=by
 obtain⟨m,h,σ,ex,S,R,P⟩:=t;exact sub ex S R P λv m1 h1 H1 v' x1 R1 r1 P1=>sub ex (S.mono x1) R1 P1 λw m2 h2 H2 w' x2 R2 r2 P2=>vo _ _ _ _ _ _ _ _ _ _ _ R2 (x2.vr r1) r2 P2
theorem aP{op:Operator}(ho:∀E,OpR (X.wish E) (binaryOp op) r)(vo:VO G f r)(ha:GE G X a ga)(hb:GE G X b gb):GE G X (.BinOp a op b pos) (aj f ga gb):=λE EX=>
 dD (Bj (ho E) (ha E EX) (hb E EX)) λ_ _ _ t=>opG (ta:=λa _=>a) vo t
theorem n9{op:CmpOp}(ho:∀E,OpR (X.wish E) (cP op) r)(vo:VO G f r)(ha:GE G X a ga)(hb:GE G X b gb)(hm:behindInMarks op b=false):GE G X (.Compare a [op] [b] pos) (aj f ga gb):=λE EX=>
 dD (Dr (ho E) (ha E EX) (hb E EX) hm) λ_ _ _ t=>opG (ta:=λa _=>a) vo t
theorem bP{op:CmpOp}(ho:∀E,OpR (X.wish E) (cP op) r)(vo:VO G f r)(ha:GE G X a ga)(hb:GE G X b gb)(hm:behindInMarks op b=false):GT G X (.Compare a [op] [b] pos) (aj f ga gb):=λE EX=>
 lc (tD (ho E) (ha E EX) (hb E EX) hm) λ_ _ _ t=>opG (ta:=λa _=>a) vo (mV t)
end
theorem VR.non_iff{v:MV}{v':V}(na:v≠.any)(r:VR G m H v v'):decide (v'=.non)=iy v:=by
 cases v with
 |ref n=>obtain⟨a,_,q⟩:=r;subst q;simp[iy]
 |scr n=>obtain⟨_,q⟩:=r;subst q;simp[iy]
 |tup n=>obtain⟨a,vs,q,_⟩:=r;subst q;simp[iy]
 |non=>cases(show v'=V.non from r);simp[iy]
 |bl b=>cases(show v'=V.bl b from r);simp[iy]
 |int b=>cases(show v'=V.int b from r);simp[iy]
 |str b=>cases(show v'=V.str b from r);simp[iy]
 |any=>exact absurd rfl na
section
variable {a:az}{ga:ME}{pos pos':Pos}{j:Nat}
theorem isG{Q:VK}(t:TGe G X E EX (eUn kT ga) σ' H Q):tOp (λx y H Q=>y=.non/\Q (.bl (decide (x=.non))) H) (TGe G X E EX ga) (tC .non) σ' H Q:=by
 obtain ⟨m,h,σ,ex,S,R,P⟩:=t;exact sub ex S R P λv m1 h1 H1 v' x1 R1 r1 P1=>⟨rfl,by
  by_cases na:v=.any
  ·subst na;exact P1.elim
  ·rw [r1.non_iff na];cases v <;> first | exact Post.here R1 P1 _ rfl | exact absurd rfl na⟩
theorem Ei{Q:VK}(t:TGe G X E EX (eUn nG ga) σ' H Q):tOp (λx y H Q=>y=.non/\Q (.bl (!decide (x=.non))) H) (TGe G X E EX ga) (tC .non) σ' H Q:=by
 obtain ⟨m,h,σ,ex,S,R,P⟩:=t;exact sub ex S R P λv m1 h1 H1 v' x1 R1 r1 P1=>⟨rfl,by
  by_cases na:v=.any
  ·subst na;exact P1.elim
  ·rw [r1.non_iff na];cases v <;> first | exact Post.here R1 P1 _ rfl | exact absurd rfl na⟩
theorem zc(ha:GE G X a ga):GT G X (.Compare a [.Is] [.Constant .none j pos'] pos) (eUn kT ga):=λE EX=>lc (tD G6 (ha E EX) sV (bQ _)) λ_ _ _ t=>isG (mV t)
theorem BD(ha:GE G X a ga):GT G X (.Compare a [.IsNot] [.Constant .none j pos'] pos) (eUn nG ga):=λE EX=>lc (tD AN (ha E EX) sV (bQ _)) λ_ _ _ t=>Ei (mV t)
theorem jY(ha:GE G X a ga):GE G X (.UnaryOp .USub a pos) (eUn i8 ga):=λE EX=>dD (Ac Ek (ha E EX)) λσ' H Q e0=>bY e0 λm h σ ex S R P=>
 sub ex S R P λv m1 h1 H1 v' x1 R1 r1 P1=>by
  cases v with
  |int i=>cases(show v'=V.int i from r1);exact⟨i,rfl,Post.here R1 P1 _ rfl⟩
  |_=>exact P1.elim
end
section
variable {a b c:az}{ga gb gc:ME}{pos:Pos}{rest:List az}
theorem t4(ha:GE G X a ga)(he:∀whole,isTrue a X.env whole=(do let v ←whole;standAt a.pos;holding [v] (truthy v)):=by intro _;rfl):GT G X a ga:=λE EX=>
 lc (DO (X:=X.wish E) (ha E EX) he) λσ' H Q t=>mV t
theorem GW.gt(h:GW G X a ga):GT G X a ga:=λE EX=>(h E EX).pt
theorem fM(op:BoolOp)(ha:GT G X a ga):GW G X (.BoolOp op [a] pos) ga:=λE EX=>by
 cases op with
 |And=>exact Fv (ha E EX)
 |Or=>exact Al (ha E EX)
theorem jk{α β γ:Type}(a:M α)(f:α->M β)(g:β->M γ):bnd (bnd a f) g=bnd a λx=>bnd (f x) g:=by
 funext h;unfold bnd;cases a h <;> rfl
theorem Fo:tst (iE ga gb) σ=bnd (tst ga σ) λc=>if c=true then tst gb σ else ret false:=by
 show bnd (bnd (tst ga σ) _) asB=_;rw[jk];congr 1;funext c;cases c <;> rfl
theorem DA:tst (eOr ga gb) σ=bnd (tst ga σ) λc=>if c=true then ret true else tst gb σ:=by
 show bnd (bnd (tst ga σ) _) asB=_;rw[jk];congr 1;funext c;cases c <;> rfl
theorem Cd:tst (ia ga) σ=bnd (tst ga σ) λc=>ret (!c):=by
 show bnd (bnd (tst ga σ) _) asB=_;rw[jk];rfl
theorem AB(ha:GT G X a ga)(hb:GW G X (.BoolOp .And (b::rest) pos) gb):GW G X (.BoolOp .And (a::b::rest) pos) (iE ga gb):=λE EX=>
 ze (Dc (ha E EX) (hb E EX)) λσ' H Q e0=>bY e0 λm h σ ex S R P=>by
  rw[Fo]at P;refine mH ex S R P λk m1 h1 H1 x1 R1 P1=>?_;cases k with
  |true=>exact⟨m1,h1,σ,ex,S.mono x1,R1,P1⟩
  |false=>exact Post.here R1 P1
theorem eT(ha:GT G X a ga)(hb:GW G X (.BoolOp .Or (b::rest) pos) gb):GW G X (.BoolOp .Or (a::b::rest) pos) (eOr ga gb):=λE EX=>
 ze (Cb (ha E EX) (hb E EX)) λσ' H Q e0=>bY e0 λm h σ ex S R P=>by
  rw[DA]at P;refine mH ex S R P λk m1 h1 H1 x1 R1 P1=>?_;cases k with
  |false=>exact⟨m1,h1,σ,ex,S.mono x1,R1,P1⟩
  |true=>exact Post.here R1 P1
theorem qM(ha:GT G X a ga):GT G X (.UnaryOp .Not a pos) (ia ga):=λE EX=>
 lc (AJ (ha E EX)) λσ' H Q e0=>bY e0 λm h σ ex S R P=>by
  rw[Cd]at P;exact mH ex S R P λk m1 h1 H1 x1 R1 P1=>Post.here R1 P1
theorem ua{op:BoolOp}(ha:GE G X a ga):GE G X (.BoolOp op [a] pos) ga:=λE EX=>Bf (ha E EX)
theorem yM(ha:GE G X a ga)(hb:GE G X (.BoolOp .And (b::rest) pos) gb):GE G X (.BoolOp .And (a::b::rest) pos) (iE ga gb):=λE EX=>
 dD (EY (ha E EX) (hb E EX)) λσ' H Q e0=>bY e0 λm h σ ex S R P=>u3 ex S R P λk m1 h1 H1 x1 R1 P1=>by
  cases k with
  |true=>exact⟨m1,h1,σ,ex,S.mono x1,R1,P1⟩
  |false=>exact Post.here R1 P1 _ rfl
theorem wb(ha:GE G X a ga)(hb:GE G X (.BoolOp .Or (b::rest) pos) gb):GE G X (.BoolOp .Or (a::b::rest) pos) (eOr ga gb):=λE EX=>
 dD (E1 (ha E EX) (hb E EX)) λσ' H Q e0=>bY e0 λm h σ ex S R P=>u3 ex S R P λk m1 h1 H1 x1 R1 P1=>by
  cases k with
  |false=>exact⟨m1,h1,σ,ex,S.mono x1,R1,P1⟩
  |true=>exact Post.here R1 P1 _ rfl
theorem GY(ha:GE G X a ga):GE G X (.UnaryOp .Not a pos) (ia ga):=λE EX=>
 dD (Ha (ha E EX)) λσ' H Q ⟨m,h,σ,ex,S,R,P⟩=>u3 ex S R P λk m1 h1 H1 x1 R1 P1=>Post.here R1 P1 _ rfl
theorem vw(hc:GT G X c gc)(ha:GE G X a ga)(hb:GE G X b gb):GE G X (.IfExp c a b pos) (eIf gc ga gb):=λE EX=>
 dD (Cw (hc E EX) (ha E EX) (hb E EX)) λσ' H Q e0=>bY e0 λm h σ ex S R P=>mH ex S R P λk m1 h1 H1 x1 R1 P1=>by
  cases k with
  |true=>exact⟨m1,h1,σ,ex,S.mono x1,R1,P1⟩
  |false=>exact⟨m1,h1,σ,ex,S.mono x1,R1,P1⟩
end
section
variable {e:az}{es:List az}{ge:ME}{ga:MA}{pos:Pos}
theorem aM:GA G X [] aD:=λE EX=>y6 sE λσ' H Q ⟨m,h,σ,ex,S,R,P⟩=>Post.here R P _ .nil
theorem av(he:GE G X e ge)(hr:GA G X es ga)(hs:aU (e::es) X.env=(false,aK e X.env)::aU es X.env:=by rfl):GA G X (e::es) (ao ge ga):=λE EX=>
 y6 (lU (X:=X.wish E) (he E EX) (hr E EX) hs) λσ' H Q ⟨m,h,σ,ex,S,R,P⟩=>sub ex S R P λv m1 h1 H1 v' x1 R1 r1 P1=>kJ ex (S.mono x1) R1 P1 λw m2 h2 H2 w' x2 R2 r2 P2=>Post.here R2 P2 _ (.cons (x2.vr r1) r2)
theorem small{n:Nat}(q:n≤1000):n≤aW:=nL (C6 q)
theorem big{n:Nat}(q:n≤100000):n≤aW:=bV q (by decide)
theorem iI{xs:List MV}{vs:List V}{Q:VK}(R:HR G m h H)(r:VRs G m H xs vs)(P:Post G X E EX m H (new (.lst xs) h) λv m' _ H'=>∀v',VR G m' H' v v'->Q v' H'){p:ad}(hp:H p=none):Q (.ref p) (upd H p (.lst vs)):=by
 have x:=Ext.new (u:=.lst vs) R hp;refine P (m++[p]) (upd H p (.lst vs)) x (R.new hp ⟨vs,x.vrs r,dE⟩) (.ref p) ⟨p,?_,rfl⟩;rw[←R.len];simp
theorem xi{xs:List MV}{vs:List V}{Q:VK}(R:HR G m h H)(r:VRs G m H xs vs)(P:Post G X E EX m H (.ok (.tup xs) h) λv m' _ H'=>∀v',VR G m' H' v v'->Q v' H'){p:ad}(hp:H p=none):Q (.ref p) (upd H p (.tup vs)):=by
 have x:Ext m H m (upd H p (.tup vs)):=Ext.side hp;exact P m (upd H p (.tup vs)) x (R.side hp) (.ref p) ⟨p,vs,rfl,R.fresh hp,dE,VRl.of (x.vrs r)⟩
theorem gz(ha:GA G X es ga):GE G X (.List es pos) (eJ ga):=λE EX=>
 dD (Ba (ha E EX)) λσ' H Q e0=>bY e0 λm h σ ex S R P=>kJ ex S R P λxs m1 h1 H1 vs x1 R1 r1 P1=>by
  split at P1
  ·rename_i hz;exact⟨by rw[←Paired.length r1];exact small hz,λp hp=>iI R1 r1 P1 hp⟩
  ·exact P1.elim
theorem k7{k}(ha:GA G X es ga):GE G X (.Tuple es k pos) (fh ga):=λE EX=>
 dD (GL (ha E EX)) λσ' H Q e0=>bY e0 λm h σ ex S R P=>kJ ex S R P λxs m1 h1 H1 vs x1 R1 r1 P1=>by
  split at P1
  ·rename_i hz;exact⟨by rw[←Paired.length r1];exact small hz,λp hp=>xi R1 r1 P1 hp⟩
  ·exact P1.elim
end
theorem jQ{α β:Type}{R:α->β->Prop}:∀{xs:List α}{ys:List β}{i:Nat}{x:α},cg R xs ys->xs[i]?=some x->∃y,ys[i]?=some y/\R x y
 |_,_,_,_,.nil,e=>by simp at e
 |_,_,0,_,.cons r _,e=>by simp at e;subst e;exact⟨_,rfl,r⟩
 |_,_,i+1,x,.cons _ t,e=>by
   obtain⟨u,h1,h2⟩:=jQ (i:=i) (x:=x) t (by simpa using e);exact⟨u,by simpa using h1,h2⟩
theorem im{α β:Type}{R:α->β->Prop}:∀{xs zs:List α}{ys ws:List β},cg R xs ys->cg R zs ws->cg R (xs++zs) (ys++ws)
 |_,_,_,_,.nil,s=>s
 |_,_,_,_,.cons r t,s=>.cons r (im t s)
theorem vC{α β:Type}{R:α->β->Prop}{x:α}{y:β}(r:R x y):∀{xs:List α}{ys:List β}(i:Nat),cg R xs ys->cg R (xs.set i x) (ys.set i y)
 |_,_,_,.nil=>.nil
 |_,_,0,.cons _ t=>.cons r t
 |_,_,i+1,.cons q t=>.cons q (vC r i t)
theorem cX{β:Type}{n:Nat}{a:ad}{k:MO->M β}{Q:β->List ad->MH->Hp->Prop}(R:HR G m h H)(e:m[n]?=some a)(P:Post G X E EX m H (bnd (look n) k h) Q) :
  ∃o,h[n]?=some o/\OR G m H a o/\Post G X E EX m H (k o h) Q:=by
 obtain⟨o,e1,q⟩:=R.get e;refine⟨o,e1,q,?_⟩;simpa only[bnd,look,e1] using P
theorem zt{f:Op2}{C:Int->Int->Prop}{g:Int->Int->V}{gm:Int->Int->MV}(hf:∀i j h (Q:MV->List ad->MH->Hp->Prop) X E EX m H,HR G m h H->Post G X E EX m H (f (.int i) (.int j) h) Q->C i j/\Q (gm i j) m h H)(hg:∀m H i j,VR G m H (gm i j) (g i j))
  (hn:∀x y h,(∀i j,¬(x=.int i/\y=.int j))->f x y h=.stuck):VO G f (rI C g):=by
 intro X E EX m h H x y x' y' Q R rx ry P;by_cases e:∃i j,x=.int i/\y=.int j
 ·obtain⟨i,j,rfl,rfl⟩:=e;obtain⟨c,q⟩:=hf i j h _ X E EX m H R P;exact⟨i,j,rx,ry,c,q _ (hg m H i j)⟩
 ·rw[hn x y h λi j z=>e ⟨i,j,z⟩]at P;exact P.elim
theorem ow{f:Op2}{g:Int->Int->V}{gm:Int->Int->MV}(hf:∀i j h,f (.int i) (.int j) h=.ok (gm i j) h)(hg:∀m H i j,VR G m H (gm i j) (g i j))
  (hn:∀x y h,(∀i j,¬(x=.int i/\y=.int j))->f x y h=.stuck):VO G f (rI0 g):=by
 intro X E EX m h H x y x' y' Q R rx ry P;by_cases e:∃i j,x=.int i/\y=.int j
 ·obtain⟨i,j,rfl,rfl⟩:=e;rw[hf]at P;exact⟨i,j,rx,ry,Post.here R P _ (hg m H i j)⟩
 ·rw[hn x y h λi j z=>e ⟨i,j,z⟩]at P;exact P.elim
theorem u8:VO G oh (rI0 λi j=>.int (i-j)):=ow (gm:=λi j=>.int (i-j)) (λ_ _ _=>rfl) (λ_ _ _ _=>rfl) λx y h n=>by
 cases x <;> cases y <;> first|rfl|exact absurd ⟨rfl,rfl⟩ (n _ _)
theorem jW:VO G oLt (rI0 λi j=>.bl (decide (i<j))):=ow (gm:=λi j=>.bl (decide (i<j))) (λ_ _ _=>rfl) (λ_ _ _ _=>rfl) λx y h n=>by
 cases x <;> cases y <;> first|rfl|exact absurd ⟨rfl,rfl⟩ (n _ _)
theorem yc:VO G oLe (rI0 λi j=>.bl (decide (i≤j))):=ow (gm:=λi j=>.bl (decide (i≤j))) (λ_ _ _=>rfl) (λ_ _ _ _=>rfl) λx y h n=>by
 cases x <;> cases y <;> first|rfl|exact absurd ⟨rfl,rfl⟩ (n _ _)
theorem gQ:VO G oGt (rI0 λi j=>.bl (decide (j<i))):=ow (gm:=λi j=>.bl (decide (j<i))) (λ_ _ _=>rfl) (λ_ _ _ _=>rfl) λx y h n=>by
 cases x <;> cases y <;> first|rfl|exact absurd ⟨rfl,rfl⟩ (n _ _)
theorem zh:VO G oGe (rI0 λi j=>.bl (decide (j≤i))):=ow (gm:=λi j=>.bl (decide (j≤i))) (λ_ _ _=>rfl) (λ_ _ _ _=>rfl) λx y h n=>by
 cases x <;> cases y <;> first|rfl|exact absurd ⟨rfl,rfl⟩ (n _ _)
def yn:R2:=λx y H Q=>rI CMul (λi j=>.int (i*j)) x y H Q∨yX x y H Q
theorem lB:OpR X (binaryOp .Mult) yn:=AG.or Aa
theorem vQ{α β:Type}{Rr:α->β->Prop}{xs:List α}{ys:List β}(r:cg Rr xs ys):∀k,cg Rr (bF k xs).flatten (bF k ys).flatten
 |0=>.nil
 |k+1=>by
   rw[f7,f7,f8,f8];exact im r (vQ r k)
theorem lY:VO G hU yn:=by
 intro X E EX m h H x y x' y' Q R rx ry P;cases x with
 |int i=>cases y with
   |int j=>
     unfold hU at P;dsimp only at P;split at P
     ·rename_i c;exact .inl ⟨i,j,rx,ry,c,Post.here R P _ rfl⟩
     ·exact P.elim
   |_=>exact P.elim
 |ref a=>cases y with
   |int j=>
     obtain⟨aa,ea,rfl⟩:=rx;obtain⟨oa,e1,q1,P1⟩:=cX R ea P;cases oa with
     |lst xs=>
       obtain⟨vs,r,z⟩:=q1;dsimp only at P1;split at P1
       ·rename_i c;refine .inr ⟨aa,j,vs,rfl,ry,z,by lia,by lia,by rw[←Paired.length r];exact big c.2.2,λp hp=>iI R (vQ r j.toNat) P1 hp⟩
       ·exact P1.elim
     |_=>exact P1.elim
   |_=>exact P.elim
 |_=>exact P.elim
theorem dL:VO G cR (rI (λ_ j=>0 < j) λi j=>.int (i % j)):=zt (gm:=λi j=>.int (i % j)) (λi j h Q X E EX m H R P=>by
  unfold cR at P;dsimp only at P;split at P
  ·rename_i c;exact⟨c,Post.here R P⟩
  ·exact P.elim) (λ_ _ _ _=>rfl) λx y h n=>by
 cases x <;> cases y <;> first|rfl|exact absurd ⟨rfl,rfl⟩ (n _ _)
theorem g8:VO G fF (rI CDiv λi j=>.int (i / j)):=zt (gm:=λi j=>.int (i / j)) (λi j h Q X E EX m H R P=>by
  unfold fF at P;dsimp only at P;split at P
  ·rename_i c;exact⟨c,Post.here R P⟩
  ·exact P.elim) (λ_ _ _ _=>rfl) λx y h n=>by
 cases x <;> cases y <;> first|rfl|exact absurd ⟨rfl,rfl⟩ (n _ _)
def zE:R2:=λx y H Q=>rI0 (λi j=>.int (i+j)) x y H Q∨((∃i j,x=.str i/\y=.str j/\i.length+j.length≤aW/\Q (.str (i++j)) H)∨zA x y H Q)
theorem cq:OpR X (binaryOp .Add) zE:=Ck.or (Dh.or ES)
theorem cn:VO G bG zE:=by
 intro X E EX m h H x y x' y' Q R rx ry P;cases x with
 |int i=>cases y with
   |int j=>exact .inl ⟨i,j,rx,ry,Post.here R P _ rfl⟩
   |_=>exact P.elim
 |str i=>cases y with
   |str j=>
     unfold bG at P;dsimp only at P;split at P
     ·rename_i c;exact .inr (.inl ⟨i,j,rx,ry,big c,Post.here R P _ rfl⟩)
     ·exact P.elim
   |_=>exact P.elim
 |ref a=>cases y with
   |ref b=>
     obtain⟨aa,ea,rfl⟩:=rx;obtain⟨bb,eb,rfl⟩:=ry;obtain⟨oa,e1,q1,P1⟩:=cX R ea P;obtain⟨ob,e2,q2,P2⟩:=cX R eb P1;cases oa with
     |lst xs=>cases ob with
       |lst ys=>
         dsimp only at P2;split at P2
         ·rename_i c;obtain⟨vs,r1,z1⟩:=q1;obtain⟨ws,r2,z2⟩:=q2;exact .inr (.inr ⟨aa,bb,vs,ws,rfl,rfl,z1,z2,by rw[←Paired.length r1,←Paired.length r2];exact big c,λp hp=>iI R (im r1 r2) P2 hp⟩)
         ·exact P2.elim
       |_=>exact P2.elim
     |_=>exact P2.elim
   |_=>exact P.elim
 |non=>exact P.elim
 |bl _=>exact P.elim
 |scr _=>exact P.elim
 |tup _=>exact P.elim
 |any=>exact P.elim
theorem sT{f:MV->Option PyData}{s:ag}:∀{xs:List MV}{vs:List V}{us:List ae}{ds:List PyData},VRs G m H xs vs->Vals vs us->(∀x v u d,VR G m H x v->aT v u->f x=some d->∃as,Reads s.heap u d as)->gH f xs=some ds->∃as,ReadsAll s.heap us ds as
 |_,_,_,ds,.nil,.nil,_,e=>by
   cases(show([]:List PyData)=ds from Option.some.inj e);exact⟨_,.nil⟩
 |x::xs,_,_,ds,.cons r t,.cons q w,k,e=>by
   unfold gH at e;cases e1:f x with
   |none=>rw[e1]at e;cases e
   |some d=>
     cases e2:gH f xs with
     |none=>rw[e1,e2]at e;cases e
     |some es=>
       rw[e1,e2]at e;cases e;obtain⟨as,h1⟩:=k _ _ _ _ r q e1;obtain⟨bs,h2⟩:=sT t w k e2;exact⟨_,.cons h1 h2⟩
theorem jw{pins:List (ad×aw)}{s:ag}{σ2:St}(I:Inv X pins σ2 H s)(R:HR G m h H):∀(n:Nat) (x:MV) (v:V) (u:ae) (d:PyData),VR G m H x v->aT v u->dat h n x=some d->∃as,Reads s.heap u d as:=by
 intro n
 induction n with
 |zero=>
   intro x v u d r q e;cases x with
   |non=>cases(show v=V.non from r);cases q;cases(show some PyData.none=some d from e);exact⟨_,.none⟩
   |bl b=>cases(show v=V.bl b from r);cases q;cases(show some (PyData.bool b)=some d from e);exact⟨_,.bool b⟩
   |int i=>cases(show v=V.int i from r);obtain⟨t,rfl⟩:=q;cases(show some (PyData.int i)=some d from e);exact⟨_,.int i t⟩
   |str i=>cases(show v=V.str i from r);obtain⟨t,rfl⟩:=q;cases(show some (PyData.str i)=some d from e);exact⟨_,.str i t⟩
   |_=>cases(show none=some d from e)
 |succ n ih=>
   intro x v u d r q e;cases x with
   |non=>cases(show v=V.non from r);cases q;cases(show some PyData.none=some d from e);exact⟨_,.none⟩
   |bl b=>cases(show v=V.bl b from r);cases q;cases(show some (PyData.bool b)=some d from e);exact⟨_,.bool b⟩
   |int i=>cases(show v=V.int i from r);obtain⟨t,rfl⟩:=q;cases(show some (PyData.int i)=some d from e);exact⟨_,.int i t⟩
   |str i=>cases(show v=V.str i from r);obtain⟨t,rfl⟩:=q;cases(show some (PyData.str i)=some d from e);exact⟨_,.str i t⟩
   |tup xs=>
     obtain⟨a,vs,rfl,_,z,rl⟩:=(show ∃a vs,v=.ref a/\a∉m/\H a=some (.tup vs)/\VRl G m H xs vs from r);cases q;unfold dat at e;cases e1:gH (dat h n) xs with
     |none=>rw[e1]at e;cases e
     |some ds=>
       rw[e1]at e;cases e;obtain⟨its,rv,p,hz⟩:=I.tuple (SqT.of z);obtain⟨as,hr⟩:=sT (VRl.to rl) rv (λx v u d=>ih x v u d) e1;obtain⟨o,ho,hc,k,hd⟩:=(show s.heap.IsTuple a its.toArray from p);exact⟨_,reads_tuple_at ho hc hd (by simpa using hr)⟩
   |ref i=>
     obtain⟨a,ea,rfl⟩:=(show ∃a,m[i]?=some a/\v=.ref a from r);cases q;obtain⟨ob,eo,qo⟩:=R.get ea;unfold dat at e;rw[eo]at e;cases ob with
     |lst xs=>
       dsimp only at e;obtain⟨vs,rl,z⟩:=qo;cases e1:gH (dat h n) xs with
       |none=>rw[e1]at e;cases e
       |some ds=>
         rw[e1]at e;cases e;obtain⟨its,rv,p,hz⟩:=I.list (SqL.of z);obtain⟨as,hr⟩:=sT rl rv (λx v u d=>ih x v u d) e1;obtain⟨o,ho,hc,k,hd⟩:=p.isList;exact⟨_,reads_list_at ho hc hd (by simpa using hr)⟩
     |_=>cases(show none=some d from e)
   |scr _=>cases(show none=some d from e)
   |any=>cases(show none=some d from e)
def sC(neg:Bool):R2:=λx y H Q=>(∃(G:Gb) (m:List ad) (h:MH) (a b:MV) (d e:PyData),HR G m h H/\VR G m H a x/\VR G m H b y/\dat h 6 a=some d/\dat h 6 b=some e/\(SeqAt.shaped d=true/\SeqAt.shaped e=true)/\Q (.bl (if neg then !PyData.eqv d e else PyData.eqv d e)) H)
theorem fq(hu:X.A.units+64<cLine):OpR X (cP .Eq) (λx y H Q=>rEq x y H Q∨sC false x y H Q):=by
 refine CU.or ?_;rintro pins s σ2 H x y v u Q I rx ry ⟨G,m,h,a,b,d,e,R,ra,rb,da,db,sh,q⟩;obtain⟨as,r1⟩:=jw I R 6 a x v d ra rx da;obtain⟨bs,r2⟩:=jw I R 6 b y u e rb ry db;exact eq_dataH r1 r2 sh.1 sh.2 hu ⟨.bl _,H,I,rfl,q⟩
theorem j5(hu:X.A.units+64<cLine):OpR X (cP .NotEq) (λx y H Q=>rNe x y H Q∨sC true x y H Q):=by
 refine Bi.or ?_;rintro pins s σ2 H x y v u Q I rx ry ⟨G,m,h,a,b,d,e,R,ra,rb,da,db,sh,q⟩;obtain⟨as,r1⟩:=jw I R 6 a x v d ra rx da;obtain⟨bs,r2⟩:=jw I R 6 b y u e rb ry db;exact ne_dataH r1 r2 sh.1 sh.2 hu ⟨.bl _,H,I,rfl,q⟩
theorem vA{β:Type}{x y:MV}{k:Bool->M β}{Q:β->List ad->MH->Hp->Prop}(P:Post G X E EX m H (bnd (jI x y) k h) Q):∃d e,dat h 6 x=some d/\dat h 6 y=some e/\(SeqAt.shaped d=true/\SeqAt.shaped e=true)/\Post G X E EX m H (k (PyData.eqv d e) h) Q:=by
 unfold bnd jI at P;cases e1:dat h 6 x with
 |none=>rw[e1]at P;exact P.elim
 |some d=>
   cases e2:dat h 6 y with
   |none=>rw[e1,e2]at P;exact P.elim
   |some e=>
     rw[e1,e2]at P;dsimp only at P;by_cases c:SeqAt.shaped d=true/\SeqAt.shaped e=true
     ·rw[if_pos c]at P;exact⟨d,e,rfl,rfl,c,P⟩
     ·rw[if_neg c]at P;exact P.elim
theorem fi:VO G oEq (λx y H Q=>rEq x y H Q∨sC false x y H Q):=by
 intro X E EX m h H x y x' y' Q R rx ry P;unfold oEq at P;split at P
 ·rename_i c;refine .inl ?_;cases x <;> cases y <;> first|(exfalso;exact cp c)|(cases rx;cases ry;refine⟨rfl,?_⟩;have q:=Post.here R P _ rfl;simpa using q)
 ·obtain⟨d,e,h1,h2,c,P1⟩:=vA P;exact .inr ⟨G,m,h,x,y,d,e,R,rx,ry,h1,h2,c,Post.here R P1 _ rfl⟩
theorem kj:VO G oNe (λx y H Q=>rNe x y H Q∨sC true x y H Q):=by
 intro X E EX m h H x y x' y' Q R rx ry P;unfold oNe at P;split at P
 ·rename_i c;refine .inl ?_;cases x <;> cases y <;> first|(exfalso;exact cp c)|(cases rx;cases ry;refine⟨rfl,?_⟩;have q:=Post.here R P _ rfl;simpa using q)
 ·obtain⟨d,e,h1,h2,c,P1⟩:=vA P;exact .inr ⟨G,m,h,x,y,d,e,R,rx,ry,h1,h2,c,Post.here R P1 _ rfl⟩
theorem ue{k:Str}:∀{kvs:List (Str×MV)}{ws:List (Key×V)},DR G m H kvs ws->(∀v,dget k kvs=some v->∃v',fR ws (Sum.inr k)=some v'/\VR G m H v v')/\(dget k kvs=none->fR ws (Sum.inr k)=none)
 |_,_,.nil=>⟨λv e=>(by cases e),λ_=>rfl⟩
 |(a,u)::kvs,(b,u')::ws,.cons ⟨q,r⟩ t=>by
   have q:b=Sum.inr a:=q;subst q;have ih:=ue (k:=k) t;unfold dget;by_cases e:a=k
   ·subst e;rw[if_pos rfl,o7 rfl];exact⟨λv e=>⟨u',rfl,by cases e;exact r⟩,λe=>by cases e⟩
   ·rw[if_neg e,qJ (λz=>e (Sum.inr.inj z))];exact ih
theorem xn{k:Str}{kvs:List (Str×MV)}{ws:List (Key×V)}(r:DR G m H kvs ws):(ws.any λkv=>decide (kv.1=Sum.inr k))=(dget k kvs).isSome:=by
 rw[qK];obtain⟨a,b⟩:=ue (k:=k) r;cases e:dget k kvs with
 |none=>rw[b e];rfl
 |some v=>obtain⟨v',e',_⟩:=a v e;rw[e'];rfl
theorem zZ{k:Str}{v:MV}{v':V}(rv:VR G m H v v'){kvs:List (Str×MV)}{ws:List (Key×V)}(r:DR G m H kvs ws):DR G m H (dput k v kvs) (fB ws (Sum.inr k) v'):=by
 unfold dput fB;rw[xn r];by_cases c:(dget k kvs).isSome=true
 ·rw[if_pos c,if_pos c]
  clear c
  induction r with
  |nil=>exact .nil
  |cons p t ih=>
    rename_i x y l1 l2;simp only[aN];by_cases e:x.1=k
    ·rw[if_pos e,if_pos (by rw[p.1,e])];exact .cons ⟨p.1,rv⟩ ih
    ·rw[if_neg e,if_neg (by rw[p.1];exact λz=>e (Sum.inr.inj z))];exact .cons p ih
 ·rw[if_neg c,if_neg c];exact im r (.cons ⟨rfl,rv⟩ .nil)
def xU:R2:=λx y H Q=>∃a v,x=.ref a/\DGet H a y (some v)/\Q v H
theorem BF(hu:X.A.units+1<cLine):IxR X xU:=by
 rintro value slice pins s σ H x y v u Q I rx ry ⟨a,w,ex,g,q⟩ hs;subst ex;cases rx;exact tail_any (Bu I g) PySem.F.slot_dict_getitem.lookup (GB hu I g ry λw' s3 I3 rw'=>⟨w,H,I3,rw',q⟩) hs
def BS(K:PySem.W.Frag):R2:=λx y H Q=>rIx K x y H Q∨xU x y H Q
theorem pK{α:Type}(xs:List α)(i:Int):atI xs i=atN xs i:=by
 unfold atI atN L2.ixN;by_cases h0:0≤i
 ·rw[if_pos h0,if_pos h0];by_cases hn:i<xs.length
  ·rw[if_pos hn];rfl
  ·rw[if_neg hn];exact(u2.mpr (by lia)).symm
 ·rw[if_neg h0,if_neg h0];by_cases hn:-(xs.length:Int)≤i
  ·rw[if_pos hn,if_pos hn];rfl
  ·rw[if_neg hn,if_neg hn];rfl
theorem zO{α β:Type}{Rr:α->β->Prop}{xs:List α}{ys:List β}{i:Int}{x:α}(r:cg Rr xs ys)(e:atN xs i=some x):∃y,atN ys i=some y/\Rr x y:=by
 unfold atN at e ⊢;rw[←Paired.length r];split at e
 ·rename_i c;rw[if_pos c];exact jQ r e
 ·rename_i c;rw[if_neg c];split at e
  ·rename_i d;rw[if_pos d];exact jQ r e
  ·cases e
theorem HR.sq(R:HR G m h H):SqL G.K H G.sa (G.ns.map V.int):=by
 rcases R.scr with⟨o,q⟩|q
 ·exact .inl (.inr ⟨o,q⟩)
 ·exact q H
theorem Dx:VO G oIx (BS G.K):=by
 intro X E EX m h H x y x' y' Q R rx ry P;cases x with
 |ref a=>cases y with
   |int i=>
     obtain⟨aa,ea,rfl⟩:=rx;obtain⟨oa,e1,q1,P1⟩:=cX R ea P;cases oa with
     |lst xs=>
       obtain⟨vs,r,z⟩:=q1;dsimp only at P1;cases e:atN xs i with
       |none=>simp only[e]at P1;exact P1.elim
       |some v=>
         simp only[e]at P1;obtain⟨v',e',rv⟩:=zO r e;exact .inl (.inl ⟨aa,vs,i,v',rfl,ry,SqL.of z,by rw[pK];exact e',Post.here R P1 _ rv⟩)
     |_=>exact P1.elim
   |str k=>
     obtain⟨aa,ea,rfl⟩:=rx;obtain⟨oa,e1,q1,P1⟩:=cX R ea P;cases oa with
     |dct kvs=>
       obtain⟨ws,r,z⟩:=q1;dsimp only at P1;cases e:dget k kvs with
       |none=>simp only[e]at P1;exact P1.elim
       |some v=>
         simp only[e]at P1;obtain⟨v',e',rv⟩:=(ue (k:=k) r).1 v e;cases(show y'=V.str k from ry);exact .inr ⟨aa,v',rfl,e'▸DGet.k (k:=Sum.inr k) z,Post.here R P1 _ rv⟩
     |_=>exact P1.elim
   |_=>exact P.elim
 |tup xs=>cases y with
   |int i=>
     obtain⟨aa,vs,rfl,_,z,r⟩:=rx;have r:=VRl.to r;unfold oIx at P;dsimp only at P;cases e:atN xs i with
     |none=>simp only[e]at P;exact P.elim
     |some v=>
       simp only[e]at P;obtain⟨v',e',rv⟩:=zO r e;exact .inl (.inr (.inl ⟨aa,vs,i,v',rfl,ry,SqT.of z,by rw[pK];exact e',Post.here R P _ rv⟩))
   |_=>exact P.elim
 |any=>exact P.elim
 |scr ns=>cases y with
   |int i=>
     obtain⟨e0,rfl⟩:=rx;subst e0;unfold oIx at P;dsimp only at P;cases e:atN G.ns i with
     |none=>simp only[e]at P;exact P.elim
     |some v=>
       simp only[e]at P;refine .inl (.inl ⟨G.sa,G.ns.map V.int,i,.int v,rfl,ry,R.sq,?_,Post.here R P _ rfl⟩);rw[pK];unfold atN at e ⊢;rw[bB];split at e
       ·rename_i c;rw[if_pos c,bX,e];rfl
       ·rename_i c;rw[if_neg c];split at e
        ·rename_i d;rw[if_pos d,bX,e];rfl
        ·cases e
   |_=>exact P.elim
 |non=>exact P.elim
 |bl _=>exact P.elim
 |int _=>exact P.elim
 |str z=>cases y with
   |int i=>
     unfold oIx at P;dsimp only at P;split at P
     ·rename_i c;cases e:atN z.cps.toList i with
      |none=>simp only[e]at P;exact P.elim
      |some cc=>
        simp only[e]at P;exact .inl (.inr (.inr ⟨z,i,cc,rx,ry,big c,by rw[pK];exact e,Post.here R P _ rfl⟩))
     ·exact P.elim
   |_=>exact P.elim
section
variable {a b:az}{ga gb:ME}{pos:Pos}
theorem bK(hu:X.A.units+1<cLine)(ha:GE G X a ga)(hb:GE G X b gb)(hs:w8 b:=by intro _ _;rfl)(hK:X.K=G.K:=by rfl):GE G X (.Subscript a b pos) (aj oIx ga gb):=λE EX=>
 dD (Be (X:=X.wish E) (vf.or (BF hu)) (ha E EX) (hb E EX) hs) λ_ _ _ t=>by
  have:=opG (ta:=λa _=>a) Dx t;rw[←hK]at this;exact this
end
def VO1(G:Gb)(f:Op1)(r:List V->Hp->VK->Prop):Prop:=∀(X:Cx) (E:ae->ag->Prop) (EX:St->Prop) (m:List ad) (h:MH) (H:Hp) (x:MV) (x':V) (Q:VK),HR G m h H->VR G m H x x' ->
 Post G X E EX m H (f x h) (λv m' _ H'=>∀v',VR G m' H' v v'->Q v' H')->r [x'] H Q
section
variable {e:az}{ge:ME}{x:Str}{p pos:Pos}{id T:String}{f:Op1}{r:List V->Hp->VK->Prop}
theorem GE.a1(he:GE G X e ge)(hs:aU [e] X.env=[(false,aK e X.env)]):∀E EX,PA (X.wish E) [e] (uE (TGe G X E EX ge) u0):=λE EX=>lU (X:=X.wish E) (he E EX) sE hs
theorem vE{Q:VK}(vo:VO1 G f r)(t:TGe G X E EX (eUn f ge) σ' H Q):tCB r (uE (TGe G X E EX ge) u0) σ' H Q:=by
 obtain⟨m,h,σ,ex,S,R,P⟩:=t;exact sub ex S R P λv m1 h1 H1 v' x1 R1 r1 P1=>vo _ _ _ _ _ _ _ _ _ R1 r1 P1
theorem cJ(hc:∀E,eQ (X.wish E) (.builtin id) r)(vo:VO1 G f r)(he:GE G X e ge)(hm:X.mg x=none)(hv:bootBuiltins x=some (.builtin id))(hg:Gl X x:=by rfl)(hn:x≠"__name__":=by decide)(hdb:(x == ("__debug__":Str))=false:=by decide)
  (hs:aU [e] X.env=[(false,aK e X.env)]:=by rfl):GE G X (.Call (.Name x p) [e] [] pos) (eUn f ge):=λE EX=>
 dD (wQ (X:=X.wish E) (hc E) hg hm hv (he.a1 hs E EX) hn hdb hs rfl) λ_ _ _ t=>vE vo t
theorem gN(hc:∀E,eQ (X.wish E) (.type T) r)(vo:VO1 G f r)(he:GE G X e ge)(hm:X.mg x=none)(hv:bootBuiltins x=some (.type T))(hg:Gl X x:=by rfl)(hn:x≠"__name__":=by decide)(hdb:(x == ("__debug__":Str))=false:=by decide)
  (hs:aU [e] X.env=[(false,aK e X.env)]:=by rfl):GE G X (.Call (.Name x p) [e] [] pos) (eUn f ge):=λE EX=>
 dD (BN (X:=X.wish E) (hc E) hg hm hv (he.a1 hs E EX) hn hdb hs rfl) λ_ _ _ t=>vE vo t
end
def v2(K:PySem.W.Frag):List V->Hp->VK->Prop:=λxs H Q=>(∃x n,xs=[x]/\wT K x H n/\Q (.int n) H)∨∃a kvs,xs=[V.ref a]/\H a=some (.dK kvs)/\Q (.int kvs.length) H
theorem cY:eQ X (.builtin "len") (v2 X.K):=Gk.or DV
theorem c9:VO1 G bL (v2 G.K):=by
 intro X E EX m h H x x' Q R rx P;cases x with
 |ref a=>
   obtain⟨aa,ea,rfl⟩:=rx;obtain⟨oa,e1,q1,P1⟩:=cX R ea P;cases oa with
   |lst xs=>
     obtain⟨vs,r,z⟩:=q1;exact .inl ⟨_,vs.length,rfl,.inl ⟨vs,SqL.of z,rfl⟩,by rw[←Paired.length r];exact Post.here R P1 _ rfl⟩
   |dct kvs=>
     obtain⟨ws,r,z⟩:=q1;exact .inr ⟨aa,ws,rfl,z,by rw[←Paired.length r];exact Post.here R P1 _ rfl⟩
   |_=>exact P1.elim
 |str y=>
   unfold bL at P;dsimp only at P;split at P
   ·rename_i c;cases(show x'=V.str y from rx);exact .inl ⟨_,y.length,rfl,⟨big c,rfl⟩,Post.here R P _ rfl⟩
   ·exact P.elim
 |scr ns=>
   obtain⟨e0,rfl⟩:=rx;subst e0;exact .inl ⟨_,(G.ns.map V.int).length,rfl,.inl ⟨_,R.sq,rfl⟩,by rw[bB];exact Post.here R P _ rfl⟩
 |tup xs=>
   obtain⟨aa,vs,rfl,_,z,r⟩:=rx;exact .inl ⟨_,vs.length,rfl,.inr ⟨vs,SqT.of z,rfl⟩,by rw[←Paired.length (VRl.to r)];exact Post.here R P _ rfl⟩
 |non=>exact P.elim
 |bl _=>exact P.elim
 |int _=>exact P.elim
 |any=>exact P.elim
def BM(K:PySem.W.Frag):List V->Hp->VK->Prop:=λxs H Q=>∃p ys,xs=[.ref p]/\(SqL K H p ys∨SqT K H p ys)/\∀l,H l=none->Q (.ref l) (L2.upd H l (.lst ys))
theorem yJ:VO1 G oH (BM G.K):=by
 intro X E EX m h H x x' Q R rx P;cases x with
 |ref a=>
   obtain⟨aa,ea,rfl⟩:=rx;obtain⟨oa,e1,q1,P1⟩:=cX R ea P;cases oa with
   |lst xs=>
     obtain⟨vs,r,z⟩:=q1;exact⟨aa,vs,rfl,.inl (SqL.of z),λl hl=>iI R r P1 hl⟩
   |_=>exact P1.elim
 |_=>exact P.elim
section
variable {e o i c:az}{ge go gi gc:ME}{pos pos':Pos}{st:aV}{rest sa sb:List aV}{a b:MS}
theorem cV:GSs G EX X [] cu:=λE hp=>zx Gp λD σ' H ⟨m,h,σ,ex,S,R,P⟩=>Post.here R P σ' S
theorem aO(h1:GS G EX X st a):GSs G EX X [st] a:=λE hp=>G8 (h1 E hp)
theorem aH(h1:GS G ET X st a)(h2:GSs G ET X rest b):GSs G ET X (st::rest) (aB a b):=λE hp=>zx (Bh (h1 E hp) (h2 E hp)) λD σ' H e0=>bY e0 λm h σ ex S R P=>
 ⟨m,h,σ,ex,S,R,P.bind.mono λf m1 h1 H1 x R1 P1=>by
  cases f with
  |next σ1=>exact λσ1' S1=>⟨m1,h1,σ1,trivial,S1,R1,P1⟩
  |brk σ1=>exact Post.here R1 P1
  |cnt σ1=>exact Post.here R1 P1
  | ret v=>exact Post.here R1 P1⟩
theorem gU(he:GE G X e ge)(hs:swapsWith e none pos.line X.env=pure false:=by rfl):GS G EX X (.Expr e pos) (fN ge):=λE hp=>ko (BL (X:=X.wish E) (he E EX) hs) λD σ' H ⟨m,h,σ,ex,S,R,P⟩=>
 sub ex S R P λv m1 h1 H1 v' x1 R1 r1 P1=>Post.here R1 P1 σ' (S.mono x1)
theorem ci(he:GE G X e ge):GS G EX X (.Return (some e) pos) (bI ge):=λE hp=>ko (z8 (X:=X.wish E) (he E EX)) λD σ' H ⟨m,h,σ,ex,S,R,P⟩=>
 sub ex S R P λv m1 h1 H1 v' x1 R1 r1 P1=>Post.here R1 P1 v' r1
theorem cL(hc:GT G X c gc)(ha:GSs G EX X sa a)(hb:GSs G EX X sb b):GS G EX X (.If c sa sb pos) (sIf gc a b):=λE hp=>ko (Ew (hc E EX) (ha E hp) (hb E hp)) λD σ' H e0=>bY e0 λm h σ ex S R P=>
 mH ex S R P λk m1 h1 H1 x1 R1 P1=>by
  cases k with
  |true=>exact⟨m1,h1,σ,ex,S.mono x1,R1,P1⟩
  |false=>exact⟨m1,h1,σ,ex,S.mono x1,R1,P1⟩
theorem bv{n:Nat}{x:Str}(he:GE G X e ge)(hN:X.N.Nodup)(hi:X.N[n]?=some x:=by rfl)(hx:Loc X.env.scope x:=by first|exact Or.inl rfl|exact Or.inr rfl)
  (hs:swapsWith e (some (.Name x pos')) pos.line X.env=pure false:=by rfl) (hf:X.fn x=true∨X.env.scope.names.lookup x=some .local:=by first|exact .inl rfl|exact .inr rfl) :
  GS G EX X (.Assign [.Name x pos'] e pos) (aS n ge):=λE hp=>ko (En (X:=X.wish E) hN hi hx (he E EX) hs hf) λD σ' H ⟨m,h,σ,ex,S,R,P⟩=>
 sub ex S R P λv m1 h1 H1 v' x1 R1 r1 P1=>Post.here R1 P1 _ ((S.mono x1).set n r1)
theorem uG{a b:String}(e:ah a=ah b):a=b:=by
 rw[Str.ofString_eq_toList,Str.ofString_eq_toList]at e;have e1:a.toList.map Char.toNat=b.toList.map Char.toNat:=by simpa using congrArg (λs:Str=>s.cps.toList) e
 have e2:a.toList=b.toList:=by
  have inj:∀(l k:List Char),l.map Char.toNat=k.map Char.toNat->l=k:=by
   intro l
   induction l with
   |nil=>intro k q;cases k with
     |nil=>rfl
     |cons _ _=>simp at q
   |cons x l ih=>intro k q;cases k with
     |nil=>simp at q
     |cons y k=>
       simp only[aN,List.cons.injEq]at q;rw[ih k q.2,Char.toNat_inj.mp q.1]
  exact inj _ _ e1
 exact String.toList_inj.mp e2
theorem zG{f:String}:∀{fs:List (String×MV)}{ws:List (Str×V)}{v:MV},FR G m H fs ws->fs.lookup f=some v->∃v',ws.lookup (ah f)=some v'/\VR G m H v v'
 |_,_,_,.nil,e=>by simp at e
 |(g,u)::fs,(g',u')::ws,v,.cons ⟨q,r⟩ t,e=>by
   have q:g'=ah g:=q;subst q;by_cases hg:f=g
   ·subst hg;simp only[cO,beq_self_eq_true]at e ⊢;cases e;exact⟨u',rfl,r⟩
   ·have h1:(f == g)=false:=by simpa using hg
    have h2:(ah f == ah g)=false:=by
     rw[beq_eq_false_iff_ne];exact λz=>hg (uG z)
    simp only[cO,h1,h2]at e ⊢;exact zG t e
theorem v5{f:String}:∀{fs:List (String×MV)}{ws:List (Str×V)},FR G m H fs ws->fs.lookup f=none->ws.lookup (ah f)=none
 |_,_,.nil,e=>by simp
 |(g,u)::fs,(g',u')::ws,.cons ⟨q,r⟩ t,e=>by
   have q:g'=ah g:=q;subst q;by_cases hg:f=g
   ·subst hg;simp only[cO,beq_self_eq_true]at e;cases e
   ·have h1:(f == g)=false:=by simpa using hg
    have h2:(ah f == ah g)=false:=by
     rw[beq_eq_false_iff_ne];exact λz=>hg (uG z)
    simp only[cO,h1,h2]at e ⊢;exact v5 t e
theorem FR.mono{m':List ad}{H':Hp}{fs:List (String×MV)}{ws:List (Str×V)}(x:Mn m H m' H')(r:FR G m H fs ws):FR G m' H' fs ws:=Paired.imp' (λ_ _ p=>⟨p.1,VR.mono x p.2⟩) r
theorem DR.mono{m':List ad}{H':Hp}{fs:List (Str×MV)}{ws:List (Key×V)}(x:Mn m H m' H')(r:DR G m H fs ws):DR G m' H' fs ws:=Paired.imp' (λ_ _ p=>⟨p.1,VR.mono x p.2⟩) r
theorem yx{f:String}{v:MV}{v':V}(r:VR G m H v v'):∀{fs:List (String×MV)}{ws:List (Str×V)},FR G m H fs ws->FR G m H (putF f v fs) (L2.putF (ah f) v' ws)
 |_,_,.nil=>.cons ⟨rfl,r⟩ .nil
 |(g,u)::fs,(g',u')::ws,.cons ⟨q,ru⟩ t=>by
   have q:g'=ah g:=q;subst q;unfold putF L2.putF;by_cases hg:g=f
   ·subst hg;rw[if_pos rfl,if_pos rfl];exact .cons ⟨rfl,r⟩ t
   ·rw[if_neg hg,if_neg λz=>hg (uG z)];exact .cons ⟨rfl,ru⟩ (yx r t)
def dj(G:Gb)(cs:List Nat)(f:String):Prop:=∀c∈cs,Cls G.K (G.cl c)/\fE G.K (G.cl c) (ah f)
theorem dj.one{c:Nat}{f:String}(a:Cls G.K (G.cl c))(b:fE G.K (G.cl c) (ah f)):dj G [c] f:=λc' q=>by
 cases dC.mp q;exact⟨a,b⟩
theorem fg{f:String}{cs:List Nat}(he:GE G X e ge)(hf:dj G cs f)(hb:attributeBase e (ah f) X.env (aK e X.env)=aK e X.env:=by rfl)(hK:X.K=G.K:=by rfl):GE G X (.Attribute e (ah f) pos) (cj ge cs f):=λE EX=>
 dD (B7 (X:=X.wish E) (he E EX) hb) λσ' H Q e0=>bY e0 λm h σ ex S R P=>sub ex S R P λv m1 h1 H1 v' x1 R1 r1 P1=>by
  cases v with
  |ref n=>
    obtain⟨aa,ea,rfl⟩:=r1;obtain⟨oa,e1,q1,P2⟩:=cX R1 ea P1;cases oa with
    |ins c fs=>
      obtain⟨dx,ws,r,z⟩:=q1;dsimp only at P2;split at P2
      ·rename_i hc;cases ew:fs.lookup f with
       |none=>simp only[ew]at P2;exact P2.elim
       |some w=>
         simp only[ew]at P2;obtain⟨w',ew',rw'⟩:=zG r ew;have k:=hf c (by simpa using hc);rw[←hK]at k;exact⟨aa,_,dx,ws,w',rfl,z,k.1,k.2,ew',Post.here R1 P2 _ rw'⟩
      ·exact P2.elim
    |_=>exact P2.elim
  |_=>exact P1.elim
theorem pE{β:Type}{n:Nat}{o:MO}{k:Unit->M β}{Q:β->List ad->MH->Hp->Prop}{aa:ad}(R:HR G m h H)(e:m[n]?=some aa)(P:Post G X E EX m H (bnd (put n o) k h) Q):Post G X E EX m H (k () (h.set n o)) Q:=by
 have hn:n<h.length:=by rw[←R.len];exact(bT.mp e).1
 simpa only[bnd,put,hn,if_true] using P
theorem kQ{f:String}{cs:List Nat}(ho:GE G X o go)(he:GE G X e ge)(hf:dj G cs f)(hs:swapsWith e (some (.Attribute o (ah f) pos')) pos.line X.env=pure false:=by rfl)(hK:X.K=G.K:=by rfl) :
  GS G EX X (.Assign [.Attribute o (ah f) pos'] e pos) (gB go cs f ge):=λE hp=>
 ko (DW (X:=X.wish E) (ho E EX) (he E EX) hs) λD σ' H e0=>bY e0 λm h σ ex S R P=>sub ex S R P λv m1 h1 H1 v' x1 R1 r1 P1=>sub ex (S.mono x1) R1 P1 λw m2 h2 H2 w' x2 R2 r2 P2=>by
  cases w with
  |ref n=>
    obtain⟨aa,ea,rfl⟩:=r2;obtain⟨oa,e1,q1,P3⟩:=cX R2 ea P2;cases oa with
    |ins c fs=>
      obtain⟨dx,ws,r,z⟩:=q1;dsimp only at P3;split at P3
      ·rename_i hl;have k:=hf c (by simpa using hl.1);rw[←hK]at k;refine⟨aa,_,dx,ws,rfl,z,k.1,k.2,by rw[←Paired.length r];exact hl.2,?_⟩;have P4:=pE R2 ea P3;have x3:Ext m2 H2 m2 (upd H2 aa (.ins (G.cl c) dx (L2.putF (ah f) v' ws))):=Ext.upd ea z;exact P4 _ _ x3 (R2.upd ea (λo' ys z'=>by rw[z]at z';cases z') ⟨dx,_,FR.mono x3.mn (yx (x2.vr r1) r),dE⟩) σ' (((S.mono x1).mono x2).mono x3)
      ·exact P3.elim
    |_=>exact P3.elim
  |_=>exact P2.elim
def Hg:V->V->V->Hp->(Hp->Prop)->Prop:=λo i v H Q=>∃a H4,o=.ref a/\DPut H a i v H4/\Q H4
def t7:V->V->V->Hp->(Hp->Prop)->Prop:=λo i v H Q=>xy o i v H Q∨Hg o i v H Q
theorem mC(hu:X.A.units+1<cLine):PSet X t7:=by
 intro pins s σ H o i v ov iv u Q I ro ri rv q;rcases q with q|⟨a,H4,eo,g,q⟩
 ·exact G5 pins s σ H o i v ov iv u Q I ro ri rv q
 ·subst eo;cases ro;exact CL hu I g ri rv λs4 I4=>⟨H4,I4,q⟩
theorem F4{β:Type}{k:Unit->M β}{Q:β->List ad->MH->Hp->Prop}{x y v:MV}{x' y' v':V}(R:HR G m h H)(rx:VR G m H x x')(ry:VR G m H y y')(rv:VR G m H v v')(P:Post G X E EX m H (bnd (kH x y v) k h) Q) :
  t7 x' y' v' H λH'=>∃h',Ext m H m H'/\HR G m h' H'/\Post G X E EX m H' (k () h') Q:=by
 have P:=Post.bind P;cases x with
 |ref n=>cases y with
   |int i=>
     obtain⟨aa,ea,rfl⟩:=rx;obtain⟨oa,e1,q1,P4⟩:=cX R ea P;cases oa with
     |lst xs=>
       obtain⟨vs,r,z⟩:=q1;dsimp only at P4;cases ej:ixN xs.length i with
       |none=>simp only[ej]at P4;exact P4.elim
       |some j=>
         simp only[ej]at P4;have hj:L2.ixN vs.length i=some j:=by rw[←Paired.length r];exact ej
         refine .inl ⟨aa,vs,i,j,rfl,ry,z,hj,?_⟩;have hn:n<h.length:=by rw[←R.len];exact(bT.mp ea).1
         have x4:Ext m H m (upd H aa (.lst (vs.set j v'))):=Ext.upd ea z;simp only[put,hn,if_true]at P4;have R4:=R.upd (u:=.lst (vs.set j v')) (o:=.lst (xs.set j v)) ea (λo' ys z'=>by rw[z]at z';cases z') ⟨_,x4.vrs (vC rv j r),dE⟩;exact⟨_,x4,R4,P4 _ _ x4 R4⟩
     |_=>exact P4.elim
   |str i=>
     obtain⟨aa,ea,rfl⟩:=rx;obtain⟨oa,e1,q1,P4⟩:=cX R ea P;cases oa with
     |dct kvs=>
       obtain⟨ws,r,z⟩:=q1;dsimp only at P4;split at P4
       ·rename_i hz;cases(show y'=V.str i from ry);refine .inr ⟨aa,_,rfl,DPut.k (k:=Sum.inr i) z (by rw[←Paired.length r];exact c5 hz (small (bc _))),?_⟩
        have hn:n<h.length:=by rw[←R.len];exact(bT.mp ea).1
        have x4:Ext m H m (upd H aa (.dK (fB ws (Sum.inr i) v'))):=Ext.upd ea z;simp only[put,hn,if_true]at P4;have R4:=R.upd (u:=.dK (fB ws (Sum.inr i) v')) (o:=.dct (dput i v kvs)) ea (λo' ys z'=>by rw[z]at z';cases z') ⟨_,DR.mono x4.mn (zZ rv r),dE⟩;exact⟨_,x4,R4,P4 _ _ x4 R4⟩
       ·exact P4.elim
     |_=>exact P4.elim
   |_=>exact P.elim
 |_=>exact P.elim
theorem oB(ho:GE G X o go)(hi:GE G X i gi)(he:GE G X e ge)(hs:swapsWithSole [.Subscript o i pos'] e pos.line X.env=pure false:=by rfl)(hw:swappedStores [.Subscript o i pos'] e X.env=pure none:=by rfl)
  (h1:(assignEach [.Subscript o i pos'] X.env).map (·.2)=[assign (.Subscript o i pos') X.env]:=by rfl) (hg:∀E t t',PE (X.wish E) o t->PE (X.wish E) i t'->PG (X.wish E) (.Subscript o i pos') (xz t t' t7)) :
  GS G EX X (.Assign [.Subscript o i pos'] e pos) (ib go gi ge):=λE hp=>
 ko (Dy (X:=X.wish E) (he E EX) (hg E _ _ (ho E EX) (hi E EX)) hs hw h1) λD σ' H e0=>bY e0 λm h σ ex S R P=>sub ex S R P λv m1 h1 H1 v' x1 R1 r1 P1=>sub ex (S.mono x1) R1 P1 λw m2 h2 H2 w' x2 R2 r2 P2=>
  sub ex ((S.mono x1).mono x2) R2 P2 λy m3 h3 H3 y' x3 R3 r3 P3=>by
   rcases F4 R3 (x3.vr r2) r3 ((x2.trans x3).vr r1) P3 with q|q
   ·obtain⟨p,xs,k,j,e1,e2,e3,e4,h4,x4,R4,P4⟩:=q;exact .inl ⟨p,xs,k,j,e1,e2,e3,e4,Post.here R4 P4 σ' ((((S.mono x1).mono x2).mono x3).mono x4)⟩
   ·obtain⟨a,H4,e1,g,h4,x4,R4,P4⟩:=q;exact .inr ⟨a,H4,e1,g,Post.here R4 P4 σ' ((((S.mono x1).mono x2).mono x3).mono x4)⟩
end
def Row(G:Gb)(m:List ad)(H:Hp)(one:Bool)(vs:List MV)(x:V):Prop:=if one=true then ∃v,vs=[v]/\VR G m H v x else VR G m H (.tup vs) x
def JOk(G:Gb)(J:It)(s:Src)(one:Bool)(k:Nat)(m0:List ad)(H0:Hp):Prop:=∀m h H,Ext m0 H0 m H->HR G m h H->s.okIn h=true ->
 (∀i vs,s.items[i]?=some vs->vs.length=k/\J.go i H/\∀x H',J.yld i H x H'->Ext m H m H'/\HR G m h H'/\Row G m H' one vs x)/\J.stop s.items.length H
def GI(G:Gb)(X:Cx)(tg iter:az)(one:Bool)(k:Nat)(gi:MI):Prop:=∀E EX,∃wi,PI (X.wish E) tg iter wi/\∀σ' H R,(∃m h σ,EX σ'/\SR G m H σ σ'/\HR G m h H/\Post G X E EX m H (gi σ h) λs m1 h1 H1=>∀J,JOk G J s one k m1 H1->R J H1)->wi σ' H R
def GTg(G:Gb)(X:Cx)(tg:az)(one:Bool)(is:List Nat):Prop:=∀E,∃g,PG (X.wish E) tg g/\∀m H vs x σ σ' Q,SR G m H σ σ'->Row G m H one vs x->vs.length=is.length->(∀σ1',SR G m H (dI is vs σ) σ1'->Q σ1' H)->g x σ' H Q
theorem dO{n:Nat}{x:Str}{pos:Pos}(hN:X.N.Nodup)(hi:X.N[n]?=some x:=by rfl)(hx:Loc X.env.scope x:=by first|exact Or.inl rfl|exact Or.inr rfl)(hf:X.fn x=true∨X.env.scope.names.lookup x=some .local:=by first|exact .inl rfl|exact .inr rfl):GTg G X (.Name x pos) true [n]:=λE=>
 ⟨tN n,Gs (X:=X.wish E) hN hi hx hf,λm H vs v σ σ' Q S r hl q=>by
  obtain ⟨w,rfl,rw'⟩:=r;exact q _ (S.set n rw')⟩
theorem jP{tg iter:az}{body:List aV}{gi:MI}{gb:MS}{one:Bool}{is:List Nat}{pos:Pos}(hi:GI G X tg iter one is.length gi)(hg:GTg G X tg one is)(hb:GSs G ET X body gb)(hc:X.calm=true:=by rfl)(hs:∀x,foldedSetIterable iter X.env x=pure x:=by intro _;rfl) :
  GS G ET X (.For tg iter body [] pos) (iu is gi gb):=λE hp=>by
 obtain⟨wi,pw,hw⟩:=hi E ET;obtain⟨g,pg,hg⟩:=hg E;refine ko (D3 (X:=X.wish E) hp hc pw pg (hb E hp) hs) λD σ' H e0=>bY e0 λm h σ ex S R P=>?_
 let QD:MF->List ad->MH->Hp->Prop:=λf m' _ H'=>match f with
  |.next σ1=>∀σ1',SR G m' H' σ1 σ1'->D.nx σ1' H'
  |.brk σ1=>∀σ1',SR G m' H' σ1 σ1'->D.bk σ1' H'
  |.cnt σ1=>∀σ1',SR G m' H' σ1 σ1'->D.ct σ1' H'
  |.ret v=>∀v',VR G m' H' v v'->D.rt v' H'
 refine hw σ' H _ ⟨m,h,σ,trivial,S,R,(Post.bind P).mono λs m1 h1 H1 x1 R1 P1 J hJ=>?_⟩;refine ⟨λk n' σ2' H2=>n'=s.items.length - k/\k≤s.items.length/\∃m2 h2 σ2,Ext m1 H1 m2 H2/\SR G m2 H2 σ2 σ2'/\HR G m2 h2 H2/\Post G X E ET m2 H2 (eZ s is gb (s.items.drop k) σ2 h2) QD,
  ⟨s.items.length,rfl,d9 _,m1,h1,σ,.refl,S.mono x1,R1,P1⟩,?_⟩
 rintro k n' σ2' H2 ⟨rfl,hk,m2,h2,σ2,pre2,S2,R2,P2⟩;by_cases hlt:k<s.items.length
 ·have ed:s.items.drop k=s.items[k]::s.items.drop (k+1):=(qe hlt);rw[ed]at P2;unfold eZ at P2;split at P2
  ·rename_i hok;obtain⟨j1,_⟩:=hJ m2 h2 H2 pre2 R2 hok;obtain⟨lv,go,yl⟩:=j1 k s.items[k] (by simp[hlt]);refine .inr ⟨go,λσ4' H4=>∃m4 h4 σ4,Ext m1 H1 m4 H4/\SR G m4 H4 σ4 σ4'/\HR G m4 h4 H4/\Post G X E ET m4 H4 (eZ s is gb (s.items.drop (k+1)) σ4 h4) QD,λσ4' H4 q=>⟨s.items.length-(k+1),by lia,rfl,hlt,q⟩,λx H' y=>?_⟩;obtain⟨x3,R3,rx⟩:=yl x H' y;refine hg m2 H' _ x σ2 σ2' _ (S2.mono x3) rx lv λσ3' S3=>?_;refine⟨m2,h2,dI is s.items[k] σ2,trivial,S3,R3,((Post.bind P2).ext x3).mono λf m4 h4 H4 x4 R4 P4=>?_⟩;have pre4:Ext m1 H1 m4 H4:=pre2.trans (x3.trans x4);cases f with
   |next σ4=>exact λσ4' S4=>⟨m4,h4,σ4,pre4,S4,R4,P4⟩
   |cnt σ4=>exact λσ4' S4=>⟨m4,h4,σ4,pre4,S4,R4,P4⟩
   |brk σ4=>exact Post.here R4 P4
   |ret v=>exact Post.here R4 P4
  ·exact P2.elim
 ·have e:k=s.items.length:=by lia
  subst e;rw[rD]at P2;unfold eZ at P2;split at P2
  ·rename_i hok;obtain⟨_,st⟩:=hJ m2 h2 H2 pre2 R2 hok;exact .inl ⟨st,Post.here R2 P2 σ2' S2⟩
  ·exact P2.elim
theorem El{n:Nat}{a:ad}{xs:List MV}(K:PySem.W.Frag)(ea:m[n]?=some a):JOk G (Itl K a) ⟨xs.map λv=>[v],[(n,xs)]⟩ true 1 m H:=by
 intro m2 h2 H2 pre R ok;have ea2:m2[n]?=some a:=pre.get ea;have eo:h2[n]?=some (.lst xs):=by simpa[Src.okIn,nV] using ok
 obtain⟨vs,r,z⟩:=R.ob n a _ ea2 eo;refine⟨λi ws ei=>?_,⟨vs,SqL.of z,by simp[Paired.length r]⟩⟩;rw[bX]at ei;cases ev:xs[i]? with
 |none=>rw[ev]at ei;cases ei
 |some v=>
   rw[ev]at ei;cases ei;obtain⟨v',e1,rv⟩:=jQ r ev;refine⟨rfl,⟨vs,v',SqL.of z,e1⟩,λx H' y=>?_⟩;obtain⟨rfl,y2⟩:=y;have:=y2 vs (SqL.of z);rw[e1]at this;cases this;exact⟨.refl,R,v,rfl,rv⟩
theorem gZ{tg l:az}{gl:ME}(hl:GE G X l gl):GI G X tg l true 1 (du gl):=λE EX=>by
 refine⟨_,FZ (X:=X.wish E) (hl E EX),λσ' H R e0=>bY e0 λm h σ ex S Rr P=>?_⟩;refine sub ex S Rr P λv m1 h1 H1 v' x1 R1 r1 P1=>?_;cases v with
 |ref n=>
   obtain⟨aa,ea,rfl⟩:=r1;obtain⟨oa,e1,q1,P2⟩:=cX R1 ea P1;cases oa with
   |lst xs=>
     obtain⟨vs,r,z⟩:=q1;exact⟨aa,rfl,⟨vs,SqL.of z⟩,Post.here R1 P2 _ (El _ ea)⟩
   |_=>exact P2.elim
 |_=>exact P1.elim
theorem wW{lo:Int}{n:Nat}:JOk G (Itr lo n) ⟨de lo n,[]⟩ true 1 m H:=by
 intro m2 h2 H2 _ R ok;refine⟨λi vs ei=>?_,by simp[de,Itr]⟩;have hi:i<n:=by
  have:=(bT.mp ei).1;simpa[de] using this
 unfold de at ei;rw[bX,jO hi]at ei;cases ei;refine⟨rfl,hi,λx H' y=>?_⟩;obtain⟨rfl,y2⟩:=y;exact⟨.refl,R,_,rfl,y2⟩
theorem rg{tg a:az}{ga:ME}{p pos:Pos}(ha:GE G X a ga)(hm:X.mg "range"=none)(hg:Gl X "range":=by rfl)(hs:aU [a] X.env=[(false,aK a X.env)]:=by rfl):GI G X tg (.Call (.Name "range" p) [a] [] pos) true 1 (fw ga):=λE EX=>by
 refine⟨_,DF (X:=X.wish E) hg hm (ha.a1 hs E EX) hs,λσ' H R e0=>bY e0 λm h σ ex S Rr P=>?_⟩;refine sub ex S Rr P λv m1 h1 H1 v' x1 R1 r1 P1=>?_;cases v with
 |int j=>
   cases(show v'=V.int j from r1);dsimp only at P1
   split at P1
   ·rename_i c;exact⟨j,rfl,c.1,c.2,Post.here R1 P1 _ wW⟩
   ·exact P1.elim
 |_=>exact P1.elim
theorem uk{tg a b:az}{ga gb:ME}{p pos:Pos}(ha:GE G X a ga)(hb:GE G X b gb)(hm:X.mg "range"=none)(hg:Gl X "range":=by rfl)(hs:aU [a,b] X.env=[(false,aK a X.env),(false,aK b X.env)]:=by rfl)
  (hs2:aU [b] X.env=[(false,aK b X.env)]:=by rfl):GI G X tg (.Call (.Name "range" p) [a,b] [] pos) true 1 (gM ga gb):=λE EX=>by
 refine⟨_,F3 (X:=X.wish E) hg hm (lU (X:=X.wish E) (ha E EX) (hb.a1 hs2 E EX) (by show aU [a,b] X.env=(false,aK a X.env)::aU [b] X.env;rw[hs,hs2])) hs hs2,λσ' H R e0=>bY e0 λm h σ ex S Rr P=>?_⟩;refine sub ex S Rr P λv m1 h1 H1 v' x1 R1 r1 P1=>sub ex (S.mono x1) R1 P1 λw m2 h2 H2 w' x2 R2 r2 P2=>?_;cases v with
 |int i=>cases w with
   |int j=>
     cases(show v'=V.int i from r1);cases(show w'=V.int j from r2);dsimp only at P2
     split at P2
     ·rename_i c;exact⟨i,j,rfl,c,Post.here R2 P2 _ wW⟩
     ·exact P2.elim
   |_=>exact P2.elim
 |_=>exact P2.elim
def iX(zf:Option ad)(C a:ad)(ok:ad->Prop)(hp:aI):Prop:=
 ∃oe vs T oT ts,hp.get? a=some oe/\oe.cls=.ref C/\oe.dict=none/\oe.data=.fields vs/\1<vs.size/\ok a/\vs[1]?=some (.ref T)/\T≠a/\hp.get? T=some oT/\oT.data=.fields ts/\3<ts.size/\ok T/\(zf=none->vs[2]?=some .none)
theorem iX.sh{zf:Option ad}{C a:ad}{ok:ad->Prop}{hp:aI}(x:iX zf C a ok hp):ij zf C a ok hp:=by
 obtain⟨oe,vs,T,oT,ts,a1,a2,a3,a4,a5,a6,b1,b2,b3,b4,b5,b6,b7⟩:=x;exact⟨oe,vs,a1,a2,a3,a4,a5,a6,.inr ⟨T,oT,ts,b1,b2,b3,b4,b5,b6⟩,b7⟩
section
variable {M:Model}{A:aX}{pins:List (ad×aw)}{s:ag}{zf:Option ad}{C a:ad}{Q:Unit->ag->Prop}
theorem Fp.of{b:ad}(I:Inv X pins σ' H s)(e:s.heap.get? b=none)(n:H' b=none):Fp X pins H' b:=by
 have ne:∀c o,s.heap.get? c=some o->c≠b:=λc o q z=>by rw[z,e]at q;cases q
 refine⟨n,?_,λz=>?_,?_,λx c q=>?_,λp hp=>?_⟩
 ·obtain⟨_,⟨o,_,_,ho,_⟩,_⟩:=I.loc;exact λz=>ne _ o ho z.symm
 ·obtain⟨_,o,ho,_⟩:=I.funs.mem z;exact ne _ o ho rfl
 ·by_cases hx:b∈X.ex
  ·exact .inl hx
  ·cases q:X.s₀.heap.get? b with
   |none=>exact .inr rfl
   |some o=>
     obtain⟨o',q'⟩:=I.base.there b o q hx;exact absurd rfl (ne b o' q')
 ·obtain⟨v,o,ho,_⟩:=I.cell x c q;exact ne c o ho
 ·exact ne _ _ (I.pin p hp).1
theorem Fp.turned{b:ad}{h':aI}{t':Nat}(f:Fp X pins H b)(I:Inv X pins σ' H s)(k:∀c o,c≠b->s.heap.get? c=some o->h'.get? c=some o):Inv X pins σ' H { s with heap:=h',toks:=t' }:=by
 have n0:∀c o,X.s₀.heap.get? c=some o->c∉X.ex->c≠b:=λc o q hx z=>by
  rcases f.new with y|y
  ·exact hx (z▸y)
  ·rw[z,y]at q;cases q
 have ck:∀x c v,X.env.cells.lookup x=some c->s.heap.IsCell c v->h'.IsCell c v:=λx c v q e0=>e0.elim λo e1=>e1.elim λho hd=>⟨o,k c o (f.ce x c q) ho,hd⟩;refine⟨I.ok,I.os,I.bare,⟨λc o q n hb hx=>k c o (n0 c o q hx) (I.base.keep c o q n hb hx),λc o q n hb hx=>?_,λc o q n hx=>I.base.free c o q n hx,λc o q hx=>?_,I.base.tups,I.base.frzs,I.base.tbls⟩,?_,λx c q=>?_,I.free,I.freeC,λp hp=>?_,λc u e=>?_,I.len⟩
 ·obtain⟨sl,z⟩:=I.base.slot c o q n hb hx;exact⟨sl,k c _ (n0 c o q hx) z⟩
 ·obtain⟨o',z⟩:=I.base.there c o q hx;exact⟨o',k c o' (n0 c o q hx) z⟩
 ·obtain⟨mm,⟨o,es,ep,ho,r⟩,hl⟩:=I.loc;refine⟨mm,⟨o,es,ep,k _ o (Ne.symm f.loc) ho,r⟩,λi x v e1 e2 e3=>?_⟩;obtain⟨u,ru,l⟩:=hl i x v e1 e2 e3;refine⟨u,ru,?_⟩;rcases l with l|⟨kk,c,e,z⟩
  ·exact .inl l
  ·exact .inr ⟨kk,c,e,ck x c _ e z⟩
 ·obtain⟨v,z⟩:=I.cell x c q;exact⟨v,ck x c v q z⟩
 ·obtain⟨a1,a2,a3,a4,a5⟩:=I.pin p hp;exact⟨k _ _ (f.pin p hp) a1,a2,a3,a4,a5⟩
 ·refine(I.hok c u e).stay (λd v hd q=>k d v ?_ q) (λ_ q=>q) λ_ _ q=>q;rcases hd with z|z
  ·rw[z];exact λy=>by rw[y,f.un]at e;cases e
  ·exact λy=>by rw[y,f.un]at z;cases z
theorem jj{fr:Option ad}(I:Inv X pins σ' H s)(x:iX zf C a (Fp X pins H) s.heap)(k:∀s',Inv X pins σ' H s'->iX zf C a (Fp X pins H) s'.heap->Q () s'):aq M A (setFlight (.ref a) fr) Q E s:=by
 obtain⟨oe,vs,T,oT,ts,a1,a2,a3,a4,a5,a6,b1,b2,b3,b4,b5,b6,b7⟩:=x;unfold setFlight;refine ak (wpAny_field a1 a4 b1 ?_);rw[if_pos (show(Value.ref T != Value.none)=true from by simp)];have hd:=Obj.data_mapFields b4 (·.setIfInBounds 3 (fr.elim Value.none λf=>rawInt f));refine wpAny_setField b3 b4 b5 (k { s with heap:=s.heap.update T (Obj.mapFields (·.setIfInBounds 3 (fr.elim Value.none λf=>rawInt f))) } (b6.turned (t':=s.toks) I λc o hc q=>?_) ⟨oe,vs,T,_,_,?_,a2,a3,a4,a5,a6,b1,b2,i7 _ b3 (Obj.isFreed_of_fields hd),hd,by simpa using b5,b6,b7⟩)
 ·exact(fu _ _ (Ne.symm hc)).trans q
 ·exact(fu _ _ b2).trans a1
theorem vd{fr:Option ad}(I:Inv X pins σ' H s)(x:Exc X pins H zf C a s)(k:∀s',Inv X pins σ' H s'->Exc X pins H zf C a s'->Q () s'):aq M A (setFlight (.ref a) fr) Q E s:=by
 obtain⟨oe,vs,a1,a2,a3,a4,a5,a6,a7,a8⟩:=id x;rcases a7 with a7|⟨T,oT,ts,b1,b2,b3,b4,b5,b6⟩
 ·unfold setFlight;refine ak (wpAny_field a1 a4 a7 ?_);rw[if_neg (by decide)];exact aF (k s I x)
 ·exact jj I ⟨oe,vs,T,oT,ts,a1,a2,a3,a4,a5,a6,b1,b2,b3,b4,b5,b6,a8⟩ λs' I' x'=>k s' I' x'.sh
theorem Inv.slots{h':aI}(I:Inv X pins σ' H s)(hs:Heap.SlotsOnly (frs X.stack) s.heap h'):Inv X pins σ' H { s with heap:=h' }:=by
 have nt:∀b u,H b=some u->b∉frs X.stack:=λb u e z=>by rw[I.stkFree b z]at e;cases e
 refine I.call' (s':={ s with heap:=h' }) (ch:=[]) rfl ?_ ?_ I.bare (λb z=>absurd z (by simp))
 ·exact⟨λb o e n nf _=>(hs.2.1 b nf).trans e,λb o e n _ _=>hs.2.2 b o e,λb o e n _=>n,λb o e _=>let ⟨sl,q⟩:=hs.2.2 b o e;⟨_,q⟩,λb xs e=>e,λb o u e=>e,λb ps e=>⟨#[],by rw[e];simp⟩⟩
 ·intro b u e;refine(I.hok b u e).stay (λc v hc q=>?_) (λ_ q=>q) λ_ _ q=>q;rcases hc with z|z
  ·rw[z]at q ⊢;exact(hs.2.1 b (nt b u e)).trans q
  ·exact(hs.2.1 c (nt c _ z)).trans q
theorem yj{head:ae}{hn:Bool}(hfr:A.frames=some (X.env::X.outer))(hst:X.stack=X.env::X.outer)(hf:X.env.frame=some X.env.locals)(I:Inv X pins σ' H s)(x:Exc X pins H zf C a s)
  (k:∀s',Inv X pins σ' H s'->iX zf C a (Fp X pins H) s'.heap->Q () s') :
  aq M A (do let b ←frameOf X.env;let pl ←entryPlaceOf X.env.locals hn;let t ←EntryCells.newEntry head b .none (rawInt X.env.locals) .none pl;setField (.ref a) 1 t) Q E s:=by
 obtain⟨oe,vs,a1,a2,a3,a4,a5,a6,a7,a8⟩:=id x;have hl:s.heap.FunFrames X.base (X.env::X.outer):=hst▸I.stack;refine ak (wpAny_frameOf_fun hfr hl hf λh₁ hs₁=>?_);refine ak (wpAny_entryPlaceOf λpl hpl=>?_);unfold EntryCells.newEntry newFields;refine ak (wpAny_newObj_type ?_ (hpl.sizeOk5 _ _ _ _ _));have hne:a∉frs X.stack:=λhm=>by
  rw[hst]at hm;obtain⟨_,o,ho,hnf⟩:=hl.mem hm;rw[a1]at ho;cases ho;exact hnf vs a4
 have I₁:Inv X pins σ' H { s with heap:=h₁ }:=Inv.slots I (by rw[hst];exact hs₁);have e₁:h₁.get? a=some oe:=(hs₁.2.1 a (by rw[hst]at hne;exact hne)).trans a1;have e₂:=bJ (h:=h₁) { cls:=.type "traceback",dict:=none,data:=.fields ([head,.ref X.env.locals,.none,rawInt X.env.locals,.none]++(if pl.isEmpty then bF 6 Value.none else pl)).toArray } e₁;have I₂:=I₁.kept (t':=s.toks) (h':=h₁.push { cls:=.type "traceback",dict:=none,data:=.fields ([head,.ref X.env.locals,.none,rawInt X.env.locals,.none]++(if pl.isEmpty then bF 6 Value.none else pl)).toArray }) λb o e=>bJ _ e;have hTa:h₁.objs.size≠a:=jR (bC e₁);have fT:Fp X pins H h₁.objs.size:=Fp.of I₁ (lD (bc _)) (I₁.hok.fresh (bc _));have hd:=Obj.data_mapFields a4 (·.setIfInBounds 1 (Value.ref h₁.objs.size));refine wpAny_setField e₂ a4 a5 (k _ (a6.turned (t':=s.toks) I₂ λc o hc q=>(fu _ _ (Ne.symm hc)).trans q) ?_);have hT:=(fu (h₁.push { cls:=.type "traceback",dict:=none,data:=.fields ([head,.ref X.env.locals,.none,rawInt X.env.locals,.none]++(if pl.isEmpty then bF 6 Value.none else pl)).toArray }) (Obj.mapFields (·.setIfInBounds 1 (Value.ref h₁.objs.size))) (Ne.symm hTa)).trans (dH h₁ rfl);refine⟨_,_,h₁.objs.size,_,_,i7 _ e₂ (Obj.isFreed_of_fields hd),(Obj.cls_mapFields _ _).trans a2,?_,hd,by simpa using a5,a6,by simp[a5],hTa,hT,rfl,?_,fT,λz=>by rw[Array.getElem?_setIfInBounds_ne (by decide)];exact a8 z⟩
 ·obtain⟨c,d,dt,sl⟩:=oe;cases dt <;> exact a3
 ·simp only[cB,cQ,cr,jZ];lia
theorem kG(hfr:A.frames=some (X.env::X.outer))(hst:X.stack=X.env::X.outer)(hf:X.env.frame=some X.env.locals)(I:Inv X pins σ' H s)(x:Exc X pins H zf C a s)
  (k:∀s',Inv X pins σ' H s'->iX zf C a (Fp X pins H) s'.heap->Q () s'):aq M A (noteFrame (.ref a) X.env) Q E s:=by
 obtain⟨oe,vs,a1,a2,a3,a4,a5,a6,a7,a8⟩:=id x;unfold noteFrame;simp only[hf];rcases a7 with a7|⟨T,oT,ts,b1,b2,b3,b4,b5,b6⟩
 ·refine ak (wpAny_field a1 a4 a7 ?_);rw[if_neg (by decide)];exact yj hfr hst hf I x k
 ·refine ak (wpAny_field a1 a4 b1 ?_);rw[if_pos (show(Value.ref T != Value.none)=true from by simp)];obtain⟨v3,h3⟩:∃v,ts[3]?=some v:=⟨ts[3],by simp[b5]⟩
  refine ak (wpAny_field b3 b4 h3 ?_);by_cases hq:(v3 == rawInt X.env.locals)=true
  ·rw[if_pos hq];exact aF (k s I ⟨oe,vs,T,oT,ts,a1,a2,a3,a4,a5,a6,b1,b2,b3,b4,b5,b6,a8⟩)
  ·rw[if_neg hq];have hd:=Obj.data_mapFields b4 (·.setIfInBounds 3 Value.none);refine ak (wpAny_setField b3 b4 b5 ?_);refine yj hfr hst hf (s:={ s with heap:=s.heap.update T (Obj.mapFields (·.setIfInBounds 3 Value.none)) }) (b6.turned (t':=s.toks) I λc o hc q=>?_) ?_ k
   ·exact(fu _ _ (Ne.symm hc)).trans q
   ·exact⟨oe,vs,(fu _ _ b2).trans a1,a2,a3,a4,a5,a6,.inr ⟨T,_,_,b1,b2,i7 _ b3 (Obj.isFreed_of_fields hd),hd,by simpa using b5,b6⟩,a8⟩
end
def EB(G:Gb)(X:Cx)(EX:St->Prop)(pins:List (ad×aw))(m:List ad)(H:Hp)(c:Nat)(h0:MH):ae->ag->Prop:=λe s'=>
 ∃σ' m' H' a,EX σ'/\Ext m H m' H'/\HR G m' h0 H'/\Inv X pins σ' H' s'/\e=.ref a/\Exc X pins H' (fl c) (G.cl c) a s'
theorem EB.passes{pins:List (ad×aw)}{c:Nat}{h0:MH}(hfr:X.A.frames=some (X.env::X.outer))(hst:X.stack=X.env::X.outer)(hf:X.env.frame=some X.env.locals) :
  PassesOwn (au X.prog X.w) X.A X.env (EB G X EX pins m H c h0):=by
 rintro e s ⟨σ',m',H',a,ex,x,R,I,rfl,q⟩;refine kG hfr hst hf I q λs1 I1 q1=>?_;unfold cameBackBy;obtain⟨oe,vs,T,oT,ts,a1,a2,a3,a4,a5,a6,b1,b2,b3,b4,b5,b6,b7⟩:=id q1;refine ak (wpAny_field a1 a4 b1 ?_);rw[if_neg (by simp)];exact jj I1 q1 λs2 I2 q2=>⟨σ',m',H',a,ex,x,R,I2,rfl,q2.sh⟩
def CXe(P:bh)(w:aR):CXT:=λouter H s E e s'=>
 ∃a C zf H',e=.ref a/\s'.os=s.os/\AllBare s'.gens/\Un (frs outer) [] H H' s.heap s'.heap/\HOk P w H' s'.heap/\ij zf C a (λb=>s.heap.get? b=none/\H' b=none) s'.heap/\E (.ref C) zf H'
def SpG(cl:Nat->ad)(K:PySem.W.Frag)(n:Nat)(f:Fn):Sp:=λvs H Q E=>∃sa ns m h ms,vs.length=n/\VRs ⟨cl,K,sa,ns⟩ m H ms vs/\HR ⟨cl,K,sa,ns⟩ m h H /\
 match f ms h with
 |.ok v h'=>∀m' H' v',Ext m H m' H'->HR ⟨cl,K,sa,ns⟩ m' h' H'->VR ⟨cl,K,sa,ns⟩ m' H' v v'->Q v' H'
 |.exc c h'=>∀m' H',Ext m H m' H'->HR ⟨cl,K,sa,ns⟩ m' h' H'->E (.ref (cl c)) (fl c) H'
 |.stuck=>False
structure FnG(P:bh)(w:aR)(K:PySem.W.Frag)(mg:Str->Option ae)(base:aI)(cl:Nat->ad)(k:Nat)(f:ad)(fd:bq)(ps:List Str)(gf:Fn):Prop where
 ok:iV P w K mg base (CXe P w) k f fd ps (SpG cl K ps.length gf)
 ar:∀ms h,gf ms h≠.stuck->ms.length=ps.length
theorem zi{E':ae->ag->Prop}{st:List aV}{t:TS}(p:PSs (X.wish E') st t)(f:∀e s',E' e s'->X.xe e s'):PSs X st t:=λpins s σ H D I hw=>
 br (p pins s σ H D (I.wish E') hw) (λ_ _ q=>SP.unwish q) f
theorem C0{st:List aV}{t:TS}(p:X.Ok->PSs X st t):PSs X st t:=λpins s σ H D I hw=>p I.ok pins s σ H D I hw
theorem Ge{ms:List MV}{vs:List V}{N:List Str}(r:VRs G m H ms vs):SR G m H (ms.map some++bF (N.length-ms.length) none) (start N vs):=by
 refine⟨by simp[start,Paired.length r],λi v e=>?_⟩;have hi:i<ms.length:=by
  by_cases hi:i<ms.length
  ·exact hi
  ·rw[ic (by simpa using hi),iC]at e;split at e <;> cases e
 rw[eM (by simpa using hi),bX]at e;cases e1:ms[i]? with
 |none=>rw[e1]at e;cases e
 |some w=>
   rw[e1]at e;cases e;obtain⟨v',q,rv⟩:=jQ r e1;refine⟨v',?_,rv⟩;unfold start;rw[eM (by simpa[←Paired.length r] using hi),bX,q]
   rfl
section
variable {P:bh}{w:aR}{K:PySem.W.Frag}{mg:Str->Option ae}{base:aI}{cl:Nat->ad}
theorem xM{x qual:Str}{st:aV}{f:ad}{fd:bq}{N ps:List Str}{k:Nat}{g:MS}{gf:Fn}(F:Fun K x qual st f fd)(S:cf N ps (bM st))(hgf:gf=fnOf ps.length N.length g)
  (hbody:∀(cdv:ae),fd.code=cdv->∀(A:aX) (outer:List Env) (s:ag) (H:Hp) (E:XK) (sa:ad) (ns:List Int),Room k (A.deeper (envOfC qual (bM st) s.heap.objs.size f cdv)) ->
   GSs ⟨cl,K,sa,ns⟩ ET (jo (CXe P w) P w K mg base N qual (bM st) f cdv A outer s H E) (j3 st) g):FnG P w K mg base cl (k + 1) f fd ps gf:=by
 subst hgf;refine⟨?_,λms h q=>?_⟩
 rotate_left
 ·unfold fnOf at q;split at q
  ·assumption
  ·exact absurd rfl q
 obtain⟨oc,od,kV,doc,pm,an,cdv,ct,osl,rfl,lk,hcd⟩:=F.ex;refine GN lk hcd S (λvs H Q E q=>?_) λA outer s H vs Q E hr hsp=>?_
 ·obtain⟨sa,ns,m,h,ms,hl,_⟩:=q;exact hl
 ·obtain⟨sa,ns,m,h,ms,hl,rv,R,post⟩:=hsp;have hb:=hbody cdv rfl A outer s H E sa ns hr;have S0:=Ge (N:=N) rv;cases e:g (ms.map some++bF (N.length-ms.length) none) h with
  |ok fl h'=>
    refine⟨_,zi (hb (λ_ _=>False) PassesOwn.never) (λ_ _ z=>z.elim),m,h,_,trivial,S0,R,?_⟩;rw[e];unfold fnOf at post;rw[if_pos (show ms.length=ps.length from(Paired.length rv).trans hl)]at post;simp only[bnd,e]at post;intro m' H' x R';cases fl with
    |next σ1=>exact λ_ _=>post m' H' .non x R' rfl
    |ret v=>exact λv' r=>post m' H' v' x R' r
    |brk σ1=>exact post.elim
    |cnt σ1=>exact post.elim
  |exc c h'=>
    unfold fnOf at post;rw[if_pos (show ms.length=ps.length from(Paired.length rv).trans hl)]at post;simp only[bnd,e]at post;refine⟨_,C0 λok=>zi (hb (EB ⟨cl,K,sa,ns⟩ _ ET [] m H c h') (EB.passes ok.frames rfl rfl)) ?_,m,h,_,trivial,S0,R,?_⟩
    ·rintro ev s' ⟨σ',m',H',a,_,x,R',I,rfl,q⟩;show aq (au P w) _ (leaving _ (.ref a)) _ _ s';unfold leaving;refine ak (kG ok.frames rfl rfl I q λs1 I1 q1=>?_);refine jj I1 q1 λs2 I2 q2=>⟨a,cl c,fl c,H',rfl,I2.os,I2.bare,I2.base,I2.hok,q2.sh.imp (λb fb=>⟨fb.new.elim (λz=>absurd z (by simp[jo])) id,fb.un⟩),post m' H' x R'⟩
    ·rw[e];intro pins σ' m' H' a s' _ x R' I q;exact⟨σ',m',H',a,trivial,x,R',I.pins_of (λp hp=>absurd hp (by simp)),rfl,q.imp λb fb=>⟨fb.un,fb.loc,fb.fs,fb.new,fb.ce,λp hp=>fb.pin p (gp _ (by simpa using hp))⟩⟩
  |stuck=>
    unfold fnOf at post;rw[if_pos (show ms.length=ps.length from(Paired.length rv).trans hl)]at post;simp only[bnd,e]at post
theorem cG{x qual:Str}{st:aV}{f:ad}{fd:bq}{N ps:List Str}{k:Nat}{g:MS}{gf:Fn}(F:Fun K x qual st f fd)(S:cf N ps (bM st))(hgf:gf=fnOf ps.length N.length g)
  (hbody:∀(cdv:ae) (A:aX) (outer:List Env) (s:ag) (H:Hp) (E:XK) (sa:ad) (ns:List Int),Room k (A.deeper (envOfC qual (bM st) s.heap.objs.size f cdv)) ->
   GSs ⟨cl,K,sa,ns⟩ ET (jo (CXe P w) P w K mg base N qual (bM st) f cdv A outer s H E) (j3 st) g):FnG P w K mg base cl (k + 1) f fd ps gf:=xM F S hgf λcdv _=>hbody cdv
end
abbrev FnX(G:Gb)(X:Cx)(k:Nat)(f:ad)(fd:bq)(ps:List Str)(gf:Fn):Prop:=FnG X.prog X.w X.K X.mg X.base G.cl k f fd ps gf
section
variable {k:Nat}{f:ad}{fd:bq}{ps:List Str}{gf:Fn}{pins:List (ad×aw)}{s:ag}{Q:VK}{us:List ae}{vs:List V}{ms:List MV}
def EXK(G:Gb)(m:List ad)(H:Hp)(r:Res MV):XK:=λC zf H'=>match r with
 |.exc c h'=>C=.ref (G.cl c)/\zf=fl c/\∃m',Ext m H m' H'/\HR G m' h' H'
 |_=>False
theorem xG(hK:X.K=G.K)(rv:VRs G m H ms vs)(R:HR G m h H)(hl:ms.length=ps.length)(ns:gf ms h≠.stuck){Q:VK}(P:∀v h',gf ms h=.ok v h'->∀m' H' v',Ext m H m' H'->HR G m' h' H'->VR G m' H' v v'->Q v' H') :
  SpG G.cl X.K ps.length gf vs H Q (EXK G m H (gf ms h)):=by
 rw[hK];refine⟨G.sa,G.ns,m,h,ms,(Paired.length rv).symm.trans hl,rv,R,?_⟩;cases e:gf ms h with
 |ok v h'=>exact P v h' e
 |exc c h'=>exact λm' H' x R'=>⟨rfl,rfl,m',x,R'⟩
 |stuck=>exact absurd e ns
theorem xt(I:Inv X pins σ' H s){r:Res MV}{e:ae}{s':ag}(q:CXe X.prog X.w X.stack H s (EXK G m H r) e s') :
  ∃c h' m' H' a,r=.exc c h'/\e=.ref a/\Ext m H m' H'/\HR G m' h' H'/\Inv X pins σ' H' s'/\Exc X pins H' (fl c) (G.cl c) a s':=by
 obtain⟨a,C,zf,H',rfl,os,bare,un,hok,sh,ek⟩:=q;cases r with
 |exc c h'=>
   obtain⟨ec,ez,m',x,R'⟩:=ek;cases ec;subst ez;exact⟨c,h',m',H',a,rfl,rfl,x,R',I.call' os un hok bare (λb z=>absurd z (by simp)),sh.imp λb z=>Fp.of I z.1 z.2⟩
 |ok v h'=>exact ek.elim
 |stuck=>exact ek.elim
theorem uz(F:FnX G X k f fd ps gf)(hr:Room k X.A)(hb:Binds X.K fd ps [])(hK:X.K=G.K)(I:Inv (X.wish E) pins σ' H s)(ex:EX σ')(R:HR G m h H)(rv:VRs G m H ms vs)(r:Vals vs us)
  (P:Post G X E EX m H (gf ms h) λv m' _ H'=>∀v',VR G m' H' v v'->Q v' H'):aq (au X.prog X.w) X.A (call (.ref f) us) (EP (X.wish E) pins σ' Q) E s:=by
 have ns:gf ms h≠.stuck:=λz=>by rw[z]at P;exact P
 have hl:=F.ar ms h ns;have hu:us.length=ps.length:=by rw[←r.length,←Paired.length rv];exact hl
 have bt:BindsTo s fd ⟨us,[]⟩ (ps.zip us):=by
  have:=hb s us I.kIn (by simpa using hu);simpa using this
 refine wpAny_call (codeAny_mono (F.ok.run X.A X.stack s H ⟨us,[]⟩ us vs Q (EXK G m H (gf ms h)) hr I.unwish.env0 bt r (xG hK rv R hl ns λv h' e m' H' v' x R' q=>?_)) λrr s' hq=>?_)
 ·rw[e]at P;exact P m' H' x R' v' q
 ·cases rr with
  |error ev=>
    obtain⟨c,h',m',H',a,er,rfl,x,R',I',q⟩:=xt I.unwish hq;rw[er]at P;exact P pins σ' m' H' a s' ex x R' I' q
  |ok fl=>
    cases fl with
    |ret u=>exact I.after hq
    |next=>exact False.elim hq
    |brk=>exact False.elim hq
    |cont=>exact False.elim hq
end
section
variable {k:Nat}{f C:ad}{fd:bq}{ps:List Str}{gf:Fn}{x:Str}{p pos apos:Pos}{e o:az}{es:List az}{ga:MA}{go:ME}
theorem b9(F:FnX G X k f fd ps gf)(hr:Room k X.A)(hm:X.mg x=some (.ref f))(hk:PySem.W.keepIn X.K (.ref f)=true)(hb:Binds X.K fd ps [])(ha:GA G X (e::es) ga)(hg:Gl X x:=by rfl)(hK:X.K=G.K:=by rfl)
  (hdb:(x == ("__debug__":Str))=false:=by decide) (he:aU (e::es) X.env=(false,aK e X.env)::aU es X.env:=by rfl) (hpl:(backTo pos (aU es X.env)).any (·.1)=false:=by rfl) :
  GE G X (.Call (.Name x p) (e::es) [] pos) (bO gf ga):=λE EX pins s σ' H Q I e0=>bY e0 λm h σ ex S R P=>by
 refine wpAny_Call_Name_kw (hI I hg hm ?_ hdb);refine PySem.W.callWith_K (h₀:=X.base) I.ok.mod.kin hk (thn (ha E EX pos pins s σ' H (λvs H1=>∃m1 h1 ms,HR G m1 h1 H1/\VRs G m1 H1 ms vs/\Post G X E EX m1 H1 (gf ms h1) λv m' _ H'=>∀v',VR G m' H' v v'->Q v' H') I
  (kJ ex S R P λms m1 h1 H1 vs x1 R1 r1 P1=>⟨m1,h1,ms,R1,r1,P1⟩)) λus s1 e0=>bD e0 λvs H1 I1 r e4=>e4.elim λm1 e5=>e5.elim λh1 e6=>e6.elim λms e7=>e7.elim λR1 e8=>e8.elim λrv P1=>⟨I1.kIn,?_⟩) he hpl
 exact uz (X:=X) F hr hb hK I1 ex R1 rv r P1
theorem vO{c:Nat}{mth:String}{n:Nat}{x':V}{β:Type}{kk:M β}{Q:β->List ad->MH->Hp->Prop}(R:HR G m h H)(r:VR G m H (.ref n) x')
  (P:Post G X E EX m H (bnd (look n) (λob=>match ob with
   |.ins c' fs=>if c'=c/\fs.lookup mth=none then kk else stk
   | _=>stk) h) Q):∃a dx ws,x'=.ref a/\H a=some (.ins (G.cl c) dx ws)/\ws.lookup (ah mth)=none/\Post G X E EX m H (kk h) Q:=by
 obtain⟨a,ea,rfl⟩:=r;obtain⟨oa,e1,q1,P1⟩:=cX R ea P;cases oa with
 |ins c' fs=>
   dsimp only at P1;split at P1
   ·rename_i cc;obtain⟨rfl,hn⟩:=cc;obtain⟨dx,ws,rf,z⟩:=q1;exact⟨a,dx,ws,rfl,z,v5 rf hn,P1⟩
   ·exact P1.elim
 |_=>exact P1.elim
theorem j8{pl:Sem Bool}{c:Nat}{mth:String}(ho:GE G X o go)(cC:Cls X.K (G.cl c))(hm:Meth X.K (G.cl c) (ah mth) f)(F:FnX G X k f fd ps gf)(hr:Room k X.A)(hb:Binds X.K fd ps [])(ha:GA G X (e::es) ga)(hK:X.K=G.K:=by rfl)
  (hst:aU (e::es) X.env=(false,aK e X.env)::aU es X.env:=by rfl) (hpl:(backTo pos (aU es X.env)).any (·.1)=false:=by rfl)
  (ht:aK (.Call (.Attribute o (ah mth) apos) (e::es) [] pos) X.env=(do
   let ov ←aK o X.env
   standAt apos.atName
   let (f,first) ←holding [ov] (getMethod ov (ah mth) pl)
   callWith pos f first (backTo pos (aU (e::es) X.env)) (backToKw pos (keywordEach [] X.env))):=by rfl) :
  GE G X (.Call (.Attribute o (ah mth) apos) (e::es) [] pos) (dJ c mth gf go ga):=λE EX pins s σ' H Q I e0=>bY e0 λm h σ ex S R P=>by
 refine PySem.W.methodCall_KW (pl:=pl) (thn (ho E EX pins s σ' H (λx H1=>∃a dx ws,x=.ref a/\H1 a=some (.ins (G.cl c) dx ws)/\ws.lookup (ah mth)=none/\∃m1 h1 n,HR G m1 h1 H1/\SR G m1 H1 σ σ'/\VR G m1 H1 (.ref n) x /\
   Post G X E EX m1 H1 (bnd (ga σ) (λxs=>gf (.ref n::xs)) h1) λv m' _ H'=>∀v',VR G m' H' v v'->Q v' H') I (sub ex S R P λv m1 h1 H1 v' x1 R1 r1 P1=>?_)) λu s1 e0=>bD e0 λx H1 I1 rx e4=>e4.elim λa e5=>e5.elim λdx e6=>e6.elim λws e7=>e7.elim λexx e8=>e8.elim λea e9=>e9.elim λl e10=>e10.elim λm1 e11=>e11.elim λh1 e12=>e12.elim λn e13=>e13.elim λR1 e14=>e14.elim λS1 e15=>e15.elim λrn P1=>?_) ht
 ·cases v with
  |ref n=>
    obtain⟨a,dx,ws,e1,e2,e3,P2⟩:=vO R1 r1 P1;exact⟨a,dx,ws,e1,e2,e3,m1,h1,n,R1,S.mono x1,r1,P2⟩
  |_=>exact P1.elim
 ·subst exx;obtain rfl:u=Value.ref a:=rx;refine wF I1 ea cC hm l ?_;refine PySem.W.callWith_K (first:=[.ref a]) (h₀:=X.base) I.ok.mod.kin hm.kp (thn (ha E EX pos pins s1 σ' H1 (λvs H2=>∃m2 h2 ms,HR G m2 h2 H2/\VRs G m2 H2 (.ref n::ms) (.ref a::vs)/\Post G X E EX m2 H2 (gf (.ref n::ms) h2) λv m' _ H'=>∀v',VR G m' H' v v'->Q v' H') I1
   (kJ ex S1 R1 P1 λms m2 h2 H2 vs x2 R2 r2 P2=>⟨m2,h2,ms,R2,.cons (x2.vr rn) r2,P2⟩)) λus s2 e0=>bD e0 λvs H2 I2 r e4=>e4.elim λm2 e5=>e5.elim λh2 e6=>e6.elim λms e7=>e7.elim λR2 e8=>e8.elim λrv P2=>⟨I2.kIn,?_⟩) hst hpl
  exact uz (X:=X) (us:=.ref a::us) (vs:=.ref a::vs) F hr hb hK I2 ex R2 rv (.cons rfl r) P2
theorem tE{pl:Sem Bool}{c:Nat}{mth:String}(ho:GE G X o go)(cC:Cls X.K (G.cl c))(hm:Meth X.K (G.cl c) (ah mth) f)(F:FnX G X k f fd ps gf)(hr:Room k X.A)(hb:Binds X.K fd ps [])(hK:X.K=G.K:=by rfl)
  (ht:aK (.Call (.Attribute o (ah mth) apos) [] [] pos) X.env=(do
   let ov ←aK o X.env
   standAt apos.atName
   let (f,first) ←holding [ov] (getMethod ov (ah mth) pl)
   callWith pos f first (backTo pos (aU [] X.env)) (backToKw pos (keywordEach [] X.env))):=by rfl) :
  GE G X (.Call (.Attribute o (ah mth) apos) [] [] pos) (dJ c mth gf go aD):=λE EX pins s σ' H Q I e0=>bY e0 λm h σ ex S R P=>by
 refine PySem.W.methodCall_KW (pl:=pl) (thn (ho E EX pins s σ' H (λx H1=>∃a dx ws,x=.ref a/\H1 a=some (.ins (G.cl c) dx ws)/\ws.lookup (ah mth)=none/\∃m1 h1 n,HR G m1 h1 H1/\SR G m1 H1 σ σ'/\VR G m1 H1 (.ref n) x /\
   Post G X E EX m1 H1 (bnd (aD σ) (λxs=>gf (.ref n::xs)) h1) λv m' _ H'=>∀v',VR G m' H' v v'->Q v' H') I (sub ex S R P λv m1 h1 H1 v' x1 R1 r1 P1=>?_)) λu s1 e0=>bD e0 λx H1 I1 rx e4=>e4.elim λa e5=>e5.elim λdx e6=>e6.elim λws e7=>e7.elim λexx e8=>e8.elim λea e9=>e9.elim λl e10=>e10.elim λm1 e11=>e11.elim λh1 e12=>e12.elim λn e13=>e13.elim λR1 e14=>e14.elim λS1 e15=>e15.elim λrn P1=>?_) ht
 ·cases v with
  |ref n=>
    obtain⟨a,dx,ws,e1,e2,e3,P2⟩:=vO R1 r1 P1;exact⟨a,dx,ws,e1,e2,e3,m1,h1,n,R1,S.mono x1,r1,P2⟩
  |_=>exact P1.elim
 ·subst exx;obtain rfl:u=Value.ref a:=rx;refine wF I1 ea cC hm l ?_;exact PySem.W.callWith_K0 (first:=[.ref a]) I1.kIn hm.kp (uz (X:=X) (us:=[.ref a]) (vs:=[.ref a]) F hr hb hK I1 ex R1 (.cons rn .nil) (.cons rfl .nil) P1)
theorem uj{c:Nat}(M:Mk X.K (G.cl c) f)(F:FnX G X k f fd ps gf)(hr:Room (k+1) X.A)(hm:X.mg x=some (.ref (G.cl c)))(hb:Binds X.K fd ps [])(ha:GA G X (e::es) ga)(hg:Gl X x:=by rfl)(hK:X.K=G.K:=by rfl)
  (hdb:(x == ("__debug__":Str))=false:=by decide) (he:aU (e::es) X.env=(false,aK e X.env)::aU es X.env:=by rfl) (hpl:(backTo pos (aU es X.env)).any (·.1)=false:=by rfl) :
  GE G X (.Call (.Name x p) (e::es) [] pos) (lK c gf ga):=λE EX pins s σ' H Q I e0=>bY e0 λm h σ ex S R P=>by
 refine wpAny_Call_Name_kw (hI I hg hm ?_ hdb);refine PySem.W.callWith_K (h₀:=X.base) I.ok.mod.kin M.kp (thn (ha E EX pos pins s σ' H (λvs H1=>∃m1 h1 ms,HR G m1 h1 H1/\VRs G m1 H1 ms vs/\Post G X E EX m1 H1 (bnd (new (.ins c [])) (λo=>bnd (gf (o::ms)) λv=>match v with
   |.non=>ret o
   | _=>stk) h1) λv m' _ H'=>∀v',VR G m' H' v v'->Q v' H') I
  (kJ ex S R P λms m1 h1 H1 vs x1 R1 r1 P1=>⟨m1,h1,ms,R1,r1,P1⟩)) λus s1 e0=>bD e0 λvs H1 I1 r e4=>e4.elim λm1 e5=>e5.elim λh1 e6=>e6.elim λms e7=>e7.elim λR1 e8=>e8.elim λrv P1=>⟨I1.kIn,?_⟩) he hpl
 have I2:=Inv.made (C:=G.cl c) I1;have f1:H1 s1.heap.objs.size=none:=I1.hok.fresh (bc _);have f2:H1 (s1.heap.objs.size+1)=none:=I1.hok.fresh (Nat.le_succ _);have f2':upd H1 s1.heap.objs.size (.own (s1.heap.objs.size+1)) (s1.heap.objs.size+1)=none:=by rw[aY (Nat.succ_ne_self _)];exact f2
 have x2:Ext m1 H1 (m1++[s1.heap.objs.size + 1]) (upd (upd H1 s1.heap.objs.size (.own (s1.heap.objs.size + 1))) (s1.heap.objs.size + 1) (.ins (G.cl c) s1.heap.objs.size [])):=(Ext.side f1).trans (Ext.new (R1.side f1) f2');have R2:HR G (m1++[s1.heap.objs.size + 1]) (h1++[.ins c []]) (upd (upd H1 s1.heap.objs.size (.own (s1.heap.objs.size + 1))) (s1.heap.objs.size + 1) (.ins (G.cl c) s1.heap.objs.size [])):=(R1.side f1).new f2' ⟨_,[],.nil,dE⟩;have P2:Post G X E EX (m1++[s1.heap.objs.size + 1]) (upd (upd H1 s1.heap.objs.size (.own (s1.heap.objs.size + 1))) (s1.heap.objs.size + 1) (.ins (G.cl c) s1.heap.objs.size [])) (bnd (gf (.ref h1.length::ms)) (λv=>match v with
   |.non=>ret (.ref h1.length)
   | _=>stk) (h1++[.ins c []])) λv m' _ H'=>∀v',VR G m' H' v v'->Q v' H':=(Post.bind P1) _ _ x2 R2
 have ns:gf (.ref h1.length::ms) (h1++[.ins c []])≠.stuck:=λz=>by unfold bnd at P2;rw[z]at P2;exact P2
 have hl:=F.ar _ _ ns;have rn:VR G (m1++[s1.heap.objs.size+1]) (upd (upd H1 s1.heap.objs.size (.own (s1.heap.objs.size+1))) (s1.heap.objs.size+1) (.ins (G.cl c) s1.heap.objs.size [])) (.ref h1.length) (.ref (s1.heap.objs.size+1)):=⟨_,by rw[←R1.len];simp,rfl⟩
 have rv2:VRs G (m1++[s1.heap.objs.size+1]) (upd (upd H1 s1.heap.objs.size (.own (s1.heap.objs.size+1))) (s1.heap.objs.size+1) (.ins (G.cl c) s1.heap.objs.size [])) (.ref h1.length::ms) (.ref (s1.heap.objs.size+1)::vs):=.cons rn (x2.vrs rv);have r2:Vals (V.ref (s1.heap.objs.size+1)::vs) (Value.ref (s1.heap.objs.size+1)::us):=.cons rfl r;have hu:(Value.ref (s1.heap.objs.size+1)::us).length=ps.length:=by rw[←r2.length,←Paired.length rv2];exact hl
 refine wpAny_call (FQ (f:=f) I1.kIn M.makes M.init (beq_iff_eq.mp M.fn) (codeAny_mono (F.ok.run _ X.stack _ _ ⟨Value.ref (s1.heap.objs.size + 1)::us,[]⟩ (Value.ref (s1.heap.objs.size + 1)::us) _ (λv H3=>v=.non/\Q (.ref (s1.heap.objs.size + 1)) H3) (EXK G _ _ (gf (.ref h1.length::ms) (h1++[.ins c []]))) (hr.make (G.cl c) us [])
  (I2.unwish.env0.make (G.cl c) us []) (by simpa using hb _ (Value.ref (s1.heap.objs.size + 1)::us) I2.kIn (by simpa using hu)) r2 (xG hK rv2 R2 hl ns λv h' ev m' H' v' x R' q=>?_)) λrr s' hq'=>?_))
 ·have P3:=P2;unfold bnd at P3;rw[ev]at P3;cases v with
  |non=>
    cases(show v'=V.non from q);exact⟨rfl,P3 m' H' x R' _ (x.vr rn)⟩
  |_=>exact P3.elim
 ·cases rr with
  |error ev=>
    obtain⟨c',h',m',H',a,er,rfl,x,R',I',q⟩:=xt (pins:=pins) (σ':=σ') I2.unwish hq';unfold bnd at P2;rw[er]at P2;exact P2 pins σ' m' H' a s' ex x R' I' q
  |ok fl=>
    cases fl with
    |ret u=>
      obtain⟨v,H',I3,rv',ev,q3⟩:=I2.after hq';subst ev;exact⟨rv',⟨V.ref (s1.heap.objs.size+1),H',I3,rfl,q3⟩⟩
    |next=>exact False.elim hq'
    |brk=>exact False.elim hq'
    |cont=>exact False.elim hq'
end
theorem v6{K:PySem.W.Frag}{hp:aI}{C:ad}{bm:List ae}{newId:String}(kx:K.In hp)(q:PySem.W.excIn K C bm newId=true) :
  ∃tl N nm qn bs hd sn sub ab col dd k0 k1 k2 k3 k5 mN,hp.get? C=some (excClassObj nm qn C N bs tl hd sn sub ab col dd k0 k1 k2 k3 k5 newId)/\hp.Ns N mN/\mN "__init__"=none/\OwnTail hp bm tl:=by
 unfold PySem.W.excIn at q;split at q
 ·rename_i ddx cdx slx hox;split at q
  ·rename_i Cx' tlx y0 y1 y2 y3 nx y5 hmx hsx;simp only[eP,beq_iff_eq,uq]at q;have hno:=q.2;have hns:=q.1.2;have htl:=q.1.1.2;have hdl:=q.1.1.1.2;have e1:=q.1.1.1.1.1;have e2:=q.1.1.1.1.2;cases cdx with
   |mk nmx bsx mrox nsx qx hdx snx subx abx colx delx=>
     dsimp only at hmx hdl hns hno;subst e1;subst e2;subst hmx;subst hdl;have esl:slx=#[y0,y1,y2,y3,some (.builtin nx),y5]:=by
      cases slx with
      |mk l=>exact congrArg Array.mk hsx
     subst esl;exact⟨tlx,nsx,nmx,qx,bsx,hdx,snx,subx,abx,colx,ddx,y0,y1,y2,y3,y5,_,kx _ _ hox,.of_isNs (PySem.W.isNs_of_in kx hns),PySem.W.nsMap_none_of_in kx hns hno,PySem.W.tail_of_in kx htl⟩
  ·cases q
 ·cases q
theorem Fc{P:bh}{w:aR}{hp:aI}{a:ad}{o:HO}(x:bW P w H hp a o):∃ob,hp.get? a=some ob:=by
 cases o with
 |lst xs=>obtain⟨_,_,_,_,e⟩:=x;exact⟨_,e⟩
 |tup xs=>obtain⟨_,_,_,_,e,_⟩:=x;exact⟨_,e⟩
 |dK kvs=>obtain⟨_,_,_,_,o,_,_,e,_⟩:=x;exact⟨_,e⟩
 |dT kvs=>obtain⟨_,_,_,_,o,_,_,e,_⟩:=x;exact⟨_,e⟩
 |set S n=>obtain⟨o,_,_,_,e,_⟩:=x;exact⟨_,e⟩
 |ins C dx fs=>obtain⟨_,_,_,e,_⟩:=x;exact⟨_,e⟩
 |own y=>exact x
 |xd fs=>obtain⟨_,⟨_,_,_,e,_⟩,_⟩:=x;exact⟨_,e⟩
 |rng lo hi=>obtain⟨_,_,_,e⟩:=x;exact⟨_,e⟩
 |frz ob u=>exact⟨_,x.1⟩
 |tbl ps=>exact⟨_,x⟩
 |met f y=>exact⟨_,x⟩
 |ext φ=>exact x.2.1
theorem Inv.untracked{pins:List (ad×aw)}{s:ag}(I:Inv X pins σ' H s){a:ad}(e:s.heap.get? a=none):H a=none:=by
 cases z:H a with
 |none=>rfl
 |some u=>
   obtain⟨o,q⟩:=Fc (I.hok a u z);rw[e]at q;cases q
theorem fY{x:Str}{c:Nat}{bm:List ae}{B newId initId:String}{np cpos pos:Pos}{e:az}{es:List az}{ga:MA}(FB:ExcBaseFacts B newId initId bm)(q:PySem.W.excIn X.K (G.cl c) bm newId=true)(hm:X.mg x=some (.ref (G.cl c)))(hd:X.A.handled=none)
  (ha:GA G X (e::es) ga) (hg:Gl X x:=by rfl) (hdb:(x == ("__debug__":Str))=false:=by decide) (he:aU (e::es) X.env=(false,aK e X.env)::aU es X.env:=by rfl) (hpl:(backTo cpos (aU es X.env)).any (·.1)=false:=by rfl) :
  GS G EX X (.Raise (some (.Call (.Name x np) (e::es) [] cpos)) none pos) (d6 c ga):=λE hp pins s σ' H D I e0=>bY e0 λm h σ ex S R P=>by
 obtain⟨tl,N,nm,qn,bs,hdt,sn,sb,ab,col,dd,k0,k1,k2,k3,k5,mN,oC,oN,ni,T⟩:=v6 I.ok.mod.kin q;refine wpAny_Raise_call_subU (C:=G.cl c) (nm:=nm) (q:=qn) (N:=N) (bs:=bs) (bm:=tl) (hdct:=hdt) (sn:=sn) (sub:=sb) (ab:=ab) (col:=col) (dd:=dd) (k0:=k0) (k1:=k1) (k2:=k2) (k3:=k3) (k5:=k5) FB FB.hasB FB (mN:=mN) (T.hasType FB.hasBase) hd
  (by rw[he];show(false||(backTo cpos (aU es X.env)).any (·.1))=false;rw[hpl];rfl) ni (hI I hg hm ⟨rfl,?_⟩ hdb)
 have hA:=ha E EX cpos pins s σ' H (λvs H1=>∃m1 h1 ms,HR G m1 h1 H1/\VRs G m1 H1 ms vs/\ms.length≤1000/\XP G X E EX m1 H1 c h1) I (kJ ex S R P λms m1 h1 H1 vs x1 R1 r1 P1=>by
  split at P1
  ·rename_i hz;exact⟨m1,h1,ms,R1,r1,hz,P1⟩
  ·exact P1.elim)
 rw[show backTo cpos (aU (e::es) (X.wish E).env)=backTo cpos (aU (e::es) X.env) from rfl]at hA;rw[he]at hA ⊢;refine Calls.evalArgs_plain (br hA (λus s1 e0=>bD e0 λvs H1 I1 r e4=>e4.elim λm1 e5=>e5.elim λh1 e6=>e6.elim λms e7=>e7.elim λR1 e8=>e8.elim λrv e9=>e9.elim λhz P1=>⟨rfl,?_,I1.bk _ _ oC,oN.keeps I1.bk,T.keeps I1.bk,λh' a hx=>?_⟩) λ_ _ y=>y)
 ·show us.length≤aW;rw[←r.length,←Paired.length rv];exact small hz
 ·obtain⟨t,ht,_,_⟩:=hx.there;have I2:Inv X pins σ' H1 { s1 with heap:=h' }:=I1.unwish.kept (t':=s1.toks) hx.keeps;exact P1 pins σ' m1 H1 a _ ex .refl R1 I2 ⟨_,_,ht,rfl,rfl,rfl,by simp,Fp.of I1.unwish hx.new (Inv.untracked I1.unwish hx.new),.inl rfl,λ_=>rfl⟩
section
variable {o e:az}{go ge:ME}{apos cpos:Pos}
theorem Eu(ho:GE G X o go)(he:GE G X e ge)(hbase:attributeBase o (ah "append") X.env (aK o X.env)=aK o X.env:=by rfl)
  (hfew:((backTo cpos (aU [e] X.env)).all (λx=>!x.1) && (backToKw cpos (keywordEach [] X.env)).all (λx=>x.1.isSome)
   && decide ([e].length + ([]:List Keyword).length + (if ([]:List Keyword).isEmpty then 0 else 1) < 30))=true:=by rfl)
  (hline:(apos.endLine == cpos.line)=true:=by rfl) (hs:aU [e] X.env=[(false,aK e X.env)]:=by rfl):GE G X (.Call (.Attribute o (ah "append") apos) [e] [] cpos) (oV go ge):=λE EX=>
 dD (oP (X:=X.wish E) tJ PySem.F.slot_list_append PySem.F.type_list_append uF (ho E EX) (he.a1 hs E EX) hbase hfew hline hs rfl) λσ' H Q e0=>bY e0 λm h σ ex S R P=>
  sub ex S R P λv m1 h1 H1 v' x1 R1 r1 P1=>by
   cases v with
   |ref n=>
     obtain⟨aa,ea,rfl⟩:=r1;obtain⟨ob,eo,qo,P2⟩:=cX R1 ea P1;cases ob with
     |lst xs=>
       obtain⟨vs,rr,z⟩:=qo;refine⟨.inl ⟨rfl,vs,SqL.of z⟩,sub ex (S.mono x1) R1 P2 λw m2 h2 H2 w' x2 R2 r2 P3=>?_⟩;have ea2:=x2.get ea;obtain⟨ob2,eo2,qo2,P4⟩:=cX R2 ea2 P3;cases ob2 with
       |lst ys=>
         obtain⟨ws,rs,z2⟩:=qo2;dsimp only at P4;split at P4
         ·rename_i hz;refine⟨aa,ws,w',rfl,rfl,z2,by rw[←Paired.length rs];exact c5 hz (big (bc _)),?_⟩;have P5:=pE R2 ea2 P4;have x3:Ext m2 H2 m2 (upd H2 aa (.lst (ws++[w']))):=Ext.upd ea2 z2;exact P5 _ _ x3 (R2.upd ea2 (λo' yy zz=>by rw[z2]at zz;cases zz) ⟨_,x3.vrs (im rs (.cons r2 .nil)),dE⟩) _ rfl
         ·exact P4.elim
       |_=>exact P4.elim
     |_=>exact P2.elim
   |_=>exact P1.elim
end
noncomputable def vN:Ty->String->Bool
 |.int,k=>k == "int"||k == "bool"
 |.bool,k=>k == "bool"
 |.str,k=>k == "str"
 |.list,k=>k == "list"
 |.tuple,k=>k == "tuple"
 |.exn _ _,_=>false
structure dY(K:PySem.W.Frag)(C:ad):Prop where
 ga:PySem.W.findIn K (.ref C) "__getattribute__"=some (some (.builtin "BaseException.__getattribute__"))
 gt:PySem.W.findIn K (.ref C) "__getattr__"=some none
 sb:PySem.W.subIn K (.ref C) (.type "BaseException")=some true
 fd:PySem.W.findObj K C none "__class__"=some (.bind (.builtin "getset_descriptor.__get__") (.builtin "object.__class__"))
 mr:PySem.W.mroIn K C (.type "object")=some true
 cl:(PySem.W.clsIn K C).isSome=true
 ty:PySem.W.typeIn K (.ref C)=some (.type "type")
inductive KTy(K:PySem.W.Frag)(cl:Nat->ad)(c:ae):Ty->Prop where
 |plain {t:Ty}:(∀al cs,t≠.exn al cs)->(["NoneType","bool","int","str","list","tuple"].all λk=>PySem.W.kitOne K (.type k) c == some (vN t k))=true->KTy K cl c t
 |exc {al cs:List Nat}:(∀n∈al,dY K (cl n)/\PySem.W.kitOne K (.ref (cl n)) c=some (cs.contains n))->KTy K cl c (.exn al cs)
def wX(K:PySem.W.Frag)(u:V)(c:ae):List V->Hp->VK->Prop:=λxs H Q=>∃x b,xs=[x,u]/\((∃t,fX K H x t/\PySem.W.kitOne K t c=some b)∨∃a C,x=.ref a/\H a=some (.ext (ExcΦ a C))/\dY K C/\PySem.W.kitOne K (.ref C) c=some b)/\Q (.bl b) H
def vD(u:V)(c:ae):Prop:=(∃T,u=.ty T/\c=.type T)∨∃C,u=.ref C/\c=.ref C
theorem Bt{u:V}{c:ae}(ru:vD u c):eQ X (.builtin "isinstance") (wX X.K u c):=by
 rintro pins s σ' H xs us Q I r ⟨x,b,ex,q,hQ⟩;subst ex;obtain⟨v,w,rfl,rx,ry⟩:=vals2 r;have ew:w=c:=by
  rcases ru with⟨T,rfl,rfl⟩|⟨C,rfl,rfl⟩ <;> exact ry
 subst ew;rcases q with⟨t,ty,e⟩|⟨a,C,rfl,ha,ec,e⟩
 ·exact Du I rx ty e λtk=>⟨.bl b,H,I.tok _,rfl,hQ⟩
 ·cases(show v=Value.ref a from rx);obtain⟨ph,_,_⟩:=(show bW X.prog X.w H s.heap a (.ext (ExcΦ a C)) from I.hok a _ ha);exact PySem.W.kia_one (FV ec.ga ec.gt ec.sb ec.fd ec.mr ec.cl) I.kIn ph e (λz=>nomatch z) λtk=>⟨.bl b,H,I.tok _,rfl,hQ⟩
theorem KTy.of{K:PySem.W.Frag}{cl:Nat->ad}{c:ae}{t:Ty}(k:KTy K cl c t)(ne:∀al cs,t≠.exn al cs){n:String}(hn:n∈["NoneType","bool","int","str","list","tuple"]):PySem.W.kitOne K (.type n) c=some (vN t n):=by
 cases k with
 |plain _ q=>exact beq_iff_eq.mp (eY.mp q n hn)
 |exc q=>exact absurd rfl (ne _ _)
theorem GX{c:ae}{u:V}{t:Ty}(k:KTy G.K G.cl c t){Q:VK}{x:MV}{x':V}(R:HR G m h H)(rx:VR G m H x x')(P:Post G X E EX m H (js t x h) λv m' _ H'=>∀v',VR G m' H' v v'->Q v' H'):wX G.K u c [x',u] H Q:=by
 by_cases ne:∃al cs,t=.exn al cs
 ·obtain⟨al,cs,rfl⟩:=ne;cases x with
  |ref n=>
    obtain⟨a,ea,rfl⟩:=rx;obtain⟨o,eo,qo,P1⟩:=cX R ea P;cases o with
    |exn c'=>
      dsimp only at P1;split at P1
      ·rename_i hc;cases k with
       |plain z _=>exact absurd rfl (z _ _)
       |exc q=>
         obtain⟨e1,e2⟩:=q c' (by simpa using hc);exact⟨_,_,rfl,.inr ⟨a,_,rfl,qo,e1,e2⟩,Post.here R P1 _ rfl⟩
      ·exact P1.elim
    |_=>exact P1.elim
  |_=>exact P.elim
 ·have ne':∀al cs,t≠.exn al cs:=λal cs z=>ne ⟨al,cs,z⟩;cases x with
  |non=>
    cases(show x'=V.non from rx);refine⟨_,_,rfl,.inl ⟨_,.non,k.of ne' (by decide)⟩,?_⟩
    cases t <;> first|exact Post.here R P _ rfl|exact absurd rfl (ne' _ _)
  |bl b=>
    cases(show x'=V.bl b from rx);refine⟨_,_,rfl,.inl ⟨_,.bl b,k.of ne' (by decide)⟩,?_⟩
    cases t <;> first|exact Post.here R P _ rfl|exact absurd rfl (ne' _ _)
  |int b=>
    cases(show x'=V.int b from rx);refine⟨_,_,rfl,.inl ⟨_,.int b,k.of ne' (by decide)⟩,?_⟩
    cases t <;> first|exact Post.here R P _ rfl|exact absurd rfl (ne' _ _)
  |str b=>
    cases(show x'=V.str b from rx);refine⟨_,_,rfl,.inl ⟨_,.str b,k.of ne' (by decide)⟩,?_⟩
    cases t <;> first|exact Post.here R P _ rfl|exact absurd rfl (ne' _ _)
  |scr _=>exact P.elim
  |any=>exact P.elim
  |tup xs=>
    obtain⟨a,vs,rfl,_,z,_⟩:=rx;refine⟨_,_,rfl,.inl ⟨_,.tup z,k.of ne' (by decide)⟩,?_⟩;cases t <;> first|exact Post.here R P _ rfl|exact absurd rfl (ne' _ _)
  |ref n=>
    obtain⟨a,ea,rfl⟩:=rx;obtain⟨o,eo,qo,P1⟩:=cX R ea P;cases o with
    |lst xs=>
      obtain⟨vs,r,z⟩:=qo;refine⟨_,_,rfl,.inl ⟨_,.lst z,k.of ne' (by decide)⟩,?_⟩;cases t <;> first|exact Post.here R P1 _ rfl|exact absurd rfl (ne' _ _)
    |exn c'=>cases t <;> first|exact P1.elim|exact absurd rfl (ne' _ _)
    |dct _=>cases t <;> exact P1.elim
    |ins _ _=>cases t <;> exact P1.elim
    |frz _=>cases t <;> exact P1.elim
theorem qi{e ce:az}{ge:ME}{t:Ty}{c:ae}{u:V}{p pos:Pos}(he:GE G X e ge)(hc:∀E,PE (X.wish E) ce (tC u))(cv:vD u c)(k:KTy G.K G.cl c t)(hm:X.mg "isinstance"=none)(hg:Gl X "isinstance":=by rfl)(hK:X.K=G.K:=by rfl)
  (hs:aU [e,ce] X.env=(false,aK e X.env)::aU [ce] X.env:=by rfl) (hs2:aU [ce] X.env=[(false,aK ce X.env)]:=by rfl) (hpl:(backTo pos (aU [ce] X.env)).any (·.1)=false:=by rfl) :
  GE G X (.Call (.Name "isinstance" p) [e,ce] [] pos) (eUn (js t) ge):=λE EX=>
 dD (wQ (X:=X.wish E) (Bt cv) hg hm PyProof.Rows.Boot.«isinstance» (lU (X:=X.wish E) (he E EX) (lU (X:=X.wish E) (hc E) sE hs2) hs) (by decide) (by decide) hs hpl) λσ' H Q e0=>bY e0 λm h σ ex S R P=>
  sub ex S R P λv m1 h1 H1 v' x1 R1 r1 P1=>by
   have:=GX (u:=u) k R1 r1 P1;rw[←hK]at this;exact this
theorem Inv.relocal{pins:List (ad×aw)}{s:ag}{hp:aI}{t:Nat}{σ2:St}{m2:Str->Option ae}(I:Inv X pins σ' H s)(hs:om X.env.locals s.heap hp)(hn:hp.Ns X.env.locals m2)(hl:σ2.length=σ'.length)
  (hv:∀(j:Nat) (y:Str) (v:V),X.N[j]?=some y->σ2[j]?=some (some v)->Vis X.env.scope y->∃u,aT v u/\Look X.env hp m2 y u):Inv X pins σ2 H { s with heap:=hp,toks:=t }:=by
 have n0:∀b o,X.s₀.heap.get? b=some o->b≠X.env.locals:=λb o e=>cT (c5 (bC e) I.ok.above);refine⟨I.ok,I.os,I.bare,⟨λb o e n hb hx=>(hs.2 b (n0 b o e)).trans (I.base.keep b o e n hb hx),λb o e n hb hx=>?_,I.base.free,λb o e hx=>?_,I.base.tups,I.base.frzs,I.base.tbls⟩,⟨m2,hn,hv⟩,λx c e=>?_,I.free,I.freeC,λp hp'=>?_,λb u e=>?_,hl.trans I.len⟩
 ·obtain⟨sl,z⟩:=I.base.slot b o e n hb hx;exact⟨sl,(hs.2 b (n0 b o e)).trans z⟩
 ·obtain⟨o',z⟩:=I.base.there b o e hx;exact⟨o',(hs.2 b (n0 b o e)).trans z⟩
 ·obtain⟨v,z⟩:=I.cell x c e;exact⟨v,z.sameBut hs (I.cne x c e)⟩
 ·obtain⟨a1,a2,a3,a4,a5⟩:=I.pin p hp';exact⟨(hs.2 _ a3).trans a1,a2,a3,a4,a5⟩
 ·have nl:∀c w',H c=some w'->c≠X.env.locals:=λc w' q z=>by rw[z,I.free]at q;cases q
  refine(I.hok b u e).stay (λc v hc q=>(hs.2 c ?_).trans q) (λ_ q=>q) λ_ _ q=>q;rcases hc with z|z
  ·rw[z];exact nl b u e
  ·exact nl c _ z
theorem nB{M:Model}{A:aX}{pins:List (ad×aw)}{s:ag}{n:Str}{i:Nat}{pos:Pos}{Q:Unit->ag->Prop}(I:Inv X pins σ' H s)(hN:X.N.Nodup)(hi:X.N[i]?=some n)(hl:X.env.kindOf n=some .local)
  (k:∀s',Inv X pins (σ'.set i none) H s'->Q () s'):aq M A (do bindName X.env n .none;unbindBehindTheSuite X.env n pos) Q E s:=by
 obtain⟨mm,hn,hv⟩:=I.loc;refine wpAny_nameGoes_keeps hl hn (by rw[I.ok.kind];rfl) λhp v hn' hs=>k _ (Inv.relocal I hs hn' (by simp) λj y w e1 e2 e3=>?_);by_cases hj:i=j
 ·subst hj;have:i<σ'.length:=by rw[I.len];exact(bT.mp hi).1
  rw[iA this]at e2;cases e2
 ·rw[je hj]at e2;obtain⟨u,ru,l⟩:=hv j y w e1 e2 e3;refine⟨u,ru,?_⟩;have ny:y≠n:=λz=>hj (zd hN hi (z▸e1));rcases l with⟨kk,q⟩|⟨kk,c,q,z⟩
  ·exact .inl ⟨kk,by simp[ny,q]⟩
  ·exact .inr ⟨kk,c,q,z.sameBut hs (I.cne y c q)⟩
theorem Inv.track{pins:List (ad×aw)}{s:ag}{a:ad}{φ:aI->Prop}(I:Inv X pins σ' H s)(f:Fp X pins H a)(ok:bW X.prog X.w (upd H a (.ext φ)) s.heap a (.ext φ)):Inv X pins σ' (upd H a (.ext φ)) s:=by
 have na:∀b u,H b=some u->b≠a:=λb u e z=>by rw[z,f.un]at e;cases e
 refine⟨I.ok,I.os,I.bare,⟨I.base.keep,I.base.slot,λb o e n hx=>?_,I.base.there,λb xs e=>?_,λb o u e=>?_,λb ps e=>?_⟩,I.loc,I.cell,?_,λx c e=>?_,λp hp=>?_,λb u e=>?_,I.len⟩
 ·rw[aY]
  ·exact I.base.free b o e n hx
  ·intro z;rcases f.new with y|y
   ·exact hx (z▸y)
   ·rw[z,y]at e;cases e
 ·have q:=I.base.tups b xs e;rw[aY (na b _ q)];exact q
 ·have q:=I.base.frzs b o u e;rw[aY (na b _ q)];exact q
 ·obtain⟨mo,q⟩:=I.base.tbls b ps e;exact⟨mo,by rw[aY (na b _ q)];exact q⟩
 ·rw[aY (Ne.symm f.loc)];exact I.free
 ·rw[aY (f.ce x c e)];exact I.freeC x c e
 ·obtain⟨a1,a2,a3,a4,a5⟩:=I.pin p hp;exact⟨a1,by rw[aY (f.pin p hp)];exact a2,a3,a4,a5⟩
 ·by_cases z:b=a
  ·subst z;rw[dE]at e;cases e;exact ok
  ·rw[aY z]at e;refine(I.hok b u e).stay (λ_ _ _ q=>q) (λc q=>?_) λc xs q=>?_
   ·rw[aY (na c _ q)];exact q
   ·rw[aY (na c _ q)];exact q
abbrev QD(G:Gb)(D:Ends):MF->List ad->MH->Hp->Prop:=λf m' _ H'=>match f with
 |.next σ1=>∀σ1',SR G m' H' σ1 σ1'->D.nx σ1' H'
 |.brk σ1=>∀σ1',SR G m' H' σ1 σ1'->D.bk σ1' H'
 |.cnt σ1=>∀σ1',SR G m' H' σ1 σ1'->D.ct σ1' H'
 |.ret v=>∀v',VR G m' H' v v'->D.rt v' H'
noncomputable abbrev Cx.inSuite(X:Cx)(A:aX):Cx:={ X with A:=A,calm:=false }
theorem Inv.mark{pins:List (ad×aw)}{s:ag}(I:Inv X pins σ' H s)(v:Option ae):Inv (Cx.inSuite X (X.A.mark v)) pins σ' H s:=
 ⟨⟨I.ok.mod,I.ok.kind,I.ok.glob,I.ok.blt,I.ok.above,I.ok.inj,I.ok.has,I.ok.cab,(λz=>nomatch z),I.ok.frames,I.ok.stk,I.ok.exf,I.ok.bs,I.ok.bsz,I.ok.noex,I.ok.exfs,I.ok.funs,I.ok.frf⟩,I.os,I.bare,I.base,I.loc,I.cell,I.free,I.freeC,I.pin,I.hok,I.len⟩
theorem Inv.unmark{pins:List (ad×aw)}{s:ag}{A:aX}(ok:X.Ok)(I:Inv (Cx.inSuite X A) pins σ' H s):Inv X pins σ' H s:=⟨ok,I.os,I.bare,I.base,I.loc,I.cell,I.free,I.freeC,I.pin,I.hok,I.len⟩
noncomputable abbrev Cx.pinned(X:Cx)(pn:List (ad×aw)):Cx:={ X with pn:=pn }
theorem Inv.toPn{pins:List (ad×aw)}{s:ag}(I:Inv X pins σ' H s):Inv (Cx.pinned X (X.pn++pins)) [] σ' H s:=
 ⟨⟨I.ok.mod,I.ok.kind,I.ok.glob,I.ok.blt,I.ok.above,I.ok.inj,I.ok.has,I.ok.cab,I.ok.hd,I.ok.frames,I.ok.stk,I.ok.exf,I.ok.bs,I.ok.bsz,I.ok.noex,I.ok.exfs,I.ok.funs,I.ok.frf⟩,I.os,I.bare,I.base,I.loc,I.cell,I.free,I.freeC,λp hp=>I.pin p (by simpa using hp),I.hok,I.len⟩
theorem Inv.ofPn{pins pins':List (ad×aw)}{s:ag}(ok:X.Ok)(I:Inv (Cx.pinned X (X.pn++pins)) pins' σ' H s):Inv X pins σ' H s:=
 ⟨ok,I.os,I.bare,I.base,I.loc,I.cell,I.free,I.freeC,λp hp=>I.pin p (gp _ hp),I.hok,I.len⟩
theorem Fp.ofPn{pins pins':List (ad×aw)}{b:ad}(f:Fp (Cx.pinned X (X.pn++pins)) pins' H b):Fp X pins H b:=⟨f.un,f.loc,f.fs,f.new,f.ce,λp hp=>f.pin p (gp _ hp)⟩
inductive GHs(G:Gb)(X:Cx)(al:List Nat):List ExceptHandler->List Hd->Prop where
 |nil:GHs G X al [] []
 |plain {x:Str} {np pos:Pos} {b0:aV} {body:List aV} {rest:List ExceptHandler} {C':ad} {cs:List Nat} {gb:MS} {ds:List Hd} (hm:X.mg x=some (.ref C')) (hg:Gl X x) (hC:dY X.K C')
   (hs:∀n∈al,PySem.W.subIn X.K (.ref (G.cl n)) (.ref C')=some (cs.contains n)) (hb:∀v,GSs G ET (Cx.inSuite X (X.A.mark v)) (b0::body) gb) (hd:(x == ("__debug__":Str))=false) (hr:GHs G X al rest ds) :
   GHs G X al (.ExceptHandler (some (.Name x np)) none (b0::body) pos::rest) (⟨cs,none,gb⟩::ds)
 |named {x n:Str} {i:Nat} {np pos:Pos} {b0:aV} {body:List aV} {rest:List ExceptHandler} {C':ad} {cs:List Nat} {gb:MS} {ds:List Hd} (hm:X.mg x=some (.ref C')) (hg:Gl X x) (hC:dY X.K C')
   (hs:∀n∈al,PySem.W.subIn X.K (.ref (G.cl n)) (.ref C')=some (cs.contains n)) (hN:X.N.Nodup) (hi:X.N[i]?=some n) (hl:X.env.scope.names.lookup n=some .local) (hb:∀v,GSs G ET (Cx.inSuite X (X.A.mark v)) (b0::body) gb) (hd:(x == ("__debug__":Str))=false) (hr:GHs G X al rest ds) :
   GHs G X al (.ExceptHandler (some (.Name x np)) (some n) (b0::body) pos::rest) (⟨cs,some i,gb⟩::ds)
theorem Post.noExc{α:Type}{a:M α}{Q:α->List ad->MH->Hp->Prop}{X':Cx}{E':ae->ag->Prop}{EX':St->Prop}(P:Post G X E EX m H (noExc a h) Q):Post G X' E' EX' m H (a h) Q:=by
 unfold Rv.noExc at P;cases e:a h with
 |ok v h'=>rw[e]at P;exact P
 |exc c h'=>rw[e]at P;exact P.elim
 |stuck=>rw[e]at P;exact P.elim
theorem SP.back{pins:List (ad×aw)}{D:Ends}{f:Flow}{s':ag}{A:aX}{E':ae->ag->Prop}(ok:X.Ok)(q:SP ((Cx.inSuite X A).wish E') pins D f s'):SP X pins D f s':=by
 cases f with
 |next=>obtain⟨σ2,H2,I,z⟩:=q;exact⟨σ2,H2,Inv.unmark ok I.unwish,z⟩
 |brk=>obtain⟨σ2,H2,I,z⟩:=q;exact⟨σ2,H2,Inv.unmark ok I.unwish,z⟩
 |cont=>obtain⟨σ2,H2,I,z⟩:=q;exact⟨σ2,H2,Inv.unmark ok I.unwish,z⟩
 |ret u=>obtain⟨v,σ2,H2,I,r,z⟩:=q;exact⟨v,σ2,H2,Inv.unmark ok I.unwish,r,z⟩
theorem AM{al:List Nat}{pins:List (ad×aw)}{D:Ends}{a:ad}{c:Nat}(hK:X.K=G.K)(hc:c∈al){hs:List ExceptHandler}{ds:List Hd}(g:GHs G X al hs ds):∀{s:ag}{H:Hp}{m:List ad}{h:MH},Inv X pins σ' H s->SR G m H σ σ'->HR G m h H ->
  Exc X pins H (fl c) (G.cl c) a s->Post G X E ET m H (i9 c σ ds h) (QD G D)->aq (au X.prog X.w) X.A (handleBy (.ref a) X.env hs) (SP X pins D) E s:=by
 induction g with
 |nil=>intro s H m h I S R x P;exact P.elim
 |@plain x np pos b0 body rest C' cs gb ds hm hg hC hs hb hd hr ih=>
   intro s H m h I S R x P;obtain⟨oe,vs,a1,a2,a3,a4,a5,a6,a7⟩:=id x;refine wpAny_handleBy_cons (codeAny_handlers_test (hI (Inv.mark I (some (.ref a))) hg hm ?_ hd)) (λq=>nomatch q);refine uK I.kIn a1 a2 hC.ty hC.cl hC.sb (hs c hc) ?_;unfold i9 at P;cases hcc:cs.contains c with
   |true=>
     rw[hcc,if_pos rfl]at P;refine codeAny_handlers_suite (vd I x λs1 I1 x1=>?_);exact br (hb (some (.ref a)) (λ_ _=>False) PassesOwn.never pins s1 σ' H D ((Inv.mark I1 _).wish _) ⟨m,h,σ,trivial,S,R,Post.noExc P⟩) (λf s2 q=>SP.back I.ok q) λ_ _ z=>z.elim
   |false=>
     rw[hcc,if_neg cp]at P;exact ih I S R x P
 |@named x n i np pos b0 body rest C' cs gb ds hm hg hC hs hN hi hl hb hd hr ih=>
   intro s H m h I S R x P;obtain⟨oe,vs,a1,a2,a3,a4,a5,a6,a7⟩:=id x;refine wpAny_handleBy_cons (codeAny_handlers_test (hI (Inv.mark I (some (.ref a))) hg hm ?_ hd)) (λq=>nomatch q);refine uK I.kIn a1 a2 hC.ty hC.cl hC.sb (hs c hc) ?_;unfold i9 at P;cases hcc:cs.contains c with
   |true=>
     rw[hcc,if_pos rfl]at P;refine codeAny_handlers_suite_as (vd I x λs1 I1 x1=>?_);obtain⟨oe1,vs1,b1,b2,b3,b4,b5,b6,b7,b8⟩:=id x1;have ph:ExcΦ a (G.cl c) s1.heap:=⟨oe1,vs1,b1,b2,b3,b4⟩;have I2:=Inv.track (φ:=ExcΦ a (G.cl c)) I1 b6 ⟨ph,⟨oe1,b1⟩,λp1 p2 ⟨o,ws,q1,q2,q3,q4⟩ k=>⟨o,ws,k o q1,q2,q3,q4⟩⟩;have x2:Ext m H (m++[a]) (upd H a (.ext (ExcΦ a (G.cl c)))):=Ext.new R b6.un;have R2:HR G (m++[a]) (h++[.exn c]) (upd H a (.ext (ExcΦ a (G.cl c)))):=R.new b6.un dE;have rn:VR G (m++[a]) (upd H a (.ext (ExcΦ a (G.cl c)))) (.ref h.length) (.ref a):=⟨a,by rw[←R.len];simp,rfl⟩
     have P2:=(Post.bind P) _ _ x2 R2;refine nQ (X:=X) (v:=.ref a) I2 hN hi (.inl hl) rfl (λs2 I3=>?_) (.inr hl);refine br (hb (some (.ref a)) (λ_ _=>False) PassesOwn.never pins s2 _ _ { nx:=λσ1' H1=>D.nx (σ1'.set i none) H1,rt:=D.rt,bk:=λσ1' H1=>D.bk (σ1'.set i none) H1,ct:=λσ1' H1=>D.ct (σ1'.set i none) H1 } ((Inv.mark I3 _).wish _)
      ⟨_,_,_,trivial,(S.mono x2).set i rn,R2,Post.noExc ((Post.bind P2).mono λf m3 h3 H3 x3 R3 P3=>?_)⟩) (λf s3 q=>?_) λ_ _ z=>z.elim
     ·have P4:=Post.here R3 P3;cases f with
      |next σ3=>exact λσ3' S3=>P4 _ (S3.forget i none)
      |brk σ3=>exact λσ3' S3=>P4 _ (S3.forget i none)
      |cnt σ3=>exact λσ3' S3=>P4 _ (S3.forget i none)
      |ret v=>exact P4
     ·have q':=SP.back I.ok q;cases f with
      |next=>obtain⟨σ4,H4,I4,z⟩:=q';exact nB I4 hN hi hl λs4 I5=>⟨_,H4,I5,z⟩
      |brk=>obtain⟨σ4,H4,I4,z⟩:=q';exact nB I4 hN hi hl λs4 I5=>⟨_,H4,I5,z⟩
      |cont=>obtain⟨σ4,H4,I4,z⟩:=q';exact nB I4 hN hi hl λs4 I5=>⟨_,H4,I5,z⟩
      |ret u=>obtain⟨v,σ4,H4,I4,r,z⟩:=q';exact nB I4 hN hi hl λs4 I5=>⟨v,_,H4,I5,r,z⟩
   |false=>
     rw[hcc,if_neg cp]at P;exact ih I S R x P
theorem CW{al:List Nat}{body:List aV}{h0:ExceptHandler}{hs:List ExceptHandler}{gb:MS}{ds:List Hd}{pos:Pos}(hb:∀pn EX,GSs G EX (Cx.pinned X pn) body gb)(hh:GHs G X al (h0::hs) ds)(hK:X.K=G.K:=by rfl)(hst:X.stack=X.env::X.outer:=by rfl)(hf:X.env.frame=some X.env.locals:=by rfl) :
  GS G ET X (.Try body (h0::hs) [] [] pos) (mI al gb ds):=λE hp pins s σ' H D I e0=>bY e0 λm h σ ex S R P=>by
 have I0:=I.unwish;refine wpAny_Try_except ?_;have fin:∀f s1,SP X pins D f s1->(match f with|.next=>aq (au X.prog X.w) X.A (execs [] X.env) (SP (X.wish E) pins D) E s1|f=>SP (X.wish E) pins D f s1):=λf s1 q=>by
  cases f with
  |next=>obtain⟨σ2,H2,I2,z⟩:=q;exact wpAny_execs_nil ⟨σ2,H2,I2.wish E,z⟩
  |brk=>obtain⟨σ2,H2,I2,z⟩:=q;exact⟨σ2,H2,I2.wish E,z⟩
  |cont=>obtain⟨σ2,H2,I2,z⟩:=q;exact⟨σ2,H2,I2.wish E,z⟩
  |ret u=>obtain⟨v,σ2,H2,I2,r,z⟩:=q;exact⟨v,σ2,H2,I2.wish E,r,z⟩
 have back:∀{E':ae->ag->Prop}{f s1},SP ((Cx.pinned X (X.pn++pins)).wish E') [] D f s1->SP X pins D f s1:=λ{E' f s1} q=>by
  cases f with
  |next=>obtain⟨σ2,H2,I2,z⟩:=q;exact⟨σ2,H2,Inv.ofPn I0.ok I2.unwish,z⟩
  |brk=>obtain⟨σ2,H2,I2,z⟩:=q;exact⟨σ2,H2,Inv.ofPn I0.ok I2.unwish,z⟩
  |cont=>obtain⟨σ2,H2,I2,z⟩:=q;exact⟨σ2,H2,Inv.ofPn I0.ok I2.unwish,z⟩
  |ret u=>obtain⟨v,σ2,H2,I2,r,z⟩:=q;exact⟨v,σ2,H2,Inv.ofPn I0.ok I2.unwish,r,z⟩
 unfold mI at P;cases eb:gb σ h with
 |ok f h'=>
   simp only[eb]at P;exact br (hb (X.pn++pins) ET (λ_ _=>False) PassesOwn.never [] s σ' H D ((Inv.toPn I0).wish _) ⟨m,h,σ,trivial,S,R,by rw[eb];exact P⟩) (λf s1 q=>fin f s1 (back q)) λ_ _ z=>z.elim
 |exc c h'=>
   simp only[eb]at P;split at P
   ·rename_i hcc;have fr:X.A.frames=some (X.env::X.outer):=by rw[I0.ok.frames,hst]
    refine br (hb (X.pn++pins) (λz=>z=σ') (EB G (Cx.pinned X (X.pn++pins)) (λz=>z=σ') [] m H c h') (EB.passes fr hst hf) [] s σ' H D ((Inv.toPn I0).wish _) ⟨m,h,σ,rfl,S,R,?_⟩) (λf s1 q=>fin f s1 (back q)) ?_
    ·rw[eb];intro pins' σ2 m2 H2 a s2 e2 x2 R2 I2 q2;exact⟨σ2,m2,H2,a,e2,x2,R2,I2.pins_of (λp hp=>absurd hp (by simp)),rfl,q2.imp λb fb=>⟨fb.un,fb.loc,fb.fs,fb.new,fb.ce,λp hp=>fb.pin p (gp _ (by simpa using hp))⟩⟩
    ·rintro e s1 ⟨σ2,m2,H2,a,rfl,x2,R2,I2,rfl,q2⟩;have I3:=Inv.ofPn I0.ok I2;have q3:Exc X pins H2 (fl c) (G.cl c) a s1:=q2.imp λb fb=>Fp.ofPn fb;refine kG (X:=X) fr hst hf I3 q3 λs4 I4 q4=>?_;refine jj I4 q4 λs5 I5 q5=>?_;refine br (AM (E:=E) hK (by simpa using hcc) hh I5 (S.mono x2) R2 q5.sh (P.ext x2)) (λf s6 q=>?_) λ_ _ z=>z;cases f with
     |next=>obtain⟨σ6,H6,I6,z⟩:=q;exact⟨σ6,H6,I6.wish E,z⟩
     |brk=>obtain⟨σ6,H6,I6,z⟩:=q;exact⟨σ6,H6,I6.wish E,z⟩
     |cont=>obtain⟨σ6,H6,I6,z⟩:=q;exact⟨σ6,H6,I6.wish E,z⟩
     |ret u=>obtain⟨v,σ6,H6,I6,r,z⟩:=q;exact⟨v,σ6,H6,I6.wish E,r,z⟩
   ·exact P.elim
 |stuck=>
   simp only[eb]at P;exact P.elim
noncomputable def f9(N:List Str)(x:List Str):List Str:=N.map (λn=>if n∈x then ah "" else n)++x
noncomputable def bU(X:Cx)(x:List Str)(scope:Scope)(cl:List (Str×ad))(C:ad)(s:ag)(H:Hp)(fp:List ad)(pins:List (ad×aw)):Cx:=
 { X with N:=f9 X.N x,env:=compEnvC scope cl C X.env,s₀:=s,H₀:=H,outer:=X.stack,ex:=fp,fn:=λ_=>false,pn:=X.pn++pins,xe:=λ_ _=>False }
structure dz(X:Cx)(x:List Str)(scope:Scope)(cl:List (Str×ad)):Prop where
 clos:closureFor scope X.env=pure cl
 cells:∀n c,cl.lookup n=some c->X.env.cells.lookup n=some c
 kind:scope.kind=.function
 nocell:∀y∈scope.names,y.2≠.cell
 locs:∀y∈scope.names,y.2=.local->scope.names.lookup y.1=some .local
 has:∀y,scope.names.lookup y=some .free->∃c,cl.lookup y=some c
 outk:∀y,scope.names.lookup y=some .free->X.env.kindOf y=some .cell∨X.env.kindOf y=some .free
 nolo:∀n∈X.N,n∉x->scope.names.lookup n≠some .local
 dum:scope.names.lookup (ah "")=none
 nd:(f9 X.N x).Nodup
theorem zP{env:Env}:∀{names:List (Str×NameKind)}{x:Str}{k:NameKind},(∀y∈names,y.2≠.cell)->(names.map λ(n,k)=>if(k == NameKind.free&&env.scope.kind == .function&&env.kindOf n == some .cell) then(n,NameKind.cell) else(n,k)).lookup x=some k ->
  names.lookup x=some k∨(names.lookup x=some .free/\k=.cell)
 |[],_,_,_,e=>by simp at e
 |(n,k0)::r,x,k,nc,e=>by
   have ih:=@zP env r x k (λy hy=>nc y (cS _ hy));by_cases hx:x=n
   ·subst hx;simp only[aN]at e;split at e
    ·rename_i hc;simp only[eP,beq_iff_eq]at hc;refine .inr ⟨by simp[cO,hc.1.1],?_⟩;simp only[cO,beq_self_eq_true,Option.some.injEq]at e;exact e.symm
    ·simp only[cO,beq_self_eq_true]at e ⊢;exact .inl e
   ·have hb:(x == n)=false:=by simpa using hx
    simp only[aN]at e;have e':(r.map λ(n,k)=>if(k == NameKind.free&&env.scope.kind == .function&&env.kindOf n == some .cell) then(n,NameKind.cell) else(n,k)).lookup x=some k:=by
     split at e <;> simpa only[cO,hb] using e
    simp only[cO,hb];exact ih e'
theorem vP{x:List Str}{scope:Scope}{cl:List (Str×ad)}{fp:List ad}{pins:List (ad×aw)}{s:ag}{hp:aI}{t:Nat}(ok:dz X x scope cl)(I:Inv X pins σ' H s)(hf:∀b∈fp,fe X pins H b)(hfo:∀b∈fp,∃o,s.heap.get? b=some o)
  (hn:∃mm,hp.Ns s.heap.objs.size mm) (hk:∀b o,s.heap.get? b=some o->hp.get? b=some o):Inv (bU X x scope cl s.heap.objs.size s H fp pins) [] (σ'++bF x.length none) H { s with heap:=hp,toks:=t }:=by
 obtain⟨mm,hn⟩:=hn;have ltC:∀b o,s.heap.get? b=some o->b≠s.heap.objs.size:=λb o e=>cT (bC e);have kd:∀y k,(relabel scope X.env).names.lookup y=some k->scope.names.lookup y=some k∨(scope.names.lookup y=some .free/\k=.cell):=λy k e=>zP ok.nocell e;have nc:∀y,scope.names.lookup y≠some .cell:=λy e=>ok.nocell _ (PySem.mem_of_lookup e) rfl;have stk:∀b,b≠X.env.locals->b∉X.fs->b∉frs X.stack:=λb h1 h2 z=>by
  rcases bE.mp (I.stkSub b z) with y|y
  ·exact h1 y
  ·exact h2 y
 refine ⟨⟨I.ok.mod,ok.kind,I.ok.glob,I.ok.blt,bc _,λy z c e1 e2=>I.ok.inj y z c (ok.cells y c e1) (ok.cells z c e2),λy hy=>?_,(λy c e=>nomatch e),I.ok.hd,I.ok.frames,.inl rfl,λb hb=>⟨?_,λy c e=>?_⟩,I.bs,bV I.ok.bsz I.sz,λb o e hb=>?_,λb hb=>?_,I.stack,I.stkFree⟩,
  rfl,I.bare,Un.kept hk,⟨mm,hn,λi y v e1 e2 e3=>?_⟩,λy c e=>?_,I.hok.fresh (bc _),λy c e=>I.freeC y c (ok.cells y c e),λp hp'=>?_,I.hok.kept hk,?_⟩
 ·have hy':scope.names.lookup y=some .free:=by
   rcases hy with hy|hy
   ·rcases kd y _ hy with z|z
    ·exact absurd z (nc y)
    ·exact z.1
   ·rcases kd y _ hy with z|z
    ·exact z
    ·exact z.1
  exact ok.has y hy'
 ·obtain⟨o,e⟩:=hfo b hb;exact ltC b o e
 ·exact(hf b hb).2.2.2.2.1 y c (ok.cells y c e)
 ·rcases(hf b hb).2.2.2.1 with z|z
  ·exact I.ok.noex b o e z
  ·exact absurd (c5 (bC e) (bV I.ok.bsz z)) (iN _)
 ·exact stk b (hf b hb).2.1 (hf b hb).2.2.1
 ·have hi:i<σ'.length:=by
   by_cases hi:i<σ'.length
   ·exact hi
   ·rw[ic (by lia),iC]at e2;split at e2 <;> cases e2
  rw[eM hi]at e2;have e1':(X.N.map λn=>if n∈x then ah "" else n)[i]?=some y:=by
   have:(f9 X.N x)[i]?=some y:=e1;unfold f9 at this
   rwa [eM (by simpa[←I.len] using hi)]at this
  rw[bX]at e1';cases en:X.N[i]? with
  |none=>rw[en]at e1';cases e1'
  |some n=>
    rw[en]at e1';have ey:(if n∈x then ah "" else n)=y:=Option.some.inj e1';by_cases hnx:n∈x
    ·rw[if_pos hnx]at ey;subst ey;exfalso;rcases e3 with z|z|z
     ·rcases kd _ _ z with w|w
      ·rw[ok.dum]at w;cases w
      ·have w:=w.1;rw[ok.dum]at w;cases w
     ·rcases kd _ _ z with w|w
      ·rw[ok.dum]at w;cases w
      ·have w:=w.1;rw[ok.dum]at w;cases w
     ·rcases kd _ _ z with w|w
      ·rw[ok.dum]at w;cases w
      ·have w:=w.1;rw[ok.dum]at w;cases w
    ·rw[if_neg hnx]at ey;subst ey;have fr:scope.names.lookup n=some .free/\((relabel scope X.env).names.lookup n=some .cell∨(relabel scope X.env).names.lookup n=some .free):=by
      rcases e3 with z|z|z
      ·rcases kd _ _ z with w|w
       ·exact absurd w (ok.nolo n (dR en) hnx)
       ·exact absurd w.2 (by decide)
      ·rcases kd _ _ z with w|w
       ·exact absurd w (nc n)
       ·exact⟨w.1,.inl z⟩
      ·rcases kd _ _ z with w|w
       ·exact⟨w,.inr z⟩
       ·exact⟨w.1,.inr z⟩
     obtain ⟨m0,hn0,hl0⟩:=I.loc;obtain ⟨u,ru,lk⟩:=hl0 i n v en e2 (by
      rcases ok.outk n fr.1 with z|z
      ·exact .inr (.inl z)
      ·exact .inr (.inr z))
     refine⟨u,ru,?_⟩;obtain⟨c',hc'⟩:=ok.has n fr.1;have hx':=ok.cells n c' hc';rcases lk with⟨k1,_⟩|⟨_,c,ec,o,ho,hd⟩
     ·rcases ok.outk n fr.1 with z|z <;> (rw[k1]at z;cases z)
     ·rw[ec]at hx';cases hx';exact .inr ⟨fr.2,c',hc',o,hk c' o ho,hd⟩
 ·obtain⟨v,o,ho,hd⟩:=I.cell y c (ok.cells y c e);exact⟨v,o,hk c o ho,hd⟩
 ·have hp2:p∈X.pn++pins:=by simpa[bU] using hp'
  obtain⟨a1,a2,a3,a4,a5⟩:=I.pin p hp2;exact⟨hk _ _ a1,a2,ltC _ _ a1,stk _ a3 a4,a5⟩
 ·show(σ'++bF x.length none).length=(f9 X.N x).length;simp[f9,I.len]
abbrev Nt(P:bh)(w:aR)(A:aX)(env:Env)(R:Result->ag->Prop):ae->ag->Prop:=notedBy (au P w) A env λe z=>R (.error e) z
theorem yp{P:bh}{w:aR}{A:aX}{R:Result->ag->Prop}{s:ag}{el tg io:az}{cs:List az}{sc:Scope}{ps:Pos}{iv ac:ae}{env:Env}(J:Nat->ag->Prop)
  (turn:∀n s,J n s->aq (au P w) A (pyNext iv) (λr s1=>match r with
   |none=>R (.ok .next) s1
   | some v=>aq (au P w) A (letOwnedTupleGo tg iv v >>= λ_=>assign tg env v) (λ_ s2=>
     aq (au P w) A (forIn cs true λc q=>if q=true then do let k ←isTrue c env (aK c env);pure (ForInStep.yield k) else pure (ForInStep.yield q)) (λk s3=>
      if k=true then aq (au P w) A (aK el env) (λy s4=>aq (au P w) A (call (.builtin "list.append") [ac,y]) (λ_ s5=>∃n',n'<n/\J n' s5) (Nt P w A env R) s4) (Nt P w A env R) s3
      else ∃n',n' < n/\J n' s3) (Nt P w A env R) s2) (Nt P w A env R) s1) (Nt P w A env R) s)
  (n:Nat) (j:J n s):codeAny (au P w) A (.compLoop (.ListComp el [⟨tg,io,cs,0⟩] sc ps) 0 iv ac env) R s:=by
 refine codeAny_loop rfl J (λn s j=>?_) n j;show aq _ A ((compTurn (.ListComp el [⟨tg,io,cs,0⟩] sc ps) 0 iv ac env).onRaise (λy=>do noteFrame y env;theTreesLotGoes y)) _ _ s;refine wpAny_noted ?_;rw[compTurn_list];refine ak (wpAny_standAt (ak (br (turn n s j) (λr s1 q1=>?_) λ_ _ z=>z)));cases r with
 |none=>exact aF q1
 |some v=>
   dsimp only at q1 ⊢;rw[←bind_assoc];refine ak (br q1 (λ_ s2 q2=>ak (br q2 (λk s3 q3=>?_) λ_ _ z=>z)) λ_ _ z=>z);cases k with
   |false=>exact aF ⟨rfl,q3⟩
   |true=>exact ak (ak (br q3 (λy s4 q4=>ak (br q4 (λ_ s5 q5=>aF (aF ⟨rfl,q5⟩)) λ_ _ z=>z)) λ_ _ z=>z))
theorem ur:∀(v:List MV) (σ:MSt),dI (hV σ.length v.length) v (σ++bF v.length none)=σ++v.map some
 |[],σ=>by simp[dI]
 |a::v,σ=>by
   have ih:=ur v (σ++[some a]);simp only[cQ,cr,jZ,Nat.zero_add]at ih;simp only[cr,List.range'_succ,dI,f7,aN];have e:(σ++none::bF v.length none:MSt).set σ.length (some a)=σ++[some a]++bF v.length none:=by simp
   rw[e,ih];simp
def qu(G:Gb)(X:Cx)(x:List Str)(scope:Scope)(cl:List (Str×ad))(ifs:List az)(gc:Option ME):Prop:=match ifs,gc with
 |[],none=>True
 |[c],some g=>∀C s H fp pins,GT G (bU X x scope cl C s H fp pins) c g
 |_,_=>False
theorem Ext.sideSet{q:ad}{u:HO}(x:Ext m H m' H')(e:H q=none):Ext m H m' (L2.upd H' q u):=
 ⟨x.pre,λa o z n nt=>⟨by rw[aY (dF z e)];exact(x.fr a o z n nt).1,(x.fr a o z n nt).2⟩,λa o u z=>by rw[aY (dF z e)];exact x.fz a o u z⟩
theorem Mn.adopt{q:ad}(nt:∀ys,H q≠some (.tup ys)):Mn m H (m++[q]) H:=⟨λ_ _=>xY,λa vs z n=>⟨z,by simp only[c6,dC,not_or];exact⟨n,λy=>nt vs (by rw[←y];exact z)⟩⟩⟩
theorem HR.adopt{q:ad}{o:MO}(R:HR G m h H)(nq:q∉m)(nt:∀ys,H q≠some (.tup ys))(nx:∀v,H q=some v->¬TbX v)(ro:OR G (m++[q]) H q o):HR G (m++[q]) (h++[o]) H:=by
 refine⟨by simp[R.len],?_,λn a ob ea eo=>?_,R.scr,R.tab.keep λb u z nb tx=>⟨z,by simp only[c6,dC,not_or];exact⟨nb,λy=>nx u (by rw[←y];exact z) tx⟩⟩⟩
 ·rw[kI];exact⟨R.nd,by simp,λa ha b hb=>by simp at hb;subst hb;intro z;subst z;exact nq ha⟩
 ·rcases lq ea with ea|⟨rfl,rfl⟩
  ·have eo':h[n]?=some ob:=by
    rcases lq eo with eo|⟨q',_⟩
    ·exact eo
    ·have:=(bT.mp ea).1;rw[R.len]at this;lia
   exact OR.mono (Mn.adopt nt) rfl (R.ob n a ob ea eo')
  ·have:ob=o:=by
    rcases lq eo with eo|⟨_,q'⟩
    ·have:=(bT.mp eo).1;rw[←R.len]at this;lia
    ·exact q'
   subst this;exact ro
def CIv(G:Gb)(Y:Cx)(src:Src)(gc:Option ME)(gelt:ME)(σ:MSt)(x:List Str)(fp:List ad)(tn:Nat->aI->Prop)(m1:List ad)(H2:Hp)(D:ad)(all:List MV)(hE:MH)(n:Nat)(s:ag):Prop:=∃k σc H5 m5 h5 acc vs rest,n=src.items.length-k/\k≤src.items.length/\Inv Y [] σc H5 s/\tn k s.heap/\(∀b∈fp,H5 b=none)/\SR G m5 H5 (σ++bF x.length none) σc/\HR G m5 h5 H5/\Ext m1 H2 m5 H5/\D∉m5/\VRs G m5 H5 acc vs/\H5 D=some (.lst vs)/\acc.length≤k/\bS src gc gelt σ (src.items.drop k) h5=.ok rest hE/\acc++rest=all
theorem Eh{x:List Str}{one:Bool}{pos:Pos}{tg elt iter:az}{ifs:List az}{scope:Scope}{cl:List (Str×ad)}{gc:Option ME}{gelt:ME}{src:Src}{J:It}{fp:List ad}{it D C:ad}{tn:Nat->aI->Prop}{s3 s4:ag}{H2 H3 H4:Hp}{pins:List (ad×aw)}{all:List MV}{hE:MH}
  (ok:dz X x scope cl) (helt:∀C s H fp pins,GE G (bU X x scope cl C s H fp pins) elt gelt) (hif:qu G X x scope cl ifs gc) (htg:∀C s H fp pins,GTg G (bU X x scope cl C s H fp pins) tg one (hV X.N.length x.length)) (hcalm:X.calm=true) (T:Turn X.prog X.w X.K tg J fp it tn) (hJ:JOk G J src one x.length m1 H2) (hlen:src.items.length≤100000)
  (hall:bS src gc gelt σ src.items h1=.ok all hE) (f3:∀b∈fp,fe X pins H3 b) (hC:∀b∈fp,b≠C) (hst:∀b∈fp,b∉frs X.stack) (I4:Inv (bU X x scope cl C s3 H3 fp pins) [] (σ'++bF x.length none) H4 s4) (st4:tn 0 s4.heap) (S1:SR G m1 H4 σ σ') (R1:HR G m1 h1 H4) (x4:Ext m1 H2 m1 H4)
  (hD:H2 D=none) (nD:D∉m1) (eD:H4 D=some (.lst [])) (frp:∀b∈fp,H4 b=none) {Rr:Result->ag->Prop}
  (hR:∀σc H5 m5 s5 vs,Inv (bU X x scope cl C s3 H3 fp pins) [] σc H5 s5->HR G m5 hE H5->Ext m1 H2 m5 H5->D∉m5->VRs G m5 H5 all vs->H5 D=some (.lst vs)->Rr (.ok .next) s5) :
  codeAny (au X.prog X.w) X.A (.compLoop (.ListComp elt [⟨tg,iter,ifs,0⟩] scope pos) 0 (.ref it) (.ref D) (compEnvC scope cl C X.env)) Rr s4:=by
 have len1:σ'.length=X.N.length:=by
  have:=I4.len;simp[bU,f9]at this;exact this
 have lenσ:σ.length=X.N.length:=S1.len.trans len1;have stat:∀{H':Hp}{pl:List (ad×aw)},(∀b∈fp,H' b=none)->(∀p∈pl,False)->∀b∈fp,fe (bU X x scope cl C s3 H3 fp pins) pl H' b:=λhn hpl b hb=>
  ⟨hn b hb,hC b hb,hst b hb,.inl hb,λy c e=>(f3 b hb).2.2.2.2.1 y c (ok.cells y c e),λp hp=>by
   rcases c6.mp hp with z|z
   ·exact(f3 b hb).2.2.2.2.2 p z
   ·exact (hpl p z).elim⟩
 have S1':SR G m1 H4 (σ++bF x.length none) (σ'++bF x.length none):=⟨by simp [S1.len],λi v e=>by
  by_cases hi:i<σ.length
  ·rw[eM hi]at e;obtain⟨v',q,r⟩:=S1.sl i v e;exact⟨v',by rw[eM (by rw[←S1.len];exact hi)];exact q,r⟩
  ·rw[ic (by lia),iC]at e;split at e <;> cases e⟩
 refine yp (λn s=>CIv G (bU X x scope cl C s3 H3 fp pins) src gc gelt σ x fp tn m1 H2 D all hE n s) ?_ src.items.length ⟨0,_,H4,m1,h1,[],[],all,rfl,d9 _,I4,st4,frp,S1',R1,x4,nD,.nil,eD,bc _,hall,rfl⟩;rintro n s ⟨k,σc,H5,m5,h5,acc,vs,rest,rfl,hk,I5,st5,fr5,S5,R5,x5,nD5,ra,eD5,hac,hci,hsum⟩;by_cases hlt:k<src.items.length
 ·have ed:src.items.drop k=src.items[k]::src.items.drop (k+1):=qe hlt;rw[ed]at hci;unfold bS at hci;split at hci
  case isFalse=>cases hci
  case isTrue hok=>
  obtain⟨j1,_⟩:=hJ m5 h5 H5 x5 R5 hok;obtain⟨lv,go,yl⟩:=j1 k src.items[k] (by simp[hlt]);generalize src.items[k]=v at lv yl hci;refine br (T.item (bU X x scope cl C s3 H3 fp pins) rfl rfl rfl hcalm k [] s σc H5 (λ_ _=>False) I5 (stat fr5 λp z=>by cases z) st5 go) (λr s6 q6=>?_) λ_ _ z=>z.elim;obtain⟨w,rfl,q6⟩:=q6;dsimp only;have q7:aq (au X.prog X.w) X.A (letOwnedTupleGo tg (.ref it) w >>= λ_=>assign tg (compEnvC scope cl C X.env) w) (λ_ s8=>∃σ8 H8 hp7,Inv (bU X x scope cl C s3 H3 fp pins) ([]++jf fp hp7) σ8 H8 s8/\Ext m5 H5 m5 H8/\HR G m5 h5 H8/\SR G m5 H8 (σ++v.map some) σ8/\tn (k+1) hp7) (λ_ _=>False) s6:=by
   refine ak (br q6 (λ_ s7 e0=>e0.elim λx' e1=>e1.elim λH' e2=>e2.elim λI7 e3=>e3.elim λrw7 e4=>e4.elim λy7 e5=>e5.elim λst7 fr7=>?_) λ_ _ z=>z);obtain⟨xx,RR,rx⟩:=yl x' H' y7;have I8:=I7.pinned (stat fr7 λp z=>by cases z) (T.obj _ _ st7);obtain⟨g,pg,hg⟩:=htg C s3 H3 fp pins (λ_ _=>False);refine br (pg _ s7 σc H' x' w (λσ9 H9=>H9=H'/\SR G m5 H' (σ++v.map some) σ9) (I8.wish _) rw7 (hg m5 H' v x' _ σc _ (S5.mono xx) rx (by simpa using lv) λσ1' S1'=>⟨rfl,?_⟩)) (λ_ s8 e0=>bD e0 λσ9 H9 I9 e2 S9=>?_) λ_ _ z=>z
   ·have e:=ur v σ;rw[lenσ,lv]at e;rw[e]at S1';exact S1'
   ·subst e2;exact⟨σ9,H9,s7.heap,I9.unwish,xx,RR,S9,st7⟩
  have again:∀{s9:ag}{H9:Hp}{m9:List ad}{h9:MH}{σ9:St}{hp7:aI}{acc9:List MV} {vs9:List V} {rest9:List MV},tn (k+1) hp7->Inv (bU X x scope cl C s3 H3 fp pins) ([]++jf fp hp7) σ9 H9 s9->SR G m9 H9 (σ++v.map some) σ9->HR G m9 h9 H9->Ext m1 H2 m9 H9->D∉m9 ->
    VRs G m9 H9 acc9 vs9->H9 D=some (.lst vs9)->acc9.length≤k+1->bS src gc gelt σ (src.items.drop (k+1)) h9=.ok rest9 hE->acc9++rest9=all ->
    ∃n',n'<src.items.length-k/\CIv G (bU X x scope cl C s3 H3 fp pins) src gc gelt σ x fp tn m1 H2 D all hE n' s9:=λ{s9 H9 m9 h9 σ9 hp7 acc9 vs9 rest9} st7 I9 S9 R9 x9 nD9 ra9 eD9 hac9 hci9 hsum9=>by
   have pn:∀b∈fp,∀o,hp7.get? b=some o->s9.heap.get? b=some o/\H9 b=none:=λb hb o e=>
    have z:=I9.pin (b,o) (cK _ (cK _ (pR hb e)))
    ⟨z.1,z.2.1⟩
   refine⟨src.items.length-(k+1),by lia,k+1,σ9,H9,m9,h9,acc9,vs9,rest9,rfl,hlt,I9.pins_of (λp hp=>absurd hp (by simp)),T.keep _ _ _ st7 λb hb o e=>(pn b hb o e).1,λb hb=>?_,?_,R9,x9,nD9,ra9,eD9,hac9,hci9,hsum9⟩
   ·obtain⟨o,e,_⟩:=T.obj _ _ st7 b hb;exact(pn b hb o e).2
   ·refine⟨by have:=S9.len;simp[lv]at this ⊢;exact this,λi v' e=>S9.sl i v' ?_⟩;by_cases hi:i<σ.length
    ·rw[eM hi]at e ⊢;exact e
    ·rw[ic (by lia),iC]at e;split at e <;> cases e
  have body:∀{s8:ag}{H8:Hp}{m8:List ad}{h8:MH}{σ8:St}{hp7:aI}{E':ae->ag->Prop},tn (k+1) hp7->Inv (bU X x scope cl C s3 H3 fp pins) ([]++jf fp hp7) σ8 H8 s8->SR G m8 H8 (σ++v.map some) σ8->HR G m8 h8 H8->Ext m5 H5 m8 H8 ->
    bnd (gelt (σ++v.map some)) (λve=>bnd (bS src gc gelt σ (src.items.drop (k+1))) λws=>ret (ve::ws)) h8=.ok rest hE ->
    aq (au X.prog X.w) X.A (aK elt (compEnvC scope cl C X.env)) (λxv s9=>aq (au X.prog X.w) X.A (call (.builtin "list.append") [.ref D,xv]) (λ_ s10=>∃n',n'<src.items.length-k/\CIv G (bU X x scope cl C s3 H3 fp pins) src gc gelt σ x fp tn m1 H2 D all hE n' s10) E' s9) E' s8:=λ{s8 H8 m8 h8 σ8 hp7 E'} st7 I8 S8 R8 x8 hc8=>by
   obtain⟨eD8,nD8⟩:=x8.fr D _ eD5 nD5 (λ_ z=>nomatch z);obtain⟨ve,h9,rest9,eg,hci9,er⟩:∃ve h9 rest9,gelt (σ++v.map some) h8=.ok ve h9/\bS src gc gelt σ (src.items.drop (k+1)) h9=.ok rest9 hE/\rest=ve::rest9:=by
    simp only[bnd]at hc8;cases eg:gelt (σ++v.map some) h8 with
    |ok ve h9=>
      rw[eg]at hc8;dsimp only at hc8;cases ec:bS src gc gelt σ (src.items.drop (k+1)) h9 with
      |ok ws h10=>
        rw[ec]at hc8;injection hc8 with e1 e2;subst e1;subst e2;exact⟨ve,h9,ws,rfl,ec,rfl⟩
      |exc c h'=>rw[ec]at hc8;cases hc8
      |stuck=>rw[ec]at hc8;cases hc8
    |exc c h'=>rw[eg]at hc8;cases hc8
    |stuck=>rw[eg]at hc8;cases hc8
   subst er;refine br (helt C s3 H3 fp pins (λ_ _=>False) ET _ s8 σ8 H8 (λv' H9=>∃m9,Ext m8 H8 m9 H9/\HR G m9 h9 H9/\VR G m9 H9 ve v') (I8.wish _) ⟨m8,h8,σ++v.map some,trivial,S8,R8,by rw[eg];exact λm9 H9 y R9 v' rv=>⟨m9,y,R9,rv⟩⟩) (λxv s9 e0=>e0.elim λv' e1=>e1.elim λH9 e2=>e2.elim λI9 e3=>e3.elim λr9 e4=>e4.elim λm9 e5=>e5.elim λx9 e6=>e6.elim λR9 rv=>?_) λ_ _ z=>z.elim;obtain⟨eD9,nD9⟩:=x9.fr D _ eD8 nD8 (λ_ z=>nomatch z);have x59:Ext m1 H2 m9 H9:=(x5.trans x8).trans x9;refine br (uF (X:=(bU X x scope cl C s3 H3 fp pins).wish λ_ _=>False) _ s9 σ8 H9 (.ref D) [v'] (.ref D) [xv] (λ_ H10=>H10=upd H9 D (.lst (vs++[v']))) I9 rfl (.cons r9 .nil) ⟨D,vs,v',rfl,rfl,eD9,?_,rfl⟩) (λ_ s10 e0=>bD e0 λv10 H10 I10 _ e10=>?_) λ_ _ z=>z.elim
   ·rw[←Paired.length ra];exact c5 (qS hac (c5 hlt hlen)) (big (bc _))
   ·subst e10;have mD:Mn m9 H9 m9 (upd H9 D (.lst (vs++[v']))):=Mn.sideSet λys z=>by rw[eD9]at z;cases z
    exact again (acc9:=acc++[ve]) (vs9:=vs++[v']) (rest9:=rest9) st7 I10.unwish ((S8.mono x9).mn mD) (R9.sideSet nD9 (λys z=>by rw[eD9]at z;cases z) (λo' ys z=>by rw[eD9]at z;cases z) (λv z=>by rw[eD9]at z;cases z;exact λy=>y)) (x59.sideSet hD) nD9 (VRs.mono mD (im (x9.vrs (x8.vrs ra)) (.cons rv .nil))) dE (by simp;lia) hci9 (by simpa using hsum)
  refine br q7 (λ_ s8 e0=>e0.elim λσ8 e1=>e1.elim λH8 e2=>e2.elim λhp7 e3=>e3.elim λI8 e4=>e4.elim λx58 e5=>e5.elim λR8 e6=>e6.elim λS8 st7=>?_) λ_ _ z=>z.elim;cases ifs with
  |nil=>cases gc with
    |none=>
      simp only[oj];refine aF ?_;rw[if_pos rfl];exact body st7 I8 S8 R8 x58 hci
    |some g=>exact hif.elim
  |cons c more=>cases more with
    |nil=>cases gc with
      |none=>exact hif.elim
      |some g=>
        have hif:∀C s H fp pins,GT G (bU X x scope cl C s H fp pins) c g:=hif;unfold bnd at hci;cases et:tst g (σ++v.map some) h5 with
        |ok b h6=>
          simp only [et] at hci;refine wpAny_tests_one (br (hif C s3 H3 fp pins (λ_ _=>False) ET _ s8 _ H8 (λb' H6=>b'=b/\∃m6,Ext m5 H8 m6 H6/\HR G m6 h6 H6) (I8.wish _) ⟨m5,h5,σ++v.map some,trivial,S8,R8,by
            rw [et];exact λm6 H6 y R6=>⟨rfl,m6,y,R6⟩⟩) (λb' s9 e0=>e0.elim λH6 e1=>e1.elim λI9 e2=>e2.elim λeb e3=>e3.elim λm6 e4=>e4.elim λx6 R6=>?_) λ_ _ z=>z.elim)
          subst eb;cases b' with
          |true=>
            rw[if_pos rfl];exact body st7 I9.unwish (S8.mono x6) R6 (x58.trans x6) (by simpa only[bnd,if_true] using hci)
          |false=>
            rw[if_neg cp];obtain⟨eD6,nD6⟩:=(x58.trans x6).fr D _ eD5 nD5 (λ_ z=>nomatch z);exact again st7 I9.unwish (S8.mono x6) R6 (x5.trans (x58.trans x6)) nD6 ((x58.trans x6).vrs ra) eD6 (by lia) (by simpa using hci) hsum
        |exc c h'=>simp only[et]at hci;cases hci
        |stuck=>simp only[et]at hci;cases hci
    |cons _ _=>exact hif.elim
 ·have e:k=src.items.length:=by lia
  subst e;rw[rD]at hci;unfold bS at hci;split at hci
  case isFalse=>cases hci
  case isTrue hok=>
  obtain⟨_,stp⟩:=hJ m5 h5 H5 x5 R5 hok;injection hci with e1 e2;subst e1;subst e2;refine br (T.done (bU X x scope cl C s3 H3 fp pins) rfl rfl rfl hcalm _ [] s σc H5 (λ_ _=>False) I5 (stat fr5 λp z=>by cases z) st5 stp) (λr s6 q6=>?_) λ_ _ z=>z.elim
  obtain⟨rfl,I6⟩:=q6;rw[va]at hsum;subst hsum;exact hR σc H5 m5 s6 vs I6 R5 x5 nD5 ra eD5
theorem wj{x:List Str}{one:Bool}{pos:Pos}{tg elt iter:az}{ifs:List az}{scope:Scope}{cl:List (Str×ad)}{gi:MI}{gc:Option ME}{gelt:ME}(ok:dz X x scope cl)(hi:GI G X tg iter one x.length gi)
  (helt:∀C s H fp pins,GE G (bU X x scope cl C s H fp pins) elt gelt) (hif:qu G X x scope cl ifs gc) (htg:∀C s H fp pins,GTg G (bU X x scope cl C s H fp pins) tg one (hV X.N.length x.length)) (hcalm:X.calm=true) {pins:List (ad×aw)} {s:ag} (I:Inv X pins σ' H s) (ex:EX σ') (S:SR G m H σ σ') (R:HR G m h H)
  {Q:MV->List ad->MH->Hp->Prop} (P:Post G X E EX m H (cZ gi gc gelt σ h) Q) {RR:ae->ad->Result->ag->Prop}
  (hRR:∀D C s5 H5 m5 h5 v,Inv X pins σ' H5 s5->Fp X pins H5 C->(∃mm,s5.heap.Ns C mm)->Ext m H m5 H5->HR G m5 h5 H5->VR G m5 H5 v (.ref D)->Q v m5 h5 H5->RR (.ref D) C (.ok .next) s5) :
  aq (au X.prog X.w) X.A (aK iter X.env) (λxv s₁=>aq (au X.prog X.w) X.A (pyIter xv) (λit s₂=>aq (au X.prog X.w) X.A (newList []) (λacc s₃=>
   aq (au X.prog X.w) X.A (newFunctionEnv scope X.env.globals cl [] X.env.qual none .none (some X.env)) (λcenv s₄=>
    codeAny (au X.prog X.w) X.A (.compStart (.ListComp elt [⟨tg,iter,ifs,0⟩] scope pos) 0 it acc { cenv with scope:=relabel scope X.env }) (RR acc cenv.locals) s₄) E s₃) E s₂) E s₁) E s:=by
 obtain ⟨wi,pw,hw⟩:=hi E EX;refine br (pw pins s σ' H (λJ H2=>∃src m1 h1,JOk G J src one x.length m1 H2/\HR G m1 h1 H2/\Ext m H m1 H2/\Post G X E EX m1 H2 ((if src.items.length≤100000 then bnd (noExc (bS src gc gelt σ src.items)) (λvs=>new (.lst vs)) else stk) h1) Q) (I.wish E)
  (hw σ' H _ ⟨m,h,σ,ex,S,R,(Post.bind P).mono λsrc m1 h1 H1 x1 R1 P1 J hJ=>⟨src,m1,h1,hJ,R1,x1,P1⟩⟩)) (λxv s1 q1=>br q1 (λitv s2 q2=>?_) λ_ _ z=>z) λ_ _ z=>z
 obtain⟨it,fp,tn,J,H2,rfl,I2,T,st2,f2,src,m1,h1,hJ,R1,x1,P1⟩:=q2;have I2:=I2.unwish;have f2:∀b∈fp,fe X pins H2 b:=f2;split at P1
 case isFalse=>exact P1.elim
 case isTrue hlen=>
 obtain⟨all,hE,hall,P2⟩:∃all hE,bS src gc gelt σ src.items h1=.ok all hE/\Post G X E EX m1 H2 (new (.lst all) hE) Q:=by
  unfold bnd noExc at P1;cases e:bS src gc gelt σ src.items h1 with
  |ok all hE=>rw[e]at P1;exact⟨all,hE,rfl,P1⟩
  |exc c h'=>rw[e]at P1;exact P1.elim
  |stuck=>rw[e]at P1;exact P1.elim
 have fD:H2 s2.heap.objs.size=none:=I2.hok.fresh (bc _);refine wpAny_newObj_type ?_;have I3:=I2.laid (t':=s2.toks) (o:=.lst []) (h':=s2.heap.push { cls:=.type "list",dict:=none,data:=.seq ([]:List ae).toArray }) (λb u e=>bJ _ e) (bc _) ⟨d9 _,[],0,.nil,dH _ rfl⟩;generalize hs3:({ s2 with heap:=s2.heap.push { cls:=.type "list",dict:=none,data:=.seq ([]:List ae).toArray } }:ag)=s3 at I3 ⊢;have e3:∀b o,s2.heap.get? b=some o->s3.heap.get? b=some o:=λb o e=>by rw[←hs3];exact bJ _ e
 have z3:s2.heap.objs.size<s3.heap.objs.size:=by rw[←hs3];simp
 have ffo:∀b∈fp,∃o,s2.heap.get? b=some o:=λb hb=>let ⟨o,e,_⟩:=T.obj 0 _ st2 b hb;⟨o,e⟩;have f3:∀b∈fp,fe X pins (upd H2 s2.heap.objs.size (.lst [])) b:=λb hb=>by
  obtain⟨o,e⟩:=ffo b hb;exact⟨by rw[aY (cT (bC e))];exact(f2 b hb).1,(f2 b hb).2⟩
 refine wpAny_newFunctionEnv ok.nocell (λy hy=>by simp at hy) (λhp4 ns4 sb4=>?_) ok.kind;have k4:∀b o,s3.heap.get? b=some o->hp4.get? b=some o:=λb o e=>sb4.extBut b o (cT (bC e)) (bJ _ e);have I4:=vP (t:=s3.toks+([]:List (Str×ae)).length) ok I3 f3 (λb hb=>let ⟨o,e⟩:=ffo b hb;⟨o,e3 b o e⟩) ⟨_,ns4⟩ k4;have st4:tn 0 hp4:=T.keep 0 _ _ st2 λb hb o e=>k4 b o (e3 b o e);have stkF:∀b∈fp,b∉frs X.stack:=λb hb z=>by
  rcases bE.mp (I3.stkSub b z) with y|y
  ·exact(f3 b hb).2.1 y
  ·exact(f3 b hb).2.2.1 y
 have loop:=Eh (pos:=pos) (iter:=iter) (C:=s3.heap.objs.size) (s3:=s3) (D:=s2.heap.objs.size) ok helt hif htg hcalm T hJ hlen hall f3 (λb hb=>let ⟨o,e⟩:=ffo b hb;cT (bC (e3 b o e))) stkF I4 st4 ((S.mono x1).mono (Ext.side fD)) (R1.side fD) (Ext.side fD) fD (R1.fresh fD) dE (λb hb=>(f3 b hb).1)
  (Rr:=RR (.ref s2.heap.objs.size) s3.heap.objs.size) λσc H5 m5 s5 vs I5 R5 x5 nD5 ra eD5=>by
   have xA:Ext m1 H2 (m5++[s2.heap.objs.size]) H5:=by
    obtain⟨e,pe⟩:=x5.pre;refine⟨⟨e++[s2.heap.objs.size],by rw[pe];simp⟩,λa o z n nt=>⟨(x5.fr a o z n nt).1,?_⟩,x5.fz⟩;simp only[c6,dC,not_or];exact⟨(x5.fr a o z n nt).2,dF z fD⟩
   have RA:HR G (m5++[s2.heap.objs.size]) (hE++[.lst all]) H5:=R5.adopt nD5 (λys z=>by rw[eD5]at z;cases z) (λv z=>by rw[eD5]at z;cases z;exact λy=>y) ⟨vs,VRs.mono (Mn.adopt (λys z=>by rw[eD5]at z;cases z)) ra,eD5⟩;refine hRR s2.heap.objs.size s3.heap.objs.size s5 H5 (m5++[s2.heap.objs.size]) (hE++[.lst all]) (.ref hE.length) (I3.call' I5.os I5.base I5.hok I5.bare λb hb=>⟨(f3 b hb).2.2.2.1,(f3 b hb).2.1,(f3 b hb).2.2.2.2.1,(f3 b hb).2.2.2.2.2⟩) (Fp.of I3 (lD (bc _)) I5.free) ?_ (x1.trans xA) RA ⟨_,by rw[←R5.len];simp,rfl⟩ (P2 _ _ xA RA);obtain⟨mm,hn,_⟩:=I5.loc;exact⟨mm,hn⟩
 exact codeAny_compStart_list loop (T.self X.A 0 _ _ _ st4 loop)
theorem iY{x:List Str}{one:Bool}{pos:Pos}{tg elt iter:az}{ifs:List az}{scope:Scope}{cl:List (Str×ad)}{gi:MI}{gc:Option ME}{gelt:ME}(ok:dz X x scope cl)(hi:GI G X tg iter one x.length gi)
  (helt:∀C s H fp pins,GE G (bU X x scope cl C s H fp pins) elt gelt) (hif:qu G X x scope cl ifs gc) (htg:(f9 X.N x).Nodup->∀C s H fp pins,GTg G (bU X x scope cl C s H fp pins) tg one (hV X.N.length x.length)) (hcalm:X.calm=true:=by rfl) (hs:∀z,foldedSetIterable iter X.env z=pure z:=by intro _;rfl) :
  GE G X (.ListComp elt [⟨tg,iter,ifs,0⟩] scope pos) (cZ gi gc gelt):=λE EX pins s σ' H Q I e0=>bY e0 λm h σ ex S R P=>by
 rw[eval_ListComp];refine wpAny_comprehension_free (use:=none) rfl hs ok.clos ok.kind ok.locs ?_;refine wj (RR:=λacc C=>compPost (au X.prog X.w) X.A E none (EP (X.wish E) pins σ' Q) acc C) ok hi helt hif (htg ok.nd) hcalm I.unwish ex S R P λD C s5 H5 m5 h5 v I5 fC hn x5 R5 rv q=>?_;obtain⟨mm,hn⟩:=hn;refine⟨mm,hn,λh6 hs6=>⟨.ref D,H5,Inv.wish ?_ E,rfl,q _ rv⟩⟩;exact fC.turned (t':=s5.toks) I5 λc o hc e=>hs6.extBut c o hc e
theorem mq{x:List Str}{y:Str}{n:Nat}{one:Bool}{py pos spos:Pos}{tg elt iter:az}{ifs:List az}{scope:Scope}{cl:List (Str×ad)}{gi:MI}{gc:Option ME}{gelt:ME}(ok:dz X x scope cl)(hi:GI G X tg iter one x.length gi)
  (helt:∀C s H fp pins,GE G (bU X x scope cl C s H fp pins) elt gelt) (hif:qu G X x scope cl ifs gc) (htg:(f9 X.N x).Nodup->∀C s H fp pins,GTg G (bU X x scope cl C s H fp pins) tg one (hV X.N.length x.length)) (hN:X.N.Nodup) (hy:X.N[n]?=some y:=by rfl) (hl:X.env.scope.names.lookup y=some .local:=by rfl) (hcalm:X.calm=true:=by rfl) (hs:∀z,foldedSetIterable iter X.env z=pure z:=by intro _;rfl)
  (hsw:swapsWith (.ListComp elt [⟨tg,iter,ifs,0⟩] scope pos) (some (.Name y py)) spos.line X.env=pure true:=by rfl) :
  GS G EX X (.Assign [.Name y py] (.ListComp elt [⟨tg,iter,ifs,0⟩] scope pos) spos) (aS n (cZ gi gc gelt)):=λE hp pins s σ' H D I e0=>bY e0 λm h σ ex S R P=>by
 show aq _ _ (exec _ X.env) _ _ s;rw[exec_Assign_Name_used _ _ _ _ hsw];refine ak (wpAny_standAt (ak ?_));show aq _ X.A (do let _ ←comprehension (.ListComp elt [⟨tg,iter,ifs,0⟩] scope pos) scope X.env _ (newList []) false (aK iter X.env) (some (assign (.Name y py) X.env))) _ _ s;refine ak (br (wpAny_comprehension_free (use:=some (assign (.Name y py) X.env)) (Q:=λ_ s'=>SP (X.wish E) pins D .next s') rfl hs ok.clos ok.kind ok.locs ?_) (λ_ s' hq=>aF (aF hq)) λ_ _ z=>z);refine wj (RR:=λacc C=>compPost (au X.prog X.w) X.A E (some (assign (.Name y py) X.env)) (λ_ s'=>SP (X.wish E) pins D .next s') acc C) ok hi helt hif (htg ok.nd) hcalm I.unwish ex S R (Post.bind P) λD' C s5 H5 m5 h5 v I5 fC hn x5 R5 rv q=>?_;obtain⟨mm,oC,es,ep,hoC,hdC,hkC⟩:=hn;have I6:Inv X (pins++[(C,oC)]) σ' H5 s5:=I5.pins_of λp hp=>by
  rcases c6.mp hp with z|z
  ·exact I5.pin p (cK _ z)
  ·cases dC.mp z;exact⟨hoC,fC.un,fC.loc,fC.fs,λv' z=>by rw[hdC]at z;cases z⟩
 refine wpAny_assign_Name (nQ (X:=X) (v:=.ref D') I6 hN hy (.inl hl) rfl (λs7 I7=>?_) (.inr hl));have pC:=I7.pin (C,oC) (cK _ (cK _ (dC.mpr rfl)));refine⟨mm,⟨oC,es,ep,pC.1,hdC,hkC⟩,λh8 hs8=>?_⟩;have I8:Inv X pins (σ'.set n (some (.ref D'))) H5 s7:=I7.pins_of λp hp=>I7.pin p (cK _ (gp _ hp));have I9:Inv X pins (σ'.set n (some (.ref D'))) H5 { s7 with heap:=h8 }:=fC.turned (t':=s7.toks) I8 λc o hc e=>hs8.extBut c o hc e;exact⟨_,H5,I9.wish E,Post.here R5 q _ ((S.mono x5).set n rv)⟩
theorem VR.flat_iff{x:MV}{v:V}(na:x≠.any)(r:VR G m H x v):il v=flat x:=by
 cases x with
 |any=>exact absurd rfl na
 |tup n=>obtain⟨a,vs,q,_⟩:=r;subst q;rfl
 |ref n=>obtain⟨a,_,q⟩:=r;subst q;rfl
 |scr n=>obtain⟨_,q⟩:=r;subst q;rfl
 |non=>cases(show v=V.non from r);rfl
 |bl b=>cases(show v=V.bl b from r);rfl
 |int b=>cases(show v=V.int b from r);rfl
 |str b=>cases(show v=V.str b from r);rfl
theorem VR.eq_iff{x y:MV}{v w:V}(r:VR G m H x v)(q:VR G m H y w)(fx:flat x=true)(fy:flat y=true):eqV v w=eqM x y:=by
 cases x <;> cases y <;> first|(exact absurd fx cp)|(exact absurd fy cp)|(cases r;cases q;rfl)
theorem tH{x:MV}(f:flat x=true):x≠.any:=λz=>by rw[z]at f;cases f
theorem VRs.flat_iff{xs:List MV}{vs:List V}(r:VRs G m H xs vs)(f:xs.all flat=true):vs.all il=true:=by
 induction r with
 |nil=>rfl
 |cons a t ih=>
   simp only[mF,eP]at f ⊢;exact⟨by rw[VR.flat_iff (tH f.1) a];exact f.1,ih f.2⟩
theorem VRs.in_iff{xs:List MV}{vs:List V}{x:MV}{v:V}(q:VR G m H x v)(fx:flat x=true)(r:VRs G m H xs vs)(fs:xs.all flat=true):inV v vs=inM x xs:=by
 unfold inV inM
 induction r with
 |nil=>rfl
 |cons a t ih=>
   simp only[mF,eP]at fs;simp only[j0,ih fs.2,VR.eq_iff a q fs.1 fx]
def tY(neg:Bool):R2:=λx y H Q=>∃a o,y=.ref a/\DGet H a x o/\Q (.bl (if neg then !o.isSome else o.isSome)) H
theorem yg(hu:X.A.units+1<cLine):OpR X (cP .In) (λx y H Q=>rIn X.K false x y H Q∨tY false x y H Q):=by
 refine EU.or ?_;rintro pins s σ2 H x y v u Q I rx ry ⟨a,o,ey,g,q⟩;subst ey;cases ry;exact GU hu I g rx λs3 I3=>⟨.bl o.isSome,H,I3,rfl,q⟩
theorem EJ(hu:X.A.units+1<cLine):OpR X (cP .NotIn) (λx y H Q=>rIn X.K true x y H Q∨tY true x y H Q):=by
 refine Fe.or ?_;rintro pins s σ2 H x y v u Q I rx ry ⟨a,o,ey,g,q⟩;subst ey;cases ry;exact E5 hu I g rx λs3 I3=>⟨.bl (!o.isSome),H,I3,rfl,q⟩
theorem sD{neg:Bool}:VO G (oIn neg) (λx y H Q=>rIn G.K neg x y H Q∨tY neg x y H Q):=by
 intro X E EX m h H x y x' y' Q R rx ry P;cases y with
 |ref a=>
   obtain⟨aa,ea,rfl⟩:=ry;obtain⟨oa,e1,q1,P1⟩:=cX R ea P;cases oa with
   |lst xs=>
     obtain⟨vs,r,z⟩:=q1;dsimp only at P1;split at P1
     ·rename_i c;exact .inl ⟨aa,vs,rfl,.inl (SqL.of z),by rw[VR.flat_iff (tH c.1) rx];exact c.1,VRs.flat_iff r c.2,by rw[VRs.in_iff rx c.1 r c.2];exact Post.here R P1 _ rfl⟩
     ·exact P1.elim
   |dct kvs=>
     obtain⟨ws,r,z⟩:=q1;dsimp only at P1;cases x with
     |str k=>
       cases(show x'=V.str k from rx);refine .inr ⟨aa,_,rfl,DGet.k (k:=Sum.inr k) z,?_⟩;have e:(fR ws (Sum.inr k)).isSome=(dget k kvs).isSome:=by rw[←qK,xn r]
       rw[e];exact Post.here R P1 _ rfl
     |_=>exact P1.elim
   |_=>exact P1.elim
 |tup xs=>
   obtain⟨aa,vs,rfl,_,z,r⟩:=ry;have r:=VRl.to r;unfold oIn at P;dsimp only at P;split at P
   ·rename_i c;exact .inl ⟨aa,vs,rfl,.inr (SqT.of z),by rw[VR.flat_iff (tH c.1) rx];exact c.1,VRs.flat_iff r c.2,by rw[VRs.in_iff rx c.1 r c.2];exact Post.here R P _ rfl⟩
   ·exact P.elim
 |_=>exact P.elim
theorem wY{α β:Type}{Rr:α->β->Prop}:∀(xs:List α) (ys:List β),xs.length=ys.length->(∀(i:Nat) x y,xs[i]?=some x->ys[i]?=some y->Rr x y)->cg Rr xs ys
 |[],[],_,_=>.nil
 |[],_::_,e,_=>by simp at e
 |_::_,[],e,_=>by simp at e
 |x::xs,y::ys,e,f=>.cons (f 0 x y rfl rfl) (wY xs ys (by simpa using e) λi a b ha hb=>f (i+1) a b (by simpa using ha) (by simpa using hb))
end L2.Rv
namespace L2.Rv
open PySem PySem.Spec PyProof.Rows
variable {G:Gb}{X:Cx}
def mf(env:Env):List (Str×ad)->Prop
 |[]=>True
 |(n,c)::r=>env.cells.lookup n=some c/\mf env r
theorem mf.get{env:Env}:∀{cl:List (Str×ad)},mf env cl->∀n c,cl.lookup n=some c->env.cells.lookup n=some c
 |[],_,n,c,e=>by simp at e
 |(n',c')::r,k,n,c,e=>by
   by_cases hn:n=n'
   ·subst hn;simp only[cO,beq_self_eq_true]at e;cases e;exact k.1
   ·have hb:(n == n')=false:=by simpa using hn
    simp only[cO,hb]at e;exact mf.get k.2 n c e
noncomputable def wM(N:List Str)(x:List Str)(scope:Scope)(env:Env)(cl:List (Str×ad)):Bool:=
 scope.names.all (λy=>y.2 != .cell)&&scope.names.all (λy=>y.2 != .local||scope.names.lookup y.1 == some .local)&&true &&
 scope.names.all (λy=>y.2 != .free||((cl.lookup y.1).isSome&&(env.kindOf y.1 == some .cell||env.kindOf y.1 == some .free))) &&
 N.all (λn=>decide (n∈x)||scope.names.lookup n != some .local)&&(scope.names.lookup (ah "")).isNone&&decide (f9 N x).Nodup
theorem dz.of{x:List Str}{scope:Scope}{cl:List (Str×ad)}(h1:closureFor scope X.env=pure cl)(h2:mf X.env cl)(h0:scope.kind=.function)(h3:wM X.N x scope X.env cl=true):dz X x scope cl:=by
 simp only[wM,eP,eY,tZ,bne_iff_ne,ne_eq,beq_iff_eq,decide_eq_true_eq,Option.isNone_iff_eq_none]at h3;obtain⟨⟨⟨⟨⟨⟨a1,a2⟩,a3⟩,a4⟩,a5⟩,a6⟩,a7⟩:=h3;refine⟨h1,h2.get,h0,a1,λy hy e=>(a2 y hy).resolve_left (λz=>z e),λy e=>?_,λy e=>?_,λn hn ne=>(a5 n hn).resolve_left ne,a6,a7⟩
 ·have:=(a4 _ (PySem.mem_of_lookup e)).resolve_left (λz=>z rfl);exact kP.mp this.1
 ·exact((a4 _ (PySem.mem_of_lookup e)).resolve_left (λz=>z rfl)).2
theorem Dl{K:PySem.W.Frag}{C:ad}{name:Str}{a g:ae}(hc:(PySem.W.clsIn K C).isSome=true)(ha:PySem.W.findIn K (.ref C) name=some (some a))(hg:PySem.W.specialIn K a "__get__"=some (some g))(ht:PySem.W.takesIn K a=some true):PySem.W.findObj K C none name=some (.bind g a):=by
 obtain⟨cd,hc⟩:=kP.mp hc;unfold PySem.W.findObj;rw[hc,Option.bind_some,ha,Option.bind_some];simp[hg,ht]
noncomputable abbrev nO:List ae:=[.type "ValueError",.type "Exception",.type "BaseException",.type "object"]
noncomputable abbrev nH:String:="ValueError.__new__"
end L2.Rv
namespace L2.Rv
open PySem PySem.Spec PyProof.Rows
variable {G:Gb}{m m' m1 m2:List ad}{h h' h1 h2:MH}{H H' H1 H2:Hp}{X:Cx}{E:ae->ag->Prop}{EX:St->Prop}{σ:MSt}{σ':St}
theorem Inv.turnedL{pins:List (ad×aw)}{s:ag}{fp:List ad}{hp:aI}{t:Nat}(I:Inv X pins σ' H s)(f:∀b∈fp,fe X pins H b)(k:∀c o,c∉fp->s.heap.get? c=some o->hp.get? c=some o):Inv X pins σ' H { s with heap:=hp,toks:=t }:=by
 have nit:∀b u,H b=some u->b∉fp:=λb u e z=>by rw[(f b z).1]at e;cases e
 refine I.step (g':=s.gens) (d':=s.drawn) (ch:=fp) (λb hb=>⟨(f b hb).2.2.2.1,(f b hb).2.1,(f b hb).2.2.2.2.1,(f b hb).2.2.2.2.2⟩) (λb o _ _ hc e _=>k b o hc e) (λb o _ _ hc e _=>⟨o.slots,k b o hc e⟩) (λ_ _ _ _ n=>n)
  (λb o hc e=>⟨o,k b o hc e⟩) (λ_ _ e=>e) (λ_ _ _ e=>e) (λb ps e=>⟨#[],by rw[e];simp⟩) (λmm hm=>?_) (λb u e=>?_) I.bare
 ·obtain⟨o,es,ep,ho,r⟩:=hm;exact⟨o,es,ep,k _ o (λz=>(f _ z).2.1 rfl) ho,r⟩
 ·refine(I.hok b u e).stay (λc v hc q=>k c v ?_ q) (λ_ q=>q) λ_ _ q=>q;rcases hc with z|z
  ·rw[z];exact nit b u e
  ·exact nit c _ z
theorem Inv.trackO{pins:List (ad×aw)}{s:ag}{a:ad}{v:HO}(I:Inv X pins σ' H s)(f:Fp X pins H a)(ok:bW X.prog X.w (upd H a v) s.heap a v):Inv X pins σ' (upd H a v) s:=by
 have na:∀b u,H b=some u->b≠a:=λb u e z=>by rw[z,f.un]at e;cases e
 refine⟨I.ok,I.os,I.bare,⟨I.base.keep,I.base.slot,λb o e n hx=>?_,I.base.there,λb xs e=>?_,λb o u e=>?_,λb ps e=>?_⟩,I.loc,I.cell,?_,λx c e=>?_,λp hp=>?_,λb u e=>?_,I.len⟩
 ·rw[aY]
  ·exact I.base.free b o e n hx
  ·intro z;rcases f.new with y|y
   ·exact hx (z▸y)
   ·rw[z,y]at e;cases e
 ·have q:=I.base.tups b xs e;rw[aY (na b _ q)];exact q
 ·have q:=I.base.frzs b o u e;rw[aY (na b _ q)];exact q
 ·obtain⟨mo,q⟩:=I.base.tbls b ps e;exact⟨mo,by rw[aY (na b _ q)];exact q⟩
 ·rw[aY (Ne.symm f.loc)];exact I.free
 ·rw[aY (f.ce x c e)];exact I.freeC x c e
 ·obtain⟨a1,a2,a3,a4,a5⟩:=I.pin p hp;exact⟨a1,by rw[aY (f.pin p hp)];exact a2,a3,a4,a5⟩
 ·by_cases z:b=a
  ·subst z;rw[dE]at e;cases e;exact ok
  ·rw[aY z]at e;refine(I.hok b u e).stay (λ_ _ _ q=>q) (λc q=>?_) λc xs q=>?_
   ·rw[aY (na c _ q)];exact q
   ·rw[aY (na c _ q)];exact q
section
variable {o i e:az}{go gi ge:ME}{pos tpos:Pos}{op:Operator}{g:Int->Int->Int}{f:Op2}
end
end L2.Rv
namespace L2.Rv
open PySem PySem.Spec PyProof.Rows PySem.W
section
variable {prog:bh}{w:aR}{A:aX}{E:ae->ag->Prop}{s:ag}{b fin:Bool}{Q:Bool->ag->Prop}
theorem o8{i:Int}{u:ae}(h:(bR prog w).is (.inl i) u=true):∃t,u=Value.int i t:=by
 rcases gF (show jb (.inl i) u=true from h) with⟨_,t,e,q⟩|⟨_,_,e,_⟩
 ·cases e;exact⟨t,q⟩
 ·cases e
theorem n5{i:Str}{u:ae}(h:(bR prog w).is (.inr i) u=true):∃t,u=Value.str i t:=by
 rcases gF (show jb (.inr i) u=true from h) with⟨_,_,e,_⟩|⟨_,t,e,q⟩
 ·cases e
 ·cases e;exact⟨t,q⟩
theorem AT{x y:List Key}{us vs:List ae}{i:Nat}{c:Bool}(hx:PySem.ItemsAre (bR prog w) x us)(hy:PySem.ItemsAre (bR prog w) y vs)(hl:ltK x y=some c)(hf:fin=decide (us.length<vs.length))(h:Q c s) :
  KatLex prog w A b fin Q (us.zip vs) i s:=by
 induction hx generalizing y vs i with
 |nil=>
   have:c=fin:=by
    rw[hf];cases hy with
    |nil=>simpa[ltK] using hl.symm
    |cons _ _=>simpa[ltK] using hl.symm
   subst this;exact h
 |@cons k u x us hu hx ih=>
  cases hy with
  |nil=>
   have:c=fin:=by rw[hf];simpa[ltK] using hl.symm
   subst this;exact h
  |@cons l v y vs hv hy=>
   rw[lh];refine kat_cons ?_;unfold ltK at hl;have go:∀e:Bool,e=decide (k=l)->KatGo prog w A b fin Q u v (us.zip vs) i e s:=λe he=>by
    by_cases hkl:k=l
    ·rw[if_pos hkl]at hl;have:e=true:=by rw[he];simpa using hkl
     subst this;exact kat_yes (ih hy hl (by rw[hf];simp))
    ·rw[if_neg hkl]at hl;have:e=false:=by rw[he];simpa using hkl
     subst this;refine kat_no ?_;cases k with
     |inl a=>cases l with
       |inl a'=>
         obtain⟨t,rfl⟩:=o8 hu;obtain⟨t',rfl⟩:=o8 hv;have ec:decide (a<a')=c:=by simpa using hl
         subst ec;cases hb:(b&&i == 0) with
         |true=>exact oneLt_int h
         |false=>exact kat_one _ _ (wpAny_lt_int h)
       |inr a'=>simp at hl
     |inr a=>cases l with
       |inl a'=>simp at hl
       |inr a'=>
         obtain⟨t,rfl⟩:=n5 hu;obtain⟨t',rfl⟩:=n5 hv;have ec:decide (a.cps.toList<a'.cps.toList)=c:=by simpa using hl
         subst ec;cases hb:(b&&i == 0) with
         |true=>exact oneLt_str h
         |false=>exact kat_one _ _ (PyProof.Rows.lt_str h)
   exact(bR prog w).eqBool (a:=k) (b:=l) hu hv (go _ rfl)
theorem AO{x y:List Key}{a a':ad}{c:Bool}(hx:PySem.IsTupleKey (bR prog w) s.heap x a)(hy:PySem.IsTupleKey (bR prog w) s.heap y a')(hl:ltK x y=some c)(h:Q c s) :
  aq (au prog w) A (keyLt' (tuples' b) (.ref a) (.ref a')) Q E s:=by
 obtain⟨ox,us,n,e1,_,d1,i1⟩:=hx;obtain⟨oy,vs,n',e2,_,d2,i2⟩:=hy;exact kat_lt e1 d1 e2 d2 (AT i1 i2 hl (by simp) h)
theorem AA{x y:List Key}{a a':ad}{c:Bool}{P:PySem.Fin->ag->Prop}(hx:PySem.IsTupleKey (bR prog w) s.heap x a)(hy:PySem.IsTupleKey (bR prog w) s.heap y a')(hl:ltK x y=some c)
  (h:P (.done (.ret (.bool c))) s):aq (au prog w) A (Builtin.«tuple.__lt__» ⟨[.ref a,.ref a'],[]⟩) P E s:=by
 have hTb:=hy.typeIs;obtain⟨oa,xs,na,hoa,_,hda,hia⟩:=hx;obtain⟨ob,ys,nb,hob,_,hdb,hib⟩:=hy;show aq _ _ (isInstance (.ref a') (.type "tuple") >>= _) _ _ s;refine ak (wpAny_isInstance hTb isSubtype_tuple_tuple ?_);simp only[d3,bd,if_false];refine ak (wpAny_tupleItemsOf hoa hda ?_);refine ak (wpAny_tupleItemsOf hob hdb ?_);refine ak ?_;refine wpAny_forIn_list _
  (λrest r s'=>r.1=none/\s'=s/\∃x' y' xs' ys',rest=List.zip xs' ys'/\PySem.ItemsAre (bR prog w) x' xs'/\PySem.ItemsAre (bR prog w) y' ys'/\ltK x' y'=some c/\decide (xs'.length<ys'.length)=decide (xs.size<ys.size))
  _ ?_ ?_ _ _ ⟨rfl,rfl,x,y,xs.toList,ys.toList,rfl,hia,hib,hl,by simp⟩
 ·rintro⟨u,v⟩ rest r s' ⟨hr,rfl,x',y',xs',ys',hz,hx',hy',hdec,hlen⟩;cases hx' with
  |nil=>simp at hz
  |@cons k1 u' x'' xs'' h1 hx''=>
    cases hy' with
    |nil=>simp at hz
    |@cons k2 v' y'' ys'' h2 hy''=>
      simp only[lh,List.cons.injEq,Prod.mk.injEq]at hz;obtain⟨⟨rfl,rfl⟩,rfl⟩:=hz;refine ak ((bR prog w).eqBool (a:=k1) (b:=k2) h1 h2 ?_);unfold ltK at hdec;by_cases hk:k1=k2
      ·rw[if_pos hk]at hdec;rw[decide_eq_true hk];simp only[d3,bd,if_false];exact aF ⟨rfl,rfl,x'',y'',xs'',ys'',rfl,hx'',hy'',hdec,by simpa using hlen⟩
      ·rw[if_neg hk]at hdec;rw[decide_eq_false hk];simp only[fQ,if_true];refine ak (wpAny_rule (ak ?_));cases k1 with
       |inl i=>cases k2 with
         |inl j=>
           obtain⟨t,rfl⟩:=o8 h1;obtain⟨t',rfl⟩:=o8 h2;have ec:decide (i<j)=c:=by simpa using hdec
           subst ec;exact(show aq (au prog w) A (cP .Lt (.int i t) (.int j t')) _ _ s' from wpAny_lt_int (ak (aF (aF (aF h)))))
         |inr j=>simp at hdec
       |inr i=>cases k2 with
         |inl j=>simp at hdec
         |inr j=>
           obtain⟨t,rfl⟩:=n5 h1;obtain⟨t',rfl⟩:=n5 h2;have ec:decide (i.cps.toList<j.cps.toList)=c:=by simpa using hdec
           subst ec;exact(show aq (au prog w) A (cP .Lt (.str i t) (.str j t')) _ _ s' from PyProof.Rows.lt_str (ak (aF (aF (aF h)))))
 ·rintro⟨r1,r2⟩ s' ⟨hr,rfl,x',y',xs',ys',hz,hx',hy',hdec,hlen⟩;simp only at hr;subst hr;refine aF ?_;have hfin:decide (xs.size<ys.size)=c:=by
   rw[←hlen];cases hx' with
   |nil=>
     cases hy' with
     |nil=>simpa[ltK] using hdec
     |cons _ _=>simpa[ltK] using hdec
   |cons _ _=>
     cases hy' with
     |nil=>simpa[ltK] using hdec
     |cons _ _=>simp at hz
  show P (.done (.ret (.bool (decide (xs.size<ys.size))))) s';rw[hfin];exact h
theorem Gu{x y:List Key}{a a':ad}{c:Bool}{Q:ae->ag->Prop}(hu:A.units<cLine)(hx:PySem.IsTupleKey (bR prog w) s.heap x a)(hy:PySem.IsTupleKey (bR prog w) s.heap y a')(hl:ltK x y=some c)
  (h:Q (.bool c) s):aq (au prog w) A (cP .Lt (.ref a) (.ref a')) Q E s:=
 show aq (au prog w) A (richCompare .Lt (.ref a) (.ref a')) Q E s from
 wpAny_richCompare_same_room (op:=.Lt) hx.typeIs hy.typeIs PySem.F.slot_tuple_lt (wpAny_call_entry PySem.F.slot_tuple_lt hx.typeIs PySem.F.entry_tuple_lt (AA hx hy hl ⟨_,rfl,(λe=>nomatch e),h⟩) (PySem.F.args_tuple_lt_2 _ _)) hu
theorem FH{x y:List Key}{a a' p p':ad}{o o':aw}{us vs:List ae}{n n':Nat}{c:Bool}(hu:A.units<cLine)(e1:s.heap.get? a=some o)(d1:o.data=.seq (.ref p::us).toArray n)(e2:s.heap.get? a'=some o')(d2:o'.data=.seq (.ref p'::vs).toArray n')
  (hx:PySem.IsTupleKey (bR prog w) s.heap x p) (hy:PySem.IsTupleKey (bR prog w) s.heap y p') (hne:x≠y) (hl:ltK x y=some c) (h:Q c s):aq (au prog w) A (keyLt' (tuples' false) (.ref a) (.ref a')) Q E s:=by
 refine kat_lt e1 d1 e2 d2 ?_;rw[rJ,rJ,lh];refine kat_cons (PySem.wpAny_eqBool_tuple hu hx hy ?_);rw[decide_eq_false hne];exact kat_no (kat_one _ _ (Gu hu hx hy hl h))
end
theorem yG{α:Type}{ask:Nat->Nat->Option Bool}{cmp:Nat->Nat->(Bool->ag->Prop)->ag->Prop}{s:ag}{G:α->ag->Prop}(hc:∀i j b (C:Bool->ag->Prop),ask i j=some b->C b s->cmp i j C s) :
  ∀{t:KasT α}{a:α},dk ask t=some a->G a s->t.kasWp cmp G s
 |.ret a,a',e,g=>by
   have:a=a':=by simpa[dk] using e
   subst this;exact g
 |.ask i j k,a',e,g=>by
   unfold dk at e;cases ea:ask i j with
   |none=>rw[ea]at e;cases e
   |some b=>
     rw[ea]at e;exact hc i j b _ ea (yG hc (t:=k b) e g)
section
variable {prog:bh}{w:aR}{A:aX}{E:ae->ag->Prop}{s:ag}{a kS:ad}{vs ks:List ae}{f:ae}
abbrev kh(a:ad)(h h':aI):Prop:=∀b o,b≠a->h.get? b=some o->h'.get? b=some o
def lf(prog:bh)(w:aR)(A:aX)(ks:List ae)(ix:List Nat)(s:ag):Prop:=
 (ks.length < 2/\ix=cM ks.length)∨(2≤ks.length/\ks.length < 64/\∃κ p ask,ix=Array.toList p/\(∀Q:SortKind->ag->Prop,Q κ s->aq (au prog w) A (keyKind' ks.toArray) Q (λ_ _=>False) s) /\
  (∀i j b (C:Bool->ag->Prop),ask i j=some b->C b s->kas_ask prog w A κ ks i j C s)/\dk ask (kas_sort ks.length)=some p)
noncomputable abbrev picked(vs:List ae)(ix:List Nat):List ae:=ix.map λi=>vs.getD i Value.none
theorem A9:∀(vs:List ae),picked vs (cM vs.length)=vs:=λvs=>by
 apply nY;intro i;simp only[picked,bX];by_cases h:i<vs.length
 ·rw[jO h];simp[h]
 ·simp[kM h]
abbrev qI(vs:List ae)(ix:List Nat)(st:SortSt):Prop:=(arrOf st).map (·.2)=(picked vs ix).toArray/\(picked vs ix).length=vs.length/\failedOf st=none
theorem yV{ix:List Nat}(hl:ks.length=vs.length)(so:lf prog w A ks ix s) :
  (vs.toArray.size < 2/\qI vs ix (SortSt.mk' general' (ks.toArray.zip vs.toArray) #[] 7 none))∨(¬vs.toArray.size < 2/\∃κ,(∀Q:SortKind->ag->Prop,Q κ s->aq (au prog w) A (keyKind' ks.toArray) Q (λ_ _=>False) s) /\
   ∀(E:ae->ag->Prop) (Q:Unit × SortSt->ag->Prop),(∀st,qI vs ix st->Q ((),st) s)->aq (au prog w) A (sortRuns'.run (SortSt.mk' κ (ks.toArray.zip vs.toArray) #[] 7 none)) Q E s):=by
 have hz:vs.toArray.size=vs.length:=by simp
 rcases so with⟨h2,rfl⟩|⟨h2,h64,κ,p,ask,rfl,kd,cm,run⟩
 ·refine .inl ⟨by rw[hz];lia,?_,by simp[picked,hl],rfl⟩;rw[hl,A9];show(ks.toArray.zip vs.toArray).map (·.2)=_;apply tQ.mp;rw[Array.toList_map,Array.toList_zip];exact List.map_snd_zip (mh hl.symm)
 ·refine .inr ⟨by rw[hz];lia,κ,kd,λE Q q=>?_⟩;have run':dk ask (kas_sort vs.length)=some p:=by rw[←hl];exact run
  refine br (kat_run (Q:=λst' s''=>s''=s/\p.size=vs.length/\arrOf st'=p.map (kas_item (ks.toArray.zip vs.toArray))/\failedOf st'=none) (G:=λp' s''=>p'=p/\s''=s) hl (by lia) (by lia)
   (λp' st' s'' a1 a2 a3 a4=>by obtain ⟨e1,e2⟩:=a4;subst e1;exact ⟨e2,a1,a2,a3⟩) (yG cm run' ⟨rfl,rfl⟩)) ?_ λ_ _ e=>e
  rintro⟨⟨⟩,st'⟩ s'' ⟨rfl,hp,har,hf⟩;exact q st' ⟨kat_snds hl har,by simp[picked,hp],hf⟩
theorem uw(h:aI)(a:ad)(g:aw->aw):kh a h (h.update a g):=λb o hb e=>by rw[lW _ _ _ _ hb];exact e
theorem EW{ix:List Nat}{n:Nat}{P:PySem.Fin->ag->Prop}(ho:s.heap.get? a=some (seqObj "list" vs.toArray n))(hz:vs.length≤100000)
  (so:∀h1,kh a s.heap h1->lf prog w A vs ix { s with heap:=h1 })
  (h:∀h2 c,kh a s.heap h2->s.heap.objs.size≤h2.objs.size->(picked vs ix).length=vs.length->h2.get? a=some (seqObj "list" (picked vs ix).toArray c)->P (.done (.ret .none)) { s with heap:=h2 }) :
  aq (au prog w) A (Builtin.«list.sort» ⟨[.ref a],[]⟩) P E s:=by
 have ha:a<s.heap.objs.size:=bC ho;have hL:vs.length≤aW:=bV hz (by rw[sizeLine_eq];lia);obtain⟨e1,ho1⟩:∃e1,(s.heap.update a (Obj.mapSeq λ_=>(#[]:Array ae))).get? a=some (seqObj "list" #[] e1):=⟨_,get?_update_seq ho λ_=>#[]⟩
 have k3:kh a s.heap (((s.heap.update a (Obj.mapSeq λ_=>(#[]:Array ae))).push (seqObj "tuple" vs.toArray 0)).push (seqObj "list" #[] 0)):=λb o hb e=>
  bJ _ (bJ _ (uw _ _ _ b o hb e))
 have o3:(((s.heap.update a (Obj.mapSeq λ_=>(#[]:Array ae))).push (seqObj "tuple" vs.toArray 0)).push (seqObj "list" #[] 0)).get? a=some (seqObj "list" #[] e1):=bJ _ (bJ _ ho1);rw[list_sort_plain];refine ak (listItems_at ho rfl ?_);refine ak (listUpdate_at ho rfl ?_ (by rw[cB];exact hL) (d9 _));refine ak (seqEpoch_at ho1 rfl ?_);refine ak (wpAny_newTuple ?_ (by show vs.length≤_;exact hL));refine ak (wpAny_newList ?_ (d9 _));refine wpAny_holding ?_;show aq (au prog w) A _ P E { s with heap:=((s.heap.update a (Obj.mapSeq λ_=>(#[]:Array ae))).push (seqObj "tuple" vs.toArray 0)).push (seqObj "list" #[] 0) };have fin:∀st,qI vs ix st->aq (au prog w) A (do
   let sorted:=(arrOf st).map (·.2)
   let touched:=(←seqEpoch a) != e1
   Builtin.List.listUpdate (.ref a) λ_=>sorted
   if let some e:=failedOf st then rule "list.sort.comparison-raised";throw e
   if touched then rule "list.sort.modified";raiseError "ValueError" "list modified during sort"
   PySem.ret .none) P E { s with heap:=((s.heap.update a (Obj.mapSeq λ_=>(#[]:Array ae))).push (seqObj "tuple" vs.toArray 0)).push (seqObj "list" #[] 0) }:=λst e0=>e0.elim λhout e1=>e1.elim λhlen hf=>by
  dsimp only;rw[hout];obtain⟨c2,hc2⟩:∃c2,((((s.heap.update a (Obj.mapSeq λ_=>(#[]:Array ae))).push (seqObj "tuple" vs.toArray 0)).push (seqObj "list" #[] 0)).update a (Obj.mapSeq λ_=>(picked vs ix).toArray)).get? a=some (seqObj "list" (picked vs ix).toArray c2):=
   ⟨_,get?_update_seq o3 λ_=>(picked vs ix).toArray⟩
  refine ak (seqEpoch_at o3 rfl ?_);refine ak (listUpdate_at o3 rfl ?_ (d9 _) (by show(picked vs ix).toArray.size≤_;rw[cB,hlen];lia));rw[hf];simp only[bne_self_eq_false,bd,if_false];refine aF (h _ c2 (λb o hb e=>?_) ?_ hlen hc2)
  ·rw[lW _ _ _ _ hb];exact k3 b o hb e
  ·rw[lC,size_push',size_push',lC];lia
 dsimp only;rcases yV (ks:=vs) rfl (so _ k3) with⟨h2,st⟩|⟨h2,κ,kd,run⟩
 ·rw[if_pos h2,if_pos h2];refine ak (aF ?_);rw[StateT.run_pure];refine ak (aF ?_);exact fin _ st
 ·rw[if_neg h2,if_neg h2];refine ak (br (kd (λκ' s'=>κ'=κ/\s'=_) ⟨rfl,rfl⟩) (λκ' s' e0=>e0.elim λe1 e2=>?_) λ_ _ z=>z.elim);subst e1;subst e2;exact ak (run E _ λst q=>fin st q)
def jG(prog:bh)(w:aR)(A:aX)(f:ae)(kS:ad)(Fin:List ae->ag->Prop):List ae->List ae->ag->Prop
 |[],ks,s=>Fin ks s
 | v::r,ks,s=>aq (au prog w) A (call f [v]) (λk s'=>∃e,s'.heap.get? kS=some (seqObj "list" ks.toArray e) /\
   ∀h' c,kh kS s'.heap h'->h'.get? kS=some (seqObj "list" (ks++[k]).toArray c)->jG prog w A f kS Fin r (ks++[k]) { s' with heap:=h' }) (λ_ _=>False) s
def tw(prog:bh)(w:aR)(A:aX)(vs:List ae)(a kS:ad)(e1:Nat)(C:ag->Prop)(ks:List ae)(s:ag):Prop:=
 ∃e ix,s.heap.get? kS=some (seqObj "list" ks.toArray e)/\s.heap.get? a=some (seqObj "list" #[] e1)/\kS≠a/\lf prog w A ks ix s /\
  ∀h2 c,(∀b o,b≠a->b≠kS->s.heap.get? b=some o->h2.get? b=some o)->s.heap.objs.size≤h2.objs.size->(picked vs ix).length=vs.length->h2.get? a=some (seqObj "list" (picked vs ix).toArray c)->C { s with heap:=h2 }
theorem uL{Fin Fin':List ae->ag->Prop}{n:Nat}(hf:∀ks s,ks.length=n->Fin ks s->Fin' ks s):∀{r ks:List ae}{s:ag},ks.length+r.length=n->jG prog w A f kS Fin r ks s->jG prog w A f kS Fin' r ks s
 |[],ks,s,hl,h=>hf ks s (by simpa using hl) h
 |v::r,ks,s,hl,h=>by
   refine br (show aq (au prog w) A (call f [v]) _ _ s from h) (λk s' e0=>e0.elim λe e1=>e1.elim λhe q=>⟨e,he,λh' c hk hc=>uL hf (by simp at hl ⊢;lia) (q h' c hk hc)⟩) λ_ _ z=>z
theorem vk{Fin:List ae->ag->Prop}{body:ae->PUnit->Sem (ForInStep PUnit)}
  (hb:∀x ks (s:ag) (C:ae->ag->Prop),eF ks < 64->aq (au prog w) A (call f [x]) (λk s'=>∃e,s'.heap.get? kS=some (seqObj "list" ks.toArray e) /\
    ∀h' c,kh kS s'.heap h'->h'.get? kS=some (seqObj "list" (ks++[k]).toArray c)->C k { s' with heap:=h' }) (λ_ _=>False) s ->
   aq (au prog w) A (body x ⟨⟩) (λr s'=>r=.yield ⟨⟩/\∃k,C k s') E s):∀(r ks:List ae) (s:ag),ks.length + r.length < 64 ->
   jG prog w A f kS Fin r ks s->aq (au prog w) A (forIn r PUnit.unit body) (λ_ s'=>∃ks,Fin ks s') E s
 |[],ks,s,hl,h=>by
   rw[oj];exact aF ⟨ks,h⟩
 |x::r,ks,s,hl,h=>by
   rw[cr]at hl;rw[pS];refine ak (br (hb x ks s (λk s'=>jG prog w A f kS Fin r (ks++[k]) s') (by lia) h) (λq s' hq=>?_) λ_ _ z=>z);obtain⟨rfl,k,h2⟩:=hq;exact vk hb r (ks++[k]) s' (by rw[cQ,uV];lia) h2
theorem Ad{n:Nat}{P:PySem.Fin->ag->Prop}(ho:s.heap.get? a=some (seqObj "list" vs.toArray n))(h64:vs.length<64)
  (h:∀kS e1 h1,kh a s.heap h1->h1.get? a=some (seqObj "list" #[] e1)->h1.get? kS=some (seqObj "list" #[] 0)->s.heap.objs.size≤kS ->
   jG prog w A f kS (tw prog w A vs a kS e1 λs'=>P (.done (.ret .none)) s') vs [] { s with heap:=h1 }) :
  aq (au prog w) A (ksk_tree a f false) P E s:=by
 have ha:a<s.heap.objs.size:=bC ho;have hL:vs.length≤aW:=by rw[sizeLine_eq];lia
 obtain⟨e1,ho1⟩:∃e1,(s.heap.update a (Obj.mapSeq λ_=>(#[]:Array ae))).get? a=some (seqObj "list" #[] e1):=⟨_,get?_update_seq ho λ_=>#[]⟩
 have hk:=h ((s.heap.update a (Obj.mapSeq λ_=>(#[]:Array ae))).push (seqObj "tuple" vs.toArray 0)).objs.size e1 (((s.heap.update a (Obj.mapSeq λ_=>(#[]:Array ae))).push (seqObj "tuple" vs.toArray 0)).push (seqObj "list" #[] 0))
  (λb o hb e=>bJ _ (bJ _ (uw _ _ _ b o hb e))) (bJ _ (bJ _ ho1)) (dH _ rfl) (by rw[size_push',lC];lia)
 unfold ksk_tree;refine ak (listItems_at ho rfl ?_);refine ak (listUpdate_at ho rfl ?_ (by rw[cB];exact hL) (d9 _));refine ak (seqEpoch_at ho1 rfl ?_);refine ak (wpAny_newTuple ?_ (by show vs.length≤_;exact hL));refine ak (wpAny_newList ?_ (d9 _));refine wpAny_holding ?_;generalize ((s.heap.update a (Obj.mapSeq λ_=>(#[]:Array ae))).push (seqObj "tuple" vs.toArray 0)).objs.size=kS at hk;unfold ksk_rest;refine ak (wpAny_rule ?_)
 first
  |rw[List.forIn_toArray]
  |(rw[←Array.forIn_toList];simp only[rJ])
  |rw[←Array.forIn_toList]
 refine ak (br (vk (Fin:=λks s'=>ks.length=vs.length/\tw prog w A vs a kS e1 (λs''=>P (.done (.ret .none)) s'') ks s') (λx ks s' C hz hx=>?_) vs [] _ (by simpa using h64) (uL (n:=vs.length) (λks s' e q=>⟨e,q⟩) (by simp) hk)) (λ_ s' hd=>?_) λ_ _ z=>z)
 ·refine ak (wpAny_attempt (br hx (λk s'' hk=>?_) λ_ _ hF=>hF.elim));obtain⟨e,hK,q⟩:=hk;have ea:(List.toArray ks).push k=List.toArray (ks++[k]):=by simp
  obtain⟨c2,hc2⟩:∃c2,(s''.heap.update kS (Obj.mapSeq (·.push k))).get? kS=some (seqObj "list" (List.toArray (ks++[k])) c2):=⟨_,by rw[←ea];exact get?_update_seq hK (·.push k)⟩
  try dsimp only
  refine ak (listUpdate_at hK rfl ?_ (by rw[cB,sizeLine_eq];lia) (bV (mh (Array.size_push ..)) (by rw[cB,sizeLine_eq];lia)));exact aF ⟨rfl,k,q _ c2 (uw _ _ _) hc2⟩
 ·obtain⟨ks,hl,e,ix,hK,hA,hne,so,fin⟩:=hd
  try dsimp only
  refine ak (listItems_at hK rfl ?_);have tail:∀st,qI vs ix st->aq (au prog w) A (ksk_tail a false e1 (.ref kS) st) P E s':=λst ⟨hout,hlen,hf⟩=>by
   unfold ksk_tail
   try dsimp only
   simp only[bd,if_false];rw[hout];have kA:(s'.heap.update kS (Obj.mapSeq λ_=>(#[]:Array ae))).get? a=some (seqObj "list" #[] e1):=by rw[lW _ _ _ _ (Ne.symm hne)];exact hA
   obtain⟨c2,hc2⟩:∃c2,((s'.heap.update kS (Obj.mapSeq λ_=>(#[]:Array ae))).update a (Obj.mapSeq λ_=>(picked vs ix).toArray)).get? a=some (seqObj "list" (picked vs ix).toArray c2):=⟨_,get?_update_seq kA λ_=>(picked vs ix).toArray⟩
   refine ak (listUpdate_at hK rfl ?_ (by rw[cB,sizeLine_eq];lia) (d9 _));refine ak (wpAny_letGo ?_);refine ak (seqEpoch_at kA rfl ?_);refine ak (listUpdate_at kA rfl ?_ (d9 _) (by show(picked vs ix).toArray.size≤_;rw[cB,hlen];lia));rw[hf];simp only[bne_self_eq_false,bd,if_false];refine aF (fin _ c2 (λb o hb hb2 e=>?_) ?_ hlen hc2)
   ·rw[lW _ _ _ _ hb,lW _ _ _ _ hb2];exact e
   ·rw[lC,lC];exact bc _
  unfold ksk_end
  try dsimp only
  simp only[bd,if_false];rcases yV hl so with⟨h2,st⟩|⟨h2,κ,kd,run⟩
  ·rw[if_pos h2,if_pos h2];refine ak (aF ?_);rw[StateT.run_pure];refine ak (aF ?_);exact tail _ st
  ·rw[if_neg h2,if_neg h2];refine ak (br (kd (λκ' s''=>κ'=κ/\s''=_) ⟨rfl,rfl⟩) (λκ' s'' ⟨e1,e2⟩=>?_) λ_ _ z=>z.elim);subst e1;subst e2;exact ak (run E _ λst q=>tail st q)
theorem Aw{l:ad}{ix:List Nat}{Q:ae->ag->Prop}(hl:s.heap.IsList l vs.toArray)(hz:vs.length≤100000)
  (so:∀h1,(∀b o,s.heap.get? b=some o->h1.get? b=some o)->lf prog w A.in1.in1 vs ix { s with heap:=h1 })
  (h:∀D h2 c,(∀b o,s.heap.get? b=some o->h2.get? b=some o)->s.heap.get? D=none->(picked vs ix).length=vs.length->h2.get? D=some (seqObj "list" (picked vs ix).toArray c)->Q (.ref D) { s with heap:=h2 }) :
  aq (au prog w) A (call (.builtin "sorted") [.ref l]) Q E s:=by
 have hL:vs.length≤aW:=bV hz (by rw[sizeLine_eq];lia);refine Calls.call_function_entry kind_sorted plain_sorted entry_sorted (args_sorted1 _) ?_;unfold Builtin.«sorted»;refine ak (m:=checkCount "sorted" 1 1 _) (aF ?_);refine ak (collect_list hl ?_ hL);refine ak (wpAny_newList ?_ hL);have hsz:((s.heap.push (seqObj "list" #[] 0)).update s.heap.objs.size (Obj.mapSeq (·++vs.toArray))).objs.size=s.heap.objs.size+1:=by
  rw[lC,size_push']
 have hoL:(((s.heap.push (seqObj "list" #[] 0)).update s.heap.objs.size (Obj.mapSeq (·++vs.toArray))).push (seqObj "list" vs.toArray 0)).get? (s.heap.objs.size+1)=some (seqObj "list" vs.toArray 0):=by
  rw[←hsz];exact dH _ rfl
 have keep:∀b o,s.heap.get? b=some o->(((s.heap.push (seqObj "list" #[] 0)).update s.heap.objs.size (Obj.mapSeq (·++vs.toArray))).push (seqObj "list" vs.toArray 0)).get? b=some o:=λb o q=>by
  have hlt:b<s.heap.objs.size:=bC q;rw[Heap.get?_push_ne _ _ _ (by rw[hsz];exact cT (Nat.lt_succ_of_lt hlt)),lW _ _ _ _ (cT hlt),Heap.get?_push_ne _ _ _ (cT hlt)];exact q
 have nb:∀b o,s.heap.get? b=some o->b≠s.heap.objs.size+1:=λb o e=>cT (Nat.lt_succ_of_lt (bC e));show aq _ _ _ _ _ { s with heap:=((s.heap.push (seqObj "list" #[] 0)).update s.heap.objs.size (Obj.mapSeq (·++vs.toArray))).push (seqObj "list" vs.toArray 0) };rw[hsz];refine ak (wpAny_holding (wpAny_call_entry slot_list_sort ⟨_,hoL,rfl⟩ entry_list_sort ?body (args_list_sort _)))
 case body=>
  refine EW (s:={ s with heap:=((s.heap.push (seqObj "list" #[] 0)).update s.heap.objs.size (Obj.mapSeq (·++vs.toArray))).push (seqObj "list" vs.toArray 0) }) (ix:=ix) hoL hz (λh1 k=>so h1 λb o e=>k b o (nb b o e) (keep b o e)) λh2 c k _ hlen e=>?_;exact⟨_,rfl,aF ⟨_,rfl,h _ h2 c (λb o q=>k b o (nb b o q) (keep b o q)) (lD (Nat.le_succ _)) hlen e⟩⟩
theorem Af{q d:ad}{T:String}{n:Nat}{Pi:Nat->ae->Prop}{OK:aI->Prop}{Q:ae->ag->Prop}(K:KdlSrc prog w T d d n Pi OK)(hh:A.handled=none)(hok:OK s.heap)(hn:n<64)
  (h:∀(vs:List ae) h' tk D kS e1,(∀b o,s.heap.get? b=some o->h'.get? b=some o)->ItemsOf Pi vs.toArray n->h'.get? D=some (seqObj "list" #[] e1)->h'.get? kS=some (seqObj "list" #[] 0)->s.heap.get? D=none->s.heap.get? kS=none->D≠kS ->
   jG prog w A.in1.in1 (.ref q) kS (tw prog w A.in1.in1 vs D kS e1 λs'=>Q (.ref D) s') vs [] { s with heap:=h',toks:=tk }) :
  aq (au prog w) A (call (.builtin "sorted") [.ref d] [(ah "key",.ref q)]) Q E s:=by
 refine call_function_entry_kw kind_sorted plain_sorted entry_sorted (by ksk_a1) ?_;unfold Builtin.«sorted»;refine ak (m:=checkCount "sorted" 1 1 _) (aF ?_);refine ak (kdu_collect K hh hok (by rw[sizeLine_eq];lia) λh' tk acc hk hit=>?_);have hl:acc.toList.length=n:=by rw[pD];exact hit.1
 have hL:acc.toList.length≤aW:=by rw[hl,sizeLine_eq];lia
 refine ak (wpAny_newList ?_ hL);have hoL:(h'.push (seqObj "list" acc.toList.toArray 0)).get? h'.objs.size=some (seqObj "list" acc.toList.toArray 0):=dH _ rfl;have keep:∀b o,s.heap.get? b=some o->(h'.push (seqObj "list" acc.toList.toArray 0)).get? b=some o:=λb o e=>bJ _ (hk b o e);have nD:s.heap.get? h'.objs.size=none:=by
  cases e:s.heap.get? h'.objs.size with
  |none=>rfl
  |some o=>exact absurd (bC (hk _ o e)) (iN _)
 have nb:∀b o,s.heap.get? b=some o->b≠h'.objs.size:=λb o e z=>by rw[z,nD]at e;cases e
 refine ak (wpAny_holding (wpAny_call_entry_kw slot_list_sort ⟨_,hoL,rfl⟩ entry_list_sort ?body (by ksk_a2)))
 case body=>
  show aq (au prog w) A.in1.in1 (Builtin.«list.sort» ⟨[.ref h'.objs.size],[(ah "key",.ref q)]⟩) _ _ _;rw[ksk_t1];refine Ad (s:={ s with heap:=h'.push (seqObj "list" acc.toList.toArray 0),toks:=tk }) hoL (by rw[hl];exact hn) λkS e1 h1 k1 eD eK nK=>?_;have nk:∀b o,s.heap.get? b=some o->b≠kS:=λb o e z=>by
   subst z;exact absurd (bC (keep _ o e)) (tV nK)
  have nKs:s.heap.get? kS=none:=by
   cases e:s.heap.get? kS with
   |none=>rfl
   |some o=>exact absurd rfl (nk _ o e)
  have hne:h'.objs.size≠kS:=λz=>by
   have:h'.objs.size<(h'.push (seqObj "list" acc.toList.toArray 0)).objs.size:=bC hoL;rw[z]at this;exact absurd this (tV nK)
  refine uL (n:=acc.toList.length) (λks s' _ z=>?_) (by simp) (h acc.toList h1 tk h'.objs.size kS e1 (λb o e=>k1 b o (nb b o e) (keep b o e)) (by rw[Array.toArray_toList];exact hit) eD eK nD nKs hne);obtain⟨e,ix,z1,z2,z3,z4,z5⟩:=z;exact⟨e,ix,z1,z2,z3,z4,λh2 c y1 y2 y3 y4=>⟨_,rfl,aF ⟨_,rfl,z5 h2 c y1 y2 y3 y4⟩⟩⟩
end
end L2.Rv
namespace L2.Rv
open PySem PySem.Spec PyProof.Rows PySem.W
variable {G:Gb}{m m' m1 m2:List ad}{h h' h1 h2:MH}{H H' H1 H2:Hp}{X:Cx}{E:ae->ag->Prop}{EX:St->Prop}{σ:MSt}{σ':St}
theorem bW.there{P:bh}{w:aR}{hp:aI}{a:ad}{o:HO}(x:bW P w H hp a o):∃ob,hp.get? a=some ob:=by
 cases o with
 |lst xs=>obtain⟨_,_,_,_,e⟩:=x;exact⟨_,e⟩
 |tup xs=>obtain⟨_,_,_,ob,e,_⟩:=x;exact⟨_,e⟩
 |dK kvs=>obtain⟨_,_,_,_,o,_,_,e,_⟩:=x;exact⟨_,e⟩
 |dT kvs=>obtain⟨_,_,_,_,o,_,_,e,_⟩:=x;exact⟨_,e⟩
 |set S n=>obtain⟨o,_,_,_,e,_⟩:=x;exact⟨_,e⟩
 |ins C dx fs=>obtain⟨_,_,_,e,_⟩:=x;exact⟨_,e⟩
 |own y=>exact x
 |xd fs=>obtain⟨_,⟨_,_,_,e,_⟩,_⟩:=x;exact⟨_,e⟩
 |rng lo hi=>obtain⟨_,_,_,e⟩:=x;exact⟨_,e⟩
 |frz ob u=>obtain⟨e,_⟩:=x;exact⟨_,e⟩
 |tbl ps=>exact⟨_,x⟩
 |met f y=>exact⟨_,x⟩
 |ext φ=>obtain⟨_,e,_⟩:=x;exact e
theorem HOk.none{P:bh}{w:aR}{hp:aI}{a:ad}(x:HOk P w H hp)(e:hp.get? a=none):H a=none:=by
 cases q:H a with
 |none=>rfl
 |some u=>obtain⟨o,z⟩:=bW.there (x a u q);rw[e]at z;cases z
abbrev rS(H:Hp):V->List MKey->Prop:=λx r=>∃a,x=.ref a/\H a=some (.tup (r.map kV))
abbrev qz(H:Hp):V->List MKey->Prop:=λx r=>∃a p vs,x=.ref a/\H a=some (.tup (.ref p::vs))/\H p=some (.tup (r.map kV))
section
variable {P:bh}{w:aR}{A:aX}{s:ag}
theorem mR{α β:Type}{R:α->β->Prop}:∀{xs:List α}{ys:List β}{i:Nat}{y:β},cg R xs ys->ys[i]?=some y->∃x,xs[i]?=some x/\R x y
 |_,_,_,_,.nil,e=>by simp at e
 |_,_,0,_,.cons r _,e=>by simp at e;subst e;exact⟨_,rfl,r⟩
 |_,_,i+1,y,.cons _ t,e=>by
   obtain⟨u,h1,h2⟩:=mR (i:=i) (y:=y) t (by simpa using e);exact⟨u,by simpa using h1,h2⟩
theorem uU{x:V}{xs:List V}{ws:List ae}(v:Vals (x::xs) ws):∃u us,ws=u::us/\aT x u/\Vals xs us:=by
 cases v with
 |cons r q=>exact⟨_,_,rfl,r,q⟩
theorem vX(ok:HOk P w H s.heap):∀{xs:List V}{rows:List (List MKey)}{us:List ae},cg (rS H) xs rows->Vals xs us->rows.all gT=true ->
  ∃fs:List ae,fs.length=rows.length/\KatTups s.heap us fs/\∀v∈fs,Looks (au P w) s.heap (typeOf v) (.type "int")
 |_,_,_,.nil,.nil,_=>⟨[],rfl,trivial,λ_ z=>nomatch z⟩
 |_,_,_,@Paired.cons _ _ _ _ row _ rows ⟨a,ex,e⟩ t,v,hf=>by
   subst ex;obtain⟨u,us,rfl,r,q⟩:=uU v;rw[mF,eP]at hf;obtain⟨f1,f2⟩:=hf;obtain⟨fs,hl,kt,ht⟩:=vX ok t q f2;obtain rfl:u=Value.ref a:=r;obtain⟨_,its,rv,o,h1,hc,n,h3⟩:=(show bW P w H s.heap a (.tup _) from ok a _ e);cases row with
   |nil=>simp[gT]at f1
   |cons k ks=>
     cases k with
     |inr _=>simp[gT]at f1
     |inl i=>
       rw[aN]at rv;cases rv with
       |cons ri rr=>
         obtain⟨t0,rfl⟩:=(show ∃t,_=Value.int i t from ri);refine⟨.int i t0::fs,by simp[hl],⟨⟨a,o,_,n,rfl,h1,hc,h3,by simp⟩,kt⟩,λv hv=>?_⟩;rcases bE.mp hv with rfl|hv
         ·exact Looks.of_pure rfl
         ·exact ht v hv
theorem vL(ok:HOk P w H s.heap):∀{xs:List V}{rows:List (List MKey)}{us:List ae},cg (qz H) xs rows->Vals xs us ->
  ∃fs:List ae,fs.length=rows.length/\KatTups s.heap us fs/\∀v∈fs,Looks (au P w) s.heap (typeOf v) (.type "tuple")
 |_,_,_,.nil,.nil=>⟨[],rfl,trivial,λ_ z=>nomatch z⟩
 |_,_,_,.cons (l₂:=rows) ⟨a,p,vs,ex,e,e2⟩ t,v=>by
   subst ex;obtain⟨u,us,rfl,r,q⟩:=uU v;obtain⟨fs,hl,kt,ht⟩:=vL ok t q;obtain rfl:u=Value.ref a:=r;obtain⟨_,its,rv,o,h1,hc,n,h3⟩:=(show bW P w H s.heap a (.tup _) from ok a _ e);obtain⟨_,its2,rv2,o2,h12,hc2,n2,h32⟩:=(show bW P w H s.heap p (.tup _) from ok p _ e2);cases rv with
   |cons ri rr=>
     obtain rfl:=(show _=Value.ref p from ri);refine⟨.ref p::fs,by simp[hl],⟨⟨a,o,_,n,rfl,h1,hc,h3,by simp⟩,kt⟩,λv hv=>?_⟩;rcases bE.mp hv with rfl|hv
     ·rw[←hc2];exact(Looks.ld h12).andThen .now
     ·exact ht v hv
theorem yI{rows:List (List MKey)}{i j:Nat}{b:Bool}(e:ji rows i j=some b):∃x y,rows[i]?=some x/\rows[j]?=some y/\x≠y/\ltK x y=some b:=by
 unfold ji at e;cases ei:rows[i]? with
 |none=>rw[ei]at e;cases e
 |some x=>cases ej:rows[j]? with
   |none=>rw[ei,ej]at e;cases e
   |some y=>
     rw[ei,ej]at e;dsimp only at e;split at e
     ·cases e
     ·exact⟨x,y,rfl,rfl,by assumption,e⟩
theorem u5{rows:List (List MKey)}{ix:List Nat}(e:d8 rows=some ix):(rows.length<2/\ix=cM rows.length)∨(2≤rows.length/\rows.length<64/\∃p,ix=Array.toList p/\dk (ji rows) (kas_sort rows.length)=some p):=by
 unfold d8 at e;split at e
 ·rename_i h2;cases e;exact .inl ⟨h2,rfl⟩
 ·split at e
  ·rename_i h2 h64;split at e
   ·rename_i p hp;cases e;exact .inr ⟨by lia,h64,p,rfl,hp⟩
   ·cases e
  ·cases e
theorem getD_some{us:List ae}{i:Nat}{u:ae}(e:us[i]?=some u):us.getD i Value.none=u:=by simp[e]
theorem vZ{xs:List V}{rows:List (List MKey)}{us:List ae}{ix:List Nat}(ok:HOk P w H s.heap)(r:cg (rS H) xs rows)(v:Vals xs us)(hf:rows.all gT=true)(e:d8 rows=some ix):lf P w A us ix s:=by
 have hl:us.length=rows.length:=by rw[←v.length];exact Paired.length r
 rcases u5 e with⟨h2,rfl⟩|⟨h2,h64,p,rfl,run⟩
 ·exact .inl ⟨by lia,by rw[hl]⟩
 ·obtain⟨fs,fl,kt,ht⟩:=vX ok r v hf;refine .inr ⟨by lia,by lia,_,p,ji rows,rfl,λQ q=>kat_kind kt (by lia) ht rfl q,λi j b C ea hc=>?_,by rw[hl];exact run⟩;obtain⟨x,y,ex,ey,_,lt⟩:=yI ea;obtain⟨xv,gx,ax,rfl,hx⟩:=mR r ex;obtain⟨yv,gy,ay,rfl,hy⟩:=mR r ey;obtain⟨ux,wx,qx⟩:=v.get gx;obtain⟨uy,wy,qy⟩:=v.get gy;obtain rfl:ux=Value.ref ax:=qx;obtain rfl:uy=Value.ref ay:=qy;unfold kas_ask;rw[getD_some wx,getD_some wy];exact AO (iP ok hx) (iP ok hy) lt hc
theorem GQ{xs:List V}{rows:List (List MKey)}{us:List ae}{ix:List Nat}(hu:A.units<cLine)(ok:HOk P w H s.heap)(r:cg (qz H) xs rows)(v:Vals xs us)(e:d8 rows=some ix):lf P w A us ix s:=by
 have hl:us.length=rows.length:=by rw[←v.length];exact Paired.length r
 rcases u5 e with⟨h2,rfl⟩|⟨h2,h64,p,rfl,run⟩
 ·exact .inl ⟨by lia,by rw[hl]⟩
 ·obtain⟨fs,fl,kt,ht⟩:=vL ok r v;refine .inr ⟨by lia,by lia,_,p,ji rows,rfl,λQ q=>kat_kind kt (by lia) ht rfl q,λi j b C ea hc=>?_,by rw[hl];exact run⟩;obtain⟨x,y,ex,ey,ne,lt⟩:=yI ea;obtain⟨xv,gx,ax,px,vx,rfl,hx,hx2⟩:=mR r ex;obtain⟨yv,gy,ay,py,vy,rfl,hy,hy2⟩:=mR r ey;obtain⟨ux,wx,qx⟩:=v.get gx;obtain⟨uy,wy,qy⟩:=v.get gy;obtain rfl:ux=Value.ref ax:=qx;obtain rfl:uy=Value.ref ay:=qy;unfold kas_ask;rw[getD_some wx,getD_some wy];obtain⟨_,i1,r1,o1,b1,c1,n1,d1⟩:=(show bW P w H s.heap ax (.tup _) from ok ax _ hx);obtain⟨_,i2,r2,o2,b2,c2,n2,d2⟩:=(show bW P w H s.heap ay (.tup _) from ok ay _ hy);cases r1 with
  |cons q1 t1=>cases r2 with
    |cons q2 t2=>
      obtain rfl:=(show _=Value.ref px from q1);obtain rfl:=(show _=Value.ref py from q2);exact FH hu b1 d1 b2 d2 (iP ok hx2) (iP ok hy2) ne lt hc
end
noncomputable def i4(xs:List V)(ix:List Nat):List V:=ix.map λi=>xs.getD i .non
def yb:List V->Hp->VK->Prop:=λvs H Q=>∃l xs rows ix,vs=[V.ref l]/\H l=some (.lst xs)/\d8 rows=some ix/\((cg (rS H) xs rows/\rows.all gT=true)∨cg (qz H) xs rows) /\
 ∀D,H D=none->Q (.ref D) (upd H D (.lst (i4 xs ix)))
theorem uQ{xs:List V}{us:List ae}(v:Vals xs us):∀(ix:List Nat),Vals (i4 xs ix) (picked us ix)
 |[]=>.nil
 |i::r=>by
   refine .cons ?_ (uQ v r);show aT (xs.getD i .non) (us.getD i Value.none);by_cases hi:i<xs.length
   ·obtain⟨u,e,q⟩:=v.get (i:=i) (x:=xs[i]) (by simp[hi]);have e1:xs.getD i .non=xs[i]:=by simp[hi]
    rw[e1,getD_some e];exact q
   ·have e1:xs.getD i .non=.non:=by simp[kM hi]
    have e2:us.getD i Value.none=Value.none:=by
     have:=v.length;simp[show us.length≤i by lia]
    rw[e1,e2];rfl
theorem Bk{rows:List (List MKey)}{ix:List Nat}(e:d8 rows=some ix):rows.length<64:=by
 rcases u5 e with⟨h2,_⟩|⟨_,h,_⟩ <;> lia
theorem Ch(hu:X.A.units+64<cLine):eQ X (.builtin "sorted") yb:=by
 rintro pins s σ H vs us Q I rv ⟨l,xs,rows,ix,ev,el,es,rr,hq⟩;subst ev;cases rv with
 |cons q t=>
   cases t;obtain rfl:=(show _=Value.ref l from q);obtain⟨hz,its,n,r,eo⟩:=(show bW X.prog X.w H s.heap l (.lst xs) from I.hok l _ el);have hlen:xs.length=rows.length:=by rcases rr with⟨a,_⟩|a <;> exact Paired.length a
   have h64:=Bk es;have hu2:X.A.in1.in1.units<cLine:=by show X.A.units+1+1<cLine;lia
   refine Aw (vs:=its) (ix:=ix) ⟨_,eo,rfl,n,rfl⟩ (by rw[←r.length];lia) (λh1 k=>?_) λD h2 c k nD hlen eD=>?_
   ·have ok:HOk X.prog X.w H h1:=I.hok.kept k;rcases rr with⟨a,b⟩|a
    ·exact vZ (s:={ s with heap:=h1 }) ok a r b es
    ·exact GQ (s:={ s with heap:=h1 }) hu2 ok a r es
   ·have fD:H D=none:=HOk.none I.hok nD;have fp:Fp X pins H D:=Fp.of I nD fD;have I1:Inv X pins σ H { s with heap:=h2 }:=I.kept (t':=s.toks) k;have fp1:Fp X pins H D:=fp;have I2:=Inv.trackO (v:=.lst (i4 xs ix)) I1 fp1 ⟨by
     have:(i4 xs ix).length=its.length:=by rw[←hlen];simp[i4,picked]
     rw [this,←r.length];exact hz,_,c,uQ r ix,eD⟩
    exact⟨.ref D,_,I2,rfl,hq D fD⟩
theorem wR:∀{ys:List MV}{r:List MKey}{vs:List V},jL ys=some r->VRs G m H ys vs->vs=r.map kV
 |[],r,vs,e,q=>by cases e;cases q;rfl
 |y::ys,r,vs,e,q=>by
   unfold jL at e;cases ey:me y with
   |none=>rw[ey]at e;cases e
   |some k=>cases er:jL ys with
     |none=>rw[ey,er]at e;cases e
     |some ks=>
       rw[ey,er]at e;cases e;cases q with
       |@cons _ v' _ vs' q1 q2=>
         have e2:=wR er q2;cases y <;> first|cases ey|skip
         ·rw[show v'=V.int _ from q1,e2];rfl
         ·rw[show v'=V.str _ from q1,e2];rfl
theorem ub{x:MV}{r:List MKey}{v:V}(e:fP x=some r)(q:VR G m H x v):rS H v r:=by
 cases x <;> first|cases e|skip
 obtain⟨a,vs,e1,_,e2,t⟩:=q;subst e1;exact⟨a,rfl,by rw[e2,wR e t.to]⟩
theorem Bx{x:MV}{r:List MKey}{v:V}(e:lV x=some r)(q:VR G m H x v):qz H v r:=by
 cases x <;> first|cases e|skip
 rename_i xs;cases xs with
 |nil=>cases e
 |cons y ys=>
   obtain⟨a,vs,e1,_,e2,t⟩:=q;subst e1;obtain⟨z,zs,e3,q1,_⟩:=(show ∃z zs,vs=z::zs/\VR G m H y z/\VRl G m H ys zs from t);subst e3;obtain⟨p,e4,e5⟩:=ub (show fP y=some r from e) q1;subst e4;exact⟨a,p,zs,rfl,e2,e5⟩
theorem rE{f:MV->Option (List MKey)}{Rr:V->List MKey->Prop}(hf:∀x r v,f x=some r->VR G m H x v->Rr v r):∀{xs:List MV}{rows:List (List MKey)}{vs:List V},eB f xs=some rows->VRs G m H xs vs->cg Rr vs rows
 |[],rows,vs,e,q=>by cases e;cases q;exact .nil
 |y::ys,rows,vs,e,q=>by
   unfold eB at e;cases ey:f y with
   |none=>rw[ey]at e;cases e
   |some k=>cases er:eB f ys with
     |none=>rw[ey,er]at e;cases e
     |some ks=>
       rw[ey,er]at e;cases e;cases q with
       |cons q1 q2=>exact .cons (hf _ _ _ ey q1) (rE hf er q2)
theorem oU{xs:List MV}{vs:List V}(v:VRs G m H xs vs):∀(ix:List Nat),VRs G m H (pick xs ix) (i4 vs ix)
 |[]=>.nil
 |i::r=>by
   refine .cons ?_ (oU v r);show VR G m H (xs.getD i .non) (vs.getD i .non);by_cases hi:i<xs.length
   ·obtain⟨u,e,q⟩:=jQ v (i:=i) (x:=xs[i]) (by simp[hi]);have e1:xs.getD i .non=xs[i]:=by simp[hi]
    have e2:vs.getD i .non=u:=by simp[e]
    rw[e1,e2];exact q
   ·have hl:=Paired.length v;have e1:xs.getD i .non=.non:=by simp[kM hi]
    have e2:vs.getD i .non=.non:=by simp[show vs.length≤i by lia]
    rw[e1,e2];rfl
theorem Hf:VO1 G oE yb:=by
 intro X E EX m h H x x' Q R rx P;cases x <;> first|exact P.elim|skip
 rename_i n;obtain⟨a,ea,rfl⟩:=rx;obtain⟨oa,e1,q1,P1⟩:=cX R ea P;cases oa <;> first|exact P1.elim|skip
 rename_i xs;obtain⟨vs,rv,z⟩:=q1;dsimp only at P1;cases er:eB fP xs with
 |some rows=>
   rw[er]at P1;dsimp only at P1;split at P1
   ·rename_i hall;cases es:d8 rows with
    |none=>rw[es]at P1;exact P1.elim
    |some ix=>
      rw[es]at P1;exact⟨a,vs,rows,ix,rfl,z,es,.inl ⟨rE (λ_ _ _=>ub) er rv,hall⟩,λD hD=>iI R (oU rv ix) P1 hD⟩
   ·exact P1.elim
 |none=>
   rw[er]at P1;dsimp only at P1;cases eh:eB lV xs with
   |none=>rw[eh]at P1;exact P1.elim
   |some rows=>
     rw[eh]at P1;dsimp only at P1;cases es:d8 rows with
     |none=>rw[es]at P1;exact P1.elim
     |some ix=>
       rw[es]at P1;exact⟨a,vs,rows,ix,rfl,z,es,.inr (rE (λ_ _ _=>Bx) eh rv),λD hD=>iI R (oU rv ix) P1 hD⟩
structure sR(K:Frag)(mg:Str->Option ae)(cl:Nat->ad)(cdv:ae):Prop where
 on:cl 996≠0
 code:∃c,cdv=.ref c/\∃o vs file tf flags tg inF text tt,K.lookup c=some o/\o.cls=.type "code"/\o.data=.fields vs/\vs[11]?=some (.ref (cl 999))/\vs.getD 11 .none=.ref (cl 999)/\vs.getD 18 .none=.str file tf /\
  vs.getD 7 .none=.int flags tg/\vs.getD 9 .none=.bool inF/\vs.getD 10 .none=.int text tt
 blt:∃bm ob,mg "__builtins__"=some (.ref bm)/\bm≠builtinsNs/\bm≠dA/\K.lookup bm=some ob/\ob.cls=.type "module"/\ob.dict=some builtinsNs/\ob.data=.plain
section
variable {M:Model}{A:aX}{pins:List (ad×aw)}{s:ag}{params:Arguments}{body:az}{scope:Scope}{pos:Pos}{cls:List (Str×ad)}{Q:ae->ag->Prop}
noncomputable abbrev iB(params:Arguments)(body:az)(scope:Scope)(cls:List (Str×ad))(pm:ae)(c':ad)(ctv:ae):aw:=kla_obj "<lambda>" ip params body scope cls pm c' ctv
theorem Inv.addPin{f:ad}{o:aw}(I:Inv X pins σ' H s)(e:s.heap.get? f=some o)(n:H f=none)(l:f≠X.env.locals)(fs:f∉X.fs)(d:∀v,o.data≠.cell v):Inv X ((f,o)::pins) σ' H s:=
 I.pins_of λp hp=>by
  rcases bE.mp hp with z|z
  ·subst z;exact⟨e,n,l,fs,d⟩
  ·exact I.pin p (cK _ z)
theorem A4(hL:sR X.K X.mg G.cl X.env.code)(I:Inv X pins σ' H s)(R:HR G m h H)(hp1:(pos.line:Int)=G.cl 998)(hp2:(pos.col:Int)=G.cl 997)(hcl:closureFor scope X.env=pure cls)(hdef:defaultsOf params X.env=([],[]))(hq:X.env.qual++"<lambda>"=ip)
  (k:∀f c' pm ctv H2 s2,Inv X ((f,iB params body scope cls pm c' ctv)::pins) σ' H2 s2->Ext m H m H2->HR G m h H2->H2 c'=some (.ext (LamΦ c'))->c'∉m->Q (.ref f) s2) :
  aq M A (aK (.Lambda params body scope pos) X.env) Q E s:=by
 refine kla_eval hdef ?_;rw[hq];obtain⟨c,ec,o,vs,file,tf,flags,tg,inF,text,tt,a1,a2,a3,a4,a5,a6,a7,a8,a9⟩:=hL.code;obtain⟨bm,ob,b1,b2,b3,b4,b5,b6,b7⟩:=hL.blt;have hg:s.heap.Ns dA X.mg:=I.mod.glob.keeps I.bk;have hbm:=I.bs bm ob (I.ok.mod.kin _ _ b4);have hc:=I.bs c o (I.ok.mod.kin _ _ a1);have hgn:H dA=none:=by
  obtain⟨og,es,ep,e,_⟩:=I.mod.glob;exact(I.bs dA og e).2
 rcases R.tab with t|⟨nP,t⟩
 ·exact absurd t hL.on
 have nn:∀b,H b=none->b≠G.cl 999:=λb e z=>by
  rw[z]at e;rcases t with t|⟨_,_,_,t⟩ <;> (rw[e]at t;cases t)
 have hb:s.heap.BuiltinsAt X.mg (G.cl 999):=⟨bm,ob,b1,b2,b3,nn bm hbm.2,hbm.1,b5,b6,b7⟩;have C:CodeHd s.heap c (G.cl 999):=⟨o,vs,file,tf,flags,tg,inF,text,tt,hc.1,a2,a3,a4,a5,a6,a7,a8,a9,nn c hc.2⟩;rcases t with t|⟨c',nc,ec',t⟩
 ·have hP:s.heap.get? (G.cl 999)=some (tabObj #[]):=I.hok _ _ t;refine kla_makeFunction hcl I.ok.glob hg ec C hP trivial rfl (nn _ hgn) hb λc' ctv h' tk hx hge hlt hrec htb=>?_;have hPs:G.cl 999<s.heap.objs.size:=bC hP;have ncP:c'≠G.cl 999:=λz=>by rw[z]at hge;exact absurd (c5 hPs hge) (iN _)
  have fc:H c'=none:=I.hok.fresh hge;have fcm:c'∉m:=R.fresh fc;have e2:#[]++#[rawInt pos.line,rawInt pos.col,Value.ref c']=#[rawInt (G.cl 998),rawInt (G.cl 997),Value.ref c']:=by rw[hp1,hp2];simp
  rw[e2]at htb
  let H2:Hp:=upd (upd H c' (.ext (LamΦ c'))) (G.cl 999) (.tbl #[rawInt (G.cl 998),rawInt (G.cl 997),.ref c'])
  have hH2:∀b,b≠G.cl 999->b≠c'->H2 b=H b:=λb z1 z2=>by show upd _ _ _ b=_;rw[aY z1,aY z2]
  have hH2P:H2 (G.cl 999)=some (.tbl #[rawInt (G.cl 998),rawInt (G.cl 997),.ref c']):=dE;have hH2c:H2 c'=some (.ext (LamΦ c')):=by show upd _ _ _ c'=_;rw[aY ncP,dE]
  have some_ne:∀b u,H b=some u->(∀ps,u≠.tbl ps)->H2 b=some u:=λb u e nt=>by
   rw[hH2 b (λz=>by rw[z,t]at e;cases e;exact nt _ rfl) (dF e fc)];exact e
  have keepU:∀b u,H b=none->s.heap.get? b=some u->(h'.push (iB params body scope cls ((X.mg "__name__").getD .none) c' ctv)).get? b=some u:=λb u n e=>bJ _ (hx b u (nn b n) e);have hfs:s.heap.objs.size≤h'.objs.size:=bV hge (nL hlt);have hPh:G.cl 999<h'.objs.size:=bC htb;have I2:Inv X pins σ' H2 { s with heap:=h'.push (iB params body scope cls ((X.mg "__name__").getD .none) c' ctv),toks:=tk }:=by
   refine I.step (ch:=[]) (g':=s.gens) (d':=s.drawn) (λ_ z=>nomatch z) (λb u _ _ _ e n=>keepU b u n e) (λb u _ _ _ e n=>⟨u.slots,keepU b u n e⟩) (λb u _ e n=>?_) (λb u _ e=>?_) (λb xs e=>some_ne b _ e λ_ z=>nomatch z) (λb o u e=>some_ne b _ e λ_ z=>nomatch z) (λb ps e=>?_) (λmm hm=>?_) (λb u e=>?_) I.bare
   ·rw[hH2 b (nn b n) (λz=>by subst z;exact absurd (bC e) (tV hge))];exact n
   ·by_cases hbP:b=G.cl 999
    ·subst hbP;exact⟨_,bJ _ htb⟩
    ·exact⟨u,bJ _ (hx b u hbP e)⟩
   ·by_cases hbP:b=G.cl 999
    ·subst hbP;rw[t]at e;cases e;exact⟨_,by rw[hH2P,←e2]⟩
    ·exact⟨#[],by rw[hH2 b hbP (dF e fc),e];simp⟩
   ·obtain⟨oo,es,ep,ho,r⟩:=hm;exact⟨oo,es,ep,keepU _ oo I.free ho,r⟩
   ·by_cases hbP:b=G.cl 999
    ·subst hbP;rw[hH2P]at e;cases e;exact bJ _ htb
    ·by_cases hbc:b=c'
     ·subst hbc;rw[hH2c]at e;cases e;obtain⟨c₂,oc,ws,tq,z1,z2,z3,z4⟩:=hrec;cases z1;exact⟨⟨oc,ws,tq,bJ _ z2,z3,z4⟩,⟨oc,bJ _ z2⟩,λp1 p2 ⟨o1,w1,t1,y1,y2,y3⟩ kk=>⟨o1,w1,t1,kk o1 y1,y2,y3⟩⟩
     ·rw[hH2 b hbP hbc]at e;refine(I.hok b u e).stay (λd v hd q=>bJ _ (hx d v ?_ q)) (λd q=>some_ne d _ q λ_ z=>nomatch z) λd xs q=>some_ne d _ q λ_ z=>nomatch z;rcases hd with z|z
      ·rw[z];exact hbP
      ·exact λy=>by rw[y,t]at z;cases z
  have x2:Ext m H m H2:=⟨⟨[],by simp⟩,λa u e n nt=>⟨some_ne a u e nt,n⟩,λa o u e=>some_ne a _ e λ_ z=>nomatch z⟩
  have mn:Mn m H m H2:=x2.mn;have R2:HR G m h H2:=⟨R.len,R.nd,λn a ob ea eo=>OR.mono mn (hH2 a (λz=>nP (z▸dR ea)) (λz=>fcm (z▸dR ea))) (R.ob n a ob ea eo),by
   rcases R.scr with⟨o',z⟩|z
   ·exact .inl ⟨o',some_ne _ _ z λ_ y=>nomatch y⟩
   ·exact .inr z,.inr ⟨nP,.inr ⟨c',fcm,hH2c,hH2P⟩⟩⟩
  refine k h'.objs.size c' _ ctv H2 _ (Inv.addPin I2 (dH _ rfl) ?_ (jR (c5 I.lt hfs)) (I.nofs hfs) λv z=>nomatch z) x2 R2 hH2c fcm;rw[hH2 _ (jR hPh) (jR hlt)];exact I.hok.fresh hfs
 ·have hP:s.heap.get? (G.cl 999)=some (tabObj #[rawInt (G.cl 998),rawInt (G.cl 997),.ref c']):=I.hok _ _ t;refine kla_makeFunctionHit (cv:=.ref c') hcl I.ok.glob hg ec C hP trivial ?_ hb λctv h' tk hk hsz=>?_
  ·rw[←hp1,←hp2];simp[codeAmong,rawInt]
  ·have I2:Inv X pins σ' H { s with heap:=h'.push (iB params body scope cls ((X.mg "__name__").getD .none) c' ctv),toks:=tk }:=I.kept λb u e=>bJ _ (hk b u e);exact k h'.objs.size c' _ ctv H _ (Inv.addPin I2 (dH _ rfl) (I.hok.fresh hsz) (jR (c5 I.lt hsz)) (I.nofs hsz) λv z=>nomatch z) .refl R ec' nc
end
section
variable {pins:List (ad×aw)}{s:ag}
theorem Fp.turnedL{bs:List ad}{h':aI}{t':Nat}(f:∀b∈bs,Fp X pins H b)(I:Inv X pins σ' H s)(k:∀c o,c∉bs->s.heap.get? c=some o->h'.get? c=some o):Inv X pins σ' H { s with heap:=h',toks:=t' }:=by
 have n0:∀c o,X.s₀.heap.get? c=some o->c∉X.ex->c∉bs:=λc o q hx z=>by
  rcases(f c z).new with y|y
  ·exact hx y
  ·rw[y]at q;cases q
 have ck:∀x c v,X.env.cells.lookup x=some c->s.heap.IsCell c v->h'.IsCell c v:=λx c v q e0=>e0.elim λo e1=>e1.elim λho hd=>⟨o,k c o (λz=>(f c z).ce x c q rfl) ho,hd⟩;refine⟨I.ok,I.os,I.bare,⟨λc o q n hb hx=>k c o (n0 c o q hx) (I.base.keep c o q n hb hx),λc o q n hb hx=>?_,λc o q n hx=>I.base.free c o q n hx,λc o q hx=>?_,I.base.tups,I.base.frzs,I.base.tbls⟩,?_,λx c q=>?_,I.free,I.freeC,λp hp=>?_,λc u e=>?_,I.len⟩
 ·obtain⟨sl,z⟩:=I.base.slot c o q n hb hx;exact⟨sl,k c _ (n0 c o q hx) z⟩
 ·obtain⟨o',z⟩:=I.base.there c o q hx;exact⟨o',k c o' (n0 c o q hx) z⟩
 ·obtain⟨mm,⟨o,es,ep,ho,r⟩,hl⟩:=I.loc;refine⟨mm,⟨o,es,ep,k _ o (λz=>(f _ z).loc rfl) ho,r⟩,λi x v e1 e2 e3=>?_⟩;obtain⟨u,ru,l⟩:=hl i x v e1 e2 e3;refine⟨u,ru,?_⟩;rcases l with l|⟨kk,c,e,z⟩
  ·exact .inl l
  ·exact .inr ⟨kk,c,e,ck x c _ e z⟩
 ·obtain⟨v,z⟩:=I.cell x c q;exact⟨v,ck x c v q z⟩
 ·obtain⟨a1,a2,a3,a4,a5⟩:=I.pin p hp;exact⟨k _ _ (λz=>(f _ z).pin p hp rfl) a1,a2,a3,a4,a5⟩
 ·refine(I.hok c u e).stay (λd v hd q=>k d v ?_ q) (λ_ q=>q) λ_ _ q=>q;rcases hd with z|z
  ·rw[z];exact λy=>by rw[(f c y).un]at e;cases e
  ·exact λy=>by rw[(f d y).un]at z;cases z
noncomputable def jT(X:Cx)(A:aX)(N:List Str)(s:ag)(H:Hp)(env:Env):Cx:=
 { X with A:=A.deeper env,N:=N,s₀:=s,H₀:=H,env:=env,outer:=X.stack,stack:=env::X.stack,ex:=[],calm:=true,fn:=λ_=>false,pn:=[],xe:=λ_ _=>False }
structure sf(X:Cx)(scope:Scope)(nm fv:Str)(i:Nat)(c:ad):Prop where
 kind:scope.kind=.function
 co:scope.isCoroutine=false
 gen:scope.isGenerator=false
 loc:scope.names.lookup nm=some .local
 fr:scope.names.lookup fv=some .free
 only:∀x∈scope.names,x.2≠.cell
 one:∀x,scope.names.lookup x=some .free->x=fv
 cl:X.env.cells.lookup fv=some c
 kc:X.env.kindOf fv=some .cell
 ix:X.N[i]?=some fv
 cls:closureFor scope X.env=pure [(fv,c)]
theorem Fu{A:aX}{scope:Scope}{nm fv:Str}{i:Nat}{c c' f:ad}{v:V}{u:ae}{hp:aI}{t:Nat}(L:sf X scope nm fv i c)(I:Inv X pins σ' H s)(hh:A.handled=none)(hA:A.frames=X.A.frames)
  (ns:hp.Ns s.heap.objs.size (λx=>[(nm,u)].reverse.lookup x)) (k:∀b o,s.heap.get? b=some o->hp.get? b=some o) (ru:aT v u) :
  Inv (jT X A [nm,fv] s H (envX ip scope s.heap.objs.size f (.ref c') [(fv,c)])) [] [some v,(σ'[i]?).getD none] H { s with heap:=hp,toks:=t }:=by
 have look1:∀x d,([(fv,c)]:List (Str×ad)).lookup x=some d->x=fv/\d=c:=λx d e=>by
  rw[cO]at e;cases hx:(x == fv) with
  |true=>rw[hx]at e;cases e;exact⟨eq_of_beq hx,rfl⟩
  |false=>rw[hx]at e;cases e
 obtain ⟨v0,hv0⟩:=I.cell fv c L.cl;have kc:∀w,s.heap.IsCell c w->hp.IsCell c w:=λw e0=>e0.elim λo e1=>e1.elim λho hd=>⟨o,k c o ho,hd⟩;refine ⟨⟨I.ok.mod,L.kind,rfl,rfl,bc _,λx y d h1 h2=>?_,λx hx=>?_,(λx d z=>nomatch z),λ_=>hh,Around.frames_deeper (hA.trans I.ok.frames),.inr ⟨rfl,rfl⟩,(λb z=>nomatch z),I.bs,bV I.ok.bsz I.sz,(λb _ _ z=>nomatch z),(λb z=>nomatch z),I.stack,I.stkFree⟩,
  rfl,I.bare,Un.kept k,⟨_,ns,λj x w e1 e2 e3=>?_⟩,λx d e=>?_,I.hok.fresh (bc _),λx d e=>?_,(λp hp=>nomatch hp),I.hok.kept k,rfl⟩
 ·rw[(look1 x d h1).1,(look1 y d h2).1]
 ·have hx:scope.names.lookup x=some .cell∨scope.names.lookup x=some .free:=hx;rcases hx with hx|hx
  ·exact absurd rfl (L.only _ (PySem.mem_of_lookup hx))
  ·rw[L.one x hx];exact⟨c,by show gC fv [(fv,c)]=some c;simp⟩
 ·match j,e1,e2 with
  |0,e1,e2=>
    have e1':nm=x:=by simpa[jT] using e1
    subst e1';have e2':v=w:=by simpa using e2
    subst e2';exact⟨u,ru,.inl ⟨L.loc,by show gC nm [(nm,u)]=some u;simp⟩⟩
  |1,e1,e2=>
    have e1':fv=x:=by simpa[jT] using e1
    subst e1';have e2':(σ'[i]?).getD none=some w:=by simpa using e2
    have e3':σ'[i]?=some (some w):=by
     cases q:σ'[i]? with
     |none=>rw[q]at e2';cases e2'
     |some z=>rw[q]at e2';rw[show z=some w from e2']
    obtain⟨mm,hn,hl⟩:=I.loc;obtain⟨u1,r1,l1⟩:=hl i fv w L.ix e3' (.inr (.inl L.kc));refine⟨u1,r1,?_⟩;rcases l1 with⟨z,_⟩|⟨_,d,e,z⟩
    ·rw[L.kc]at z;cases z
    ·rw[L.cl]at e;cases e;exact .inr ⟨.inr L.fr,c,by show gC fv [(fv,c)]=some c;simp,kc _ z⟩
  |j+2,e1,_=>simp[jT]at e1
 ·obtain⟨e1,e2⟩:=look1 x d e;rw[e2];exact⟨v0,kc _ hv0⟩
 ·obtain⟨e1,e2⟩:=look1 x d e;rw[e2];exact I.freeC fv c L.cl
theorem GC{A:aX}{params:Arguments}{body:az}{scope:Scope}{nm fv:Str}{i:Nat}{c c' f:ad}{pm ctv:ae}{ke:ME}{k:Str}{t:Tok}{kv:MV}(L:sf X scope nm fv i c)(I:Inv X pins σ' H s)(S:SR G m H σ σ')(R:HR G m h H)
  (hf:(f,iB params body scope [(fv,c)] pm c' ctv)∈pins) (hc':H c'=some (.ext (LamΦ c'))) (hh:A.handled=none) (hA:A.frames=X.A.frames) (hroom:A.depth<recursionLimit)
  (hbind:∀(fd:bq) (v:ae),fd.params=params->fd.defaults=.none->fd.kwdefaults=.none->bindArgs fd ⟨[v],[]⟩=pure [(nm,v)])
  (hbody:∀(L f:ad) (cdv:ae) (s:ag) (H:Hp),GE G (jT X A [nm,fv] s H (envX ip scope L f cdv [(fv,c)])) body ke) (he:ke [some (.str k),(σ[i]?).getD none] h=.ok kv h) :
  aq (au X.prog X.w) A (call (.ref f) [.str k t]) (λu s'=>∃v' H',Inv X pins σ' H' s'/\Ext m H m H'/\HR G m h H'/\aT v' u/\VR G m H' kv v') (λ_ _=>False) s:=by
 have hpf:=I.pin _ (cK _ hf);obtain⟨⟨oc,ws,tq,z1,z2,z3⟩,_,_⟩:=I.hok c' _ hc';refine wpAny_call (kla_callFunE hroom hpf.1 rfl L.co L.gen rfl ⟨c',oc,ws,tq,rfl,z1,z2,z3⟩ ?_);rw[hbind _ _ rfl rfl rfl];refine aF (wpAny_newFunctionEnv L.only (λx hx=>by rw[dC.mp hx];exact L.loc) (λh₁ hns hsb=>⟨I.nolimit.fresh _ hsb,?_⟩) L.kind);have hk₁:∀b o,s.heap.get? b=some o->h₁.get? b=some o:=λb o e=>hsb.extBut b o (cT (bC e)) (bJ _ e);have I1:=Fu (A:=A) (f:=f) (c':=c') (v:=.str k) (t:=s.toks+1) L I hh hA hns hk₁ ⟨t,rfl⟩;refine kla_codeExpr ?_;have S1:SR G m H [some (.str k),(σ[i]?).getD none] [some (.str k),(σ'[i]?).getD none]:=by
  refine⟨rfl,λj v e=>?_⟩
  match j,e with
  |0,e=>
    have e':MV.str k=v:=by simpa using e
    subst e';exact⟨.str k,rfl,rfl⟩
  |1,e=>
    have e':(σ[i]?).getD none=some v:=by simpa using e
    have e3:σ[i]?=some (some v):=by
     cases q:σ[i]? with
     |none=>rw[q]at e';cases e'
     |some z=>rw[q]at e';rw[show z=some v from e']
    obtain⟨v',q1,q2⟩:=S.sl i v e3;exact⟨v',by simp[q1],q2⟩
  |j+2,e=>simp at e
 refine br (hbody s.heap.objs.size f (.ref c') s H (λ_ _=>False) ET [] _ _ H (λv' H'=>∃m',Ext m H m' H'/\HR G m' h H'/\VR G m' H' kv v') (I1.wish _) ⟨m,h,_,trivial,S1,R,by rw[he];exact λm' H' y R' v' r=>⟨m',y,R',r⟩⟩) (λu s' hq=>?_) λ_ _ z=>z.elim;obtain⟨v',H',I',r,m',x,R',rv⟩:=hq;have em:m'=m:=by
  obtain⟨e,pe⟩:=x.pre;have:e.length=0:=by
   have h1:=R'.len;have h2:=R.len;rw[pe,cQ]at h1;lia
  rw[pe,List.eq_nil_of_length_eq_zero this,va]
 subst em;exact⟨v',H',I.call' (s':=s') (ch:=[]) I'.os I'.base I'.hok I'.bare (λb z=>nomatch z),x,R',r,rv⟩
end
end L2.Rv
namespace L2.Rv
open PySem PySem.Spec PyProof.Rows PySem.W
variable {G:Gb}{m m' m1 m2:List ad}{h h' h1 h2:MH}{H H' H0 H1 H2:Hp}{X:Cx}{E:ae->ag->Prop}{EX:St->Prop}{σ:MSt}{σ':St}
section
variable {pins:List (ad×aw)}{s:ag}{f c' D kS:ad}{fo:aw}{e1:Nat}
structure LS(G:Gb)(X:Cx)(σ':St)(m:List ad)(h:MH)(H0:Hp)(pins:List (ad×aw))(f:ad)(fo:aw)(c' D:ad)(e1:Nat)(kS:ad)(done:List MV)(us:List ae)(H:Hp)(s:ag):Prop where
 inv:∃e,Inv X ((kS,seqObj "list" us.toArray e)::(D,seqObj "list" #[] e1)::(f,fo)::pins) σ' H s
 ext:Ext m H0 m H
 hr:HR G m h H
 vals:∃vs,VRs G m H done vs/\Vals vs us
 cd:H c'=some (.ext (LamΦ c'))
 cm:c'∉m
structure KSt(X:Cx)(pins:List (ad×aw))(kS:ad):Prop where
 new:kS∈X.ex∨X.s₀.heap.get? kS=none
 ce:∀x c,X.env.cells.lookup x=some c->c≠kS
 pin:∀p∈X.pn++pins,p.1≠kS
theorem KSt.fp{o:aw}(k:KSt X pins kS)(I:Inv X ((kS,o)::pins) σ' H s):Fp X pins H kS:=by
 obtain⟨_,a2,a3,a4,_⟩:=I.pin (kS,o) (cK _ (.head _));exact⟨a2,λz=>a3 z,a4,k.new,λx c e=>k.ce x c e,k.pin⟩
theorem Inv.dropPin{o:aw}(I:Inv X ((kS,o)::pins) σ' H s):Inv X pins σ' H s:=I.pins_of λp hp=>I.pin p (cK _ (.tail _ hp))
theorem xI{ke:ME}{fr:MSt}{k:Str}{r:List Str}{more:List MV}{hE:MH}(e:d7 ke fr (k::r) h=.ok more hE):∃kv more',ke (some (.str k)::fr) h=.ok kv h/\d7 ke fr r h=.ok more' hE/\more=kv::more':=by
 unfold d7 at e;cases ek:ke (some (.str k)::fr) h with
 |ok kv h1=>
   rw[ek]at e;dsimp only at e;split at e
   ·rename_i hh;subst hh;unfold bnd at e;cases er:d7 ke fr r h1 with
    |ok more' h2=>
      rw[er]at e;injection e with e1 e2;subst e1;subst e2;exact⟨kv,more',rfl,rfl,rfl⟩
    |exc c h2=>rw[er]at e;cases e
    |stuck=>rw[er]at e;cases e
   ·cases e
 |exc c h1=>rw[ek]at e;cases e
 |stuck=>rw[ek]at e;cases e
theorem xf{ke:ME}{fr:MSt}:∀{r:List Str}{more:List MV}{hE:MH},d7 ke fr r h=.ok more hE->hE=h
 |[],more,hE,e=>by unfold d7 at e;injection e with _ e2;exact e2.symm
 |k::r,more,hE,e=>by
   obtain⟨_,_,_,e2,_⟩:=xI e;exact xf e2
theorem wE{ke:ME}{fr:MSt}:∀{r:List Str}{c:Nat}{hE:MH},d7 ke fr r h≠.exc c hE
 |[],c,hE,e=>by unfold d7 at e;cases e
 |k::r,c,hE,e=>by
   unfold d7 at e;cases ek:ke (some (.str k)::fr) h with
   |ok kv h1=>
     rw[ek]at e;dsimp only at e;split at e
     ·unfold bnd at e;cases er:d7 ke fr r h with
      |ok more' h2=>rw[er]at e;cases e
      |exc c' h2=>exact wE er
      |stuck=>rw[er]at e;cases e
     ·cases e
   |exc c h1=>rw[ek]at e;cases e
   |stuck=>rw[ek]at e;cases e
theorem zT{A:aX}{params:Arguments}{body:az}{scope:Scope}{nm fv:Str}{i:Nat}{c:ad}{pm ctv:ae}{ke:ME}{Fin:List ae->ag->Prop}(L:sf X scope nm fv i c)(hfo:fo=iB params body scope [(fv,c)] pm c' ctv)
  (hh:A.handled=none) (hA:A.frames=X.A.frames) (hroom:A.depth<recursionLimit) (hbind:∀(fd:bq) (v:ae),fd.params=params->fd.defaults=.none->fd.kwdefaults=.none->bindArgs fd ⟨[v],[]⟩=pure [(nm,v)])
  (hbody:∀(L f:ad) (cdv:ae) (s:ag) (H:Hp),GE G (jT X A [nm,fv] s H (envX ip scope L f cdv [(fv,c)])) body ke) (S:SR G m H0 σ σ')
  (K:KSt X ((D,seqObj "list" #[] e1)::(f,fo)::pins) kS):∀{r:List Str}{rv:List ae}{done more:List MV}{us:List ae}{H:Hp}{s:ag},cg (λk v=>∃t,v=Value.str k t) r rv->d7 ke [(σ[i]?).getD none] r h=.ok more h ->
   LS G X σ' m h H0 pins f fo c' D e1 kS done us H s->(∀us' H' s',LS G X σ' m h H0 pins f fo c' D e1 kS (done++more) us' H' s'->Fin us' s')->jG X.prog X.w A (.ref f) kS Fin rv us s
 |[],_,done,more,us,H,s,.nil,e,l,fin=>by
   unfold d7 at e;injection e with e1 _;subst e1;exact fin us H s (by simpa using l)
 |k::r,_,done,more,us,H,s,.cons ⟨t,ev⟩ q,e,l,fin=>by
   subst ev;obtain⟨kv,more',e2,e3,rfl⟩:=xI e;obtain⟨e0,I⟩:=l.inv;refine br (GC (pm:=pm) (ctv:=ctv) L I (S.mono l.ext) l.hr (by rw[←hfo];exact .tail _ (.tail _ (.head _))) l.cd hh hA hroom hbind hbody e2) (λu s' hq=>?_) λ_ _ z=>z;obtain⟨v',H',I',x,R',ru,rv⟩:=hq;obtain⟨vs,z1,z2⟩:=l.vals;refine⟨e0,(I'.pin (kS,_) (cK _ (.head _))).1,λhp cc kb ek=>?_⟩;have fp:=K.fp I';have I2:=fp.turned (t':=s'.toks) (h':=hp) (Inv.dropPin I') kb;refine zT L hfo hh hA hroom hbind hbody S K q e3 ⟨⟨cc,Inv.addPin I2 ek fp.un fp.loc fp.fs λv z=>nomatch z⟩,l.ext.trans x,R',⟨vs++[v'],im (x.vrs z1) (.cons rv .nil),im z2 (.cons ru .nil)⟩,(x.fr c' _ l.cd l.cm λ_ z=>nomatch z).1,l.cm⟩ λus' H'' s'' l'=>fin us' H'' s'' (by simpa using l')
end
theorem Aq{kvs:List (Str×MV)}{ws:List (Key×V)}(r:DR G m H kvs ws):ws.map (·.1)=kvs.map λkv=>(Sum.inr kv.1:Key):=by
 induction r with
 |nil=>rfl
 |cons q _ ih=>rw[aN,aN,ih,q.1]
theorem Fj{ws:List (Key×V)}{us:List (Key×ae)}(r:KV ws us):us.map (·.1)=ws.map (·.1):=by
 induction r with
 |nil=>rfl
 |cons q _ ih=>rw[aN,aN,ih,q.1]
theorem zN:∀(l:List (Str×MV)),VRs G m H (l.map λkv=>MV.str kv.1) (l.map λkv=>V.str kv.1)
 |[]=>.nil
 |_::l=>.cons rfl (zN l)
theorem DM{k:Nat}{o:az}{go ke:ME}{params:Arguments}{body:az}{scope:Scope}{lpos p pos kp:Pos}{nm fv:Str}{i:Nat}{c:ad}(hL:sR X.K X.mg G.cl X.env.code)(ho:GE G X o go)(L:sf X scope nm fv i c)(hm:X.mg "sorted"=none)(hr:Room (k+2) X.A)
  (hp1:(lpos.line:Int)=G.cl 998) (hp2:(lpos.col:Int)=G.cl 997) (hbind:∀(fd:bq) (v:ae),fd.params=params->fd.defaults=.none->fd.kwdefaults=.none->bindArgs fd ⟨[v],[]⟩=pure [(nm,v)])
  (hbody:∀(L f:ad) (cdv:ae) (s:ag) (H:Hp),Room k (X.A.in1.in1.deeper (envX ip scope L f cdv [(fv,c)]))->GE G (jT X X.A.in1.in1 [nm,fv] s H (envX ip scope L f cdv [(fv,c)])) body ke)
  (hdef:defaultsOf params X.env=([],[]):=by rfl) (hq:X.env.qual++"<lambda>"=ip:=by rfl) (hg:Gl X "sorted":=by rfl) (hs:aU [o] X.env=[(false,aK o X.env)]:=by rfl) :
  GE G X (.Call (.Name "sorted" p) [o] [⟨some "key",.Lambda params body scope lpos,kp⟩] pos) (oS go i ke):=λE EX pins s σ' H Q I ⟨m,h,σ,ex,S,R,P⟩=>by
 have hrb:∀(L f:ad) (cdv:ae),Room k (X.A.in1.in1.deeper (envX ip scope L f cdv [(fv,c)])):=λL f cdv=>⟨hr.hd,by have:=hr.dp;show X.A.depth+1+3*k+5<_;lia,by have:=hr.un;show X.A.units+1+1+3+16*k+200<_;lia⟩
 refine wpAny_Call_Name_kw (kn I hg hm boot_sorted ?_ (by decide) (by decide));refine callWith_kw (thn ((ho.a1 hs E EX) pos pins s σ' H (λvs H1=>∃(d:ad) (n:Nat) (kvs:List (Str × MV)) (m1:List ad) (h1:MH),vs=[V.ref d]/\m1[n]? = some d/\Ext m H m1 H1/\HR G m1 h1 H1/\h1[n]? = some (.dct kvs)/\kvs.length < 64 /\
   Post G X E EX m1 H1 (bnd (d7 ke [(σ[i]?).getD none] (kvs.map (·.1))) (λks=>(match eB fP ks with
    | some rows=>if rows.all gT=true then (match d8 rows with
      |some ix=>new (.lst (pick (kvs.map λkv=>.str kv.1) ix))
      | none=>stk) else stk
    | none=>stk)) h1) λv m' _ H'=>∀v',VR G m' H' v v'->Q v' H') I (sub ex S R P λv m1 h1 H1 v' x1 R1 r1 P1=>?_)) λus s1 ⟨vs,H1,I1,r,d,n,kvs,m1,h1,ev,en,x1,R1,eh,h64,P1⟩=>?_) (by rw [hs];rfl) (by rw [hs];rfl) rfl rfl
 ·cases v <;> first|exact P1.elim|skip
  rename_i n;obtain⟨d,ea,rfl⟩:=r1;obtain⟨oa,e1,q1,P2⟩:=cX R1 ea P1;cases oa <;> first|exact P2.elim|skip
  rename_i kvs;dsimp only at P2;split at P2
  ·rename_i h64;exact⟨d,n,kvs,m1,h1,rfl,ea,x1,R1,e1,h64,P2⟩
  ·exact P2.elim
 ·subst ev;obtain⟨u,us',rfl,ru,rr⟩:=uU r;cases rr;obtain rfl:u=Value.ref d:=ru;have I1':Inv X pins σ' H1 s1:=I1.unwish;refine kws_cons (A4 (X:=X) (M:=au X.prog X.w) (A:=X.A) (E:=E) hL I1' R1 hp1 hp2 L.cls hdef hq λf c' pm ctv H2 s2 I2 x2 R2 hc cm=>kws_nil ?_);show aq (au X.prog X.w) X.A (call (.builtin "sorted") [.ref d] [(ah "key",.ref f)]) _ E s2
  obtain⟨ws,dr,ed⟩:=R2.ob n d _ en eh;obtain⟨_,lo,vs2,kv2,dd⟩:=vq I2.hok ed;have hkeys:vs2.map (·.1)=kvs.map λkv=>(Sum.inr kv.1:Key):=(Fj kv2).trans (Aq dr);have hlen2:vs2.length=kvs.length:=by have:=congrArg eF hkeys;simpa using this
  obtain⟨od,es,ep,dd⟩:=dd;have da:s2.heap.DictAt (bR X.prog X.w) d vs2 ep:=⟨od,es,dd⟩;refine Af (kdl_dict (knd:=bR X.prog X.w) (kvs:=vs2) (ep:=ep) lo) hr.hd da (by rw[hlen2];exact h64) λvs hp tk D kS e1 hk hit eD eK nD nK hne=>?_;have prd:cg (λk v=>∃t,v=Value.str k t) (kvs.map (·.1)) vs:=by
   refine wY _ _ (by have:=hit.1;simp only[cB]at this;simp[this,hlen2]) λj kk v ek ev=>?_;obtain⟨k2,xx,g1,g2⟩:=hit.2 j v (by simpa using ev);have g3:(vs2.map (·.1))[j]?=some k2:=by rw[bX,g1];rfl
   rw[hkeys,bX]at g3;rw[bX]at ek;cases e0:kvs[j]? with
   |none=>rw[e0]at ek;cases ek
   |some kv=>
     rw[e0]at ek g3;cases ek;cases g3;exact n5 g2
  have fD:H2 D=none:=HOk.none I2.hok nD;have fK:H2 kS=none:=HOk.none I2.hok nK;have FD:Fp X _ H2 D:=Fp.of I2 nD fD;have FK:Fp X _ H2 kS:=Fp.of I2 nK fK;have I3:Inv X _ σ' H2 { s2 with heap:=hp,toks:=tk }:=I2.kept hk;have I4:=Inv.addPin (Inv.addPin I3 eD fD FD.loc FD.fs λv z=>nomatch z) eK fK FK.loc FK.fs λv z=>nomatch z;have KK:KSt X ((D,seqObj "list" #[] e1)::(f,iB params body scope [(fv,c)] pm c' ctv)::pins) kS:=⟨FK.new,λx c e=>FK.ce x c e,λp hp=>by
   rcases c6.mp hp with z|z
   ·exact FK.pin p (gp _ z)
   ·rcases bE.mp z with y|y
    ·subst y;exact hne
    ·exact FK.pin p (cK _ y)⟩
  cases ek:d7 ke [(σ[i]?).getD none] (kvs.map (·.1)) h1 with
  |exc c2 hE=>exact absurd ek wE
  |stuck=>unfold bnd at P1;rw[ek]at P1;exact P1.elim
  |ok more hE=>
    obtain rfl:=xf ek;unfold bnd at P1;rw[ek]at P1;dsimp only at P1;cases er:eB fP more with
    |none=>rw[er]at P1;exact P1.elim
    |some rows=>
      rw[er]at P1;dsimp only at P1;split at P1
      case isFalse=>exact P1.elim
      case isTrue hall=>
      cases es2:d8 rows with
      |none=>rw[es2]at P1;exact P1.elim
      |some ix=>
        rw[es2]at P1;refine zT (A:=X.A.in1.in1) (done:=[]) (us:=[]) L rfl hr.hd rfl (by show X.A.depth<_;exact hr.depth) hbind (λL f cdv s H=>hbody L f cdv s H (hrb L f cdv)) (S.mono (x1.trans x2)) KK prd ek ⟨⟨0,I4⟩,.refl,R2,⟨[],.nil,.nil⟩,hc,cm⟩ λus' H' s' l=>?_;obtain⟨e0,I5⟩:=l.inv;obtain⟨vsk,z1,z2⟩:=l.vals;have gK:=I5.pin (kS,_) (cK _ (.head _));have gD:=I5.pin (D,_) (cK _ (.tail _ (.head _)));refine⟨e0,ix,gK.1,gD.1,Ne.symm hne,vZ I5.hok (rE (λ_ _ _=>ub) er (by simpa using z1)) z2 hall es2,λh2 cc kb _ hln eD2=>?_⟩;have I6:=Inv.dropPin (Inv.dropPin I5);have FD':Fp X ((f,iB params body scope [(fv,c)] pm c' ctv)::pins) H' D:=⟨gD.2.1,FD.loc,FD.fs,FD.new,FD.ce,FD.pin⟩;have FK':Fp X ((f,iB params body scope [(fv,c)] pm c' ctv)::pins) H' kS:=⟨gK.2.1,FK.loc,FK.fs,FK.new,FK.ce,FK.pin⟩;have I7:Inv X _ σ' H' { s' with heap:=h2 }:=Fp.turnedL (bs:=[D,kS]) (t':=s'.toks) (λb hb=>by
         rcases bE.mp hb with z|z
         ·subst z;exact FD'
         ·rw [dC.mp z];exact FK') I6 λb o hb e=>kb b o (λz=>hb (by simp [z])) (λz=>hb (by simp [z])) e
        have vv:Vals (kvs.map λkv=>V.str kv.1) vs:=by
         have:∀{l:List (Str×MV)}{us:List ae},cg (λk v=>∃t,v=Value.str k t) (l.map (·.1)) us->Vals (l.map λkv=>V.str kv.1) us:=by
          intro l
          induction l with
          |nil=>intro us q;cases q;exact .nil
          |cons a l ih=>intro us q;cases q with|cons q1 q2=>exact .cons q1 (ih q2)
         exact this prd
        have vr:VRs G m1 H' (kvs.map λkv=>MV.str kv.1) (kvs.map λkv=>V.str kv.1):=zN kvs;have I8:=Inv.trackO (v:=.lst (i4 (kvs.map λkv=>V.str kv.1) ix)) I7 FD' ⟨by
         have:(i4 (kvs.map λkv=>V.str kv.1) ix).length=vs.length:=by rw[←hln];simp[i4,picked]
         rw [this,←vv.length,bB];exact small (by lia),_,cc,uQ vv ix,eD2⟩
        exact⟨.ref D,_,(Inv.dropPin I8).wish E,rfl,iI l.hr (oU vr ix) (P1.ext (x2.trans l.ext)) gD.2.1⟩
end L2.Rv
namespace L2.Rv
open PySem PySem.Spec PyProof.Rows
variable {G:Gb}{m m' m1 m2:List ad}{h h' h1 h2:MH}{H H' H1 H2:Hp}{X:Cx}{E:ae->ag->Prop}{EX:St->Prop}{σ:MSt}{σ':St}
theorem AV{pos:Pos}:GE G X (.Dict [] [] pos) ul:=λE EX=>dD EA λσ' H Q e0=>bY e0 λm h σ ex S R P=>λp hp=>by
 have x:=Ext.new (u:=.dK []) R hp;refine P (m++[p]) (upd H p (.dK [])) x (R.new hp ⟨[],.nil,dE⟩) (.ref p) ⟨p,?_,rfl⟩;rw[←R.len];simp
theorem vG{xs:List MV}{vs:List V}{lo hi:Option Int}(r:VRs G m H xs vs):VRs G m H (fk xs lo hi) (jh vs lo hi):=by
 have hl:=Paired.length r;have e:∀(n d:Nat) (o:Option Int),HT.sIx n d o=d4 n d o:=λn d o=>by
  unfold HT.sIx d4;cases o with
  |none=>rfl
  |some v=>rfl
 unfold fk jh;rw[e,e,hl];have dr:∀(k:Nat) {xs:List MV} {vs:List V},VRs G m H xs vs->VRs G m H (xs.drop k) (vs.drop k):=by
  intro k
  induction k with
  |zero=>intro xs vs q;exact q
  |succ k ih=>intro xs vs q;cases q with
    |nil=>exact .nil
    |cons q1 q2=>exact ih q2
 have tk:∀(k:Nat) {xs:List MV} {vs:List V},VRs G m H xs vs->VRs G m H (xs.take k) (vs.take k):=by
  intro k
  induction k with
  |zero=>intro xs vs q;exact .nil
  |succ k ih=>intro xs vs q;cases q with
    |nil=>exact .nil
    |cons q1 q2=>exact .cons q1 (ih q2)
 exact tk _ (dr _ r)
def zm:V->Option Int->Option Int->Hp->VK->Prop:=λx lo hi H Q=>∃y:Str,x=.str y/\y.length≤aW/\Q (.str (Txt.slice y lo hi)) H
theorem A3:SlR X zm:=by
 rintro pins s σ H x v vl vu lo hi sl Q I rx hs pl pu ⟨y,e,hz,q⟩;subst e;obtain⟨t,rfl⟩:=rx;obtain⟨l,el,ml⟩:∃l:Option (Int×Tok),vl=partValue l/\l.map (·.1)=lo:=by
  cases pl with
  |none=>exact⟨none,rfl,rfl⟩
  |int i t=>exact⟨some (i,t),rfl,rfl⟩
 obtain⟨u,eu,mu⟩:∃l:Option (Int×Tok),vu=partValue l/\l.map (·.1)=hi:=by
  cases pu with
  |none=>exact⟨none,rfl,rfl⟩
  |int i t=>exact⟨some (i,t),rfl,rfl⟩
 subst el;subst eu;subst ml;subst mu;refine⟨"str",_,PySem.F.slot_str_getitem.lookup,typeIs_str _ _ _,wpAny_getItem_str_slice (l:=l) (u:=u) (st:=none) (by obtain⟨o,a1,a2,a3⟩:=hs;exact⟨o,a1,a2,a3⟩) rfl ?_⟩;exact post_val_or_str ⟨bV (Txt.slice_le y _ _) hz,λt' k=>⟨.str _,H,I.tok _,⟨_,rfl⟩,q⟩⟩
def tGo(G:Gb)(X:Cx)(E:ae->ag->Prop)(EX:St->Prop):Option ME->TO
 |none=>xC
 |some g=>zB (TGe G X E EX g)
def GO(G:Gb)(X:Cx):Option az->Option ME->Prop
 |none,none=>True
 |some e,some g=>GE G X e g
 |_,_=>False
theorem vY{e:Option az}{ge:Option ME}(he:GO G X e ge):PO (X.wish E) e (tGo G X E EX ge):=by
 cases e with
 |none=>cases ge with
   |none=>exact Ev
   |some _=>exact he.elim
 |some e=>cases ge with
   |none=>exact he.elim
   |some g=>exact He (he E EX)
theorem ym{β:Type}{ge:Option ME}{k:Option Int->M β}{Q:β->List ad->MH->Hp->Prop}(ex:EX σ')(S:SR G m H σ σ')(R:HR G m h H)(P:Post G X E EX m H (bnd (part ge σ) k h) Q){Rr:Option Int->Hp->Prop}
  (hk:∀v m1 h1 H1,Ext m H m1 H1->HR G m1 h1 H1->Post G X E EX m1 H1 (k v h1) Q->Rr v H1):tGo G X E EX ge σ' H Rr:=by
 cases ge with
 |none=>exact hk none m h H .refl R P
 |some g=>
   have P':Post G X E EX m H (bnd (bnd (g σ) λv=>match v with
    |.int i=>ret (some i)
    | _=>stk) k h) Q:=P
   rw[jk]at P';refine sub ex S R P' λv m1 h1 H1 v' x1 R1 r1 P1=>?_;cases v with
   |int i=>cases(show v'=V.int i from r1);exact⟨i,rfl,hk (some i) m1 h1 H1 x1 R1 P1⟩
   |_=>exact P1.elim
def Gj(K:PySem.W.Frag):V->Option Int->Option Int->Hp->VK->Prop:=λx lo hi H Q=>yD K x lo hi H Q∨(wN K x lo hi H Q∨zm x lo hi H Q)
theorem xP(n d:Nat)(o:Option Int):HT.sIx n d o=d4 n d o:=by
 unfold HT.sIx d4;cases o <;> rfl
theorem iZ{a:az}{lo hi:Option az}{ga:ME}{gl gh:Option ME}{pos p2:Pos}(ha:GE G X a ga)(hl:GO G X lo gl)(hh:GO G X hi gh)(hK:X.K=G.K:=by rfl) :
  GE G X (.Subscript a (.Slice lo hi none p2) pos) (eSl ga gl gh):=λE EX=>dD (B8 (X:=X.wish E) (r:=Gj X.K) (B5.or (Ez.or A3)) (ha E EX) (vY (EX:=EX) hl) (vY (EX:=EX) hh)) λσ' H Q e0=>bY e0 λm h σ ex S R P=>
 sub ex S R P λv m1 h1 H1 v' x1 R1 r1 P1=>ym ex (S.mono x1) R1 P1 λl m2 h2 H2 x2 R2 P2=>ym ex ((S.mono x1).mono x2) R2 P2 λu m3 h3 H3 x3 R3 P3=>by
  have r3:=x3.vr (x2.vr r1);rw[hK];cases v with
  |ref n=>
    obtain⟨aa,ea,rfl⟩:=r3;obtain⟨ob,eo,qo,P4⟩:=cX R3 ea P3;cases ob with
    |lst xs=>
      obtain⟨vs,rr,z⟩:=qo;exact .inl ⟨aa,vs,rfl,SqL.of z,λp hp=>iI R3 (vG rr) P4 hp⟩
    |_=>exact P4.elim
  |tup xs=>
    obtain⟨aa,vs,rfl,na,z,rr⟩:=r3;have rr':=rr.to;have hlen:=Paired.length rr';unfold jF at P3;dsimp only at P3;split at P3
    ·exact P3.elim
    ·rename_i hw;refine .inr (.inl ⟨aa,vs,rfl,.inl (.inl z),?_,λp hp=>xi R3 (vG rr') P3 hp⟩);rw[xP,xP,←hlen];exact hw
  |str y=>
    cases(show v'=V.str y from r3);unfold jF at P3;dsimp only at P3
    split at P3
    ·rename_i hz;exact .inr (.inr ⟨y,rfl,big hz,Post.here R3 P3 _ rfl⟩)
    ·exact P3.elim
  |_=>exact P3.elim
theorem t8:∀{xs:List MV}{ss:List Str}{vs:List V},fW xs=some ss->VRs G m H xs vs->vs=ss.map V.str
 |[],ss,vs,e,q=>by cases e;cases q;rfl
 |x::xs,ss,vs,e,q=>by
   cases x <;> first|cases e|skip
   rename_i y;cases er:fW xs with
   |none=>simp[fW,er]at e
   |some ks=>
     simp only[fW,er,Option.some.injEq]at e;subst e;cases q with
     |@cons _ v' _ vs' q1 q2=>rw[show v'=V.str y from q1,t8 er q2];rfl
theorem yP:∀{ss:List Str}{us:List ae},Vals (ss.map V.str) us->StrsAre us ss
 |[],_,.nil=>.nil
 |y::ss,_,.cons q t=>by
   obtain⟨t0,rfl⟩:=(show ∃t,_=Value.str y t from q);exact .cons y t0 (yP t)
def Br:V->List V->Hp->VK->Prop:=λx vs H Q=>∃(sep:Str) (l:ad) (ss:List Str),x=.str sep/\vs=[.ref l]/\H l=some (.lst (ss.map V.str))/\sep.length≤16/\(ss.map (·.length)).sum+ss.length≤1048576/\Q (.str (Txt.join sep ss)) H
theorem Gr:MtR X "str.join" Br:=by
 rintro pins s σ H x vs v us Q I rx rv ⟨sep,l,ss,e1,e2,el,h1,h2,q⟩;subst e1;subst e2;obtain⟨t,rfl⟩:=rx;obtain⟨u,rfl,ru⟩:=rv.one;obtain rfl:u=Value.ref l:=ru;obtain⟨z,its,n,r,hl,e⟩:=I.lstM el;exact join_listW (items:=its.toArray) ⟨_,e,rfl,n,rfl⟩ (by simpa using yP r) h1 h2 λt' k=>⟨.str _,H,I.tok _,⟨_,rfl⟩,q⟩
theorem nI{o e:az}{go ge:ME}{apos cpos:Pos}(ho:GE G X o go)(he:GE G X e ge)(hbase:attributeBase o (ah "join") X.env (aK o X.env)=aK o X.env:=by rfl)
  (hfew:((backTo cpos (aU [e] X.env)).all (λx=>!x.1) && (backToKw cpos (keywordEach [] X.env)).all (λx=>x.1.isSome)
   && decide ([e].length + ([]:List Keyword).length + (if ([]:List Keyword).isEmpty then 0 else 1) < 30))=true:=by rfl)
  (hline:(apos.endLine == cpos.line)=true:=by rfl) (hs:aU [e] X.env=[(false,aK e X.env)]:=by rfl):GE G X (.Call (.Attribute o (ah "join") apos) [e] [] cpos) (iD go ge):=λE EX=>
 dD (oP (X:=X.wish E) PySem.F.plainAttrs_str PySem.F.slot_str_join PySem.F.type_str_join Gr (ho E EX) (he.a1 hs E EX) hbase hfew hline hs rfl) λσ' H Q e0=>bY e0 λm h σ ex S R P=>
  sub ex S R P λv m1 h1 H1 v' x1 R1 r1 P1=>by
   cases v with
   |str sep=>
     cases(show v'=V.str sep from r1);refine⟨rfl,sub ex (S.mono x1) R1 P1 λw m2 h2 H2 w' x2 R2 r2 P2=>?_⟩;cases w with
     |ref n=>
       obtain⟨aa,ea,rfl⟩:=r2;obtain⟨ob,eo,qo,P3⟩:=cX R2 ea P2;cases ob with
       |lst xs=>
         obtain⟨vs,rr,z⟩:=qo;dsimp only at P3;cases es:fW xs with
         |none=>rw[es]at P3;exact P3.elim
         |some ss=>
           rw[es]at P3;dsimp only at P3;split at P3
           ·rename_i hz;have:=t8 es rr;subst this;exact⟨sep,aa,ss,rfl,rfl,z,hz.1,bV hz.2 (by decide),Post.here R2 P3 _ rfl⟩
           ·exact P3.elim
       |_=>exact P3.elim
     |_=>exact P2.elim
   |_=>exact P1.elim
inductive GF(G:Gb)(X:Cx):az->FP->Prop where
 |lit {x:Str} {j:Nat} {pos:Pos}:GF G X (.Constant (.str x) j pos) (.lit x)
 |pl {e:az} {g:ME} {pos:Pos} (he:GE G X e g):GF G X (.FormattedValue e (-1) none pos) (.pl g)
 |rp {e:az} {g:ME} {pos:Pos} (he:GE G X e g):GF G X (.FormattedValue e 114 none pos) (.rp g)
theorem DB{e:az}{es:List az}{env:Env}:evalEach (e::es) env=aK e env::evalEach es env:=rfl
theorem CK{e:az}{p:FP}{β:Type}{k:Option Str->M β}{Q:β->List ad->MH->Hp->Prop}(g:GF G X e p){pins:List (ad×aw)}{s:ag}(I:Inv (X.wish E) pins σ' H s)(ex:EX σ')(S:SR G m H σ σ')(R:HR G m h H)(P:Post G X E EX m H (bnd (g9 p σ) k h) Q)
  {W:ae->ag->Prop} (hk:∀(o:Option Str) (y:Str) (t:Tok) m1 h1 H1 s1,Ext m H m1 H1->HR G m1 h1 H1->Inv (X.wish E) pins σ' H1 s1->(∀z,o=some z->y=z)->y.length≤10002->Post G X E EX m1 H1 (k o h1) Q->W (.str y t) s1) :
  aq (au X.prog X.w) X.A (aK e X.env) W E s:=by
 cases g with
 |@lit x j pos=>
   have P':Post G X E EX m H (bnd (if x.length≤1000 then ret (some x) else stk) k h) Q:=P;split at P'
   ·rename_i hz;refine thn (wo (X:=X.wish E) (x:=x) (j:=j) (pos:=pos) pins s σ' H (λv H1=>v=.str x/\H1=H) I ⟨rfl,rfl⟩) λu s1 ⟨v,H1,I1,r,e1,e2⟩=>?_;subst e1;subst e2;obtain⟨t,rfl⟩:=r;exact hk (some x) x t m h H1 s1 .refl R I1 (λz e=>by injection e) (by lia) P'
   ·exact P'.elim
 |@pl e g pos he=>
   refine wpAny_FormattedValue_plain (thn (he E EX pins s σ' H (λv' H1=>∃v m1 h1,Ext m H m1 H1/\HR G m1 h1 H1/\VR G m1 H1 v v'/\Post G X E EX m1 H1 (bnd ((λv=>match v with
     |.str s=>if s.length≤10000 then ret (some s) else stk
     |.int i=>if i.natAbs.log2<100 then ret (some (ah (toString i))) else stk
     | _=>stk:MV->M (Option Str)) v) k h1) Q) I (sub ex S R (k:=λv=>bnd ((λv=>match v with
     |.str s=>if s.length≤10000 then ret (some s) else stk
     |.int i=>if i.natAbs.log2<100 then ret (some (ah (toString i))) else stk
     | _=>stk:MV->M (Option Str)) v) k) (by
       have P':Post G X E EX m H (bnd (bnd (g σ) (λv=>match v with
        |.str s=>if s.length≤10000 then ret (some s) else stk
        |.int i=>if i.natAbs.log2<100 then ret (some (ah (toString i))) else stk
        | _=>stk:MV->M (Option Str))) k h) Q:=P
       rw [jk] at P';exact P') λv m1 h1 H1 v' x1 R1 r1 P1=>⟨v,m1,h1,x1,R1,r1,P1⟩)) λu s1 ⟨v',H1,I1,ru,v,m1,h1,x1,R1,r1,P1⟩=>?_)
   cases v with
   |str y=>
     cases(show v'=V.str y from r1);obtain⟨t,rfl⟩:=ru;dsimp only at P1
     split at P1
     ·rename_i hz;exact formatField_str (λt' tk=>hk (some y) y t' m1 h1 H1 _ x1 R1 (I1.tok _) (λz e=>by injection e) (by lia) P1) (bV hz (by decide))
     ·exact P1.elim
   |int i=>
     cases(show v'=V.int i from r1);obtain⟨t,rfl⟩:=ru;dsimp only at P1
     split at P1
     ·rename_i hz;refine wpAny_formatField_int (by lia) ?_;refine hk (some (ah (toString i))) _ _ m1 h1 H1 _ x1 R1 (I1.tok _) (λz e=>by injection e) ?_ P1;have:=int_text_len_1921 (i:=i) (by lia)
      lia
     ·exact P1.elim
   |_=>exact P1.elim
 |@rp e g pos he=>
   refine wpAny_FormattedValue_repr (thn (he E EX pins s σ' H (λv' H1=>∃v m1 h1,Ext m H m1 H1/\HR G m1 h1 H1/\VR G m1 H1 v v'/\Post G X E EX m1 H1 (bnd ((λv=>match v with
     |.str s=>if iO s=true then ret none else stk
     | _=>stk:MV->M (Option Str)) v) k h1) Q) I (sub ex S R (k:=λv=>bnd ((λv=>match v with
     |.str s=>if iO s=true then ret none else stk
     | _=>stk:MV->M (Option Str)) v) k) (by
       have P':Post G X E EX m H (bnd (bnd (g σ) (λv=>match v with
        |.str s=>if iO s=true then ret none else stk
        | _=>stk:MV->M (Option Str))) k h) Q:=P
       rw [jk] at P';exact P') λv m1 h1 H1 v' x1 R1 r1 P1=>⟨v,m1,h1,x1,R1,r1,P1⟩)) λu s1 ⟨v',H1,I1,ru,v,m1,h1,x1,R1,r1,P1⟩=>?_)
   cases v with
   |str y=>
     cases(show v'=V.str y from r1);obtain⟨t,rfl⟩:=ru;dsimp only at P1
     split at P1
     ·rename_i hz;unfold iO at hz;rw[eP,decide_eq_true_eq,eY]at hz;have hl:=PySem.StrLaws.reprText_len y (λc hc=>by simpa using hz.2 c hc);refine pyReprObj_str ?_ (bV (show(reprText y).length≤10002 by lia) (by decide));exact formatField_str (λt' tk=>hk none (reprText y) t' m1 h1 H1 _ x1 R1 (I1.tok _) (λz e=>nomatch e) (by lia) P1) (bV (show(reprText y).length≤10002 by lia) (by decide))
     ·exact P1.elim
   |_=>exact P1.elim
theorem zU{pins:List (ad×aw)}{W:Str->ag->Prop}:∀{es:List az}{ps:List FP},cg (GF G X) es ps->∀{β:Type}{k:List (Option Str)->M β}{Q:β->List ad->MH->Hp->Prop}{s:ag}{m:List ad}{h:MH}{H:Hp} (acc:Str) (n:Nat) (oa:Option Str),
  Inv (X.wish E) pins σ' H s->EX σ'->SR G m H σ σ'->HR G m h H->Post G X E EX m H (bnd (fV ps σ) k h) Q->acc.length≤10002*n->n+ps.length≤100->(∀z,oa=some z->acc=z) ->
  (∀(xs:List (Option Str)) (out:Str) m1 h1 H1 s1,Ext m H m1 H1->HR G m1 h1 H1->Inv (X.wish E) pins σ' H1 s1->(∀z a,oa=some a->iS a xs=some z->out=z)->out.length≤aW->Post G X E EX m1 H1 (k xs h1) Q->W out s1) ->
  Joins (au X.prog X.w) X.A E (evalEach es X.env) acc W s
 |_,_,.nil,β,k,Q,s,m,h,H,acc,n,oa,I,ex,S,R,P,hl,hn,ho,hk=>by
   refine hk [] acc m h H s .refl R I (λz a e1 e2=>?_) (bV hl (bV (oI _ (show n≤100 by simp at hn;lia)) (by decide))) P;have:=ho a e1;simp only[iS,Option.some.injEq]at e2;rw[this,e2]
 |_,_,.cons (a:=e) (b:=p) (l₁:=es) (l₂:=ps) g tt,β,k,Q,s,m,h,H,acc,n,oa,I,ex,S,R,P,hl,hn,ho,hk=>by
   rw[DB];have P':Post G X E EX m H (bnd (g9 p σ) (λx=>bnd (fV ps σ) λxs=>k (x::xs)) h) Q:=by
    have P0:Post G X E EX m H (bnd (bnd (g9 p σ) λx=>bnd (fV ps σ) λxs=>ret (x::xs)) k h) Q:=P;rw[jk]at P0;have e0:(λx=>bnd (bnd (fV ps σ) λxs=>ret (x::xs)) k)=λx=>bnd (fV ps σ) λxs=>k (x::xs):=by
     funext x;rw[jk];rfl
    rw[e0]at P0;exact P0
   refine CK g I ex S R P' λo y t m1 h1 H1 s1 x1 R1 I1 ho1 hy P1=>?_;have hla:(acc++y).length≤10002*(n+1):=by rw[strLen_append];lia
   refine⟨y,t,rfl,bV hla (bV (oI _ (show n+1≤100 by simp at hn;lia)) (by decide)),?_⟩;refine zU tt (acc++y) (n+1) (match oa,o with|some a,some z=>some (a++z)|_,_=>none) I1 ex (S.mono x1) R1 P1 hla (by simp at hn;lia) (λz e=>?_) λxs out m2 h2 H2 s2 x2 R2 I2 hg hz P2=>?_
   ·cases oa with
    |none=>cases e
    |some a=>cases o with
      |none=>cases e
      |some z0=>injection e with e;rw[←e,ho a rfl,ho1 z0 rfl]
   ·refine hk (o::xs) out m2 h2 H2 s2 (x1.trans x2) R2 I2 (λz a e1 e2=>?_) hz P2;subst e1;cases o with
    |none=>simp[iS]at e2
    |some z0=>exact hg z (a++z0) rfl (by simpa[iS] using e2)
theorem uD{e1 e2:az}{es:List az}{ps:List FP}{pos:Pos}(hp:cg (GF G X) (e1::e2::es) ps):GE G X (.JoinedStr (e1::e2::es) pos) (ju ps):=λE EX pins s σ' H Q I e0=>bY e0 λm h σ ex S R P=>by
 unfold ju at P;split at P
 ·rename_i hn;refine wpAny_JoinedStr (zU hp Str.empty 0 (some Str.empty) I ex S R P (by decide) (by lia) (λz e=>by injection e) λxs out m1 h1 H1 s1 x1 R1 I1 hg hz P1=>⟨hz,.str out,H1,I1.tok _,⟨_,rfl⟩,?_⟩);cases eg:iS Str.empty xs with
  |some z=>
    rw[eg]at P1;rw[hg z _ rfl eg];exact Post.here R1 P1 _ rfl
  |none=>
    rw[eg]at P1;exact Post.here R1 P1 _ trivial
 ·exact P.elim
end L2.Rv
namespace L2.Rv
noncomputable section
open PySem (Str)
noncomputable def lJ(h:MH)(w:PySem.PyData):List MV->Option Nat
 |[]=>none
 |y::r=>match dat h 6 y with
   | some d=>if PySem.SeqAt.shaped d=true then (if PySem.PyData.eqv d w=true then some 0 else (match lJ h w r with
     |some j=>some (j+1)
     | none=>none)) else none
   |none=>none
noncomputable def mB(o e:ME)(f:Nat->MV->M MV):ME:=λσ=>bnd (o σ) λx=>match x with
 |.ref n=>bnd (look n) λob=>match ob with
   |.lst _=>bnd (e σ) λv=>f n v
   |_=>stk
 |_=>stk
noncomputable def oK(n:Nat)(v:MV):M MV:=match v with
 | .int i=>bnd (look n) λob=>(match ob with
   | .lst ys=>if -1000000≤i/\i≤1000000 then (match ixN ys.length i with
     | some j=>(match ys[j]? with
       |some y=>bnd (put n (.lst (ys.eraseIdx j))) λ_=>ret y
       | none=>stk)
     | none=>stk) else stk
   | _=>stk)
 |_=>stk
noncomputable def zI(o e:ME):ME:=mB o e oK
noncomputable def kr(n:Nat)(i:Int):Nat:=if i<0 then(i+(n:Int)).toNat else min i.toNat n
noncomputable def eU{α:Type}(xs:List α)(k:Nat)(v:α):List α:=xs.take k++v::xs.drop k
noncomputable def r6(o e f:ME):ME:=λσ=>bnd (o σ) λx=>match x with
 |.ref n=>bnd (look n) λob=>match ob with
   |.lst _=>bnd (e σ) λi=>bnd (f σ) λv=>match i with
     | .int i=>bnd (look n) λob'=>(match ob' with
       |.lst ys=>if ys.length<100000/\-1000000≤i/\i≤1000000 then bnd (put n (.lst (eU ys (kr ys.length i) v))) λ_=>ret .non else stk
       | _=>stk)
     |_=>stk
   |_=>stk
 |_=>stk
noncomputable def mY(f g:Op2)(a b c:ME):ME:=λσ=>bnd (a σ) λx=>bnd (b σ) λy=>bnd (f x y) λz=>bnd (asB z) λk=>if k=true then bnd (c σ) λw=>g y w else ret (.bl false)
end
end L2.Rv
namespace L2.Rv
open PySem PySem.Spec PyProof.Rows
variable {G:Gb}{m m' m1 m2:List ad}{h h' h1 h2:MH}{H H' H1 H2:Hp}{X:Cx}{E:ae->ag->Prop}{EX:St->Prop}{σ:MSt}{σ':St}
theorem u70{k:Nat}{A:aX}(r:Room k A):A.units+70<cLine:=by have:=r.un;lia
section
open PySem.SeqAt PySem.MeetsSeq
open PySem.AutoSeq1 (wpAny_loadPart')
noncomputable abbrev pW(ys:Array ae)(c:Nat):aw:={ cls:=.type "list",dict:=none,data:=.seq ys c,slots:=#[] }
end
theorem xB{pins:List (ad×aw)}{s:ag}{σ2:St}(I:Inv X pins σ2 H s)(R:HR G m h H){A:aX}(hu:A.units+64<cLine){w:MV}{w':V}{u:ae}{d:PyData}(rw':VR G m H w w')(ru:aT w' u)(dw:dat h 6 w=some d)(sw:SeqAt.shaped d=true) :
  ∀{ys:List MV}{ws:List V}{us:List ae}{j:Nat},VRs G m H ys ws->Vals ws us->lJ h d ys=some j->∃b:Nat->Bool,j<us.length/\b j=true/\(∀i,i<j->b i=false)/\∀i v,i≤j->us[i]?=some v->SeqAt.EqAt A s v u (b i)
 |[],_,_,j,.nil,.nil,e=>by cases e
 |y::ys,_,_,j,.cons r t,.cons q tt,e=>by
   obtain⟨bs,r2⟩:=jw I R 6 w w' u d rw' ru dw;unfold lJ at e;cases ey:dat h 6 y with
   |none=>rw[ey]at e;cases e
   |some dy=>
     rw[ey]at e;dsimp only at e;obtain⟨as,r1⟩:=jw I R 6 y _ _ dy r q ey;split at e
     case isFalse=>cases e
     case isTrue sy=>
      have EQ:∀v,_=v->SeqAt.EqAt A s v u (PyData.eqv dy d):=λv ev=>ev▸SeqAt.eqAt_reads dy d A s _ u as bs r1 r2 (SeqAt.canLay_of_shaped sy) (SeqAt.canLay_of_shaped sw) (SeqAt.room_of_shaped sy hu);split at e
      ·rename_i ht;cases e;refine⟨λ_=>true,by simp,rfl,λi hi=>absurd hi (Nat.not_lt_zero _),λi v hi ev=>?_⟩
       obtain rfl:i=0:=by lia
       have:=EQ v (by simpa using ev);rw[ht]at this;exact this
      ·rename_i ht;cases ef:lJ h d ys with
       |none=>rw[ef]at e;cases e
       |some j'=>
         rw [ef] at e;cases e;obtain ⟨b,b1,b2,b3,b4⟩:=xB I R hu rw' ru dw sw t tt ef;refine ⟨λi=>match i with
          |0=>false
          | i + 1=>b i,by simpa using b1,b2,λi hi=>?_,λi v hi ev=>?_⟩
         ·cases i with
          |zero=>rfl
          |succ i=>exact b3 i (by lia)
         ·cases i with
          |zero=>
            have:=EQ v (by simpa using ev);rw[nZ.mpr ht]at this;exact this
          |succ i=>exact b4 i v (by lia) (by simpa using ev)
def Ab:V->List V->Hp->VK->Prop:=λx vs H Q=>∃l xs i y,x=.ref l/\vs=[.int i,y]/\H l=some (.lst xs)/\xs.length<aW/\-1000000≤i/\i≤1000000/\Q .non (upd H l (.lst (eU xs (kr xs.length i) y)))
theorem FC{α:Type}(xs:List α)(k:Nat)(v:α):(eU xs k v).length=xs.length+1:=by
 unfold eU;simp;lia
theorem Vals.take'{xs:List V}{us:List ae}(r:Vals xs us):∀(k:Nat),Vals (xs.take k) (us.take k):=by
 induction r with
 |nil=>intro k;simp;exact .nil
 |cons q _ ih=>intro k;cases k with
   |zero=>exact .nil
   |succ k=>exact .cons q (ih k)
theorem Vals.drop'{xs:List V}{us:List ae}(r:Vals xs us):∀(k:Nat),Vals (xs.drop k) (us.drop k):=by
 induction r with
 |nil=>intro k;simp;exact .nil
 |cons q t ih=>intro k;cases k with
   |zero=>exact .cons q t
   |succ k=>exact ih k
theorem An:MtM X "list.insert" Ab:=by
 rintro pins s σ H x vs v us Q I rx rv ⟨l,xs,i,y,e1,e2,hH,hz,b1,b2,q⟩;subst e1;subst e2;cases rx;obtain⟨u,w,rfl,⟨t,rfl⟩,rw'⟩:=vals2 rv;obtain⟨z,its,n,r,hl,e⟩:=I.lstM hH;have fit:¬(!Builtin.List.listFitsIndex i)=true:=by
  have:=fitsIndex_both (k:=i) (by lia) (by lia);rw[this];exact cp
 refine call_meets F.slot_list_insert ⟨_,e,rfl⟩ F.entry_list_insert (F.args_list_insert_3 _ _ _) (AutoSeq1.list_insert_list_int_val_1 l its.toArray n i t w fit (by rw[cB];lia)) ⟨e,?_⟩;refine⟨.non,_,I.lset (its':=eU its (kr xs.length i) w) hH e ?_ ?_ ?_,rfl,q⟩
 ·unfold eU kr;rw[hl];simp;rw[mJ (by rw[lG];exact bc _)]
 ·unfold eU;exact(Vals.take' r _).append (.cons rw' (Vals.drop' r _))
 ·rw[FC];lia
def VOL(G:Gb)(f:Nat->MV->M MV)(r:V->List V->Hp->VK->Prop):Prop:=∀(X:Cx) (E:ae->ag->Prop) (EX:St->Prop) (m:List ad) (h:MH) (H:Hp) (n:Nat) (aa:ad) (w:MV) (w':V) (Q:VK),HR G m h H->m[n]?=some aa->VR G m H w w' ->
 Post G X E EX m H (f n w h) (λv m' _ H'=>∀v',VR G m' H' v v'->Q v' H')->r (.ref aa) [w'] H Q
theorem zX:∀{xs:List MV}{vs:List V}(j:Nat),VRs G m H xs vs->VRs G m H (xs.eraseIdx j) (vs.eraseIdx j)
 |_,_,_,.nil=>by simp;exact .nil
 |_,_,0,.cons _ t=>t
 |_,_,j+1,.cons q t=>.cons q (zX j t)
theorem vf?{n k:Nat}{i:Int}(e:ixN n i=some k):seqIndex? i n=some k/\-(n:Int)≤i/\i<n:=by
 unfold ixN at e;unfold seqIndex?;by_cases h1:0≤i
 ·rw[if_pos h1]at e;by_cases h2:i<n
  ·rw[if_pos h2]at e;cases e;have h3:¬i<0:=by lia
   refine⟨?_,by lia,by lia⟩;simp[h1,h2,h3]
  ·rw[if_neg h2]at e;cases e
 ·rw[if_neg h1]at e;by_cases h2:-(n:Int)≤i
  ·rw[if_pos h2]at e;cases e;have h3:i<0:=by lia
   have h4:0≤i+(n:Int):=by lia
   refine⟨?_,by lia,by lia⟩;simp[h3,h4];lia
  ·rw[if_neg h2]at e;cases e
theorem BW:VOL G oK yO:=by
 intro X E EX m h H n aa w w' Q R ea rw' P;cases w with
 |int i=>
   cases(show w'=V.int i from rw');obtain⟨ob,eo,qo,P1⟩:=cX R ea P;cases ob with
   |lst ys=>
     obtain⟨ws,r,z⟩:=qo;dsimp only at P1;have hl:=Paired.length r;split at P1
     case isFalse=>exact P1.elim
     case isTrue fit=>
     cases ei:ixN ys.length i with
     |none=>rw[ei]at P1;exact P1.elim
     |some k=>
       rw[ei]at P1;dsimp only at P1;obtain⟨s1,s2,s3⟩:=vf? ei;cases ey:ys[k]? with
       |none=>rw[ey]at P1;exact P1.elim
       |some y=>
         rw[ey]at P1;obtain⟨y',ey',ry⟩:=jQ r ey;have P3:=pE R ea P1;have x3:Ext m H m (upd H aa (.lst (ws.eraseIdx k))):=Ext.upd ea z;exact⟨aa,ws,i,k,y',rfl,rfl,z,by lia,by lia,by rw[←hl];exact s1,ey',P3 _ _ x3 (R.upd ea (λo' yy zz=>by rw[z]at zz;cases zz) ⟨_,x3.vrs (zX k r),dE⟩) _ (x3.vr ry)⟩
   |_=>exact P1.elim
 |_=>exact P.elim
section
variable {o e f:az}{go ge gf:ME}{apos cpos:Pos}
theorem Em{mn id:String}{g:Nat->MV->M MV}{r:V->List V->Hp->VK->Prop}(slot:Slot "list" (ah mn) id)(ty:typeOf (.builtin id)=pure (.type "method_descriptor"))(mt:∀E,MtM (X.wish E) id r)(vo:VOL G g r)(ho:GE G X o go)(he:GE G X e ge)
  (hbase:attributeBase o (ah mn) X.env (aK o X.env)=aK o X.env:=by rfl)
  (hfew:((backTo cpos (aU [e] X.env)).all (λx=>!x.1) && (backToKw cpos (keywordEach [] X.env)).all (λx=>x.1.isSome)
   && decide ([e].length + ([]:List Keyword).length + (if ([]:List Keyword).isEmpty then 0 else 1) < 30))=true:=by rfl)
  (hline:(apos.endLine == cpos.line)=true:=by rfl) (hs:aU [e] X.env=[(false,aK e X.env)]:=by rfl):GE G X (.Call (.Attribute o (ah mn) apos) [e] [] cpos) (mB go ge g):=λE EX=>
 dD (oP (X:=X.wish E) tJ slot ty (mt E) (ho E EX) (he.a1 hs E EX) hbase hfew hline hs rfl) λσ' H Q e0=>bY e0 λm h σ ex S R P=>
  sub ex S R P λv m1 h1 H1 v' x1 R1 r1 P1=>by
   cases v with
   |ref n=>
     obtain⟨aa,ea,rfl⟩:=r1;obtain⟨ob,eo,qo,P2⟩:=cX R1 ea P1;cases ob with
     |lst xs=>
       obtain⟨vs,rr,z⟩:=qo;exact⟨.inl ⟨rfl,vs,SqL.of z⟩,sub ex (S.mono x1) R1 P2 λw m2 h2 H2 w' x2 R2 r2 P3=>vo _ _ _ _ _ _ _ _ _ _ _ R2 (x2.get ea) r2 P3⟩
     |_=>exact P2.elim
   |_=>exact P1.elim
theorem Bz{w:MV}{w':V}(q:VR G m H w w'){xs:List MV}{vs:List V}(k:Nat)(r:VRs G m H xs vs):VRs G m H (eU xs k w) (eU vs k w'):=by
 have dr:∀(k:Nat) {xs:List MV} {vs:List V},VRs G m H xs vs->VRs G m H (xs.take k) (vs.take k)/\VRs G m H (xs.drop k) (vs.drop k):=by
  intro k
  induction k with
  |zero=>intro xs vs q;exact⟨.nil,q⟩
  |succ k ih=>intro xs vs q;cases q with
    |nil=>exact⟨.nil,.nil⟩
    |cons q1 q2=>exact⟨.cons q1 (ih q2).1,(ih q2).2⟩
 unfold eU;exact im (dr k r).1 (.cons q (dr k r).2)
theorem Hk(ho:GE G X o go)(he:GE G X e ge)(hf:GE G X f gf)(hbase:attributeBase o (ah "insert") X.env (aK o X.env)=aK o X.env:=by rfl)
  (hfew:((backTo cpos (aU [e,f] X.env)).all (λx=>!x.1) && (backToKw cpos (keywordEach [] X.env)).all (λx=>x.1.isSome)
   && decide ([e,f].length + ([]:List Keyword).length + (if ([]:List Keyword).isEmpty then 0 else 1) < 30))=true:=by rfl)
  (hline:(apos.endLine == cpos.line)=true:=by rfl) (hs:aU [e,f] X.env=[(false,aK e X.env),(false,aK f X.env)]:=by rfl) (hs2:aU [f] X.env=[(false,aK f X.env)]:=by rfl):GE G X (.Call (.Attribute o (ah "insert") apos) [e,f] [] cpos) (r6 go ge gf):=λE EX=>
 dD (oP (X:=X.wish E) tJ PySem.F.slot_list_insert PySem.F.type_list_insert An (ho E EX) (lU (X:=X.wish E) (he E EX) (hf.a1 hs2 E EX) (by show aU [e,f] X.env=(false,aK e X.env)::aU [f] X.env;rw[hs,hs2])) hbase hfew hline (by show aU [e,f] X.env=(false,aK e X.env)::aU [f] X.env;rw[hs,hs2]) (by show(backTo cpos (aU [f] X.env)).any (·.1)=false;rw[hs2];rfl)) λσ' H Q e0=>bY e0 λm h σ ex S R P=>
  sub ex S R P λv m1 h1 H1 v' x1 R1 r1 P1=>by
   cases v with
   |ref n=>
     obtain⟨aa,ea,rfl⟩:=r1;obtain⟨ob,eo,qo,P2⟩:=cX R1 ea P1;cases ob with
     |lst xs=>
       obtain⟨vs,rr,z⟩:=qo;refine⟨.inl ⟨rfl,vs,SqL.of z⟩,sub ex (S.mono x1) R1 P2 λi m2 h2 H2 i' x2 R2 r2 P3=>sub ex ((S.mono x1).mono x2) R2 P3 λw m3 h3 H3 w' x3 R3 r3 P4=>?_⟩;have ea3:=x3.get (x2.get ea);cases i with
       |int i=>
         cases(show i'=V.int i from r2);obtain⟨ob3,eo3,qo3,P5⟩:=cX R3 ea3 P4;cases ob3 with
         |lst ys=>
           obtain⟨ws,rs,z3⟩:=qo3;dsimp only at P5;split at P5
           ·rename_i hz;have hl:=Paired.length rs;have P6:=pE R3 ea3 P5;have x4:Ext m3 H3 m3 (upd H3 aa (.lst (eU ws (kr ws.length i) w'))):=Ext.upd ea3 z3;refine⟨aa,ws,i,w',rfl,rfl,z3,by rw[←hl];exact c5 hz.1 (big (bc _)),hz.2.1,hz.2.2,?_⟩;exact P6 _ _ x4 (R3.upd ea3 (λo' yy zz=>by rw[z3]at zz;cases zz) ⟨_,x4.vrs (by rw[hl];exact Bz r3 _ rs),dE⟩) _ rfl
           ·exact P5.elim
         |_=>exact P5.elim
       |_=>exact P4.elim
     |_=>exact P2.elim
   |_=>exact P1.elim
end
section
variable {a b:az}{ga gb:ME}{x:Str}{p pos:Pos}{id:String}{f:Op2}{r:List V->Hp->VK->Prop}
end
section
variable {a b c:az}{ga gb gc:ME}{f g:Op2}{r r':R2}{pos:Pos}
theorem Ct{Q:VK}(vo:VO G f r)(vo':VO G g r')(t:TGe G X E EX (mY f g ga gb gc) σ' H Q):xJ r r' (TGe G X E EX ga) (TGe G X E EX gb) (TGe G X E EX gc) σ' H Q:=by
 obtain⟨m,h,σ,ex,S,R,P⟩:=t;refine sub ex S R P λv m1 h1 H1 v' x1 R1 r1 P1=>sub ex (S.mono x1) R1 P1 λw m2 h2 H2 w' x2 R2 r2 P2=>?_;refine vo _ _ _ _ _ _ _ _ _ _ _ R2 (x2.vr r1) r2 (P2.bind.mono λz m3 h3 H3 x3 R3 P3 z' r3=>?_);cases z with
 |bl k=>
   cases(show z'=V.bl k from r3);refine⟨k,rfl,?_⟩;have P4:Post G X E EX m3 H3 ((if k=true then bnd (gc σ) λw_1=>g w w_1 else ret (.bl false)) h3) _:=P3
   cases k with
   |true=>
     rw[if_pos rfl]at P4 ⊢;exact sub ex (((S.mono x1).mono x2).mono x3) R3 P4 λy m4 h4 H4 y' x4 R4 r4 P5=>vo' _ _ _ _ _ _ _ _ _ _ _ R4 (x4.vr (x3.vr r2)) r4 P5
   |false=>
     rw[if_neg cp]at P4 ⊢;exact Post.here R3 P4 _ rfl
 |_=>exact P3.elim
theorem FJ{op op':CmpOp}(ho:∀E,OpR (X.wish E) (cP op) r)(ho':∀E,OpR (X.wish E) (cP op') r')(vo:VO G f r)(vo':VO G g r')(ha:GE G X a ga)(hb:GE G X b gb)(hc:GE G X c gc)
  (hm:lastMarks [op,op'] [b,c]=false:=by with_unfolding_all rfl):GT G X (.Compare a [op,op'] [b,c] pos) (mY f g ga gb gc):=λE EX=>
 lc (Bl (ho E) (ho' E) (ha E EX) (hb E EX) (hc E EX) hm) λ_ _ _ t=>Ct vo vo' (mV t)
end
end L2.Rv
namespace L2.Rv
open PySem PySem.Spec PyProof.Rows
section
variable {prog:bh}{w:aR}{A:aX}{E:ae->ag->Prop}{s:ag}{zo P O T j1 j2 l1 l2:ad}{k1 k2:Nat}{xs ys:Array ae}{x y:ae}{f:Bool}{oT:aw}
variable {S:ad}{i:Nat}
end
variable {G:Gb}{m m' m1 m2:List ad}{h h' h1 h2:MH}{H H' H1 H2:Hp}{X:Cx}{E:ae->ag->Prop}{EX:St->Prop}{σ:MSt}{σ':St}
end L2.Rv
namespace L2.Rv
noncomputable section
end
end L2.Rv
namespace L2.Rv
open PySem PySem.Spec PyProof.Rows
variable {G:Gb}{m m' m1 m2:List ad}{h h' h1 h2:MH}{H H' H1 H2:Hp}{X:Cx}{E:ae->ag->Prop}{EX:St->Prop}{σ:MSt}{σ':St}
end L2.Rv
namespace L2.Rv
noncomputable section
end
end L2.Rv
namespace L2.Rv
open PySem PySem.Spec PyProof.Rows
variable {G:Gb}{m m' m1 m2:List ad}{h h' h1 h2:MH}{H H' H1 H2:Hp}{X:Cx}{E:ae->ag->Prop}{EX:St->Prop}{σ:MSt}{σ':St}
section
open PySem.SeqAt PySem.MeetsSeq PySem.MeetsSeq2 PySem.SeqRoads2
open PySem.AutoSeq1 (wpAny_loadPart')
theorem Fl(a:ad)(ys:Array ae)(c:Nat)(q:ae)(b:Nat->Bool)(p:Nat)(hp:p<ys.size)(yes:b p=true)(d:Nat) :
  ∀t:Nat,p-t=d->t≤p->(∀k,k<ys.size->t≤k->k<p->b k=false)->Meets (Builtin.«list.__contains__.loop» ⟨[.ref a,q,rawInt t],[]⟩)
   (λA R s=>s.heap.get? a=some (pW ys c)/\(∀k (hk:k<ys.size),k≤p->EqAt A.in1 s ys[k] q (b k))/\R (.ok (.ret (.bool true))) s):=by
 induction d with
 |zero=>
   intro t e1 e2 no prog w A R s z;obtain⟨hh,gg,dd,tt,oo⟩:=s;obtain⟨ga,eq,fin⟩:=z;obtain rfl:t=p:=by lia
   wp_walk using wpAny_loadPart' ga
   have at':ys[((t:Nat):Int).toNat]?=some ys[t]:=by simp[hp]
   rw[at'];refine ak (eq t hp (bc _) prog w _ _ ?_);rw[yes]
   wp_walk
   exact fin
 |succ d ih=>
   intro t e1 e2 no prog w A R s z;obtain⟨hh,gg,dd,tt,oo⟩:=s;obtain⟨ga,eq,fin⟩:=z;have ht:t<ys.size:=by lia
   wp_walk using wpAny_loadPart' ga
   have at':ys[((t:Nat):Int).toNat]?=some ys[t]:=by simp[ht]
   have up:((t:Int)+1)=((t+1:Nat):Int):=by push_cast;rfl
   rw[at'];refine ak (eq t ht (by lia) prog w _ _ ?_);rw[no t ht (bc _) (by lia)]
   wp_walk
   rw [up];exact ⟨plainId_quiet plain_contains_loop _,codeAny_builtin entry_contains_loop (by
    rw [Around.under_plainId plain_contains_loop _];exact ih (t + 1) (by lia) (by lia) (λk k1 k2 k3=>no k k1 (by lia) k3) prog w A R _ ⟨ga,eq,fin⟩)⟩
theorem DS(a:ad)(ys:Array ae)(c:Nat)(q:ae)(b:Nat->Bool)(p:Nat)(hp:p<ys.size)(yes:b p=true)(no:∀k,k<ys.size->k<p->b k=false) :
  Meets (Builtin.«list.__contains__» ⟨[.ref a,q],[]⟩)
   (λA R s=>s.heap.get? a=some (pW ys c)/\(∀k (hk:k<ys.size),k≤p->EqAt A.in1 s ys[k] q (b k))/\R (.ok (.ret (.bool true))) s):=by
 intro prog w A R s z;obtain⟨hh,gg,dd,tt,oo⟩:=s;obtain⟨ga,eq,fin⟩:=z
 wp_walk using wpAny_loadPart' ga
 exact ⟨plainId_quiet plain_contains_loop _,codeAny_builtin entry_contains_loop (by
  rw [Around.under_plainId plain_contains_loop _];exact Fl a ys c q b p hp yes _ 0 rfl (d9 _) (λk k1 _ k3=>no k k1 k3) prog w A R _ ⟨ga,eq,fin⟩)⟩
end
end L2.Rv
namespace L2.Rv
noncomputable section
end
end L2.Rv
namespace L2.Rv
open PySem PySem.Spec PyProof.Rows
section
variable {prog:bh}{w:aR}{A:aX}{E:ae->ag->Prop}{s:ag}{z U T p q r l m n:ad}
end
end L2.Rv
namespace L2.Rv
open PySem PySem.Spec PyProof.Rows
variable {G:Gb}{m m' m1 m2:List ad}{h h' h1 h2:MH}{H H' H1 H2:Hp}{X:Cx}{E:ae->ag->Prop}{EX:St->Prop}{σ:MSt}{σ':St}
end L2.Rv
namespace L2.Rv
noncomputable section
open PySem (Str)
noncomputable def iQ(s:Str)(n:Int):Str:=if(n == 1||s.length == 0)=true then s else⟨(bF n.toNat s.cps).foldl (·++·) #[]⟩
noncomputable def ot:Op2:=λx y=>match x,y with
 |.str s,.int n=>if 1≤n/\n≤1000/\s.length*n.toNat≤10000 then ret (.str (iQ s n)) else stk
 |_,_=>stk
end
end L2.Rv
namespace L2.Rv
open PySem PySem.Spec PyProof.Rows
variable {G:Gb}{m m' m1 m2:List ad}{h h' h1 h2:MH}{H H' H1 H2:Hp}{X:Cx}{E:ae->ag->Prop}{EX:St->Prop}{σ:MSt}{σ':St}
def wc:R2:=λx y H Q=>∃(s:Str) (n:Int),x=.str s/\y=.int n/\1≤n/\n≤1000/\s.length*n.toNat≤10000/\Q (.str (iQ s n)) H
theorem zk(a:Array Nat):∀(k:Nat) (acc:Array Nat),(kg (·++·) acc (bF k a)).size=acc.size+k*a.size
 |0,acc=>by simp
 |k+1,acc=>by
   rw[f7,jp,zk a k,Array.size_append,Nat.add_mul];lia
theorem BO:OpR X (binaryOp .Mult) wc:=by
 rintro pins s σ H x y v u Q I rx ry ⟨i,n,e1,e2,h1,h2,h3,q⟩;subst e1;subst e2;obtain⟨t,rfl⟩:=rx;obtain⟨t',rfl⟩:=ry;have big:i.length*n.toNat≤aW:=bV h3 (by decide);refine PySem.P.mul_str (by
  rw [decide_eq_false (by lia),decide_eq_false (by lia)];rfl) (λ_ _=>?_) (λ_ _=>?_) ?_
 ·have:(i.length:Int)*n≤2 ^ 63-1:=by
   have e:((i.length*n.toNat:Nat):Int)=(i.length:Int)*n:=by
    rw[Int.natCast_mul,uJ (by lia)]
   lia
  have:=Int.le_ediv_of_mul_le (show 0<n by lia) this
  lia
 ·exact decide_eq_false (Nat.not_lt.mpr big)
 ·rw[if_neg (by lia)];unfold iQ at q;split
  ·rename_i c;rw[if_pos c]at q;exact⟨.str i,H,I,⟨t,rfl⟩,q⟩
  ·rename_i c;rw[if_neg c]at q;refine⟨?_,⟨.str _,H,I.tok _,⟨_,rfl⟩,q⟩⟩;show(kg (·++·) #[] (bF n.toNat i.cps)).size≤aW;rw[zk];have:i.cps.size=i.length:=rfl;rw[this,Nat.mul_comm];simpa using big
theorem GK:VO G ot wc:=by
 intro X E EX m h H x y x' y' Q R rx ry P;cases x with
 |str s=>cases y with
   |int n=>
     unfold ot at P;dsimp only at P;split at P
     ·rename_i c;exact⟨s,n,rx,ry,c.1,c.2.1,c.2.2,Post.here R P _ rfl⟩
     ·exact P.elim
   |_=>exact P.elim
 |_=>exact P.elim
end L2.Rv
namespace L2.Rv
noncomputable section
end
end L2.Rv
namespace L2.Rv
open PySem PySem.Spec PyProof.Rows
variable {G:Gb}{X:Cx}{E:ae->ag->Prop}{EX:St->Prop}
end L2.Rv
namespace L2.Rv
noncomputable section
open PySem (Str)
noncomputable def ie:Op1:=λx=>match x with
 |.int i=>if i.natAbs.log2<1000 then ret (.str (ah (toString i))) else stk
 |_=>stk
end
end L2.Rv
namespace L2.Rv
open PySem PySem.Spec PyProof.Rows
variable {G:Gb}
def FI:List V->Hp->(V->Hp->Prop)->Prop:=λxs H Q=>∃i,xs=[.int i]/\i.natAbs.log2<1920/\Q (.str (toString i)) H
theorem lH:VO1 G ie FI:=by
 intro X E EX m h H x x' Q R rx P;cases x with
 |int i=>
   cases(show x'=V.int i from rx);unfold ie at P;dsimp only at P
   split at P
   ·rename_i c;exact⟨i,rfl,c5 c (by decide),Post.here R P _ rfl⟩
   ·exact P.elim
 |_=>exact P.elim
end L2.Rv
namespace L2.Rv
noncomputable section
open PySem (Str)
end
end L2.Rv
namespace L2.Rv
open PySem PySem.Spec PyProof.Rows
variable {G:Gb}{m m' m1 m2:List ad}{h h' h1 h2:MH}{H H' H1 H2:Hp}{X:Cx}{E:ae->ag->Prop}{EX:St->Prop}{σ:MSt}{σ':St}
end L2.Rv
namespace L2.Rv
noncomputable section
open PySem (Str)
end
end L2.Rv
namespace L2.Rv
open PySem PySem.Spec PyProof.Rows
section
variable {prog:bh}{w:aR}{A:aX}{E:ae->ag->Prop}{s:ag}
end
variable {G:Gb}{X:Cx}{E:ae->ag->Prop}{EX:St->Prop}
end L2.Rv
namespace L2.Rv
open PySem PySem.Spec PyProof.Rows
section
variable {prog:bh}{w:aR}{A:aX}{E:ae->ag->Prop}{s:ag}
end
section
variable {G:Gb}{m:List ad}{h:MH}{H:Hp}
end
end L2.Rv
namespace L2.Rv
open PySem PySem.Spec PyProof.Rows
variable {G:Gb}{X:Cx}{E:ae->ag->Prop}{EX:St->Prop}
end L2.Rv
namespace L2.Rv
open PySem PySem.Builtin PySem.Builtin.Str
noncomputable def aJ(c:Nat):List Nat->List (List Nat)
 |[]=>[[]]
 |x::l=>if x=c then[]::aJ c l else match aJ c l with
   |[]=>[[x]]
   |p::ps=>(x::p)::ps
noncomputable def eN(c:Nat):List Nat->List Nat
 |[]=>[]
 |x::l=>(if x=c then[0] else[])++(eN c l).map (·+1)
noncomputable def jK(l:List Nat)(cs:List Nat)(n:Nat):List (List Nat):=((0::cs.map (·+1)).zip (cs++[n])).map λp=>(l.drop p.1).take (p.2-p.1)
theorem jB(c:Nat)(l:List Nat):aJ c l≠[]:=by
 cases l with
 |nil=>simp[aJ]
 |cons x l=>
   unfold aJ;split
   ·simp
   ·split <;> simp
theorem Fa(x:Nat)(l cs:List Nat)(n:Nat):(((cs.map (·+1)).map (·+1)).zip ((cs.map (·+1)).tail++[n+1])).map (λp=>((x::l).drop p.1).take (p.2-p.1))=((cs.map (·+1)).zip (cs.tail++[n])).map λp=>(l.drop p.1).take (p.2-p.1):=by
 have e:(cs.map (·+1)).tail++[n+1]=(cs.tail++[n]).map (·+1):=by simp[List.map_tail]
 rw[e,List.zip_map,cb];refine fZ λp _=>?_;simp only[Function.comp,Prod.map,List.drop_succ_cons];rw[Nat.add_sub_add_right]
theorem yB(c:Nat):∀l:List Nat,jK l (eN c l) l.length=aJ c l
 |[]=>rfl
 |x::l=>by
   have ih:=yB c l;by_cases h:x=c
   ·subst h;have e:eN x (x::l)=0::(eN x l).map (·+1):=by simp[eN]
    have es:aJ x (x::l)=[]::aJ x l:=by simp[aJ]
    rw[e,es,←ih];unfold jK;have e1:(0::(eN x l).map (·+1))++[(x::l).length]=0::((eN x l)++[l.length]).map (·+1):=by simp
    have e2:(0::(0::(eN x l).map (·+1)).map (·+1))=0::(0::(eN x l).map (·+1)).map (·+1):=rfl;rw[e1,lh,aN,List.zip_map,cb];simp only[pY,Nat.sub_self,List.take_zero,List.cons.injEq,true_and];refine fZ λp _=>?_;simp only[Function.comp,Prod.map,List.drop_succ_cons];rw[Nat.add_sub_add_right]
   ·have e:eN c (x::l)=(eN c l).map (·+1):=by simp[eN,h]
    rw[e];cases hp:eN c l with
    |nil=>
      rw[hp]at ih;have es:aJ c l=[l]:=by rw[←ih];simp[jK]
      unfold aJ;rw[if_neg h,es];simp[jK]
    |cons a cs=>
      rw[hp]at ih;have es:aJ c l=l.take a::(((a::cs).map (·+1)).zip (cs++[l.length])).map (λp=>(l.drop p.1).take (p.2-p.1)):=by rw[←ih];simp[jK]
      unfold aJ;rw[if_neg h,es];dsimp only;unfold jK;have e1:(((a::cs).map (·+1))++[(x::l).length])=(a+1)::((cs.map (·+1))++[l.length+1]):=by simp
      rw[e1,lh,aN];have:=Fa x l (a::cs) l.length;simp only[aN,List.tail_cons]at this;simp only[pY,Nat.sub_zero,List.take_succ_cons,List.cons.injEq,true_and];simp only[aN];exact this
theorem xZ(c:Nat):∀l:List Nat,eN c l=(cM l.length).filter λi=>decide (l[i]?=some c)
 |[]=>rfl
 |x::l=>by
   unfold eN;rw[xZ c l,cr,List.range_succ_eq_map,List.filter_cons];have e:(lN Nat.succ (cM l.length)).filter (λi=>decide ((x::l)[i]?=some c))=((cM l.length).filter λi=>decide (l[i]?=some c)).map (·+1):=by
    rw[List.filter_map];rfl
   rw[e];by_cases h:x=c <;> simp[h]
theorem Gq{s:PySem.Str}{c i:Nat}(hi:i<s.cps.toList.length):subAt s ⟨#[c]⟩ i=decide (s.cps.toList[i]?=some c):=by
 have h:i<s.cps.size:=by simpa using hi
 unfold subAt;show(s.cps.extract i (i+1) == #[c])=_;have e:s.cps.extract i (i+1)=#[s.cps[i]]:=by
  apply Array.ext
  ·simp;lia
  ·intro j h1 h2;have:j=0:=by simp at h2;lia
   subst this;simp
 rw[e];have e2:s.cps.toList[i]?=some s.cps[i]:=by simp[h]
 rw[e2];by_cases hc:s.cps[i]=c
 ·simp[hc]
 ·simp[hc]
theorem rB{s:PySem.Str}{c:Nat}:∀(k a:Nat) (arr:Array Nat) (free:Nat),a+k≤s.cps.toList.length+1->free≤a->arr.size≤a ->
  (forIn (hV a k) (arr,free) (StrLaws.occBody s ⟨#[c]⟩ s.cps.toList.length (s.cps.toList.length+1))).run.fst.toList=arr.toList++(hV a k).filter λi=>decide (s.cps.toList[i]?=some c)
 |0,a,arr,free,_,_,_=>by simp[Id.run,pure]
 |k+1,a,arr,free,h1,h2,h3=>by
   rw[List.range'_succ,pS,List.filter_cons];unfold StrLaws.occBody;have l1:(⟨#[c]⟩:PySem.Str).length=1:=rfl;by_cases ha:a<s.cps.toList.length
   ·rw[Gq ha];by_cases hc:s.cps.toList[a]?=some c
    ·rw[if_pos ⟨⟨⟨by show arr.size<_;lia,h2⟩,by rw[l1];lia⟩,by simpa using hc⟩];have:=rB (s:=s) (c:=c) k (a+1) (arr.push a) (a+1) (by lia) (bc _) (by simp;lia);rw[if_pos (by simpa using hc)];refine Eq.trans this ?_;simp
    ·rw[if_neg (λz=>hc (by simpa using z.2))];have:=rB (s:=s) (c:=c) k (a+1) arr free (by lia) (by lia) (by lia);rw[if_neg (by simpa using hc)];exact this
   ·have e:s.cps.toList[a]?=none:=sZ (by lia);rw[if_neg (λz=>by have:=z.1.2;rw[l1]at this;lia),e];have:=rB (s:=s) (c:=c) k (a+1) arr free (by lia) (by lia) (by lia);simp only[reduceCtorEq,decide_false,bd,if_false];exact this
theorem Ag{s:PySem.Str}{c:Nat}:occurrences s ⟨#[c]⟩ 0 s.length (s.length+1)=eN c s.cps.toList:=by
 have e:s.length=s.cps.toList.length:=by simp[PySem.Str.length]
 rw[StrLaws.occ_eq,e,xZ];have:=rB (s:=s) (c:=c) (s.cps.toList.length+1) 0 #[] 0 (by lia) (bc _) (by simp);refine Eq.trans this ?_;simp only[fJ];rw[←List.range_eq_range',List.range_succ,List.filter_append];simp
theorem C9{s:PySem.Str}{c:Nat}(hc:c<256):PySem.Txt.split s ⟨#[c]⟩=(aJ c s.cps.toList).map λl=>⟨l.toArray⟩:=by
 have e:s.length=s.cps.toList.length:=by simp[PySem.Str.length]
 have k1:PySem.Builtin.Str.strKind ⟨#[c]⟩=1:=by simp[PySem.Builtin.Str.strKind,hc]
 have k2:¬PySem.Builtin.Str.strKind s<1:=by
  unfold PySem.Builtin.Str.strKind;split
  ·lia
  ·split <;> lia
 have hs:(⟨s.cps.toList.toArray⟩:PySem.Str)=s:=by cases s;simp
 unfold PySem.Txt.split;rw[Ag,k1];by_cases h0:s.cps.toList=[]
 ·have l0:s.length<1:=by rw[e,h0];decide
  have:(decide (s.length<(⟨#[c]⟩:PySem.Str).length)||decide (PySem.Builtin.Str.strKind s<1))=true:=by
   have:(⟨#[c]⟩:PySem.Str).length=1:=rfl;rw[this];simp[l0]
  rw[if_pos this,h0];simp only[aJ,aN,dQ];rw[←hs,h0]
 ·have lp:0<s.cps.toList.length:=lm.mpr h0;have:¬(decide (s.length<(⟨#[c]⟩:PySem.Str).length)||decide (PySem.Builtin.Str.strKind s<1))=true:=by
   have h1:(⟨#[c]⟩:PySem.Str).length=1:=rfl;rw[h1];simp;exact⟨by lia,by lia⟩
  rw[if_neg this,←yB];by_cases hp:eN c s.cps.toList=[]
  ·rw[hp];simp only[List.isEmpty_nil,if_true];simp only[jK,dQ,fJ,lh,List.zip_nil_right,aN,pY,Nat.sub_zero,List.take_length]
  ·rw[if_neg (by simpa using hp)];unfold partsBetween jK;rw[cb,e];refine fZ λp _=>?_;obtain⟨i,j⟩:=p;simp only[Function.comp];unfold strSub;congr 1;apply tQ.mp;simp[List.take_drop]
end L2.Rv
namespace L2.Rv
noncomputable section
open PySem (Str)
noncomputable def fS(o e:ME):ME:=λσ=>bnd (o σ) λx=>match x with
 |.str s=>bnd (e σ) λy=>match y with
   | .str t=>(match t.cps.toList with
     |[c]=>if s.length≤100000/\c<256 then new (.lst ((aJ c s.cps.toList).map λl=>.str ⟨l.toArray⟩)) else stk
     | _=>stk)
   |_=>stk
 |_=>stk
noncomputable def iT:List MV->Option (List Bool)
 |[]=>some []
 | .bl b::r=>(match iT r with
   |some bs=>some (b::bs)
   | none=>none)
 |_=>none
noncomputable def kB:Op1:=λx=>match x with
 |.ref a=>bnd (look a) λo=>match o with
   | .lst xs=>(match iT xs with
     |some bs=>ret (.bl (bs.all id))
     | none=>stk)
   |_=>stk
 |_=>stk
noncomputable def i6(e:ME):MI:=λσ=>bnd (e σ) λx=>match x with
 |.str s=>if s.cps.all (·<128)=true then ret ⟨s.cps.toList.map λc=>[.str ⟨#[c]⟩],[]⟩ else stk
 |_=>stk
noncomputable def kY:Op2:=λx y=>match x,y with
 |.str s,.str t=>ret (.bl (!(PySem.Builtin.Str.occurrences t s 0 t.length 1).isEmpty))
 |_,_=>stk
noncomputable def jA:Op1:=λx=>match x with
 | .str s=>(match PySem.intText? s with
   |some n=>if s.length≤640 then ret (.int n) else stk
   | none=>stk)
 |_=>stk
end
end L2.Rv
namespace L2.Rv
open PySem PySem.Spec PyProof.Rows
variable {G:Gb}{X:Cx}{E:ae->ag->Prop}{EX:St->Prop}{m:List ad}{h:MH}{H:Hp}
noncomputable def Its(x:Str):It where
 go:=λi H=>i<x.cps.toList.length
 yld:=λi H v H'=>H'=H/\∃c,x.cps.toList[i]?=some c/\v=.str ⟨#[c]⟩
 stop:=λi H=>x.cps.toList.length≤i
theorem FG{P:bh}{w:aR}{K:PySem.W.Frag}{tg:az}{it:ad}{x:Str}{t:Tok} :
  Turn P w K tg (Its x) [it] it (λi h=>h.IsStrIter it "str_ascii_iterator" x t i) where
 mem:=by simp
 obj:=λi h z b hb=>by
  cases dC.mp hb;obtain⟨o,e,c,z⟩:=z;exact⟨o,e,λv y=>by rw[z]at y;cases y⟩
 keep:=λi h h' z k=>by
  obtain⟨o,e,c,z⟩:=z;exact⟨o,k it (by simp) _ e,c,z⟩
 item:=by
  intro X hP hw hK hc i pins s σ H E I hf hz q;subst hP hw hK;have q':i<x.cps.toList.length:=q;obtain⟨c,ec⟩:∃c,x.cps.toList[i]?=some c:=⟨_,oq q'⟩;refine wpAny_pyNext_ascii_item hz (c:=c) (by simpa using ec) λhp' a1 a2=>?_;have I1:Inv X pins σ H { s with heap:=hp',toks:=s.toks+1 }:=Inv.turnedL I hf λc o hc' e=>a2.extBut c o (by simpa using hc') e;obtain⟨oi,e,cc,z⟩:=id a1;exact⟨_,rfl,tP (s:={ s with heap:=hp',toks:=s.toks+1 }) e cc z (by decide) ⟨.str ⟨#[c]⟩,H,I1,⟨_,rfl⟩,⟨rfl,c,ec,rfl⟩,a1,λb hb=>(hf b hb).1⟩⟩
 done:=by
  intro X hP hw hK hc i pins s σ H E I hf hz q;subst hP hw hK;have q':x.cps.toList.length≤i:=q;exact wpAny_pyNext_ascii_end (I.ok.hd hc) hz (by simpa using q') λhp' kk=>⟨rfl,Inv.turnedL (t:=s.toks) I hf λc o hc' e=>kk c o (by simpa using hc') e⟩
 self:=λ_ _ _ _ _ hz h=>wpAny_pyIter_striter_ascii hz h
theorem Fh{e tg:az}{to:TE}(he:PE X e to):PI X tg e (λσ H R=>to σ H λv H1=>∃x,v=.str x/\x.cps.all (·<128)=true/\R (Its x) H1):=by
 intro pins s σ H R I t;refine thn (he pins s σ H _ I t) λu s1 e0=>bD e0 λv H1 I1 rx e4=>?_;obtain⟨x,rfl,hx,q⟩:=e4;obtain⟨t,rfl⟩:=rx;refine wpAny_pyIter_ascii hx ?_;refine⟨s1.heap.objs.size,[s1.heap.objs.size],_,_,H1,rfl,I1.kept (t':=s1.toks) λb o e=>bJ _ e,FG (t:=t),⟨_,dH _ rfl,rfl,rfl⟩,λb hb=>?_,q⟩;cases dC.mp hb;exact I1.fpOk (bc _) (I1.hok.fresh (bc _))
theorem Ef{x:Str}:JOk G (Its x) ⟨x.cps.toList.map λc=>[.str ⟨#[c]⟩],[]⟩ true 1 m H:=by
 intro m2 h2 H2 pre R ok;refine⟨λi ws ei=>?_,by show x.cps.toList.length≤_;rw[bB];exact bc _⟩;rw[bX]at ei;cases ec:x.cps.toList[i]? with
 |none=>rw[ec]at ei;cases ei
 |some c=>
   rw[ec]at ei;cases ei;refine⟨rfl,(bT.mp ec).1,λv H' y=>?_⟩;obtain⟨rfl,c',ec',rfl⟩:=y;rw[ec]at ec';cases ec';exact⟨.refl,R,_,rfl,rfl⟩
theorem rL{tg e:az}{ge:ME}(he:GE G X e ge):GI G X tg e true 1 (i6 ge):=λE EX=>by
 refine⟨_,Fh (X:=X.wish E) (he E EX),λσ' H R e0=>bY e0 λm h σ ex S Rr P=>?_⟩;refine sub ex S Rr P λv m1 h1 H1 v' x1 R1 r1 P1=>?_;cases v with
 |str x=>
   cases(show v'=V.str x from r1);dsimp only at P1
   split at P1
   ·rename_i hx;exact⟨x,rfl,hx,Post.here R1 P1 _ Ef⟩
   ·exact P1.elim
 |_=>exact P1.elim
theorem yd:VO G kY (λx y H Q=>∃i j,x=.str i/\y=.str j/\Q (.bl (!(Builtin.Str.occurrences j i 0 j.length 1).isEmpty)) H):=by
 intro X E EX m h H x y x' y' Q R rx ry P;cases x with
 |str s=>cases y with
   |str t=>
     cases(show x'=V.str s from rx);cases(show y'=V.str t from ry);exact⟨s,t,rfl,rfl,Post.here R P _ rfl⟩
   |_=>exact P.elim
 |_=>exact P.elim
theorem uN:eQ X (.type "int") (λxs H Q=>∃x n,xs=[.str x]/\intText? x=some n/\x.length≤640/\Q (.int n) H):=by
 intro pins s σ H xs us Q I r h;obtain⟨x,n,rfl,hn,hl,q⟩:=h;obtain⟨u,rfl,ru⟩:=vals1 r;obtain⟨t,rfl⟩:=ru;exact PySem.W.KIN.call_text hn hl ⟨.int n,H,I.tok _,⟨_,rfl⟩,q⟩
theorem u9:VO1 G jA (λxs H Q=>∃x n,xs=[.str x]/\intText? x=some n/\x.length≤640/\Q (.int n) H):=by
 intro X E EX m h H x x' Q R rx P;cases x with
 |str s=>
   cases(show x'=V.str s from rx);unfold jA at P;dsimp only at P;cases e:intText? s with
   |none=>rw[e]at P;exact P.elim
   |some n=>
     rw[e]at P;dsimp only at P;split at P
     ·rename_i hl;exact⟨s,n,rfl,e,hl,Post.here R P _ rfl⟩
     ·exact P.elim
 |_=>exact P.elim
def G1:V->List V->Hp->VK->Prop:=λx xs H Q=>∃s c,x=.str s/\xs=[.str ⟨#[c]⟩]/\s.length≤100000/\c<256/\∀p,H p=none->Q (.ref p) (upd H p (.lst ((aJ c s.cps.toList).map λl=>.str ⟨l.toArray⟩)))
theorem yK:∀(l:List (Str×Tok)),Vals (l.map λp=>V.str p.1) (strValues l)
 |[]=>.nil
 |p::l=>.cons ⟨p.2,rfl⟩ (yK l)
theorem E3:MtR X "str.split" G1:=by
 rintro pins s σ H x vs v us Q I rx rv ⟨sx,c,e1,e2,hl,hc,q⟩;subst e1;subst e2;obtain⟨t,rfl⟩:=rx;obtain⟨u,rfl,ru⟩:=rv.one;obtain⟨t2,rfl⟩:=ru;have e:=C9 (s:=sx) hc;have ll:∀l:List Nat,(aJ c l).length≤l.length+1:=by
  intro l
  induction l with
  |nil=>simp[aJ]
  |cons x l ih=>
    unfold aJ;split
    ·simp;lia
    ·split
     ·simp
     ·rename_i e;rw[e]at ih;simp at ih ⊢;lia
 have lx:sx.cps.toList.length=sx.length:=by simp[mU]
 have l1:=ll sx.cps.toList;have key:∀(l:List (Str×Tok)) (tk:Nat),l.map (·.1)=Txt.split sx ⟨#[c]⟩->EP X pins σ Q (.ref s.heap.objs.size) { s with toks:=tk,heap:=s.heap.push { cls:=.type "list",data:=.seq (strValues l).toArray } }:=λl tk el=>by
  have ev:((aJ c sx.cps.toList).map λl=>V.str ⟨l.toArray⟩)=l.map λp=>V.str p.1:=by
   have:=congrArg (lN V.str) el;rw[cb,e,cb]at this;exact this.symm
  refine⟨.ref s.heap.objs.size,_,I.laid (a:=s.heap.objs.size) (o:=.lst ((aJ c sx.cps.toList).map λl=>V.str ⟨l.toArray⟩)) (t':=tk) (λb o z=>bJ _ z) (bc _) ⟨?_,strValues l,0,by rw[ev];exact yK l,dH _ rfl⟩,rfl,q _ (I.hok.fresh (bc _))⟩;rw[bB];exact bV l1 (bV (by lia) (by decide:100001≤aW))
 have hsz:sx.length+2≤aW:=bV (by lia) (by decide:100002≤aW);have hy:((⟨#[c]⟩:Str).length == 0)=false:=rfl;have hn:(Builtin.Str.partsBetween sx (Builtin.Str.occurrences sx ⟨#[c]⟩ 0 sx.length (sx.length+1)) (⟨#[c]⟩:Str).length).length≤aW:=by
  have e1:=StrLaws.occ_length_le sx ⟨#[c]⟩ 0 sx.length (sx.length+1);rw[length_partsBetween];lia
 cases h1:(decide (sx.length<(⟨#[c]⟩:Str).length)||decide (Builtin.Str.strKind sx<Builtin.Str.strKind ⟨#[c]⟩))
 ·cases hf:(Builtin.Str.occurrences sx ⟨#[c]⟩ 0 sx.length (sx.length+1)).isEmpty
  ·refine call_meets F.slot_str_split (typeIs_str _ _ _) F.entry_str_split (F.args_str_split_2 _ _) (meets_str_split_sep sx ⟨#[c]⟩ t t2 h1 hy hf (by lia) hn) ?_;show wants _ _ _ { s with toks:=_,heap:=s.heap.push { cls:=.type "list",data:=.seq (strsFrom s.toks (Builtin.Str.partsBetween sx (Builtin.Str.occurrences sx ⟨#[c]⟩ 0 sx.length (sx.length+1)) (⟨#[c]⟩:Str).length)).toArray } };rw[strsFrom_eq];exact key (numbered s.toks _) _ ((numbered_texts _ _).trans ((if_neg (ne_true_of_eq_false h1)).trans (if_neg (ne_true_of_eq_false hf))).symm)
  ·exact call_meets F.slot_str_split (typeIs_str _ _ _) F.entry_str_split (F.args_str_split_2 _ _) (meets_str_split_not_found sx ⟨#[c]⟩ t t2 h1 hy hf)
    (key [(sx,t)] s.toks ((if_neg (ne_true_of_eq_false h1)).trans (if_pos hf)).symm)
 ·exact call_meets F.slot_str_split (typeIs_str _ _ _) F.entry_str_split (F.args_str_split_2 _ _) (meets_str_split_cannot_occur sx ⟨#[c]⟩ t t2 h1)
   (key [(sx,t)] s.toks (if_pos h1).symm)
theorem jm{o e:az}{go ge:ME}{apos cpos:Pos}(ho:GE G X o go)(he:GE G X e ge)(hbase:attributeBase o (ah "split") X.env (aK o X.env)=aK o X.env:=by rfl)
  (hfew:((backTo cpos (aU [e] X.env)).all (λx=>!x.1) && (backToKw cpos (keywordEach [] X.env)).all (λx=>x.1.isSome)
   && decide ([e].length + ([]:List Keyword).length + (if ([]:List Keyword).isEmpty then 0 else 1) < 30))=true:=by rfl)
  (hline:(apos.endLine == cpos.line)=true:=by rfl) (hs:aU [e] X.env=[(false,aK e X.env)]:=by rfl):GE G X (.Call (.Attribute o (ah "split") apos) [e] [] cpos) (fS go ge):=λE EX=>
 dD (oP (X:=X.wish E) PySem.F.plainAttrs_str PySem.F.slot_str_split PySem.F.type_str_split E3 (ho E EX) (he.a1 hs E EX) hbase hfew hline hs rfl) λσ' H Q e0=>bY e0 λm h σ ex S R P=>
  sub ex S R P λv m1 h1 H1 v' x1 R1 r1 P1=>by
   cases v with
   |str s=>
     cases(show v'=V.str s from r1);refine⟨rfl,sub ex (S.mono x1) R1 P1 λw m2 h2 H2 w' x2 R2 r2 P2=>?_⟩;cases w with
     |str t=>
       cases(show w'=V.str t from r2);dsimp only at P2;cases ec:t.cps.toList with
       |nil=>rw[ec]at P2;exact P2.elim
       |cons c r=>
         cases r with
         |cons d r=>rw[ec]at P2;exact P2.elim
         |nil=>?_
         rw[ec]at P2;dsimp only at P2;split at P2
         ·rename_i hz;have et:t=⟨#[c]⟩:=by
           obtain⟨a⟩:=t;have:a=#[c]:=tQ.mp ec;rw[this]
          refine⟨s,c,rfl,by rw[et],hz.1,hz.2,λp hp=>?_⟩;have vr:VRs G m2 H2 ((aJ c s.cps.toList).map λl=>MV.str ⟨l.toArray⟩) ((aJ c s.cps.toList).map λl=>V.str ⟨l.toArray⟩):=by
           generalize aJ c s.cps.toList=ls
           induction ls with
           |nil=>exact .nil
           |cons l ls ih=>exact .cons rfl ih
          exact iI R2 vr P2 hp
         ·exact P2.elim
     |_=>exact P2.elim
   |_=>exact P1.elim
def vS(K:PySem.W.Frag):List V->Hp->VK->Prop:=λxs H Q=>∃a,∃bs:List Bool,xs=[.ref a]/\H a=some (.lst (bs.map V.bl))/\Q (.bl (bs.all id)) H
theorem wH(hc:X.calm=true):eQ X (.builtin "all") (vS X.K):=by
 intro pins s σ H xs us Q I r h;obtain⟨a,bs,rfl,ha,q⟩:=h;obtain⟨u,rfl,ru⟩:=vals1 r;cases ru;obtain⟨z,its,n,rv,g⟩:=(show bW X.prog X.w H s.heap a (.lst (bs.map V.bl)) from I.hok a _ ha);have ln:=rv.length;rw[bB]at ln;have gl:s.heap.IsList a its.toArray:=⟨_,g,rfl,n,rfl⟩;have ne:a≠s.heap.objs.size:=cT (bC g);refine call_all_walk (wpAny_pyIter_list gl ?_);refine⟨s.heap.objs.size,_,_,_,_,_,λi=>(bs[i]?).getD true,rfl,Walks.list (A:=X.A.in1) (I.ok.hd hc) s.heap.objs.size a ne its.toArray,⟨⟨_,dH _ rfl,rfl,rfl⟩,gl.at λo e=>bJ _ e⟩,λi v s Q E hP hQ=>?_,λh' tk kk=>?_⟩
 ·have ei:its[i]?=some v:=by simpa using hP
  have lt:i<bs.length:=by rw[ln];exact(bT.mp ei).1
  have eb:(bs.map V.bl)[i]?=some (V.bl bs[i]):=by simp[lt]
  obtain⟨u,eu,ru⟩:=rv.get eb;rw[ei]at eu;cases eu;cases ru;have e2:(bs[i]?).getD true=bs[i]:=by simp[lt]
  dsimp only at hQ;rw[e2]at hQ;exact aF hQ
 ·have e3:(cM its.toArray.size).all (λi=>(bs[i]?).getD true)=bs.all id:=by
   rw[cB,←ln];rw[mE,eY,eY];refine⟨λz b hb=>?_,λz i hi=>?_⟩
   ·obtain⟨i,hi,e⟩:=List.mem_iff_getElem.mp hb;have:=z i (iW.mpr hi);simp[hi]at this;rw[←e];exact this
   ·have hi':=iW.mp hi;simp[hi'];exact z _ (List.getElem_mem hi')
  rw[e3];exact⟨.bl _,H,I.kept (t':=tk) λb o e=>kk b o (by simp;exact cT (bC e)) (bJ _ e),rfl,q⟩
theorem zC:VO1 G kB (vS G.K):=by
 intro X E EX m h H x x' Q R rx P;cases x with
 |ref a=>
   obtain⟨aa,ea,rfl⟩:=rx;obtain⟨oa,e1,q1,P1⟩:=cX R ea P;cases oa with
   |lst xs=>
     obtain⟨vs,r,z⟩:=q1;dsimp only at P1;cases e:iT xs with
     |none=>rw[e]at P1;exact P1.elim
     |some bs=>
       rw[e]at P1;dsimp only at P1;have:∀{xs:List MV}{vs:List V}{bs:List Bool},VRs G m H xs vs->iT xs=some bs->vs=bs.map V.bl:=by
        intro xs vs bs r
        induction r generalizing bs with
        |nil=>intro e;cases e;rfl
        |@cons x v xs vs r rs ih=>
          intro e;cases x with
          |bl b=>
            unfold iT at e;cases e2:iT xs with
            |none=>rw[e2]at e;cases e
            |some bs2=>
              rw[e2]at e;cases e;rw[ih e2];cases(show v=V.bl b from r);rfl
          |_=>cases e
       refine⟨aa,bs,rfl,by rw[z,this r e],Post.here R P1 _ rfl⟩
   |_=>exact P1.elim
 |_=>exact P.elim
theorem vW{x:Str}{i:Str}{u:ae}{pos:Pos}(hg:Gl X x)(hm:X.mg x=some u)(r:aT (.str i) u)(hd:(x == ("__debug__":Str))=false:=by decide):GE G X (.Name x pos) (eC (.str i)):=
 kR (λE=>lL (X:=X.wish E) hg hm r hd) λ_ _=>rfl
end L2.Rv
namespace L2.Rv
noncomputable section
open PySem (Str)
noncomputable def k9(cs:List Nat)(c2:Nat)(body:MS):MS:=λσ h=>match body σ h with
 |.ok f h'=>.ok f h'
 |.exc c h'=>if cs.contains c then .exc c2 h' else .stuck
 |.stuck=>.stuck
end
noncomputable section
open PySem (Str)
def gE(src:MI)(elt:ME):ME:=λσ=>bnd (src σ) λs=>if s.items.length≤100000 then bnd (bS s none elt σ s.items) λvs=>new (.lst vs) else stk
noncomputable def dZ(D:List Str)(k:Str):List Str:=if k∈D then D else D++[k]
noncomputable def sj:Op1:=λx=>match x with
 |.ref a=>bnd (look a) λo=>match o with
   | .lst xs=>(match fW xs with
     |some ss=>if ss.length≤1000 then ret (.int (ss.foldl dZ []).length) else stk
     | none=>stk)
   |_=>stk
 |_=>stk
noncomputable def gv(h:MH)(w:PySem.PyData):List MV->Option Bool
 |[]=>some false
 |y::r=>match dat h 6 y with
   |some d=>if PySem.SeqAt.shaped d=true then(if PySem.PyData.eqv d w=true then some true else gv h w r) else none
   |none=>none
noncomputable def mT:Op2:=λx y=>match y with
 |.ref a=>λh=>match h[a]? with
   | some (.lst ys)=>(match dat h 6 x with
     | some d=>if PySem.SeqAt.shaped d=true then (match gv h d ys with
       |some b=>.ok (.bl b) h
       | none=>.stuck) else .stuck
     | none=>.stuck)
   |_=>.stuck
 |_=>stk
noncomputable def pJ:Op2:=λx y=>match x,y with
 |.str s,.str t=>ret (.bl (!(!(PySem.Builtin.Str.occurrences t s 0 t.length 1).isEmpty)))
 |_,_=>stk
end
end L2.Rv
namespace L2.Rv
open PySem PySem.Spec PyProof.Rows
section
variable {prog:bh}{w:aR}{A:aX}{E:ae->ag->Prop}{s:ag}{env:Env}
variable {nm q:Str}{C N a Ca:ad}{bs bm bmB:List ae}{hdct:Bool}{sn:List Str}{sub:List ae}{ab:Bool}{col:Option Bool}{dd:Option ad}{k0 k1 k2 k3 k5:Option ae}{B Bn newId nid initId inN:String}{bmN:List ae}{K:PySem.W.Frag}
theorem F9:entryFor table "proto.unchain"=some Builtin.«proto.unchain»:=entryFor_of_tree (by kernel_rfl)
theorem upd3{h:aI}{e t:ad}(x y z:ae)(he:h.get? e=some { cls:=.ref C,data:=.fields #[.ref t,.none,.none,.none,.bool false,.none] }) :
  (((h.update e (Obj.mapFields (·.setIfInBounds 3 x))).update e (Obj.mapFields (·.setIfInBounds 4 y))).update e (Obj.mapFields (·.setIfInBounds 2 z))).get? e=some { cls:=.ref C,data:=.fields #[.ref t,.none,z,x,y,.none] }:=by
 have h1:=i7 (Obj.mapFields (·.setIfInBounds 3 x)) he rfl;have h2:=i7 (Obj.mapFields (·.setIfInBounds 4 y)) h1 rfl;exact i7 (Obj.mapFields (·.setIfInBounds 2 z)) h2 rfl
theorem z6{x cz:Sem ae}{Q:Flow->ag->Prop}(hbase:bm.contains (.type "BaseException")=true)(hh:A.handled=some (.ref a))(hsub:PySem.W.subIn K (.ref Ca) (.type "BaseException")=some true)
  (h:aq (au prog w) A x (λv s₁=>∃e t oa vs,v=.ref e/\a≠e/\K.In s₁.heap/\s₁.heap.get? C=some (excClassObj nm q C N bs bm hdct sn sub ab col dd k0 k1 k2 k3 k5 newId)/\s₁.heap.get? e=some { cls:=.ref C,data:=.fields #[.ref t,.none,.none,.none,.bool false,.none] } /\
   s₁.heap.get? a=some oa/\oa.cls=.ref Ca/\oa.data=.fields vs/\vs[2]?=some .none/\aq (au prog w) A cz (λcv s₂=>cv=.ref a/\s₂=s₁) E s₁ /\
   ∀h',(∀c o,c≠e->s₁.heap.get? c=some o->h'.get? c=some o)->h'.get? e=some { cls:=.ref C,data:=.fields #[.ref t,.none,.ref a,.ref a,.bool true,.none] }->E (.ref e) { s₁ with heap:=h' }) E s) :
  aq (au prog w) A (raiseStmt env (some x) (some cz)) Q E s:=by
 have hcB:(Value.ref C::bm).contains (.type "BaseException")=true:=by rw[uc,hbase,Bool.or_true]
 unfold raiseStmt;refine ak (br h (λv s₁ h₁=>?_) λ_ _ x=>x);obtain⟨e,t,oa,vs,rfl,hae,kx,hC,he,ha,hca,hda,h2,hcz,hE⟩:=h₁;refine ak (wpAny_holding (br hcz (λcv s₂ z=>?_) λ_ _ x=>x));obtain⟨rfl,rfl⟩:=z;obtain⟨hp,g,d,tk,os⟩:=s₂;refine ak (aF ?_);have L4:PySem.W.Looks (au prog w) hp (typeOf (.ref a)) (.ref Ca):=hca▸(PySem.W.Looks.ld ha).andThen .now;have L1:=PySem.W.looks_subIn (M:=au prog w) kx hsub;refine ak (wpAny_holding ?_);unfold excFromValue isExcClass isInstance
 repeat (first|with_reducible refine wpAny_loadPart_at he ?_|with_reducible refine wpAny_loadPart_at hC ?_|(with_reducible refine wpAny_isSubtype_exc hC ?_;rw[hcB])|wp_step)
 rw[hca];refine L1.at ?_;rw[if_pos rfl];refine aF ?_;dsimp only;have he1:=i7 (Obj.mapFields (·.setIfInBounds 3 (Value.ref a))) he rfl;have he2:=i7 (Obj.mapFields (·.setIfInBounds 4 (Value.bool true))) he1 rfl;have hCe:C≠e:=λz=>by rw[z,he]at hC;cases hC
 have hC2:=(fu (hp.update e (Obj.mapFields (·.setIfInBounds 3 (Value.ref a)))) (Obj.mapFields (·.setIfInBounds 4 (Value.bool true))) (Ne.symm hCe)).trans ((fu hp (Obj.mapFields (·.setIfInBounds 3 (Value.ref a))) (Ne.symm hCe)).trans hC);have ha2:=(fu (hp.update e (Obj.mapFields (·.setIfInBounds 3 (Value.ref a)))) (Obj.mapFields (·.setIfInBounds 4 (Value.bool true))) (Ne.symm hae)).trans ((fu hp (Obj.mapFields (·.setIfInBounds 3 (Value.ref a))) (Ne.symm hae)).trans ha);refine ak (wpAny_setField he rfl (by simp) (ak (wpAny_setField he1 rfl (by simp[Obj.mapFields]) ?_)));dsimp only
 repeat (first|with_reducible refine wpAny_loadPart_at he2 ?_|with_reducible refine wpAny_loadPart_at hC2 ?_|wp_step)
 clear h hcz
 unfold raiseNew;refine ak (wpAny_handled ?_);rw[hh];dsimp only;rw[if_pos (show(Value.ref a != Value.ref e)=true from by simpa using hae)];refine ak (wpAny_holding (wpAny_runValue (codeAny_builtin F9 ?_)));unfold Builtin.«proto.unchain»;refine ak (wpAny_field ha2 hda h2 ?_);rw[if_pos (by rfl)]
 repeat wp_step
 refine hE _ (λc o hc z=>?_) (upd3 _ _ _ he);exact(fu _ _ (Ne.symm hc)).trans ((fu _ _ (Ne.symm hc)).trans ((fu _ _ (Ne.symm hc)).trans z))
theorem A5(Fn:ExcBaseFacts Bn newId inN bmN)(hBn:bmB.contains (.type Bn)=true)(F:ExcBaseFacts B nid initId bmB){mN:Str->Option ae}{x:Str}{np cpos pos:Pos}{args:List az}{ce:az}{Q:Flow->ag->Prop}
  (hbase:bm.contains (.type "BaseException")=true) (hh:A.handled=some (.ref a)) (hsub:PySem.W.subIn K (.ref Ca) (.type "BaseException")=some true) (hplain:(backTo cpos (aU args env)).any (·.1)=false) (hni:mN "__init__"=none)
  (h:aq (au prog w) A (aK (.Name x np) env) (λf s₁=>f=.ref C/\aq (au prog w) A (evalArgs (.ref C) true (backTo cpos (aU args env)) [])
   (λz s₂=>z.kw=[]/\z.pos.length≤aW/\s₂.heap.get? C=some (excClassObj nm q C N bs bm hdct sn sub ab col dd k0 k1 k2 k3 k5 newId)/\s₂.heap.Ns N mN/\OwnTail s₂.heap bmB bm/\K.In s₂.heap/\(∃oa vs,s₂.heap.get? a=some oa/\oa.cls=.ref Ca/\oa.data=.fields vs/\vs[2]? = some .none) /\
    ∀h' e,Heap.MadeExcOf s₂.heap h' e (.ref C) z.pos->aq (au prog w) A (aK ce env) (λcv s₃=>cv=.ref a/\s₃={ s₂ with heap:=h' }) E { s₂ with heap:=h' } /\
     ∀h₂,(∀b o,s₂.heap.get? b=some o->h₂.get? b=some o)->(∃t,h₂.get? e=some { cls:=.ref C,data:=.fields #[.ref t,.none,.ref a,.ref a,.bool true,.none] })->E (.ref e) { s₂ with heap:=h₂ }) E s₁) E s) :
  aq (au prog w) A (exec (.Raise (some (.Call (.Name x np) args [] cpos)) (some ce) pos) env) Q E s:=by
 rw[arm_exec_Raise];simp only[evalOpt,Option.map];refine ak (wpAny_standAt (z6 (C:=C) (K:=K) (a:=a) (Ca:=Ca) (nm:=nm) (q:=q) (N:=N) (bs:=bs) (bm:=bm) (hdct:=hdct) (sn:=sn) (sub:=sub) (ab:=ab) (col:=col) (dd:=dd) (k0:=k0) (k1:=k1) (k2:=k2) (k3:=k3) (k5:=k5) (newId:=newId) hbase hh hsub (ak (br (wpAny_Call_ofName (br h (λf s₁ h₁=>?_) λ_ _ x=>x)) (λv s₃ h₃=>ak (wpAny_standAt (aF h₃))) λ_ _ x=>x))));obtain⟨rfl,h₁⟩:=h₁;unfold callWith;refine ak (wpAny_holding (br h₁ (λz s₂ h₂=>ak (wpAny_standAt ?_)) λ_ _ x=>x));obtain⟨apos,akw⟩:=z;obtain⟨hkw,hlen,hC,hn,T,kx,⟨oa,vs,g1,g2,g3,g4⟩,h₂⟩:=h₂;obtain rfl:akw=[]:=hkw;obtain⟨hp,g,d,tk,os⟩:=s₂;simp only[hplain];refine ak (wpAny_keeperOf_exc hC ?_);refine ak (wpAny_call_exc_subU (hrest:=hlen) Fn hBn F T hC hn hni λh' e hm=>ak (wpAny_holding (wpAny_point (aF ?_))));obtain⟨t,ht,_,_⟩:=hm.there;obtain⟨hv,hE⟩:=h₂ h' e hm;have nw:∀b o,hp.get? b=some o->b≠e:=λb o z y=>by have:=hm.new;rw[←y,z]at this;cases this
 refine⟨e,t,oa,vs,rfl,nw a _ g1,λb o z=>hm.keeps _ _ (kx b o z),hm.keeps _ _ hC,ht,hm.keeps _ _ g1,g2,g3,g4,?_,λh₃ k₃ e₃=>hE h₃ (λb o z=>k₃ b o (nw b o z) (hm.keeps b o z)) ⟨t,e₃⟩⟩;exact ak (br hv (λcv s₃ z=>ak (wpAny_standAt (aF z))) λ_ _ z=>z)
end
variable {G:Gb}{m m' m1 m2:List ad}{h h' h1 h2:MH}{H H' H1 H2:Hp}{X:Cx}{E:ae->ag->Prop}{EX:St->Prop}{σ:MSt}{σ':St}
theorem D4:isSubtype (.type "tuple") (.type "tuple")=pure true:=by rw[isSubtype_type];kernel_rfl
theorem Ao{M:Model}{A:aX}{s:ag}{K:PySem.W.Frag}{C a C1 C2 tu:ad}{oe:aw}{b1 b2:Bool}{Q:Bool->ag->Prop}(kx:K.In s.heap)(he:s.heap.get? a=some oe)(hc:oe.cls=.ref C)(htu:s.heap.get? tu=some { cls:=.type "tuple",data:=.seq #[.ref C1,.ref C2] })
  (hcl1:(PySem.W.clsIn K C1).isSome=true) (hex1:PySem.W.subIn K (.ref C1) (.type "BaseException")=some true) (hs1:PySem.W.subIn K (.ref C) (.ref C1)=some b1)
  (hcl2:(PySem.W.clsIn K C2).isSome=true) (hex2:PySem.W.subIn K (.ref C2) (.type "BaseException")=some true) (hs2:PySem.W.subIn K (.ref C) (.ref C2)=some b2) (h:Q (b1||b2) s):aq M A (excMatches (.ref a) (.ref tu)) Q E s:=by
 obtain⟨hh,g,d,t,os⟩:=s;have isT:∀{D:ad},(PySem.W.clsIn K D).isSome=true->PySem.W.Looks M hh (isType (.ref D)) true:=λ{D} hcl=>by
  obtain⟨cd,hcd⟩:=kP.mp hcl;unfold PySem.W.clsIn at hcd;split at hcd
  ·rename_i z1 z2 z3 z4 ho;intro A' Q' E' s' kk q;unfold isType loadHead;exact ak (wpAny_loadPart (kk _ _ (kx _ _ ho)) (aF q))
  ·cases hcd
 have L1:=PySem.W.looks_subIn (M:=M) kx hex1;have L2:=PySem.W.looks_subIn (M:=M) kx hs1;have M1:=PySem.W.looks_subIn (M:=M) kx hex2;have M2:=PySem.W.looks_subIn (M:=M) kx hs2;have L3:=isT hcl1;have M3:=isT hcl2;have L4:PySem.W.Looks M hh (typeOf (.ref a)) (.ref C):=hc▸(PySem.W.Looks.ld he).andThen .now;have L0:PySem.W.Looks M hh (typeOf (.ref tu)) (.type "tuple"):=(PySem.W.Looks.ld htu).andThen .now;unfold excMatches isInstance isExcClass;refine ak (ak (L0.at (wpAny_of_eq D4 ?_)));rw[if_pos rfl];unfold seqItems?;refine ak (ak (wpAny_load htu (aF (ak (aF ?_)))));simp only[Option.getD_some,pS,oj];refine ak (ak (ak (ak (L3.at ?_))));rw[if_pos rfl];refine L1.at ?_;simp only[d3,bd,if_false];refine aF (ak (ak (ak (M3.at ?_))));rw[if_pos rfl];refine M1.at ?_;simp only[d3,bd,if_false];refine aF (aF (ak (L4.at (ak (ak (ak (L2.at ?_)))))));cases b1 with
 |true=>exact aF (aF (aF h))
 |false=>
   refine aF (ak (ak (M2.at ?_)));cases b2 with
   |true=>exact aF (aF (aF h))
   |false=>exact aF (aF (aF h))
def qv(G:Gb)(X:Cx)(cs:List Nat)(t:az):Prop:=∀{c:Nat}{pins:List (ad×aw)}{σ':St}{H:Hp}{s:ag}{a:ad}{zf:Option ad} {E:ae->ag->Prop} {R:ag->Prop},cs.contains c=true->Inv X pins σ' H s->Exc X pins H zf (G.cl c) a s ->
 (∀s',Inv X pins σ' H s'->Exc X pins H zf (G.cl c) a s'->R s')->aq (au X.prog X.w) (X.A.mark (some (.ref a))) (aK t X.env) (λcv s1=>aq (au X.prog X.w) (X.A.mark (some (.ref a))) (excMatches (.ref a) cv) (λb s2=>b=true/\R s2) E s1) E s
theorem FN{x:Str}{np:Pos}{C':ad}{cs:List Nat}(hm:X.mg x=some (.ref C'))(hg:Gl X x)(hC:dY X.K C')(hs:∀n,cs.contains n=true->PySem.W.subIn X.K (.ref (G.cl n)) (.ref C')=some true)(hd:(x == ("__debug__":Str))=false:=by decide):qv G X cs (.Name x np):=
 λ{c pins σ' H s a zf E R} hc I x k=>by
  obtain⟨oe,vs,a1,a2,a3,a4,a5,a6,a7⟩:=id x;refine hI (Inv.mark I (some (.ref a))) hg hm ?_ hd;exact uK I.kIn a1 a2 hC.ty hC.cl hC.sb (hs c hc) ⟨rfl,k s I x⟩
theorem ij.keeps{zf:Option ad}{C a:ad}{ok:ad->Prop}{hp hp':aI}(x:ij zf C a ok hp)(k:∀b o,hp.get? b=some o->hp'.get? b=some o):ij zf C a ok hp':=by
 obtain⟨oe,vs,a1,a2,a3,a4,a5,a6,a7,a8⟩:=x;refine⟨oe,vs,k _ _ a1,a2,a3,a4,a5,a6,?_,a8⟩;rcases a7 with a7|⟨T,oT,ts,b1,b2,b3,b4,b5,b6⟩
 ·exact .inl a7
 ·exact .inr ⟨T,oT,ts,b1,b2,k _ _ b3,b4,b5,b6⟩
theorem Cm{x y:Str}{np nq p:Pos}{kk:Nat}{C1 C2:ad}{cs:List Nat}(hm1:X.mg x=some (.ref C1))(hm2:X.mg y=some (.ref C2))(hg1:Gl X x)(hg2:Gl X y)(hC1:dY X.K C1)(hC2:dY X.K C2)
  (hs:∀n,cs.contains n=true->∃b1 b2,PySem.W.subIn X.K (.ref (G.cl n)) (.ref C1)=some b1/\PySem.W.subIn X.K (.ref (G.cl n)) (.ref C2)=some b2/\(b1||b2)=true) (hd1:(x == ("__debug__":Str))=false:=by decide) (hd2:(y == ("__debug__":Str))=false:=by decide):qv G X cs (.Tuple [.Name x np,.Name y nq] kk p):=
 λ{c pins σ' H s a zf E R} hc I x k=>by
  obtain⟨oe,vs,a1,a2,a3,a4,a5,a6,a7⟩:=id x;obtain⟨b1,b2,h1,h2,hb⟩:=hs c hc;refine wpAny_Tuple ?_;show aq _ _ (spliced ((false,aK (.Name _ np) X.env)::[(false,aK (.Name _ nq) X.env)])) _ _ s;refine Calls.spliced_cons (hI (Inv.mark I (some (.ref a))) hg1 hm1 (Calls.spliced_cons (hI (Inv.mark I (some (.ref a))) hg2 hm2 (Calls.spliced_nil ⟨(show 2≤aW by decide),?_⟩) hd2)) hd1);have kp:∀b o,s.heap.get? b=some o->(s.heap.push { cls:=.type "tuple",data:=.seq [Value.ref C1,Value.ref C2].toArray }).get? b=some o:=λb o e=>bJ _ e;refine Ao (C:=G.cl c) (K:=X.K) (λb o e=>kp _ _ (I.kIn b o e)) (kp _ _ a1) a2 (dH _ rfl) hC1.cl hC1.sb h1 hC2.cl hC2.sb h2 ⟨hb,k _ (I.kept (t':=s.toks) kp) (x.keeps kp)⟩
section
variable {pins:List (ad×aw)}{s:ag}{a:ad}{o:aw}
theorem sQ(I:Inv X pins σ' H s)(e:s.heap.get? a=some o)(u:H a=none)(l:a≠X.env.locals)(f:a∉X.fs)(d:∀v,o.data≠.cell v):Inv X ((a,o)::pins) σ' H s:=
 I.pins_of λp hp=>by
  rcases bE.mp hp with rfl|hp
  ·exact⟨e,u,l,f,d⟩
  ·exact I.pin p (cK _ hp)
theorem unpin{p:ad×aw}(I:Inv X (p::pins) σ' H s):Inv X pins σ' H s:=I.pins_of λp hp=>I.pin p (cK _ (cS _ hp))
theorem Cy{M:Model}{A:aX}{zf:Option ad}{C:ad}{n:Str}{i:Nat}{pos:Pos}{Q:Unit->ag->Prop}(I:Inv X pins σ' H s)(x:iX zf C a (Fp X pins H) s.heap)(hN:X.N.Nodup)(hi:X.N[i]?=some n)(hl:X.env.kindOf n=some .local)
  (k:∀s',Inv X pins (σ'.set i none) H s'->iX zf C a (Fp X pins H) s'.heap->Q () s'):aq M A (do bindName X.env n .none;unbindBehindTheSuite X.env n pos) Q E s:=by
 obtain⟨oe,vs,T,oT,ts,a1,a2,a3,a4,a5,a6,b1,b2,b3,b4,b5,b6,b7⟩:=x;have I1:=sQ (sQ I b3 b6.un b6.loc b6.fs (λv=>by rw[b4];simp)) a1 a6.un a6.loc a6.fs (λv=>by rw[a4];simp);refine nB I1 hN hi hl λs' I2=>k s' (unpin (unpin I2)) ⟨oe,vs,T,oT,ts,(I2.pin (a,oe) (by simp)).1,a2,a3,a4,a5,a6,b1,b2,(I2.pin (T,oT) (by simp)).1,b4,b5,b6,b7⟩
theorem FE{A:aX}{i:Nat}{x:Str}{pos:Pos}{v:V}{Q:ae->ag->Prop}(I:Inv X pins σ' H s)(hN:X.N[i]?=some x)(hl:X.env.scope.names.lookup x=some .local)(hv:Vis X.env.scope x)(e:σ'[i]?=some (some v))(k:∀u,aT v u->Q u s)
  (hd:(x == ("__debug__":Str))=false:=by decide):aq (au X.prog X.w) A (aK (.Name x pos) X.env) Q E s:=by
 obtain⟨m,hn,hv'⟩:=I.loc;obtain⟨u,r,l⟩:=hv' i x v hN e hv;rcases l with⟨hk,hm⟩|⟨hk,c,hc,hcell⟩
 ·exact wpAny_Name (wpAny_loadName_local I.ok.kind hk hn hm (k u r)) hd
 ·have hl':X.env.kindOf x=some .local:=hl;rcases hk with hk|hk <;> (rw[hl']at hk;cases hk)
theorem BT{c c2 i:Nat}{cs:List Nat}{t:az}{x n tx:Str}{bm:List ae}{B newId initId:String}{np kp cpos ep rpos hpos:Pos}{kc:Nat}{Q:Flow->ag->Prop}(hok:cs.contains c=true)(hc:fl c=none)(hc2:fl c2≠none)(ht:qv G X cs t)
  (FB:ExcBaseFacts B newId initId bm) (q:PySem.W.excIn X.K (G.cl c2) bm newId=true) (hm:X.mg x=some (.ref (G.cl c2))) (hg:Gl X x) (hdb:(x == ("__debug__":Str))=false) (hsb:PySem.W.subIn X.K (.ref (G.cl c)) (.type "BaseException")=some true)
  (hN:X.N.Nodup) (hi:X.N[i]?=some n) (hl:X.env.scope.names.lookup n=some .local) (hv:Vis X.env.scope n) (hdn:(n == ("__debug__":Str))=false) (fr:X.A.frames=some (X.env::X.outer)) (hst:X.stack=X.env::X.outer) (hf:X.env.frame=some X.env.locals)
  (I:Inv X pins σ' H s) (xx:Exc X pins H (fl c) (G.cl c) a s) (P:∀σ2 b s2,Inv X pins σ2 H s2->Exc X pins H (fl c2) (G.cl c2) b s2->E (.ref b) s2) :
  aq (au X.prog X.w) X.A (handleBy (.ref a) X.env [.ExceptHandler (some t) (some n) [.Raise (some (.Call (.Name x np) [.Constant (.str tx) kc kp] [] cpos)) (some (.Name n ep)) rpos] hpos]) Q E s:=by
 have key:∀s1,Inv X pins σ' H s1->Exc X pins H (fl c) (G.cl c) a s1->codeAny (au X.prog X.w) (X.A.mark (some (.ref a))) (.handlers (.ref a) [.ExceptHandler none (some n) [.Raise (some (.Call (.Name x np) [.Constant (.str tx) kc kp] [] cpos)) (some (.Name n ep)) rpos] hpos] X.env) (λr s₂=>match r with
     |.ok f=>aq (au X.prog X.w) X.A (do bindName X.env n .none;unbindBehindTheSuite X.env n hpos) (λ_ s₃=>Q f s₃) E s₂
     | .error x=>cameBackBy (au X.prog X.w) X.A X.env E x s₂) s1:=λs1 I1 x1=>by
  refine codeAny_handlers_suite_as (vd I1 x1 λs2 I2 x2=>?_);obtain⟨oe,vs,e1,e2,e3,e4,e5,e6,e7,e8⟩:=id x2;have I3:=sQ I2 e1 e6.un e6.loc e6.fs (λv=>by rw[e4];simp);refine nQ (X:=X) (v:=.ref a) I3 hN hi (.inl hl) rfl (λs3 I4=>?_) (.inr hl);refine wpAny_execs_cons ?_;obtain⟨tl,N,nm,qn,bs,hdt,sn,sb,ab,col,dd,k0,k1,k2,k3,k5,mN,oC,oN,ni,T⟩:=v6 I4.ok.mod.kin q;refine A5 (K:=X.K) (a:=a) (Ca:=G.cl c) (C:=G.cl c2) (nm:=nm) (q:=qn) (N:=N) (bs:=bs) (bm:=tl) (hdct:=hdt) (sn:=sn) (sub:=sb) (ab:=ab) (col:=col) (dd:=dd) (k0:=k0) (k1:=k1) (k2:=k2) (k3:=k3) (k5:=k5) FB FB.hasB FB (mN:=mN) (T.hasType FB.hasBase) rfl hsb rfl ni (hI (Inv.mark I4 (some (.ref a))) hg hm ⟨rfl,?_⟩ hdb);show aq _ _ (evalArgs (.ref (G.cl c2)) true [(false,aK (.Constant (.str tx) kc kp) X.env)] []) _ _ s3;refine Calls.evalArgs_plain (Calls.spliced_cons (Calls.Constant_str (Calls.spliced_nil ?_)));have pa:=(I4.pin (a,oe) (by simp)).1;refine⟨rfl,(show 1≤aW by decide),I4.bk _ _ oC,oN.keeps I4.bk,T.keeps I4.bk,I4.kIn,⟨oe,vs,pa,e2,e4,e8 hc⟩,λh' b hm'=>⟨?_,λh₂ k₂ hb=>?_⟩⟩
  ·have I5:Inv X ((a,oe)::pins) (σ'.set i (some (.ref a))) H { s3 with heap:=h',toks:=s3.toks+1 }:=I4.kept hm'.keeps;refine FE (v:=.ref a) I5 hi hl hv ?_ (λu r=>⟨r,rfl⟩) hdn;rw[iA (by rw[I.len];exact(bT.mp hi).1)]
  ·obtain⟨t0,hb⟩:=hb;have I6:Inv X ((a,oe)::pins) (σ'.set i (some (.ref a))) H { s3 with heap:=h₂,toks:=s3.toks+1 }:=I4.kept k₂;have x6:Exc X pins H (fl c2) (G.cl c2) b { s3 with heap:=h₂,toks:=s3.toks+1 }:=⟨_,_,hb,rfl,rfl,rfl,by simp,Fp.of (unpin I4) hm'.new (Inv.untracked I4 hm'.new),.inl rfl,λz=>absurd z hc2⟩
   refine kG (X:=X) fr hst hf (unpin I6) x6 λs4 I7 x7=>?_;refine Cy I7 x7 hN hi hl λs5 I8 x8=>?_;unfold PySem.passOn;obtain⟨ob,ws,T2,oT,ts,a1,a2,a3,a4,a5,a6,b1,b2,b3,b4,b5,b6⟩:=id x8;refine ak (wpAny_field a1 a4 b1 ?_);rw[if_neg (by simp)];refine ak (jj I8 x8 λs6 I9 x9=>wpAny_throw ?_);refine kG (X:=X) fr hst hf I9 x9.sh λs7 I10 x10=>?_;show cameBackBy (au X.prog X.w) X.A X.env E (.ref b) s7;unfold cameBackBy;obtain⟨ob,ws,T2,oT,ts,a1,a2,a3,a4,a5,a6,b1,b2,b3,b4,b5,b6⟩:=id x10;refine ak (wpAny_field a1 a4 b1 ?_);rw[if_neg (by simp)];exact jj I10 x10 λs8 I11 x11=>P _ _ _ I11 x11.sh
 refine wpAny_handleBy_cons (codeAny_handlers_test (br (ht hok I xx key) (λcv s1 w=>br w (λb s2 z=>?_) λ_ _ z=>z) λ_ _ z=>z)) (λq=>nomatch q);obtain⟨rfl,r⟩:=z;exact r
end
theorem wt{c2 i:Nat}{cs:List Nat}{t:az}{x n tx:Str}{bm:List ae}{B newId initId:String}{np kp cpos ep rpos hpos pos:Pos}{kc:Nat}{body:List aV}{gb:MS}(hb:∀pn EX,GSs G EX (Cx.pinned X pn) body gb)(ht:qv G X cs t)
  (FB:ExcBaseFacts B newId initId bm) (q:PySem.W.excIn X.K (G.cl c2) bm newId=true) (hm:X.mg x=some (.ref (G.cl c2))) (hcs:∀c,cs.contains c=true->fl c=none/\PySem.W.subIn X.K (.ref (G.cl c)) (.type "BaseException")=some true)
  (hN:X.N.Nodup) (hi:X.N[i]?=some n) (hl:X.env.scope.names.lookup n=some .local) (hv:Vis X.env.scope n) (hc2:fl c2≠none:=by decide) (hg:Gl X x:=by rfl) (hdb:(x == ("__debug__":Str))=false:=by decide) (hdn:(n == ("__debug__":Str))=false:=by decide) (hst:X.stack=X.env::X.outer:=by rfl) (hf:X.env.frame=some X.env.locals:=by rfl) :
  GS G ET X (.Try body [.ExceptHandler (some t) (some n) [.Raise (some (.Call (.Name x np) [.Constant (.str tx) kc kp] [] cpos)) (some (.Name n ep)) rpos] hpos] [] [] pos) (k9 cs c2 gb):=λE hp pins s σ' H D I e0=>bY e0 λm h σ ex S R P=>by
 have I0:=I.unwish;refine wpAny_Try_except ?_;have fin:∀f s1,SP X pins D f s1->(match f with|.next=>aq (au X.prog X.w) X.A (execs [] X.env) (SP (X.wish E) pins D) E s1|f=>SP (X.wish E) pins D f s1):=λf s1 q=>by
  cases f with
  |next=>obtain⟨σ2,H2,I2,z⟩:=q;exact wpAny_execs_nil ⟨σ2,H2,I2.wish E,z⟩
  |brk=>obtain⟨σ2,H2,I2,z⟩:=q;exact⟨σ2,H2,I2.wish E,z⟩
  |cont=>obtain⟨σ2,H2,I2,z⟩:=q;exact⟨σ2,H2,I2.wish E,z⟩
  |ret u=>obtain⟨v,σ2,H2,I2,r,z⟩:=q;exact⟨v,σ2,H2,I2.wish E,r,z⟩
 have back:∀{E':ae->ag->Prop}{f s1},SP ((Cx.pinned X (X.pn++pins)).wish E') [] D f s1->SP X pins D f s1:=λ{E' f s1} q=>by
  cases f with
  |next=>obtain⟨σ2,H2,I2,z⟩:=q;exact⟨σ2,H2,Inv.ofPn I0.ok I2.unwish,z⟩
  |brk=>obtain⟨σ2,H2,I2,z⟩:=q;exact⟨σ2,H2,Inv.ofPn I0.ok I2.unwish,z⟩
  |cont=>obtain⟨σ2,H2,I2,z⟩:=q;exact⟨σ2,H2,Inv.ofPn I0.ok I2.unwish,z⟩
  |ret u=>obtain⟨v,σ2,H2,I2,r,z⟩:=q;exact⟨v,σ2,H2,Inv.ofPn I0.ok I2.unwish,r,z⟩
 unfold k9 at P;cases eb:gb σ h with
 |ok f h'=>
   simp only[eb]at P;exact br (hb (X.pn++pins) ET (λ_ _=>False) PassesOwn.never [] s σ' H D ((Inv.toPn I0).wish _) ⟨m,h,σ,trivial,S,R,by rw[eb];exact P⟩) (λf s1 q=>fin f s1 (back q)) λ_ _ z=>z.elim
 |exc c h'=>
   simp only[eb]at P;split at P
   ·rename_i hcc;have fr:X.A.frames=some (X.env::X.outer):=by rw[I0.ok.frames,hst]
    refine br (hb (X.pn++pins) (λz=>z=σ') (EB G (Cx.pinned X (X.pn++pins)) (λz=>z=σ') [] m H c h') (EB.passes fr hst hf) [] s σ' H D ((Inv.toPn I0).wish _) ⟨m,h,σ,rfl,S,R,?_⟩) (λf s1 q=>fin f s1 (back q)) ?_
    ·rw[eb];intro pins' σ2 m2 H2 a s2 e2 x2 R2 I2 q2;exact⟨σ2,m2,H2,a,e2,x2,R2,I2.pins_of (λp hp=>absurd hp (by simp)),rfl,q2.imp λb fb=>⟨fb.un,fb.loc,fb.fs,fb.new,fb.ce,λp hp=>fb.pin p (gp _ (by simpa using hp))⟩⟩
    ·rintro e s1 ⟨σ2,m2,H2,a,rfl,x2,R2,I2,rfl,q2⟩;have I3:=Inv.ofPn I0.ok I2;have q3:Exc X pins H2 (fl c) (G.cl c) a s1:=q2.imp λb fb=>Fp.ofPn fb;refine kG (X:=X) fr hst hf I3 q3 λs4 I4 q4=>?_;refine jj I4 q4 λs5 I5 q5=>?_;exact BT (X:=X) (G:=G) hcc (hcs c hcc).1 hc2 @ht FB q hm hg hdb (hcs c hcc).2 hN hi hl hv hdn fr hst hf I5 q5.sh λσ6 b s6 I6 x6=>P pins σ6 m2 H2 b s6 trivial x2 R2 I6 x6
   ·exact P.elim
 |stuck=>
   simp only[eb]at P;exact P.elim
end L2.Rv
namespace L2.Rv
open PySem PySem.Spec PyProof.Rows
variable {G:Gb}{m m' m1 m2:List ad}{h h' h1 h2:MH}{H H' H1 H2:Hp}{X:Cx}{E:ae->ag->Prop}{EX:St->Prop}{σ:MSt}{σ':St}
def Gn(G:Gb)(Y:Cx)(src:Src)(gelt:ME)(σ:MSt)(x:List Str)(fp:List ad)(tn:Nat->aI->Prop)(m1:List ad)(H2:Hp)(D:ad)(c:Nat)(hE:MH)(n:Nat)(s:ag):Prop:=∃k σc H5 m5 h5 acc vs,n=src.items.length-k/\k≤src.items.length/\Inv Y [] σc H5 s/\tn k s.heap/\(∀b∈fp,H5 b=none)/\SR G m5 H5 (σ++bF x.length none) σc/\HR G m5 h5 H5/\Ext m1 H2 m5 H5/\D∉m5/\VRs G m5 H5 acc vs/\H5 D=some (.lst vs)/\acc.length≤k/\bS src none gelt σ (src.items.drop k) h5=.exc c hE
theorem B0{x:List Str}{one:Bool}{pos:Pos}{tg elt iter:az}{scope:Scope}{cl:List (Str×ad)}{gelt:ME}{src:Src}{J:It}{fp:List ad}{it D C:ad}{tn:Nat->aI->Prop}{s3 s4:ag}{H2 H3 H4:Hp}{pins:List (ad×aw)}{c:Nat}{hE:MH}
  (ok:dz X x scope cl) (helt:∀C s H fp pins,GE G (bU X x scope cl C s H fp pins) elt gelt) (htg:∀C s H fp pins,GTg G (bU X x scope cl C s H fp pins) tg one (hV X.N.length x.length)) (hcalm:X.calm=true) (T:Turn X.prog X.w X.K tg J fp it tn) (hJ:JOk G J src one x.length m1 H2) (hlen:src.items.length≤100000)
  (hall:bS src none gelt σ src.items h1=.exc c hE) (f3:∀b∈fp,fe X pins H3 b) (hC:∀b∈fp,b≠C) (hst:∀b∈fp,b∉frs X.stack) (I4:Inv (bU X x scope cl C s3 H3 fp pins) [] (σ'++bF x.length none) H4 s4) (st4:tn 0 s4.heap) (S1:SR G m1 H4 σ σ') (R1:HR G m1 h1 H4) (x4:Ext m1 H2 m1 H4)
  (hD:H2 D=none) (nD:D∉m1) (eD:H4 D=some (.lst [])) (frp:∀b∈fp,H4 b=none) {Rr:Result->ag->Prop}
  (hX:∀pins' σc H5 m5 a s5,Inv (bU X x scope cl C s3 H3 fp pins) pins' σc H5 s5->HR G m5 hE H5->Ext m1 H2 m5 H5->Exc (bU X x scope cl C s3 H3 fp pins) pins' H5 (fl c) (G.cl c) a s5->Nt X.prog X.w X.A (compEnvC scope cl C X.env) Rr (.ref a) s5) :
  codeAny (au X.prog X.w) X.A (.compLoop (.ListComp elt [⟨tg,iter,[],0⟩] scope pos) 0 (.ref it) (.ref D) (compEnvC scope cl C X.env)) Rr s4:=by
 have len1:σ'.length=X.N.length:=by
  have:=I4.len;simp[bU,f9]at this;exact this
 have lenσ:σ.length=X.N.length:=S1.len.trans len1;have stat:∀{H':Hp}{pl:List (ad×aw)},(∀b∈fp,H' b=none)->(∀p∈pl,False)->∀b∈fp,fe (bU X x scope cl C s3 H3 fp pins) pl H' b:=λhn hpl b hb=>
  ⟨hn b hb,hC b hb,hst b hb,.inl hb,λy c e=>(f3 b hb).2.2.2.2.1 y c (ok.cells y c e),λp hp=>by
   rcases c6.mp hp with z|z
   ·exact(f3 b hb).2.2.2.2.2 p z
   ·exact (hpl p z).elim⟩
 have S1':SR G m1 H4 (σ++bF x.length none) (σ'++bF x.length none):=⟨by simp [S1.len],λi v e=>by
  by_cases hi:i<σ.length
  ·rw[eM hi]at e;obtain⟨v',q,r⟩:=S1.sl i v e;exact⟨v',by rw[eM (by rw[←S1.len];exact hi)];exact q,r⟩
  ·rw[ic (by lia),iC]at e;split at e <;> cases e⟩
 refine yp (λn s=>Gn G (bU X x scope cl C s3 H3 fp pins) src gelt σ x fp tn m1 H2 D c hE n s) ?_ src.items.length ⟨0,_,H4,m1,h1,[],[],rfl,d9 _,I4,st4,frp,S1',R1,x4,nD,.nil,eD,bc _,hall⟩;rintro n s ⟨k,σc,H5,m5,h5,acc,vs,rfl,hk,I5,st5,fr5,S5,R5,x5,nD5,ra,eD5,hac,hci⟩;by_cases hlt:k<src.items.length
 ·have ed:src.items.drop k=src.items[k]::src.items.drop (k+1):=qe hlt;rw[ed]at hci;unfold bS at hci;split at hci
  case isFalse=>cases hci
  case isTrue hok=>
  obtain⟨j1,_⟩:=hJ m5 h5 H5 x5 R5 hok;obtain⟨lv,go,yl⟩:=j1 k src.items[k] (by simp[hlt]);generalize src.items[k]=v at lv yl hci;refine br (T.item (bU X x scope cl C s3 H3 fp pins) rfl rfl rfl hcalm k [] s σc H5 (λ_ _=>False) I5 (stat fr5 λp z=>by cases z) st5 go) (λr s6 q6=>?_) λ_ _ z=>z.elim;obtain⟨w,rfl,q6⟩:=q6;dsimp only;have q7:aq (au X.prog X.w) X.A (letOwnedTupleGo tg (.ref it) w >>= λ_=>assign tg (compEnvC scope cl C X.env) w) (λ_ s8=>∃σ8 H8 hp7,Inv (bU X x scope cl C s3 H3 fp pins) ([]++jf fp hp7) σ8 H8 s8/\Ext m5 H5 m5 H8/\HR G m5 h5 H8/\SR G m5 H8 (σ++v.map some) σ8/\tn (k+1) hp7) (λ_ _=>False) s6:=by
   refine ak (br q6 (λ_ s7 e0=>e0.elim λx' e1=>e1.elim λH' e2=>e2.elim λI7 e3=>e3.elim λrw7 e4=>e4.elim λy7 e5=>e5.elim λst7 fr7=>?_) λ_ _ z=>z);obtain⟨xx,RR,rx⟩:=yl x' H' y7;have I8:=I7.pinned (stat fr7 λp z=>by cases z) (T.obj _ _ st7);obtain⟨g,pg,hg⟩:=htg C s3 H3 fp pins (λ_ _=>False);refine br (pg _ s7 σc H' x' w (λσ9 H9=>H9=H'/\SR G m5 H' (σ++v.map some) σ9) (I8.wish _) rw7 (hg m5 H' v x' _ σc _ (S5.mono xx) rx (by simpa using lv) λσ1' S1'=>⟨rfl,?_⟩)) (λ_ s8 e0=>bD e0 λσ9 H9 I9 e2 S9=>?_) λ_ _ z=>z
   ·have e:=ur v σ;rw[lenσ,lv]at e;rw[e]at S1';exact S1'
   ·subst e2;exact⟨σ9,H9,s7.heap,I9.unwish,xx,RR,S9,st7⟩
  refine br q7 (λ_ s8 e0=>e0.elim λσ8 e1=>e1.elim λH8 e2=>e2.elim λhp7 e3=>e3.elim λI8 e4=>e4.elim λx58 e5=>e5.elim λR8 e6=>e6.elim λS8 st7=>?_) λ_ _ z=>z.elim;simp only[oj];refine aF ?_;rw[if_pos rfl];obtain⟨eD8,nD8⟩:=x58.fr D _ eD5 nD5 (λ_ z=>nomatch z);simp only[bnd,ret,if_true]at hci;cases eg:gelt (σ++v.map some) h5 with
  |stuck=>rw[eg]at hci;cases hci
  |exc c' h9=>
    rw [eg] at hci;injection hci with e1 e2;subst e1;subst e2;exact br (helt C s3 H3 fp pins (λe s'=>Nt X.prog X.w X.A (compEnvC scope cl C X.env) Rr e s') ET _ s8 σ8 H8 (λ_ _=>False) (I8.wish _) ⟨m5,h5,σ++v.map some,trivial,S8,R8,by
     rw [eg];exact λpins' σ2 m9 H9 a s9 _ x9 R9 I9 xx=>hX pins' σ2 H9 m9 a s9 I9 R9 (x5.trans (x58.trans x9)) xx⟩) (λxv s9 e0=>by obtain ⟨_,_,_,_,z⟩:=e0;exact z.elim) λ_ _ z=>z
  |ok ve h9=>
    rw[eg]at hci;dsimp only at hci;have hci9:bS src none gelt σ (src.items.drop (k+1)) h9=.exc c hE:=by
     cases ec:bS src none gelt σ (src.items.drop (k+1)) h9 with
     |ok ws h10=>rw[ec]at hci;cases hci
     |exc c' h'=>rw[ec]at hci;exact hci
     |stuck=>rw[ec]at hci;cases hci
    refine br (helt C s3 H3 fp pins (λ_ _=>False) ET _ s8 σ8 H8 (λv' H9=>∃m9,Ext m5 H8 m9 H9/\HR G m9 h9 H9/\VR G m9 H9 ve v') (I8.wish _) ⟨m5,h5,σ++v.map some,trivial,S8,R8,by rw[eg];exact λm9 H9 y R9 v' rv=>⟨m9,y,R9,rv⟩⟩) (λxv s9 e0=>e0.elim λv' e1=>e1.elim λH9 e2=>e2.elim λI9 e3=>e3.elim λr9 e4=>e4.elim λm9 e5=>e5.elim λx9 e6=>e6.elim λR9 rv=>?_) λ_ _ z=>z.elim;obtain⟨eD9,nD9⟩:=x9.fr D _ eD8 nD8 (λ_ z=>nomatch z);have x59:Ext m1 H2 m9 H9:=(x5.trans x58).trans x9;refine br (uF (X:=(bU X x scope cl C s3 H3 fp pins).wish λ_ _=>False) _ s9 σ8 H9 (.ref D) [v'] (.ref D) [xv] (λ_ H10=>H10=upd H9 D (.lst (vs++[v']))) I9 rfl (.cons r9 .nil) ⟨D,vs,v',rfl,rfl,eD9,?_,rfl⟩) (λ_ s10 e0=>bD e0 λv10 H10 I10 _ e10=>?_) λ_ _ z=>z.elim
    ·rw[←Paired.length ra];exact c5 (qS hac (c5 hlt hlen)) (big (bc _))
    ·subst e10;have mD:Mn m9 H9 m9 (upd H9 D (.lst (vs++[v']))):=Mn.sideSet λys z=>by rw[eD9]at z;cases z
     have I10:=I10.unwish;have S9:=(S8.mono x9).mn mD;have R9':=R9.sideSet nD9 (λys z=>by rw[eD9]at z;cases z) (λo' ys z=>by rw[eD9]at z;cases z) (u:=.lst (vs++[v'])) (λv z=>by rw[eD9]at z;cases z;exact λy=>y);have pn:∀b∈fp,∀o,hp7.get? b=some o->s10.heap.get? b=some o/\(upd H9 D (.lst (vs++[v']))) b=none:=λb hb o e=>
      have z:=I10.pin (b,o) (cK _ (cK _ (pR hb e)))
      ⟨z.1,z.2.1⟩
     refine⟨src.items.length-(k+1),by lia,k+1,σ8,_,m9,h9,acc++[ve],vs++[v'],rfl,hlt,I10.pins_of (λp hp=>absurd hp (by simp)),T.keep _ _ _ st7 λb hb o e=>(pn b hb o e).1,λb hb=>?_,?_,R9',x59.sideSet hD,nD9,VRs.mono mD (im (x9.vrs (x58.vrs ra)) (.cons rv .nil)),dE,by simp;lia,hci9⟩
     ·obtain⟨o,e,_⟩:=T.obj _ _ st7 b hb;exact(pn b hb o e).2
     ·refine⟨by have:=S9.len;simp[lv]at this ⊢;exact this,λi v' e=>S9.sl i v' ?_⟩;by_cases hi:i<σ.length
      ·rw[eM hi]at e ⊢;exact e
      ·rw[ic (by lia),iC]at e;split at e <;> cases e
 ·have e:k=src.items.length:=by lia
  subst e;rw[rD]at hci;unfold bS at hci;split at hci <;> cases hci
theorem AD{x:List Str}{one:Bool}{pos:Pos}{tg elt iter:az}{scope:Scope}{cl:List (Str×ad)}{gi:MI}{gelt:ME}{src:Src}{c:Nat}{hE:MH}(ok:dz X x scope cl)(hi:GI G X tg iter one x.length gi)
  (helt:∀C s H fp pins,GE G (bU X x scope cl C s H fp pins) elt gelt) (htg:∀C s H fp pins,GTg G (bU X x scope cl C s H fp pins) tg one (hV X.N.length x.length)) (hcalm:X.calm=true) {pins:List (ad×aw)} {s:ag} (I:Inv X pins σ' H s) (ex:EX σ') (S:SR G m H σ σ') (R:HR G m h H)
  (hgi:gi σ h=.ok src h1) (hlen:src.items.length≤100000) (hall:bS src none gelt σ src.items h1=.exc c hE) (hstk:X.stack=X.env::X.outer) (hf:X.env.frame=some X.env.locals) {use:Option (ae->Sem Unit)} {Q':ae->ag->Prop} (P:XP G X E EX m H c hE) :
  aq (au X.prog X.w) X.A (aK iter X.env) (λxv s₁=>aq (au X.prog X.w) X.A (pyIter xv) (λit s₂=>aq (au X.prog X.w) X.A (newList []) (λacc s₃=>
   aq (au X.prog X.w) X.A (newFunctionEnv scope X.env.globals cl [] X.env.qual none .none (some X.env)) (λcenv s₄=>
    codeAny (au X.prog X.w) X.A (.compStart (.ListComp elt [⟨tg,iter,[],0⟩] scope pos) 0 it acc { cenv with scope:=relabel scope X.env }) (compPost (au X.prog X.w) X.A E use Q' acc cenv.locals) s₄) E s₃) E s₂) E s₁) E s:=by
 obtain ⟨wi,pw,hw⟩:=hi E EX;refine br (pw pins s σ' H (λJ H2=>∃m1,JOk G J src one x.length m1 H2/\HR G m1 h1 H2/\Ext m H m1 H2) (I.wish E)
  (hw σ' H _ ⟨m,h,σ,ex,S,R,by rw [hgi];exact λm1 H1 x1 R1 J hJ=>⟨m1,hJ,R1,x1⟩⟩)) (λxv s1 q1=>br q1 (λitv s2 q2=>?_) λ_ _ z=>z) λ_ _ z=>z
 obtain⟨it,fp,tn,J,H2,rfl,I2,T,st2,f2,m1,hJ,R1,x1⟩:=q2;have I2:=I2.unwish;have f2:∀b∈fp,fe X pins H2 b:=f2;have fD:H2 s2.heap.objs.size=none:=I2.hok.fresh (bc _);refine wpAny_newObj_type ?_;have I3:=I2.laid (t':=s2.toks) (o:=.lst []) (h':=s2.heap.push { cls:=.type "list",dict:=none,data:=.seq ([]:List ae).toArray }) (λb u e=>bJ _ e) (bc _) ⟨d9 _,[],0,.nil,dH _ rfl⟩;generalize hs3:({ s2 with heap:=s2.heap.push { cls:=.type "list",dict:=none,data:=.seq ([]:List ae).toArray } }:ag)=s3 at I3 ⊢;have e3:∀b o,s2.heap.get? b=some o->s3.heap.get? b=some o:=λb o e=>by rw[←hs3];exact bJ _ e
 have z3:s2.heap.objs.size<s3.heap.objs.size:=by rw[←hs3];simp
 have ffo:∀b∈fp,∃o,s2.heap.get? b=some o:=λb hb=>let ⟨o,e,_⟩:=T.obj 0 _ st2 b hb;⟨o,e⟩;have f3:∀b∈fp,fe X pins (upd H2 s2.heap.objs.size (.lst [])) b:=λb hb=>by
  obtain⟨o,e⟩:=ffo b hb;exact⟨by rw[aY (cT (bC e))];exact(f2 b hb).1,(f2 b hb).2⟩
 refine wpAny_newFunctionEnv ok.nocell (λy hy=>by simp at hy) (λhp4 ns4 sb4=>?_) ok.kind;have k4:∀b o,s3.heap.get? b=some o->hp4.get? b=some o:=λb o e=>sb4.extBut b o (cT (bC e)) (bJ _ e);have I4:=vP (t:=s3.toks+([]:List (Str×ae)).length) ok I3 f3 (λb hb=>let ⟨o,e⟩:=ffo b hb;⟨o,e3 b o e⟩) ⟨_,ns4⟩ k4;have st4:tn 0 hp4:=T.keep 0 _ _ st2 λb hb o e=>k4 b o (e3 b o e);have stkF:∀b∈fp,b∉frs X.stack:=λb hb z=>by
  rcases bE.mp (I3.stkSub b z) with y|y
  ·exact(f3 b hb).2.1 y
  ·exact(f3 b hb).2.2.1 y
 have fr:X.A.frames=some (X.env::X.outer):=by rw[I.ok.frames,hstk]
 have loop:=B0 (pos:=pos) (iter:=iter) (C:=s3.heap.objs.size) (s3:=s3) (D:=s2.heap.objs.size) ok helt htg hcalm T hJ hlen hall f3 (λb hb=>let ⟨o,e⟩:=ffo b hb;cT (bC (e3 b o e))) stkF I4 st4 ((S.mono x1).mono (Ext.side fD)) (R1.side fD) (Ext.side fD) fD (R1.fresh fD) dE (λb hb=>(f3 b hb).1)
  (Rr:=compPost (au X.prog X.w) X.A E use Q' (.ref s2.heap.objs.size) s3.heap.objs.size) λpins' σc H5 m5 a s5 I5 R5 x5 xx=>by
   have IX:Inv X pins σ' H5 s5:=I3.call' I5.os I5.base I5.hok I5.bare λb hb=>⟨(f3 b hb).2.2.2.1,(f3 b hb).2.1,(f3 b hb).2.2.2.2.1,(f3 b hb).2.2.2.2.2⟩;have fC:Fp X pins H5 s3.heap.objs.size:=Fp.of I3 (lD (bc _)) I5.free;obtain⟨mm,⟨oC,es,ep,hoC,hdC,hkC⟩,_⟩:=I5.loc;have I6:Inv X (pins++[(s3.heap.objs.size,oC)]) σ' H5 s5:=IX.pins_of λp hp=>by
    rcases c6.mp hp with z|z
    ·exact IX.pin p (cK _ z)
    ·cases dC.mp z;exact⟨hoC,fC.un,fC.loc,fC.fs,λv' z=>by rw[hdC]at z;cases z⟩
   have fb:∀b,Fp (bU X x scope cl s3.heap.objs.size s3 (upd H2 s2.heap.objs.size (.lst [])) fp pins) pins' H5 b->Fp X (pins++[(s3.heap.objs.size,oC)]) H5 b:=λb q=>by
    have f:Fp X pins H5 b:=by
     rcases q.new with z|z
     ·exact⟨q.un,(f3 b z).2.1,(f3 b z).2.2.1,(f3 b z).2.2.2.1.imp id lD,(f3 b z).2.2.2.2.1,(f3 b z).2.2.2.2.2⟩
     ·exact Fp.of I3 z q.un
    refine⟨f.un,f.loc,f.fs,f.new,f.ce,λp hp=>?_⟩;rw[←vb]at hp;rcases c6.mp hp with z|z
    ·exact f.pin p z
    ·cases dC.mp z;exact λy=>q.loc y.symm
   have x6:Exc X (pins++[(s3.heap.objs.size,oC)]) H5 (fl c) (G.cl c) a s5:=ij.imp fb xx;show aq _ X.A (noteFrame (.ref a) X.env) _ _ s5;refine kG (X:=X) fr hstk hf I6 x6 λs7 I7 x7=>?_;have pC:=I7.pin (s3.heap.objs.size,oC) (cK _ (cK _ (dC.mpr rfl)));refine⟨mm,⟨oC,es,ep,pC.1,hdC,hkC⟩,λh8 hs8 cenv hcenv=>?_⟩;have I8:Inv X pins σ' H5 s7:=I7.pins_of λp hp=>I7.pin p (cK _ (gp _ hp));have I9:Inv X pins σ' H5 { s7 with heap:=h8 }:=fC.turned (t':=s7.toks) I8 λc o hc e=>hs8.extBut c o hc e;obtain⟨oe,vs,TT,oT,ts,a1,a2,a3,a4,a5,a6,b1,b2,b3,b4,b5,b6,b7⟩:=x7;have na:∀b,Fp X (pins++[(s3.heap.objs.size,oC)]) H5 b->b≠s3.heap.objs.size:=λb q z=>q.pin (s3.heap.objs.size,oC) (cK _ (cK _ (dC.mpr rfl))) z.symm;have nf:∀b,Fp X (pins++[(s3.heap.objs.size,oC)]) H5 b->Fp X pins H5 b:=λb q=>⟨q.un,q.loc,q.fs,q.new,q.ce,λp hp=>q.pin p (by rw[←vb];exact gp _ hp)⟩
   have x9:iX (fl c) (G.cl c) a (Fp X pins H5) h8:=⟨oe,vs,TT,oT,ts,hs8.extBut _ _ (na a a6) a1,a2,a3,a4,a5,nf a a6,b1,b2,hs8.extBut _ _ (na TT b6) b3,b4,b5,nf TT b6,b7⟩;unfold PySem.passOn;refine ak (wpAny_field (hs8.extBut _ _ (na a a6) a1) a4 b1 ?_);rw[if_neg (by simp)];exact ak (jj I9 x9 λs10 I10 x10=>wpAny_throw (P pins σ' m5 H5 a s10 ex (x1.trans x5) R5 I10 x10.sh))
 exact codeAny_compStart_list loop (T.self X.A 0 _ _ _ st4 loop)
theorem Hb{x:List Str}{y:Str}{n:Nat}{one:Bool}{py pos spos:Pos}{tg elt iter:az}{scope:Scope}{cl:List (Str×ad)}{gi:MI}{gelt:ME}(ok:dz X x scope cl)(hi:GI G X tg iter one x.length gi)
  (helt:∀C s H fp pins,GE G (bU X x scope cl C s H fp pins) elt gelt) (htg:(f9 X.N x).Nodup->∀C s H fp pins,GTg G (bU X x scope cl C s H fp pins) tg one (hV X.N.length x.length)) (hN:X.N.Nodup) (hy:X.N[n]?=some y:=by rfl) (hl:X.env.scope.names.lookup y=some .local:=by rfl) (hcalm:X.calm=true:=by rfl) (hs:∀z,foldedSetIterable iter X.env z=pure z:=by intro _;rfl)
  (hsw:swapsWith (.ListComp elt [⟨tg,iter,[],0⟩] scope pos) (some (.Name y py)) spos.line X.env=pure true:=by rfl) (hstk:X.stack=X.env::X.outer:=by rfl) (hf:X.env.frame=some X.env.locals:=by rfl) :
  GS G EX X (.Assign [.Name y py] (.ListComp elt [⟨tg,iter,[],0⟩] scope pos) spos) (aS n (gE gi gelt)):=λE hp pins s σ' H D I e0=>bY e0 λm h σ ex S R P=>by
 by_cases hx:∃src h1 c hE,gi σ h=.ok src h1/\src.items.length≤100000/\bS src none gelt σ src.items h1=.exc c hE
 ·obtain⟨src,h1,c,hE,hgi,hlen,hall⟩:=hx;have er:aS n (gE gi gelt) σ h=.exc c hE:=by
   unfold aS gE bnd;simp only[hgi,hlen,hall,if_true]
  rw[er]at P;show aq _ _ (exec _ X.env) _ _ s;rw[exec_Assign_Name_used _ _ _ _ hsw];refine ak (wpAny_standAt (ak ?_));show aq _ X.A (do let _ ←comprehension (.ListComp elt [⟨tg,iter,[],0⟩] scope pos) scope X.env _ (newList []) false (aK iter X.env) (some (assign (.Name y py) X.env))) _ _ s;refine ak (br (wpAny_comprehension_free (use:=some (assign (.Name y py) X.env)) (Q:=λ_ s'=>SP (X.wish E) pins D .next s') rfl hs ok.clos ok.kind ok.locs ?_) (λ_ s' hq=>aF (aF hq)) λ_ _ z=>z);exact AD (h1:=h1) ok hi helt (htg ok.nd) hcalm I.unwish ex S R hgi hlen hall hstk hf P
 ·have e:gE gi gelt σ h=cZ gi none gelt σ h:=by
   unfold gE cZ bnd;cases eg:gi σ h with
   |ok src h1=>
     dsimp only;by_cases hlen:src.items.length≤100000
     ·rw[if_pos hlen,if_pos hlen];unfold noExc;cases ec:bS src none gelt σ src.items h1 with
      |exc c hE=>exact absurd ⟨src,h1,c,hE,eg,hlen,ec⟩ hx
      |_=>rfl
     ·rw[if_neg hlen,if_neg hlen]
   |_=>rfl
  refine mq (ifs:=[]) (gc:=none) ok hi helt trivial htg hN hy hl hcalm hs hsw E hp pins s σ' H D I ⟨m,h,σ,ex,S,R,?_⟩;have e2:aS n (cZ gi none gelt) σ h=aS n (gE gi gelt) σ h:=by unfold aS bnd;rw[e]
  rw[e2];exact P
theorem Fs{K:PySem.W.Frag}{f:Nat->ad}{C:ad}{al cs cs':List Nat}(hs:∀n∈al,PySem.W.subIn K (.ref (f n)) (.ref C)=some (cs'.contains n))(hc:(cs.all λn=>al.contains n&&cs'.contains n)=true):∀n,cs.contains n=true->PySem.W.subIn K (.ref (f n)) (.ref C)=some true:=λn hn=>by
 have z:=eY.mp hc n (by simpa using hn);simp only[eP]at z;rw[hs n (by simpa using z.1),z.2]
theorem Ce{K:PySem.W.Frag}{f:Nat->ad}{C1 C2:ad}{al cs cs1 cs2:List Nat}(h1:∀n∈al,PySem.W.subIn K (.ref (f n)) (.ref C1)=some (cs1.contains n))(h2:∀n∈al,PySem.W.subIn K (.ref (f n)) (.ref C2)=some (cs2.contains n))(hc:(cs.all λn=>al.contains n&&(cs1.contains n||cs2.contains n))=true) :
  ∀n,cs.contains n=true->∃b1 b2,PySem.W.subIn K (.ref (f n)) (.ref C1)=some b1/\PySem.W.subIn K (.ref (f n)) (.ref C2)=some b2/\(b1||b2)=true:=λn hn=>by
 have z:=eY.mp hc n (by simpa using hn);simp only[eP]at z;exact⟨_,_,h1 n (by simpa using z.1),h2 n (by simpa using z.1),z.2⟩
theorem yR:VO G pJ (λx y H Q=>∃i j,x=.str i/\y=.str j/\Q (.bl (!(!(Builtin.Str.occurrences j i 0 j.length 1).isEmpty))) H):=by
 intro X E EX m h H x y x' y' Q R rx ry P;cases x with
 |str s=>cases y with
   |str t=>
     cases(show x'=V.str s from rx);cases(show y'=V.str t from ry);exact⟨s,t,rfl,rfl,Post.here R P _ rfl⟩
   |_=>exact P.elim
 |_=>exact P.elim
section
open PySem.SeqAt PySem.MeetsSeq PySem.MeetsSeq2 PySem.SeqRoads2
open PySem.AutoSeq1 (wpAny_loadPart')
theorem GZ(a:ad)(ys:Array ae)(c:Nat)(q:ae)(d:Nat) :
  ∀t:Nat,ys.size-t=d->t≤ys.size->Meets (Builtin.«list.__contains__.loop» ⟨[.ref a,q,rawInt t],[]⟩)
   (λA R s=>s.heap.get? a=some (pW ys c)/\(∀k (hk:k<ys.size),EqAt A.in1 s ys[k] q false)/\R (.ok (.ret (.bool false))) s):=by
 induction d with
 |zero=>
   intro t e1 e2 prog w A R s z;obtain⟨hh,gg,dd,tt,oo⟩:=s;obtain⟨ga,eq,fin⟩:=z;obtain rfl:t=ys.size:=by lia
   wp_walk using wpAny_loadPart' ga
   have at':ys[((ys.size:Nat):Int).toNat]?=none:=by simp
   rw[at']
   wp_walk
   exact fin
 |succ d ih=>
   intro t e1 e2 prog w A R s z;obtain⟨hh,gg,dd,tt,oo⟩:=s;obtain⟨ga,eq,fin⟩:=z;have ht:t<ys.size:=by lia
   wp_walk using wpAny_loadPart' ga
   have at':ys[((t:Nat):Int).toNat]?=some ys[t]:=by simp[ht]
   have up:((t:Int)+1)=((t+1:Nat):Int):=by push_cast;rfl
   rw[at'];refine ak (eq t ht prog w _ _ ?_)
   wp_walk
   rw [up];exact ⟨plainId_quiet plain_contains_loop _,codeAny_builtin entry_contains_loop (by
    rw [Around.under_plainId plain_contains_loop _];exact ih (t + 1) (by lia) (by lia) prog w A R _ ⟨ga,eq,fin⟩)⟩
theorem Bv(a:ad)(ys:Array ae)(c:Nat)(q:ae) :
  Meets (Builtin.«list.__contains__» ⟨[.ref a,q],[]⟩)
   (λA R s=>s.heap.get? a=some (pW ys c)/\(∀k (hk:k<ys.size),EqAt A.in1 s ys[k] q false)/\R (.ok (.ret (.bool false))) s):=by
 intro prog w A R s z;obtain⟨hh,gg,dd,tt,oo⟩:=s;obtain⟨ga,eq,fin⟩:=z
 wp_walk using wpAny_loadPart' ga
 exact ⟨plainId_quiet plain_contains_loop _,codeAny_builtin entry_contains_loop (by
  rw [Around.under_plainId plain_contains_loop _];exact GZ a ys c q _ 0 rfl (d9 _) prog w A R _ ⟨ga,eq,fin⟩)⟩
end
theorem yQ{h:MH}{w:PyData}:∀{ys:List MV},gv h w ys=some true->∃j,lJ h w ys=some j
 |[],e=>by cases e
 |y::ys,e=>by
   unfold gv at e;unfold lJ;cases ed:dat h 6 y with
   |none=>rw[ed]at e;cases e
   |some d=>
     rw[ed]at e;dsimp only at e ⊢;split at e
     case isFalse=>cases e
     case isTrue sd=>
      rw[if_pos sd];split at e
      ·rename_i q;rw[if_pos q];exact⟨0,rfl⟩
      ·rename_i q;rw[if_neg q];obtain⟨j,ej⟩:=yQ e;rw[ej];exact⟨j+1,rfl⟩
theorem xF{pins:List (ad×aw)}{s:ag}{σ2:St}(I:Inv X pins σ2 H s)(R:HR G m h H){A:aX}(hu:A.units+64<cLine){w:MV}{w':V}{u:ae}{d:PyData}(rw':VR G m H w w')(ru:aT w' u)(dw:dat h 6 w=some d)(sw:SeqAt.shaped d=true) :
  ∀{ys:List MV}{ws:List V}{us:List ae},VRs G m H ys ws->Vals ws us->gv h d ys=some false->∀v∈us,SeqAt.EqAt A s v u false
 |[],_,_,.nil,.nil,e=>by simp
 |y::ys,_,_,.cons r t,.cons q tt,e=>by
   obtain⟨bs,r2⟩:=jw I R 6 w w' u d rw' ru dw;unfold gv at e;cases ey:dat h 6 y with
   |none=>rw[ey]at e;cases e
   |some dy=>
     rw[ey]at e;dsimp only at e;obtain⟨as,r1⟩:=jw I R 6 y _ _ dy r q ey;split at e
     case isFalse=>cases e
     case isTrue sy=>
      split at e
      ·cases e
      ·rename_i ht;have ih:=xF I R hu rw' ru dw sw t tt e;intro v hv;rcases bE.mp hv with ev|hv
       ·have:=SeqAt.eqAt_reads dy d A s _ u as bs r1 r2 (SeqAt.canLay_of_shaped sy) (SeqAt.canLay_of_shaped sw) (SeqAt.room_of_shaped sy hu);rw[nZ.mpr ht]at this;rw[ev];exact this
       ·exact ih v hv
def xc:R2:=λx y H Q=>∃(G:Gb) (m:List ad) (h:MH) (l:ad) (ys:List MV) (ws:List V) (w:MV) (d:PyData) (b:Bool),y=.ref l/\HR G m h H/\H l=some (.lst ws)/\VRs G m H ys ws/\VR G m H w x/\dat h 6 w=some d/\SeqAt.shaped d=true/\gv h d ys=some b/\Q (.bl b) H
theorem DN(hu:X.A.units+70<cLine):OpR X (cP .In) xc:=by
 rintro pins s σ H x y v u Q I rx ry ⟨G,m,h,l,ys,ws,w,d,b,rfl,R,hH,r1,r2,dw,sw,fj,q⟩;cases ry;obtain⟨z,its,n,r,hl,e⟩:=I.lstM hH;have hu1:X.A.in1.units+64<cLine:=by show X.A.units+1+64<cLine;lia
 cases b with
 |true=>
   obtain⟨j,fj⟩:=yQ fj;obtain⟨b,lj,bj,bn,be⟩:=xB (A:=X.A.in1) I R hu1 r2 rx dw sw r1 r fj;refine PySem.SeqRoads2.in_meets ⟨_,e,rfl⟩ F.slot_list_contains F.entry_list_contains (F.args_list_contains_2 _ _) (DS l its.toArray n v b j (by simpa using lj) bj (λi _ hi=>bn i hi)) ⟨e,λi hi hij=>be i _ hij ?_,_,rfl,⟨.bl true,H,I,rfl,q⟩⟩;rw[bT];exact⟨by simpa using hi,by simp⟩
 |false=>
   have be:=xF (A:=X.A.in1) I R hu1 r2 rx dw sw r1 r fj;exact PySem.SeqRoads2.in_meets ⟨_,e,rfl⟩ F.slot_list_contains F.entry_list_contains (F.args_list_contains_2 _ _) (Bv l its.toArray n v) ⟨e,λi hi=>be _ (by simp),_,rfl,⟨.bl false,H,I,rfl,q⟩⟩
theorem Dp:VO G mT xc:=by
 intro X E EX m h H x y x' y' Q R rx ry P;cases y with
 |ref a=>
   obtain⟨aa,ea,rfl⟩:=ry;obtain⟨o,eo,qo⟩:=R.get ea;unfold mT at P;dsimp only at P;rw[eo]at P;cases o with
   |lst ys=>
     obtain⟨ws,r,z⟩:=qo;dsimp only at P;cases ed:dat h 6 x with
     |none=>rw[ed]at P;exact P.elim
     |some d=>
       rw[ed]at P;dsimp only at P;split at P
       case isFalse=>exact P.elim
       case isTrue sd=>
        cases ei:gv h d ys with
        |none=>rw[ei]at P;exact P.elim
        |some b=>
          rw[ei]at P;exact⟨G,m,h,aa,ys,ws,x,d,b,rfl,R,z,r,rx,ed,sd,ei,Post.here R P _ rfl⟩
   |_=>exact P.elim
 |_=>exact P.elim
end L2.Rv
namespace L2.Rv
open PySem PySem.Spec PyProof.Rows
local instance:DecidableEq Key:=inferInstanceAs (DecidableEq (Int ⊕ Str))
local instance:BEq Key:=instBEqOfDecidableEq
local instance:LawfulBEq Key:=inferInstanceAs (@LawfulBEq Key instBEqOfDecidableEq)
noncomputable def eS(D:List Key)(k:Key):List Key:=if k∈D then D else D++[k]
section
variable {prog:bh}{w:aR}{A:aX}{E:ae->ag->Prop}{s:ag}
theorem vt{R:Result->ag->Prop}{S it l:ad}{items:Array ae}(hh:A.handled=none)(n1:l≠it)(n2:l≠S)(n3:it≠S) :
  ∀(ks:List Key) (i:Nat) (s:ag) (D:List Key),i≤items.size->s.heap.IsListIter it l i->s.heap.IsList l items->cg (λv k=>(bR prog w).is k v=true/\v.scannable=true) (items.toList.drop i) ks ->
  s.heap.SetOf (bR prog w) S (λk'=>decide (k'∈D)) D.length->D.length+ks.length+1<scanBound ->
  (∀hp tk,hp.SetOf (bR prog w) S (λk'=>decide (k'∈ks.foldl eS D)) (ks.foldl eS D).length->(∀c o,c≠S->c≠it->s.heap.get? c=some o->hp.get? c=some o)->R (.ok (.ret .none)) { s with heap:=hp,toks:=tk }) ->
  codeAny (au prog w) A (.builtin "set.update.loop" ⟨[.ref S,.ref it],[]⟩) R s
 |[],i,s,D,hi,git,gl,pr,gS,hz,fin=>by
   have hd:items.toList.drop i=[]:=by
    cases e:items.toList.drop i with
    |nil=>rfl
    |cons x xs=>rw[e]at pr;cases pr
   have no:items[i]?=none:=by
    have:=List.drop_eq_nil_iff.mp hd;simp at this ⊢;exact this
   refine codeAny_builtin F.entry_set_update_loop ?_;rw[Around.under_plainId F.plain_set_update_loop _];show aq _ A.in1 (pyNext (.ref it) >>= _) _ _ s;refine ak (wpAny_pyNext_list_end (A:=A.in1) hh git gl no λhp kk=>?_);refine aF (fin hp s.toks ?_ λc o c1 c2 e=>kk c o c2 e);obtain⟨o,es,ep,t,ho,rest⟩:=gS;exact⟨o,es,ep,t,kk _ _ n3.symm ho,rest⟩
 |k::ks,i,s,D,hi,git,gl,pr,gS,hz,fin=>by
   cases e:items.toList.drop i with
   |nil=>rw[e]at pr;cases pr
   |cons x xs=>
     rw[e]at pr;cases pr with
     |cons q qs=>
       have ex:items[i]?=some x:=by
        have:=congrArg (·[0]?) e;simpa using this
       have lt:i<items.size:=(Array.getElem?_eq_some_iff.mp ex).1;have ed:items.toList.drop (i+1)=xs:=by
        have:=congrArg List.tail e;simpa using this
       refine codeAny_builtin F.entry_set_update_loop ?_;rw[Around.under_plainId F.plain_set_update_loop _];show aq _ A.in1 (pyNext (.ref it) >>= _) _ _ s;refine ak (wpAny_pyNext_list_item (A:=A.in1) git gl ex λh1 git1 s1=>?_);have gS1:h1.SetOf (bR prog w) S (λk'=>decide (k'∈D)) D.length:=by
        obtain⟨o,es,ep,t,ho,rest⟩:=gS;exact⟨o,es,ep,t,s1.extBut _ _ n3.symm ho,rest⟩
       refine ak (wpAny_holding ?_);unfold setAdd;refine wpAny_holding ?_;refine ak ((bR prog w).pyHash (k:=k) q.1 ?_);simp only[cr]at hz;refine wpAny_setAddHashed_of (knd:=bR prog w) q.1 q.2 gS1 (by lia) λh2 sb gS2=>?_;have keep:∀c o,c≠S->c≠it->s.heap.get? c=some o->h2.get? c=some o:=λc o c1 c2 e=>(sb.2 c c1).trans (s1.extBut _ _ c2 e);have gS3:h2.SetOf (bR prog w) S (λk'=>decide (k'∈eS D k)) (eS D k).length:=by
        refine SetOf_congr gS2 (λk'=>?_) ?_
        ·unfold eS;by_cases c:k∈D
         ·rw[if_pos c];by_cases e:k'=k
          ·subst e;simp[c]
          ·simp[e]
         ·rw[if_neg c];by_cases e:k'=k
          ·subst e;simp
          ·simp[e]
        ·unfold eS;by_cases c:k∈D <;> simp[c]
       have la:(eS D k).length≤D.length+1:=by unfold eS;split <;> simp
       refine aF ⟨plainId_quiet F.plain_set_update_loop _,?_⟩;refine vt hh n1 n2 n3 ks (i+1) _ (eS D k) lt (git1.extBut sb.extBut n3) (gl.at λo e=>keep _ o n2 n1 e) (by rw[ed];exact qs) gS3 (by lia) λhp tk a1 a2=>?_;exact fin hp tk a1 λc o c1 c2 e=>a2 c o c1 c2 (keep c o c1 c2 e)
noncomputable abbrev fsO(led:Bool):aw:={ cls:=.type "set",dict:=none,data:=.set #[] 0 (.fresh 0 0 led) }
set_option maxHeartbeats 3200000 in
theorem Dz{S l:ad}{items:Array ae}{ks:List Key}{led:Bool}{P:Fin->ag->Prop}(hh:A.handled=none)(gS:s.heap.get? S=some (fsO led))(gl:s.heap.IsList l items)(ne:l≠S)(pr:cg (λv k=>(bR prog w).is k v=true/\v.scannable=true) items.toList ks)(few:ks.length+1<scanBound)
  (fin:∀hp tk,hp.SetOf (bR prog w) S (λk=>decide (k∈ks.foldl eS [])) (ks.foldl eS []).length->(∀c o,c≠S->s.heap.get? c=some o->hp.get? c=some o)->P (.done (.ret .none)) { s with heap:=hp,toks:=tk }) :
  aq (au prog w) A (Builtin.«set.__init__» ⟨[.ref S,.ref l],[]⟩) P E s:=by
 obtain⟨⟨k1,k2,k3,k4⟩,go,e1,n,e2⟩:=id gl;cases(show k1=_ from e1);cases(show k3=_ from e2);have t1:=F.sub_list_set;have t2:=F.sub_list_frozenset;have t3:(Value.type "list" == Value.type "dict")=false:=rfl
 have lS:=bC gS;have ll:=bC go;unfold Builtin.«set.__init__» noKeywords Builtin.Frozenset.updateFrom;generalize ei:pyIter=it0
 wp_walk
 subst ei;refine wpAny_pyIter_list gl (ak (wpAny_runValue ?_));refine vt (items:=items) hh (cT ll) ne (jR lS) ks 0 _ [] (d9 _) ⟨_,dH _ rfl,rfl,rfl⟩ (gl.push _) (by simpa using pr) (SetOf_congr ((setObjOf_fresh (knd:=bR prog w) led).setOf (bJ _ gS) (by unfold scanBound;lia)) (λ_=>by simp) rfl) (by simpa using few) λhp tk a1 a2=>?_;exact aF (aF (fin hp tk a1 λc o hc e=>a2 c o hc (cT (bC e)) (bJ _ e)))
theorem CH{l:ad}{items:Array ae}{ks:List Key}{Q:ae->ag->Prop}(hh:A.handled=none)(gl:s.heap.IsList l items)(pr:cg (λv k=>(bR prog w).is k v=true/\v.scannable=true) items.toList ks)(few:ks.length+1<scanBound)
  (fin:∀hp tk,hp.SetOf (bR prog w) s.heap.objs.size (λk=>decide (k∈ks.foldl eS [])) (ks.foldl eS []).length->(∀b o,b<s.heap.objs.size->s.heap.get? b=some o->hp.get? b=some o)->Q (.ref s.heap.objs.size) { s with heap:=hp,toks:=tk }) :
  aq (au prog w) A (call (.type "set") [.ref l]) Q E s:=by
 obtain⟨c0,c1,m1⟩:=F.called_set.mro;have m2:=F.called_set.made;have m3:=F.called_set.sub;have m4:=F.called_set.notType;have m5:=F.called_set.canCreate;have m6:=F.typeCall_set_1 (.ref l);have m7:=F.called_set.init.lookup;have lt:l<s.heap.objs.size:=by obtain⟨_,go,_⟩:=gl;exact bC go
 refine wpAny_call (codeAny_of_tree (aF ⟨Code.quiet_builtin _ (by decide +kernel),codeAny_builtin F.entry_type_call ?_⟩));rw[Around.under_plain (weight_type_call_type _ _ _) rfl]
 repeat any_goals first|assumption|wp_step
 refine codeAny_mono (code_set_new_1 _ (E:=E) (Q₁:=λv s1=>∃led,v=.ref s.heap.objs.size/\s1={ s with heap:=s.heap.push (fsO led) }) λled=>⟨led,rfl,rfl⟩) λr s1 z=>?_;cases r with
 |error x=>exact z
 |ok fl=>cases fl with
   |ret v=>
     obtain⟨led,rfl,rfl⟩:=z;have gS:(s.heap.push (fsO led)).get? s.heap.objs.size=some (fsO led):=dH _ rfl;have own:Shared.TypeIs { s with heap:=s.heap.push (fsO led) } (.ref s.heap.objs.size) "set":=⟨_,gS,rfl⟩
     have m8:=F.called_set.init.bind (.ref s.heap.objs.size)
     repeat any_goals first|assumption|wp_step
     refine codeAny_mono (codeAny_call_builtin (R:=wants (λu s2=>u=.none/\Q (.ref s.heap.objs.size) s2) E) F.called_set.init.plain F.entry_set_init (check_set_init_1 own (Dz hh gS (gl.push _) (cT lt) pr few λhp tk a1 a2=>⟨rfl,fin hp tk a1 λb o hb e=>a2 b o (cT hb) (bJ _ e)⟩))) λr2 s2 y=>?_;cases r2 with
     |error x=>exact y
     |ok f2=>cases f2 with
       |ret u=>
         obtain⟨rfl,y⟩:=y
         repeat any_goals first|assumption|wp_step
       |_=>exact y.elim
   |_=>exact z.elim
end
theorem yF:∀(ss D:List Str),(ss.map Sum.inr).foldl eS (D.map Sum.inr)=(ss.foldl dZ D).map (Sum.inr:Str->Key)
 |[],D=>rfl
 |x::ss,D=>by
   have e:eS (D.map Sum.inr) (Sum.inr x)=(dZ D x).map Sum.inr:=by
    unfold eS dZ;by_cases c:x∈D
    ·rw[if_pos c,if_pos (cx.mpr ⟨x,c,rfl⟩)]
    ·rw[if_neg c,if_neg (λz=>by obtain⟨y,hy,e⟩:=cx.mp z;cases e;exact c hy)];simp
   rw[aN,jp,jp,e];exact yF ss (dZ D x)
theorem v8:∀(ss D:List Str),(ss.foldl dZ D).length≤D.length+ss.length
 |[],D=>by simp
 |x::ss,D=>by
   have:=v8 ss (dZ D x);have l:(dZ D x).length≤D.length+1:=by unfold dZ;split <;> simp
   simp only[jp,cr];lia
theorem yT{prog:bh}{w:aR}:∀{ss:List Str}{its:List ae},Vals (ss.map V.str) its->cg (λv k=>(bR prog w).is k v=true/\v.scannable=true) its (ss.map Sum.inr)
 |[],_,.nil=>.nil
 |x::ss,_,.cons r t=>by
   obtain⟨tk,rfl⟩:=r;exact .cons ⟨by show Value.isStrOf x (.str x tk)=true;simp[Value.isStrOf],rfl⟩ (yT t)
variable {G:Gb}{X:Cx}
theorem Gy{a:az}{ga:ME}{p q pos pos':Pos}(ha:GE G X a ga)(hm:X.mg "set"=none)(hl:X.mg "len"=none)(hd:X.A.handled=none)(hg:Gl X "set":=by rfl)(hg2:Gl X "len":=by rfl)(hs:aU [a] X.env=[(false,aK a X.env)]:=by rfl)
  (hs3:aU [.Call (.Name "set" q) [a] [] pos'] X.env=[(false,aK (.Call (.Name "set" q) [a] [] pos') X.env)]:=by rfl):GE G X (.Call (.Name "len" p) [.Call (.Name "set" q) [a] [] pos'] [] pos) (eUn sj ga):=λE EX pins s σ' H Q I ⟨m,h,σ,ex,S,R,P⟩=>by
 refine wpAny_Call_Name_kw (kn I hg2 hl PySem.boot_len ?_ (by decide) (by decide));refine PyProof.Rows.callWith_builtin1 ?_ hs3 rfl;show aq _ _ (spliced (backTo pos (aU [.Call (.Name "set" q) [a] [] pos'] X.env))) _ _ s;rw[hs3];refine Calls.spliced_cons ?_;refine Call_ (kn I hg hm PyProof.Rows.Boot.«set» (PyProof.Rows.callWith_type1 (thn (ha.a1 hs E EX pos' pins s σ' H (λvs H2=>∃(aa:ad) (ss:List Str),vs=[V.ref aa]/\H2 aa=some (.lst (ss.map V.str))/\ss.length≤1000/\Q (.int (ss.foldl dZ []).length) H2) I ?_) λus s1 ⟨vs,H1,I1,r1,aa,ss,ev,z,few,q⟩=>?_) (by rw[hs];rfl) rfl))
 ·refine sub ex S R P λv m1 h1 H1 v' x1 R1 r1 P1=>?_;cases v with
  |ref n=>
    obtain⟨aa,ea,rfl⟩:=r1;obtain⟨oa,e1,q1,P3⟩:=cX R1 ea P1;cases oa with
    |lst xs=>
      obtain⟨vs,r,z⟩:=q1;dsimp only at P3;cases es:fW xs with
      |none=>rw[es]at P3;exact P3.elim
      |some ss=>
        rw[es]at P3;dsimp only at P3;split at P3
        ·rename_i few;have ev:=t8 es r;subst ev;exact⟨aa,ss,rfl,z,few,Post.here R1 P3 _ rfl⟩
        ·exact P3.elim
    |_=>exact P3.elim
  |_=>exact P1.elim
 ·subst ev;obtain⟨u1,rfl,rr1⟩:=vals1 r1;cases rr1;obtain⟨z1,its,n1,v1,hl1,e1⟩:=I1.lstM z;have q1:s1.heap.IsList aa its.toArray:=⟨_,e1,rfl,n1,rfl⟩;refine CH (ks:=ss.map Sum.inr) hd q1 (yT v1) (by rw[bB];unfold scanBound;lia) λhp tk a1 a2=>?_
  refine Calls.spliced_nil ?_;have el:((ss.map Sum.inr).foldl eS ([]:List Key)).length=(ss.foldl dZ []).length:=by
   have:=congrArg eF (yF ss []);simpa using this
  have l1:=v8 ss [];rw[el]at a1;obtain⟨o,es,ep,t,ho,hx,hdt,_,_,sb,ft,sz⟩:=a1;refine call_len_set (s:={ s1 with heap:=hp,toks:=tk }) ho hx hdt ft (by rw[sz];simp only[jZ]at l1;lia) ?_;rw[sz];exact⟨.int _,H1,I1.kept (t':=tk+1+1) (λb o e=>a2 b o (bC e) e),⟨_,rfl⟩,q⟩
end L2.Rv
namespace L2.Rv
noncomputable section
open PySem (Str)
end
end L2.Rv
namespace L2.Rv
open PySem PySem.Spec PyProof.Rows
variable {G:Gb}{m m' m1 m2:List ad}{h h' h1 h2:MH}{H H' H1 H2:Hp}{X:Cx}{E:ae->ag->Prop}{EX:St->Prop}{σ:MSt}{σ':St}
end L2.Rv
namespace L2.Rv
open PySem PySem.Spec PyProof.Rows PySem.W
def qR(P:ad)(H:Hp):Prop:=∀b,H b=none∨(∃o xs,H b=some (.frz o (.lst xs)))∨(b=P/\H b=some (.tbl #[]))
theorem F1{P:bh}{w:aR}{K:Frag}{mg mb:Str->Option ae}{CX:CXT}{k:Nat}{fa a c tb:ad}{fd:bq}{x:Str}{sp:Sp}{s₁:ag}{vs:List ae}{ns:List Int}
  (KX:K.In s₁.heap) (hT:s₁.heap.TableAt c tb #[]) (hKP:K.lookup tb=none) (hns:s₁.heap.Ns dA mg) (hb:s₁.heap.Ns builtinsNs mb) (hbb:∀x:Str,x≠"__name__"->mb x=bootBuiltins x) (hlim:s₁.heap.NoLimit) (hg:s₁.gens=#[])
  (ha:s₁.heap.get? a=some { cls:=.type "list",data:=.seq vs.toArray }) (hi:IntsAre vs ns) (hl:ns.length≤aW) (hr:Room k callerA)
  (F:∀base:aI,K.In base->base.Ns dA mg->iV P w K mg base CX k fa fd [x] sp) (hbind:∀(s:ag) (u:ae),BindsTo s fd ⟨[u],[]⟩ [(x,u)])
  (hsp:∀H:Hp,qR tb H->H tb=some (.tbl #[])->SqL K H a (ns.map V.int)->sp [.ref a] H (λv _=>v=.bl true) λ_ _ _=>False)
  (hCX:∀H e s',CX [] H s₁ (λ_ _ _=>False) e s'->False) :
  codeAny (au P w) callerA (.call (.ref fa) ⟨[.ref a],[]⟩) (λr s'=>r=.ok (.ret (.bool true))/\OldK s₁.heap s'.heap/\s'.os=s₁.os/\AllBare s'.gens) s₁:=by
 have rv:=xj hi;have lenV:=hi.length;have htb:s₁.heap.get? tb=some { cls:=.none,data:=.fields #[] }:=hT.2;have hta:tb≠a:=λz=>by rw[z,ha]at htb;cases htb
 have core:∀H:Hp,qR tb H->H tb=some (.tbl #[])->SqL K H a (ns.map V.int)->HOk P w H s₁.heap->(∀b,H b≠none->b=a∨b=tb)->(H a≠none->K.lookup a=none) ->
   codeAny (au P w) callerA (.call (.ref fa) ⟨[.ref a],[]⟩) (λr s'=>r=.ok (.ret (.bool true))/\OldK s₁.heap s'.heap/\s'.os=s₁.os/\AllBare s'.gens) s₁:=by
  intro H hO hH hS hok hA hK;have base_of:∀{b:ad}{o:aw},s₁.heap.get? b=some o->H b=none->(iR s₁.heap H).get? b=some o:=λe n=>EL e n;have noA:∀{b:ad}{o:aw}{es:Array DictEntry}{ep:Nat},s₁.heap.get? b=some o->o.data=.dict es ep->H b=none:=λ{b o es ep} e d=>by
   cases q:H b with
   |none=>rfl
   |some u=>
     rcases hA b (by rw[q];simp) with e'|e'
     ·subst e';rw[ha]at e;cases e;have d':Data.seq vs.toArray _=Data.dict es ep:=d;cases d'
     ·subst e';rw[htb]at e;cases e;have d':Data.fields _=Data.dict es ep:=d;cases d'
  have nsK:∀{b:ad} {m:Str->Option ae},s₁.heap.Ns b m->(iR s₁.heap H).Ns b m:=λ{b m} e0=>e0.elim λo e1=>e1.elim λes e2=>e2.elim λep e3=>e3.elim λe e4=>e4.elim λd r=>⟨o,es,ep,base_of e (noA e d),d,r⟩;have hKb:K.In (iR s₁.heap H):=λb o e=>base_of (KX b o e) (by
   cases q:H b with
   |none=>rfl
   |some u=>
     rcases hA b (by rw[q];simp) with e'|e'
     ·subst e';rw[hK (by rw[q];simp)]at e;cases e
     ·subst e';rw [hKP] at e;cases e)
  have hM:Mod K mg (iR s₁.heap H):=⟨hKb,nsK hns,⟨mb,nsK hb,hbb⟩,let ⟨mc,h1,h2⟩:=hlim;⟨mc,nsK h1,h2⟩⟩;have e0:Env0 P w K mg (iR s₁.heap H) callerA [] s₁ H:=⟨rfl,hM,λb o e=>AS e,mh (GG _ _),trivial,λb hb=>absurd (show b∈([]:List ad) from hb) (by simp),hok,.of_eq hg⟩
  refine codeAny_mono ((F _ hKb (nsK hns)).run callerA [] s₁ H ⟨[.ref a],[]⟩ [.ref a] [.ref a] _ _ hr e0 (hbind s₁ (.ref a)) (.cons rfl .nil) (hsp H hO hH hS)) λr s' h=>?_;cases r with
  |error e=>exact(hCX H e s' h).elim
  |ok fl=>
    cases fl with
    |next=>exact False.elim h
    |brk=>exact False.elim h
    |cont=>exact False.elim h
    |ret u=>
      obtain⟨v,H',os,bare,un,hok',r',q⟩:=h;have q':v=.bl true:=q;subst q';obtain rfl:u=Value.bool true:=r';have kp:∀b o,b≠tb->s₁.heap.get? b=some o->s'.heap.get? b=some o:=λb o hbt e=>by
       cases q:H b with
       |none=>exact un.keep b o e q (by intro z;exact absurd (show b∈([]:List ad) from z) (by simp)) (by simp)
       |some u=>
         rcases hO b with z|⟨ob,xs,z⟩|⟨z,_⟩
         ·rw[q]at z;cases z
         ·have z2:=un.frzs b ob _ z;obtain⟨e1,_⟩:=hok b _ z;obtain⟨e2,_⟩:=hok' b _ z2;rw[e]at e1;cases e1;exact e2
         ·exact absurd z hbt
      obtain⟨more,em⟩:=un.tbls tb #[] hH;have em':s'.heap.get? tb=some { cls:=.none,data:=.fields (#[]++more) }:=hok' tb _ em;refine⟨rfl,⟨λb o e=>?_,λb o e=>?_⟩,os,bare⟩
      ·by_cases hbt:b=tb
       ·subst hbt;rw[htb]at e;cases e;exact .inr (.inl ⟨hT.isCodeTable,rfl,#[],more,rfl,em'⟩)
       ·exact .inl (kp b o hbt e)
      ·by_cases hbt:b=tb
       ·subst hbt;exact⟨_,em'⟩
       ·exact⟨o,kp b o hbt e⟩
 cases hk:K.lookup a with
 |some o=>
   have e:=KX a o hk;rw[ha]at e;cases e;refine core (λb=>if b=tb then some (.tbl #[]) else none) (λb=>?_) (if_pos rfl) (.inr ⟨_,vs.toArray,_,hk,rfl,rfl,rfl,by rw[cB,lenV];exact hl,by simpa using rv⟩) (λb u z=>?_) (λb z=>?_) λz=>?_
   ·by_cases hb:b=tb
    ·exact .inr (.inr ⟨hb,if_pos hb⟩)
    ·exact .inl (if_neg hb)
   ·by_cases hb:b=tb
    ·have z':=(if_pos hb).symm.trans z;cases z';subst hb;exact htb
    ·have z':=(if_neg hb).symm.trans z;cases z'
   ·by_cases hb:b=tb
    ·exact .inr hb
    ·exact absurd (if_neg hb) z
   ·exact absurd (if_neg (Ne.symm hta)) z
 |none=>
   refine core (λb=>if b=a then some (.frz { cls:=.type "list",data:=.seq vs.toArray } (.lst (ns.map V.int))) else if b=tb then some (.tbl #[]) else none) (λb=>?_) (by rw[if_neg hta,if_pos rfl]) (.inl (.inr ⟨{ cls:=.type "list",data:=.seq vs.toArray },if_pos rfl⟩)) (λb u z=>?_) (λb z=>?_) λ_=>hk
   ·by_cases hb:b=a
    ·exact .inr (.inl ⟨_,_,if_pos hb⟩)
    ·by_cases hb2:b=tb
     ·exact .inr (.inr ⟨hb2,by dsimp only;rw[if_neg hb,if_pos hb2]⟩)
     ·exact .inl (by dsimp only;rw[if_neg hb,if_neg hb2])
   ·by_cases hb:b=a
    ·have z':=(if_pos hb).symm.trans z;cases z';subst hb;exact⟨ha,by rw[bB];exact hl,vs,_,rv,ha⟩
    ·have z1:(if b=tb then some (HO.tbl #[]) else none)=some u:=(if_neg hb).symm.trans z;by_cases hb2:b=tb
     ·rw[if_pos hb2]at z1;cases z1;subst hb2;exact htb
     ·rw[if_neg hb2]at z1;cases z1
   ·by_cases hb:b=a
    ·exact .inl hb
    ·by_cases hb2:b=tb
     ·exact .inr hb2
     ·exact absurd (by rw[if_neg hb,if_neg hb2]) z
theorem Ep{l:OpenLaw}{n k:Nat}{q:bh}{loose:List Str}{XP:(Str->Option ae)->aI->Prop}{YP:aR->aI->Prop}{d:DefRec}{K:Params->Frag}{CX:aR->CXT}{tb:ad}{sp:aR->Sp}{x:Str}
  (hn:l.most=some n) (hn2:n≤aW) (hdf:d.params.defaults=[]) (hr:Room k callerA)
  (hY:∀(w:aR) (h:aI),YP w h->(K w.params).In h/\h.get? tb=some (tabObj #[]))
  (hK:∀w:aR,(K w.params).lookup tb=none)
  (F:∀(w:aR) (mg:Str->Option ae) (fa:ad) (h:aI),(K w.params).In h->h.Ns dA mg->mg d.name=some (.ref fa) ->
   (∃c o vs,(K w.params).lookup c=some o/\o.cls=.type "code"/\o.data=.fields vs/\vs[11]?=some (.ref tb)) /\
   ∃fd:bq,(∀(s:ag) (u:ae),BindsTo s fd ⟨[u],[]⟩ [(x,u)]) /\
    ∀base:aI,(K w.params).In base->base.Ns dA mg->iV l.prog w (K w.params) mg base (CX w) k fa fd [x] (sp w))
  (hsp:∀(w:aR) (H:Hp) (a:ad) (ns:List Int),ns.length≤n->qR tb H->H tb=some (.tbl #[])->SqL (K w.params) H a (ns.map V.int)->sp w [.ref a] H (λv _=>v=.bl true) λ_ _ _=>False)
  (hCX:∀(w:aR) (H:Hp) (s:ag) (e:ae) (s':ag),CX w [] H s (λ_ _ _=>False) e s'->False) :
  WalkO q loose XP YP l.row.toRowW d [] (λf vs=>PySem.call f vs):=by
 refine Att.attach_call hn hdf λw s₀ s₁ mg mb fa o pm cd doc a vs ns G Y ho hd hcd hmg hobj hints hlen hg=>?_;obtain⟨KX,ht⟩:=hY w _ Y;obtain⟨⟨c,oc,ws,z1,z2,z3,z4⟩,fd,hb,hF⟩:=F w mg fa _ KX G.T.g hmg;exact F1 KX ⟨⟨oc,ws,KX _ _ z1,z2,z3,z4⟩,ht⟩ (hK w) G.T.g G.T.b G.T.builtins G.T.nolimit hg hobj hints (bV hlen hn2) hr hF hb (λH hO hH hS=>hsp w H a ns hlen hO hH hS) λH e s'=>hCX w H s₁ e s'
noncomputable def KD(K':Params->Frag)(tb:ad)(P:Params):Frag:=(K' P).filter λp=>!(jt p.1 tb)
theorem tM(tb b:ad):∀K:Frag,(K.filter λp=>!(jt p.1 tb)).lookup b=if b=tb then none else K.lookup b
 |[]=>by simp
 |(a,o)::r=>by
   have ih:=tM tb b r;by_cases ha:a=tb
   ·subst ha;have:(kq (λp:ad×aw=>!(jt p.1 a)) ((a,o)::r))=kq (λp=>!(jt p.1 a)) r:=by rw[sM];simp
    rw[this,ih];by_cases hb:b=a
    ·simp[hb]
    ·rw[if_neg hb,if_neg hb,cO];have:(b == a)=false:=by simpa using hb
     rw[this]
   ·have:(kq (λp:ad×aw=>!(jt p.1 tb)) ((a,o)::r))=(a,o)::kq (λp=>!(jt p.1 tb)) r:=by
     rw[vc];have:jt a tb=false:=by
      cases q:jt a tb with
      |false=>rfl
      |true=>exact absurd (Nat.eq_of_beq_eq_true q) ha
     simp[this]
    rw[this,cO,cO,ih];by_cases hb:b=a
    ·subst hb;simp[ha]
    ·have:(b == a)=false:=by simpa using hb
     rw[this]
theorem KD_none{K':Params->Frag}{tb:ad}{P:Params}:(KD K' tb P).lookup tb=none:=(tM tb tb _).trans (if_pos rfl)
theorem KD_in{K':Params->Frag}{tb:ad}{P:Params}{h:aI}(x:(K' P).In h):(KD K' tb P).In h:=λb o e=>by
 have e':=(tM tb b (K' P)).symm.trans e;by_cases hb:b=tb
 ·rw[if_pos hb]at e';cases e'
 ·rw[if_neg hb]at e';exact x b o e'
theorem len1{P:List ae->Prop}(h:∀a,P [a])(us:List ae)(l:us.length=1):P us:=by
 cases us with
 |nil=>cases l
 |cons a us=>cases us with
   |nil=>exact h a
   |cons b us=>cases l
theorem qY{n:Nat}{P:List ae->Prop}(h:∀a us,us.length=n->P (a::us))(us:List ae)(l:us.length=n+1):P us:=by
 cases us with
 |nil=>cases l
 |cons a us=>exact h a us (Nat.succ.inj l)
theorem len2{P:List ae->Prop}(h:∀a b,P [a,b]):∀us:List ae,us.length=2->P us:=qY λa=>len1 (h a)
theorem len3{P:List ae->Prop}(h:∀a b c,P [a,b,c]):∀us:List ae,us.length=3->P us:=qY λa=>len2 (h a)
theorem len4{P:List ae->Prop}(h:∀a b c d,P [a,b,c,d]):∀us:List ae,us.length=4->P us:=qY λa=>len3 (h a)
theorem len5{P:List ae->Prop}(h:∀a b c d e,P [a,b,c,d,e]):∀us:List ae,us.length=5->P us:=qY λa=>len4 (h a)
theorem FW{fd:bq}{v:ae}{p:Pos}(h1:fd.params={ posonlyargs:=[],args:=[{ arg:="name",annotation:=none,pos:=p:PySem.Arg }],vararg:=none,kwonlyargs:=[],kw_defaults:=[],kwarg:=none,defaults:=[] })(h2:fd.defaults=.none)(h3:fd.kwdefaults=.none) :
  bindArgs fd ⟨[v],[]⟩=pure [(ah "name",v)]:=by
 obtain⟨a,b,c,d,e,f,g,i,j,k,l,n,o,q,r⟩:=fd;simp only at h1 h2 h3;subst h1;subst h2;subst h3;rfl
theorem CZ{scope:Scope}{nm fv:Str}(h:scope.names=[(nm,.local),(fv,.free)]):∀x,scope.names.lookup x=some .free->x=fv:=λx e=>by
 rw[h]at e;simp only[cO]at e;split at e
 ·cases e
 ·split at e
  ·rename_i q;exact eq_of_beq q
  ·simp at e
end L2.Rv
namespace L2.Rv
open PySem (Str)
@[irreducible] def wp{α:Type}(m:M α)(h:MH)(Q:α->MH->Prop)(E:Nat->MH->Prop):Prop:=match m h with
 |.ok a h'=>Q a h'
 |.exc c h'=>E c h'
 |.stuck=>False
abbrev noE:Nat->MH->Prop:=λ_ _=>False
section
variable {α β:Type}{h h':MH}{E:Nat->MH->Prop}
theorem aG(m:M α)(f:α->M β)(Q:β->MH->Prop):wp (bnd m f) h Q E=wp m h (λa h'=>wp (f a) h' Q E) E:=by
 unfold wp bnd;cases m h <;> rfl
theorem aZ(a:α)(Q:α->MH->Prop):wp (ret a) h Q E=Q a h:=by unfold wp;rfl
theorem dh(Q:α->MH->Prop):wp stk h Q E=False:=by unfold wp;rfl
theorem Hn(c:Nat)(Q:α->MH->Prop):wp (rse c) h Q E=E c h:=by unfold wp;rfl
theorem iK(o:MO)(Q:MV->MH->Prop):wp (new o) h Q E=Q (.ref h.length) (h++[o]):=by unfold wp;rfl
theorem mv{n:Nat}{o:MO}(e:h[n]?=some o)(Q:MO->MH->Prop):wp (look n) h Q E=Q o h:=by
 unfold wp look;rw[e]
theorem vi{n:Nat}{o:MO}(e:n<h.length)(Q:Unit->MH->Prop):wp (put n o) h Q E=Q () (h.set n o):=by
 unfold wp put;rw[if_pos e]
theorem di{c:Prop}[Decidable c](a b:M α)(Q:α->MH->Prop):wp (if c then a else b) h Q E=if c then wp a h Q E else wp b h Q E:=by
 by_cases q:c
 ·rw[if_pos q,if_pos q]
 ·rw[if_neg q,if_neg q]
theorem rG{m m':M α}{Q:α->MH->Prop}(e:m h=m' h):wp m h Q E=wp m' h Q E:=by unfold wp;rw[e]
theorem dS{m:M α}{Q Q':α->MH->Prop}{E':Nat->MH->Prop}(w:wp m h Q E)(f:∀a h',Q a h'->Q' a h')(g:∀c h',E c h'->E' c h'):wp m h Q' E':=by
 unfold wp at w ⊢;cases e:m h with
 |ok a h'=>rw[e]at w;exact f a h' w
 |exc c h'=>rw[e]at w;exact g c h' w
 |stuck=>rw[e]at w;exact w
theorem zL{m:M α}{Q Q':α->MH->Prop}(w:wp m h Q noE)(f:∀a h',Q a h'->Q' a h'):wp m h Q' E:=dS w f λ_ _ z=>z.elim
theorem jg{m:M α}{Q:α->MH->Prop}(w:wp m h Q noE):∃a h',m h=.ok a h'/\Q a h':=by
 unfold wp at w;cases e:m h with
 |ok a h'=>rw[e]at w;exact⟨a,h',rfl,w⟩
 |exc c h'=>rw[e]at w;exact w.elim
 |stuck=>rw[e]at w;exact w.elim
theorem dv{m:M α}{a:α}{Q:α->MH->Prop}(e:m h=.ok a h')(q:Q a h'):wp m h Q E:=by
 unfold wp;rw[e];exact q
end
def Pre(h h':MH):Prop:=∃t,h'=h++t
section
variable {h h1 h2:MH}{n:Nat}{o:MO}
theorem Pre.refl:Pre h h:=⟨[],by simp⟩
theorem Pre.trans(a:Pre h h1)(b:Pre h1 h2):Pre h h2:=by
 obtain⟨t,rfl⟩:=a;obtain⟨u,rfl⟩:=b;exact⟨t++u,by simp⟩
theorem Pre.app(o:MO):Pre h (h++[o]):=⟨[o],rfl⟩
theorem Pre.snoc(a:Pre h h1)(o:MO):Pre h (h1++[o]):=a.trans (Pre.app o)
theorem d5(e:h[n]?=some o):n<h.length:=(bT.mp e).1
theorem Pre.get(a:Pre h h1)(e:h[n]?=some o):h1[n]?=some o:=by
 obtain⟨t,rfl⟩:=a;rw[eM (d5 e)];exact e
theorem Pre.len(a:Pre h h1):h.length≤h1.length:=by
 obtain⟨t,rfl⟩:=a;simp
theorem Pre.set(a:Pre h h1)(hn:h.length≤n):Pre h (h1.set n o):=by
 obtain⟨t,rfl⟩:=a;exact⟨t.set (n-h.length) o,by rw[List.set_append_right _ _ hn]⟩
theorem eI{g:MH}(e:h[n]?=some o):(h++g)[n]?=some o:=by
 rw[eM (d5 e)];exact e
theorem bp:(h++[o])[h.length]?=some o:=by simp
theorem lR(e:n<h.length):(h.set n o)[n]?=some o:=by simp[e]
theorem rc{k:Nat}{o':MO}(e:h[k]?=some o')(ne:n≠k):(h.set n o)[k]?=some o':=by rw[je ne];exact e
end
theorem cF{p n:Nat}{b:MS}{vs:List MV}{h:MH}{Q:MV->MH->Prop}{E:Nat->MH->Prop}(hl:vs.length=p)(w:wp (b (vs.map some++bF (n - vs.length) none)) h (λf h'=>match f with
   |.next _=>Q .non h'
   |.ret v=>Q v h'
   | _=>False) E):wp (fnOf p n b vs) h Q E:=by
 unfold fnOf;rw[if_pos hl,aG];refine dS w (λf h' q=>?_) λ_ _ z=>z;cases f <;> dsimp only at q ⊢ <;> first|exact q.elim|(rw[aZ];exact q)
theorem ja{s:Src}{is:List Nat}{body:MS}{h:MH}{σ:MSt}{Q:MF->MH->Prop}{E:Nat->MH->Prop}{all:List (List MV)}(I:Nat->MSt->MH->Prop)(hok:∀k σ h,I k σ h->s.okIn h=true)
  (turn:∀k x σ h,all[k]? = some x->I k σ h->wp (body (dI is x σ)) h (λf h'=>match f with
   |.next σ'=>I (k+1) σ' h'
   |.cnt σ'=>I (k+1) σ' h'
   |.brk σ'=>Q (.next σ') h'
   | .ret v=>Q (.ret v) h') E) (last:∀σ h,I all.length σ h->Q (.next σ) h) (h0:I 0 σ h):wp (eZ s is body all σ) h Q E:=by
 have go:∀(d k:Nat) (σ:MSt) (h:MH),all.length-k=d->k≤all.length->I k σ h->wp (eZ s is body (all.drop k) σ) h Q E:=by
  intro d
  induction d with
  |zero=>
    intro k σ h hd hk i;have:k=all.length:=by lia
    subst this;rw[rD];have ok:=hok _ _ _ i;have e:eZ s is body [] σ h=.ok (.next σ) h:=by simp[eZ,ok]
    exact dv e (last σ h i)
  |succ d ih=>
    intro k σ h hd hk i;have hlt:k<all.length:=by lia
    have ok:=hok _ _ _ i;rw [qe hlt];have e:eZ s is body (all[k]::all.drop (k + 1)) σ h=bnd (body (dI is all[k] σ)) (λf=>match f with
     |.next σ'=>eZ s is body (all.drop (k+1)) σ'
     |.cnt σ'=>eZ s is body (all.drop (k+1)) σ'
     |.brk σ'=>ret (.next σ')
     | .ret v=>ret (.ret v)) h:=by
     conv=>lhs;unfold eZ
     rw[if_pos ok]
     try rfl
    rw[rG e,aG];refine dS (turn k all[k] σ h (by simp[hlt]) i) (λf h' q=>?_) λ_ _ z=>z;cases f with
    |next σ'=>exact ih (k+1) σ' h' (by lia) hlt q
    |cnt σ'=>exact ih (k+1) σ' h' (by lia) hlt q
    |brk σ'=>dsimp only at q ⊢;rw[aZ];exact q
    |ret v=>dsimp only at q ⊢;rw[aZ];exact q
 simpa using go all.length 0 σ h (by lia) (d9 _) h0
noncomputable def eE(cond:Option ME)(σ:MSt):M Bool:=match cond with
 |none=>ret true
 |some t=>tst t σ
theorem yH{s:Src}{cond:Option ME}{elt:ME}{σ:MSt}{h:MH}{c:List MV->Bool}{F:List MV->MV->MH->Prop}(hF:∀x v h1 h2,F x v h1->Pre h1 h2->F x v h2)(hok:∀h',Pre h h'->s.okIn h'=true):∀(items:List (List MV)) (h1:MH),Pre h h1 ->
  (∀x∈items,∀h1,Pre h h1->wp (eE cond (σ++x.map some)) h1 (λb h2=>b=c x/\Pre h1 h2) noE) ->
  (∀x∈items,c x=true->∀h1,Pre h h1->wp (elt (σ++x.map some)) h1 (λv h2=>F x v h2/\Pre h1 h2) noE) ->
  wp (bS s cond elt σ items) h1 (λvs h2=>vs.length=(items.filter c).length/\(∀(i:Nat) (x:List MV) (v:MV),(items.filter c)[i]?=some x->vs[i]?=some v->F x v h2)/\Pre h1 h2) noE
 |[],h1,p,_,_=>by
   have e:bS s cond elt σ [] h1=.ok [] h1:=by simp[bS,hok h1 p]
   exact dv e ⟨rfl,λi x v a b=>by simp at a,.refl⟩
 |x::r,h1,p,a1,a2=>by
   have ih:=λh2 p2=>yH hF hok r h2 p2 (λy hy=>a1 y (cS _ hy)) (λy hy=>a2 y (cS _ hy));have e:bS s cond elt σ (x::r) h1=bnd (eE cond (σ++x.map some)) (λk=>if k=true then bnd (elt (σ++x.map some)) λv=>bnd (bS s cond elt σ r) λws=>ret (v::ws) else bS s cond elt σ r) h1:=by
    conv=>lhs;unfold bS
    rw[if_pos (hok h1 p)];cases cond <;> rfl
   rw[rG e,aG];refine dS (a1 x dn h1 p) (λb h2 e0=>e0.elim λeb p2=>?_) λ_ _ z=>z;subst eb;cases hc:c x with
   |true=>
     rw[if_pos rfl,aG];refine dS (a2 x dn hc h2 (p.trans p2)) (λv h3 e0=>e0.elim λfv p3=>?_) λ_ _ z=>z;rw[aG];refine dS (ih h3 ((p.trans p2).trans p3)) (λws h4 e0=>e0.elim λq1 e1=>e1.elim λq2 p4=>?_) λ_ _ z=>z;rw[aZ];refine⟨by simp[hc,q1],λi y u ey eu=>?_,(p2.trans p3).trans p4⟩;rw[vc hc]at ey;cases i with
     |zero=>simp at ey eu;subst ey;subst eu;exact hF _ _ _ _ fv p4
     |succ i=>exact q2 i y u (by simpa using ey) (by simpa using eu)
   |false=>
     rw[if_neg cp];refine dS (ih h2 (p.trans p2)) (λws h4 e0=>e0.elim λq1 e1=>e1.elim λq2 p4=>?_) λ_ _ z=>z;rw[sM (by simp[hc])];exact⟨q1,q2,p2.trans p4⟩
theorem yW{α:Type}{m:M α}{h:MH}{Q:α->MH->Prop}{E:Nat->MH->Prop}(w:wp m h Q noE):wp (noExc m) h Q E:=by
 obtain⟨a,h',e,q⟩:=jg w;have e2:noExc m h=.ok a h':=by simp only[noExc,e]
 exact dv e2 q
theorem tK{src:MI}{cond:Option ME}{elt:ME}{σ:MSt}{h:MH}{Q:MV->MH->Prop}{E:Nat->MH->Prop}{s:Src}{h1:MH}(c:List MV->Bool)(f:List MV->MV)(hs:src σ h=.ok s h1)(hok:∀h',Pre h1 h'->s.okIn h'=true)(hlen:s.items.length≤100000)
  (a1:∀x∈s.items,∀h2,Pre h1 h2->wp (eE cond (σ++x.map some)) h2 (λb h3=>b=c x/\Pre h2 h3) noE)
  (a2:∀x∈s.items,c x=true->∀h2,Pre h1 h2->wp (elt (σ++x.map some)) h2 (λv h3=>v=f x/\Pre h2 h3) noE)
  (q:∀h2,Pre h1 h2->Q (.ref h2.length) (h2++[.lst ((s.items.filter c).map f)])):wp (cZ src cond elt σ) h Q E:=by
 unfold cZ;rw[aG];refine dv hs ?_;rw[if_pos hlen,aG];refine yW (dS (yH (F:=λx v _=>v=f x) (λ_ _ _ _ z _=>z) hok s.items h1 .refl a1 a2) (λvs h2 e0=>e0.elim λq1 e1=>e1.elim λq2 p=>?_) λ_ _ z=>z);rw[iK];have e:vs=(s.items.filter c).map f:=by
  apply nY;intro i;rw[bX];cases ex:(s.items.filter c)[i]? with
  |none=>
    rw[u2]at ex;rw[Option.map_none,u2];lia
  |some x=>
    have hi:i<vs.length:=by rw[q1];exact(bT.mp ex).1
    have ev:vs[i]?=some vs[i]:=by simp[hi]
    rw[ev,q2 i x _ ex ev];rfl
 rw[e];exact q h2 p
theorem xT{e e':ME}{σ:MSt}{h:MH}{i j:Int}{n:Nat}(h1:e σ h=.ok (.int i) h)(h2:e' σ h=.ok (.int j) h)(b1:-1000000≤i/\i≤1000000)(b2:-1000000≤j/\j≤1000000)(hn:(j-i).toNat=n):gM e e' σ h=.ok ⟨de i n,[]⟩ h:=by
 have q:-(2 ^ 62)≤i/\i<2 ^ 62/\-(2 ^ 62)≤j/\j<2 ^ 62:=by lia
 simp only[gM,bnd,h1,h2];rw[if_pos q,hn];rfl
theorem uH{e:ME}{σ:MSt}{h h':MH}{j:Int}{n:Nat}(h1:e σ h=.ok (.int j) h')(b2:-1000000≤j/\j≤1000000)(hn:j.toNat=n):fw e σ h=.ok ⟨de 0 n,[]⟩ h':=by
 have q:-(2 ^ 62)≤j/\j<2 ^ 62:=by lia
 simp only[fw,bnd,h1];rw[if_pos q,hn];rfl
theorem gj{e:ME}{σ:MSt}{h h':MH}{n:Nat}{xs:List MV}(h1:e σ h=.ok (.ref n) h')(h2:h'[n]?=some (.lst xs)):du e σ h=.ok ⟨xs.map λv=>[v],[(n,xs)]⟩ h':=by
 simp only[du,bnd,h1,look,h2];rfl
theorem gu{items:List (List MV)}{h:MH}{n:Nat}{xs:List MV}(e:h[n]?=some (.lst xs)):(Src.mk items [(n,xs)]).okIn h=true:=by simp[Src.okIn,nV,e]
theorem pM{lo:Int}{n k:Nat}(h:k<n):(de lo n)[k]?=some [.int (lo+(k:Nat))]:=by
 unfold de;rw[bX,jO h];rfl
theorem iw{lo:Int}{n:Nat}:(de lo n).length=n:=by simp[de]
theorem sS{lo:Int}{n:Nat}{x:List MV}(h:x∈de lo n):∃k,k<n/\x=[.int (lo+(k:Nat))]:=by
 unfold de at h;obtain⟨k,hk,rfl⟩:=cx.mp h;exact⟨k,iW.mp hk,rfl⟩
theorem ig{α:Type}(xs:List α)(k:Nat):atN xs (k:Int)=xs[k]?:=by
 unfold atN;rw[if_pos (Int.natCast_nonneg k),Int.toNat_natCast]
noncomputable def cell(ns:List Int)(k:Int):Int:=ns.getD k.toNat 0
section
variable {α β:Type}{h:MH}{E:Nat->MH->Prop}{σ:MSt}
theorem jn{c:Prop}[Decidable c]{p:Prop}:(if c then p else False)=(c/\p):=by
 by_cases q:c <;> simp[q]
theorem eX(n:Nat)(Q:MO->MH->Prop):wp (look n) h Q E=(match h[n]? with
  |some o=>Q o h
  | none=>False):=by
 unfold wp look;cases h[n]? <;> first|rfl|(unfold wp;rfl)
theorem pU(n:Nat)(o:MO)(Q:Unit->MH->Prop):wp (put n o) h Q E=(n<h.length/\Q () (h.set n o)):=by
 unfold wp put;by_cases e:n<h.length <;> simp[e]
@[simp] theorem aA(i:Nat)(Q:MV->MH->Prop):wp (af i σ) h Q E=(match σ[i]? with
  |some (some v)=>Q v h
  | _=>False):=by
 unfold wp af;cases e:σ[i]? with
 |none=>first|rfl|(unfold wp;rfl)
 |some u=>cases u <;> first|rfl|(unfold wp;rfl)
@[simp] theorem w_c(v:MV)(Q:MV->MH->Prop):wp (eC v σ) h Q E=Q v h:=by unfold wp;rfl
@[simp] theorem aQ(f:Op2)(a b:ME)(Q:MV->MH->Prop):wp (aj f a b σ) h Q E=wp (a σ) h (λx h1=>wp (b σ) h1 (λy h2=>wp (f x y) h2 Q E) E) E:=by
 unfold aj;simp only[aG]
@[simp] theorem bN(f:Op1)(a:ME)(Q:MV->MH->Prop):wp (eUn f a σ) h Q E=wp (a σ) h (λx h1=>wp (f x) h1 Q E) E:=by
 unfold eUn;simp only[aG]
theorem GH(g:ME)(Q:Bool->MH->Prop):wp (tst g σ) h Q E=wp (g σ) h (λv h1=>match v with
  |.bl b=>Q b h1
  | _=>False) E:=by
 unfold tst;rw[aG];congr 1;funext v h1;cases v <;> first|rfl|(unfold wp;rfl)
@[simp] theorem bA(g:ME)(Q:Bool->MH->Prop):wp (tst g σ) h Q E=wp (g σ) h (λv h1=>match v with
  |.bl b=>Q b h1
  | _=>False) E:=GH g Q
@[simp] theorem w_not(a:ME)(Q:MV->MH->Prop):wp (ia a σ) h Q E=wp (tst a σ) h (λb h1=>Q (.bl (!b)) h1) E:=by
 unfold ia;simp only[aG,aZ]
@[simp] theorem zp(a b:ME)(Q:MV->MH->Prop):wp (iE a b σ) h Q E=wp (tst a σ) h (λc h1=>if c=true then wp (b σ) h1 Q E else Q (.bl false) h1) E:=by
 unfold iE;simp only[aG,di,aZ]
@[simp] theorem eV(a b:ME)(Q:MV->MH->Prop):wp (eOr a b σ) h Q E=wp (tst a σ) h (λc h1=>if c=true then Q (.bl true) h1 else wp (b σ) h1 Q E) E:=by
 unfold eOr;simp only[aG,di,aZ]
@[simp] theorem Hi(c a b:ME)(Q:MV->MH->Prop):wp (eIf c a b σ) h Q E=wp (tst c σ) h (λk h1=>if k=true then wp (a σ) h1 Q E else wp (b σ) h1 Q E) E:=by
 unfold eIf;simp only[aG,di]
@[simp] theorem bi(Q:List MV->MH->Prop):wp (aD σ) h Q E=Q [] h:=by unfold wp;rfl
@[simp] theorem bo(e:ME)(r:MA)(Q:List MV->MH->Prop):wp (ao e r σ) h Q E=wp (e σ) h (λx h1=>wp (r σ) h1 (λxs h2=>Q (x::xs) h2) E) E:=by
 unfold ao;simp only[aG,aZ]
@[simp] theorem jl(a:MA)(Q:MV->MH->Prop):wp (eJ a σ) h Q E=wp (a σ) h (λxs h1=>xs.length≤1000/\Q (.ref h1.length) (h1++[.lst xs])) E:=by
 unfold eJ;rw[aG];congr 1;funext xs h1;rw[di,iK,dh];by_cases c:xs.length≤1000 <;> simp[c]
@[simp] theorem Fz(a:MA)(Q:MV->MH->Prop):wp (fh a σ) h Q E=wp (a σ) h (λxs h1=>xs.length≤1000/\Q (.tup xs) h1) E:=by
 unfold fh;rw[aG];congr 1;funext xs h1;rw[di,aZ,dh];by_cases c:xs.length≤1000 <;> simp[c]
@[simp] theorem cy(f:Fn)(a:MA)(Q:MV->MH->Prop):wp (bO f a σ) h Q E=wp (a σ) h (λxs h1=>wp (f xs) h1 Q E) E:=by
 unfold bO;simp only[aG]
@[simp] theorem qk(c:Nat)(f:Fn)(a:MA)(Q:MV->MH->Prop):wp (lK c f a σ) h Q E=wp (a σ) h (λxs h1=>wp (f (.ref h1.length::xs)) (h1++[.ins c []]) (λv h2=>v=.non/\Q (.ref h1.length) h2) E) E:=by
 unfold lK;simp only[aG,iK];congr 1;funext xs h1;congr 1;funext v h2;cases v <;> simp[aZ,dh]
@[simp] theorem Gg(c:Nat)(mth:String)(f:Fn)(o:ME)(a:MA)(Q:MV->MH->Prop):wp (dJ c mth f o a σ) h Q E=wp (o σ) h (λx h1=>match x with
  | .ref n=>(match h1[n]? with
    |some (.ins c' fs)=>c'=c/\fs.lookup mth=none/\wp (a σ) h1 (λxs h2=>wp (f (x::xs)) h2 Q E) E
    | _=>False)
  | _=>False) E:=by
 unfold dJ;rw[aG];congr 1;funext x h1;cases x with
 |ref n=>
   dsimp only;rw[aG,eX];cases h1[n]? with
   |none=>first|rfl|(unfold wp;rfl)
   |some ob=>cases ob with
     |ins c' fs=>
       dsimp only;rw[di,aG,dh];by_cases q:c'=c <;> by_cases q2:fs.lookup mth=none <;> simp[q,q2]
     |_=>first|rfl|(unfold wp;rfl)
 |_=>first|rfl|(unfold wp;rfl)
@[simp] theorem Hq(o:ME)(cs:List Nat)(f:String)(Q:MV->MH->Prop):wp (cj o cs f σ) h Q E=wp (o σ) h (λx h1=>match x with
  | .ref n=>(match h1[n]? with
    | some (.ins c fs)=>cs.contains c=true/\(match fs.lookup f with
      |some v=>Q v h1
      | none=>False)
    | _=>False)
  | _=>False) E:=by
 unfold cj;rw[aG];congr 1;funext x h1;cases x with
 |ref n=>
   dsimp only;rw[aG,eX];cases h1[n]? with
   |none=>first|rfl|(unfold wp;rfl)
   |some ob=>cases ob with
     |ins c' fs=>
       dsimp only;by_cases q:cs.contains c'=true
       ·rw[if_pos q];cases fs.lookup f <;> simp only[aZ,dh,q,true_and,and_false]
       ·rw[if_neg q];simp only[dh,q,false_and,bd]
     |_=>first|rfl|(unfold wp;rfl)
 |_=>first|rfl|(unfold wp;rfl)
@[simp] theorem n4(i j:Int)(Q:MV->MH->Prop):wp (bG (.int i) (.int j)) h Q E=Q (.int (i+j)) h:=by unfold wp;rfl
@[simp] theorem oM(i j:Str)(Q:MV->MH->Prop):wp (bG (.str i) (.str j)) h Q E=(i.length+j.length≤100000/\Q (.str (i++j)) h):=by
 unfold bG;dsimp only;rw[di,aZ,dh];by_cases c:i.length+j.length≤100000 <;> simp[c]
@[simp] theorem tW(a b:Nat)(Q:MV->MH->Prop):wp (bG (.ref a) (.ref b)) h Q E=(match h[a]?,h[b]? with
  |some (.lst xs),some (.lst ys)=>xs.length+ys.length≤100000/\Q (.ref h.length) (h++[.lst (xs++ys)])
  | _,_=>False):=by
 unfold bG;dsimp only;rw[aG,eX];cases h[a]? with
 |none=>first|rfl|(unfold wp;rfl)
 |some oa=>
   dsimp only;rw[aG,eX];cases h[b]? with
   |none=>cases oa <;> first|rfl|(unfold wp;rfl)
   |some ob=>cases oa <;> cases ob <;> first|rfl|(unfold wp;rfl)|(dsimp only;rw[di,iK,dh];rename_i xs ys;by_cases c:xs.length+ys.length≤100000 <;> simp[c])
@[simp] theorem sU(i j:Int)(Q:MV->MH->Prop):wp (oh (.int i) (.int j)) h Q E=Q (.int (i-j)) h:=by unfold wp;rfl
@[simp] theorem Hu(i j:Int)(Q:MV->MH->Prop):wp (hU (.int i) (.int j)) h Q E=(((-(2 ^ 64)<i/\i<2 ^ 64)∨(-(2 ^ 64)<j/\j<2 ^ 64))/\Q (.int (i*j)) h):=by
 unfold hU;dsimp only;rw[di,aZ,dh];by_cases c:(-(2 ^ 64)<i/\i<2 ^ 64)∨(-(2 ^ 64)<j/\j<2 ^ 64) <;> simp[c]
@[simp] theorem jE(i j:Int)(Q:MV->MH->Prop):wp (cR (.int i) (.int j)) h Q E=(0<j/\Q (.int (i%j)) h):=by
 unfold cR;dsimp only;rw[di,aZ,dh];by_cases c:0<j <;> simp[c]
@[simp] theorem ui(i j:Int)(Q:MV->MH->Prop):wp (fF (.int i) (.int j)) h Q E=((0<j/\j<1073741824)/\Q (.int (i/j)) h):=by
 unfold fF;dsimp only;rw[di,aZ,dh];by_cases c:0<j/\j<1073741824 <;> simp[c]
@[simp] theorem jJ(i:Int)(Q:MV->MH->Prop):wp (i8 (.int i)) h Q E=Q (.int (-i)) h:=by unfold wp;rfl
@[simp] theorem w_lt(i j:Int)(Q:MV->MH->Prop):wp (oLt (.int i) (.int j)) h Q E=Q (.bl (decide (i<j))) h:=by unfold wp;rfl
@[simp] theorem E8(i j:Int)(Q:MV->MH->Prop):wp (oLe (.int i) (.int j)) h Q E=Q (.bl (decide (i≤j))) h:=by unfold wp;rfl
@[simp] theorem gk(i j:Int)(Q:MV->MH->Prop):wp (oGt (.int i) (.int j)) h Q E=Q (.bl (decide (j<i))) h:=by unfold wp;rfl
@[simp] theorem Ht(i j:Int)(Q:MV->MH->Prop):wp (oGe (.int i) (.int j)) h Q E=Q (.bl (decide (j≤i))) h:=by unfold wp;rfl
@[simp] theorem Hs(i:Int)(Q:MV->MH->Prop):wp (kT (.int i)) h Q E=Q (.bl false) h:=by unfold wp;rfl
@[simp] theorem HB(Q:MV->MH->Prop):wp (kT .non) h Q E=Q (.bl true) h:=by unfold wp;rfl
@[simp] theorem HC(i:Int)(Q:MV->MH->Prop):wp (nG (.int i)) h Q E=Q (.bl true) h:=by unfold wp;rfl
@[simp] theorem Ho(Q:MV->MH->Prop):wp (nG .non) h Q E=Q (.bl false) h:=by unfold wp;rfl
@[simp] theorem lO(i j:Int)(Q:MV->MH->Prop):wp (oEq (.int i) (.int j)) h Q E=Q (.bl (decide (i=j))) h:=by
 unfold oEq;rw[if_pos (show iL (.int i) (.int j)=true from rfl),aZ];by_cases e:i=j <;> simp[e]
@[simp] theorem xb(i j:Int)(Q:MV->MH->Prop):wp (oNe (.int i) (.int j)) h Q E=Q (.bl (!decide (i=j))) h:=by
 unfold oNe;rw[if_pos (show iL (.int i) (.int j)=true from rfl),aZ];by_cases e:i=j <;> simp[e]
@[simp] theorem yk(i j:Str)(Q:MV->MH->Prop):wp (oEq (.str i) (.str j)) h Q E=Q (.bl (decide (i=j))) h:=by
 unfold oEq;rw[if_pos (show iL (.str i) (.str j)=true from rfl),aZ];by_cases e:i=j <;> simp[e]
@[simp] theorem rj(i j:Str)(Q:MV->MH->Prop):wp (oNe (.str i) (.str j)) h Q E=Q (.bl (!decide (i=j))) h:=by
 unfold oNe;rw[if_pos (show iL (.str i) (.str j)=true from rfl),aZ];by_cases e:i=j <;> simp[e]
@[simp] theorem dm(a:Nat)(i:Int)(Q:MV->MH->Prop):wp (oIx (.ref a) (.int i)) h Q E=(match h[a]? with
  | some (.lst xs)=>(match atN xs i with
    |some v=>Q v h
    | none=>False)
  | _=>False):=by
 unfold oIx;dsimp only;rw[aG,eX];cases h[a]? with
 |none=>first|rfl|(unfold wp;rfl)
 |some o=>cases o with
   |lst xs=>dsimp only;cases atN xs i <;> first|rfl|(unfold wp;rfl)
   |_=>first|rfl|(unfold wp;rfl)
@[simp] theorem uY(xs:List MV)(i:Int)(Q:MV->MH->Prop):wp (oIx (.tup xs) (.int i)) h Q E=(match atN xs i with
   |some v=>Q v h
   | none=>False):=by
 unfold oIx;dsimp only;cases atN xs i <;> first|rfl|(unfold wp;rfl)
@[simp] theorem gP(a:Nat)(Q:MV->MH->Prop):wp (bL (.ref a)) h Q E=(match h[a]? with
  |some (.lst xs)=>Q (.int xs.length) h
  |some (.dct xs)=>Q (.int xs.length) h
  | _=>False):=by
 unfold bL;dsimp only;rw[aG,eX];cases h[a]? with
 |none=>first|rfl|(unfold wp;rfl)
 |some o=>cases o <;> first|rfl|(unfold wp;rfl)
@[simp] theorem f6(s:Str)(Q:MV->MH->Prop):wp (bL (.str s)) h Q E=(s.length≤100000/\Q (.int s.length) h):=by
 unfold bL;dsimp only;rw[di,aZ,dh];by_cases c:s.length≤100000 <;> simp[c]
@[simp] theorem Hh(a:Nat)(Q:MV->MH->Prop):wp (oH (.ref a)) h Q E=(match h[a]? with
  |some (.lst xs)=>Q (.ref h.length) (h++[.lst xs])
  | _=>False):=by
 unfold oH;dsimp only;rw[aG,eX];cases h[a]? with
 |none=>first|rfl|(unfold wp;rfl)
 |some o=>cases o <;> first|rfl|(unfold wp;rfl)
@[simp] theorem AI(s:Str)(i:Int)(Q:MV->MH->Prop):wp (oIx (.str s) (.int i)) h Q E=(s.length≤100000/\(match atN s.cps.toList i with
   |some c=>Q (.str ⟨#[c]⟩) h
   | none=>False)):=by
 unfold oIx;dsimp only;by_cases c:s.length≤100000
 ·rw[if_pos c];simp only[c,true_and];cases atN s.cps.toList i <;> first|rfl|(unfold wp;rfl)
 ·rw[if_neg c,dh];simp[c]
@[simp] theorem dl(Q:MF->MH->Prop):wp (cu σ) h Q E=Q (.next σ) h:=by unfold wp;rfl
theorem gX(a b:MS)(Q:MF->MH->Prop):wp (aB a b σ) h Q E=wp (a σ) h (λf h1=>match f with
  |.next σ'=>wp (b σ') h1 Q E
  | f=>Q f h1) E:=by
 unfold aB;rw[aG];congr 1;funext f h1;cases f <;> first|rfl|(unfold wp;rfl)
@[simp] theorem Hr(a b:MS)(Q:MF->MH->Prop):wp (aB a b σ) h Q E=wp (a σ) h (λf h1=>match f with
  |.next σ'=>wp (b σ') h1 Q E
  | f=>Q f h1) E:=gX a b Q
theorem aL{a b:MS}{Q:MF->MH->Prop}{R:MSt->MH->Prop}(w:wp (a σ) h (λf h1=>∃σ1,f=.next σ1/\R σ1 h1) E)(k:∀σ1 h1,R σ1 h1->wp (b σ1) h1 Q E):wp (aB a b σ) h Q E:=by
 rw[gX];refine dS w (λf h1 e0=>e0.elim λσ1 e1=>e1.elim λe r=>?_) λ_ _ z=>z;subst e;exact k σ1 h1 r
@[simp] theorem gO(e:ME)(Q:MF->MH->Prop):wp (fN e σ) h Q E=wp (e σ) h (λ_ h1=>Q (.next σ) h1) E:=by
 unfold fN;simp only[aG,aZ]
@[simp] theorem bH(i:Nat)(e:ME)(Q:MF->MH->Prop):wp (aS i e σ) h Q E=wp (e σ) h (λv h1=>Q (.next (σ.set i (some v))) h1) E:=by
 unfold aS;simp only[aG,aZ]
@[simp] theorem cH(e:ME)(Q:MF->MH->Prop):wp (bI e σ) h Q E=wp (e σ) h (λv h1=>Q (.ret v) h1) E:=by
 unfold bI;simp only[aG,aZ]
@[simp] theorem cN(c:ME)(a b:MS)(Q:MF->MH->Prop):wp (sIf c a b σ) h Q E=wp (tst c σ) h (λk h1=>if k=true then wp (a σ) h1 Q E else wp (b σ) h1 Q E) E:=by
 unfold sIf;simp only[aG,di]
@[simp] theorem gG(c:Nat)(a:MA)(Q:MF->MH->Prop):wp (d6 c a σ) h Q E=wp (a σ) h (λxs h1=>xs.length≤1000/\E c h1) E:=by
 unfold d6;rw[aG];congr 1;funext xs h1;rw[di,Hn,dh];by_cases q:xs.length≤1000 <;> simp[q]
@[simp] theorem Hv(o:ME)(cs:List Nat)(f:String)(e:ME)(Q:MF->MH->Prop):wp (gB o cs f e σ) h Q E=wp (e σ) h (λv h1=>wp (o σ) h1 (λx h2=>match x with
  | .ref n=>(match h2[n]? with
    |some (.ins c fs)=>(cs.contains c=true/\fs.length<1000)/\n<h2.length/\Q (.next σ) (h2.set n (.ins c (putF f v fs)))
    | _=>False)
  | _=>False) E) E:=by
 unfold gB;rw[aG];congr 1;funext v h1;rw[aG];congr 1;funext x h2;cases x with
 |ref n=>
   dsimp only;rw[aG,eX];cases h2[n]? with
   |none=>first|rfl|(unfold wp;rfl)
   |some ob=>cases ob with
     |ins c fs=>
       dsimp only;rw[di,aG,pU,dh];simp only[aZ,jn]
     |_=>first|rfl|(unfold wp;rfl)
 |_=>first|rfl|(unfold wp;rfl)
@[simp] theorem oW(o i e:ME)(Q:MF->MH->Prop):wp (ib o i e σ) h Q E=wp (e σ) h (λv h1=>wp (o σ) h1 (λx h2=>wp (i σ) h2 (λy h3=>wp (kH x y v) h3 (λ_ h4=>Q (.next σ) h4) E) E) E) E:=by
 unfold ib;simp only[aG,aZ]
@[simp] theorem rX(n:Nat)(k:Int)(v:MV)(Q:Unit->MH->Prop):wp (kH (.ref n) (.int k) v) h Q E=(match h[n]? with
  | some (.lst xs)=>(match ixN xs.length k with
    |some j=>n<h.length/\Q () (h.set n (.lst (xs.set j v)))
    | none=>False)
  | _=>False):=by
 unfold kH;dsimp only;rw[aG,eX];cases h[n]? with
 |none=>first|rfl|(unfold wp;rfl)
 |some ob=>cases ob with
   |lst xs=>
     dsimp only;cases ixN xs.length k with
     |none=>first|rfl|(unfold wp;rfl)
     |some j=>dsimp only;rw[pU]
   |_=>first|rfl|(unfold wp;rfl)
@[simp] theorem Hy(n:Nat)(k:Str)(v:MV)(Q:Unit->MH->Prop):wp (kH (.ref n) (.str k) v) h Q E=(match h[n]? with
  |some (.dct kvs)=>kvs.length<1000/\n<h.length/\Q () (h.set n (.dct (dput k v kvs)))
  | _=>False):=by
 unfold kH;dsimp only;rw[aG,eX];cases h[n]? with
 |none=>first|rfl|(unfold wp;rfl)
 |some ob=>cases ob with
   |dct xs=>dsimp only;rw[di,pU,dh,jn]
   |_=>first|rfl|(unfold wp;rfl)
@[simp] theorem Hz(Q:MV->MH->Prop):wp (ul σ) h Q E=Q (.ref h.length) (h++[.dct []]):=by unfold wp;rfl
@[simp] theorem HD(o e:ME)(Q:MV->MH->Prop):wp (oV o e σ) h Q E=wp (o σ) h (λx h1=>match x with
  | .ref n=>(match h1[n]? with
    | some (.lst _)=>wp (e σ) h1 (λv h2=>match h2[n]? with
      |some (.lst xs)=>xs.length<100000/\n<h2.length/\Q .non (h2.set n (.lst (xs++[v])))
      | _=>False) E
    | _=>False)
  | _=>False) E:=by
 unfold oV;rw[aG];congr 1;funext x h1;cases x with
 |ref n=>
   dsimp only;rw[aG,eX];cases h1[n]? with
   |none=>first|rfl|(unfold wp;rfl)
   |some ob=>cases ob with
     |lst ys=>
       dsimp only;rw[aG];congr 1;funext v h2;unfold yf;dsimp only;rw[aG,eX];cases h2[n]? with
       |none=>first|rfl|(unfold wp;rfl)
       |some ob=>cases ob with
         |lst xs=>
           dsimp only;rw[di,aG,pU,dh];by_cases q:xs.length<100000 <;> simp[q,aZ]
         |_=>first|rfl|(unfold wp;rfl)
     |_=>first|rfl|(unfold wp;rfl)
 |_=>first|rfl|(unfold wp;rfl)
theorem wP{α:Type}{m:M α}{Q:α->MH->Prop}:wp (noExc m) h Q E=wp m h Q noE:=by
 unfold wp noExc;cases m h <;> first|rfl|(unfold wp;rfl)
@[simp] theorem C4(al:List Nat)(body:MS)(hs:List Hd)(Q:MF->MH->Prop):wp (mI al body hs σ) h Q E=wp (body σ) h Q (λc h1=>al.contains c=true/\wp (i9 c σ hs) h1 Q E):=by
 unfold wp mI;cases body σ h with
 |ok f h'=>rfl
 |exc c h'=>
   dsimp only;by_cases q:al.contains c=true
   ·rw[if_pos q];simp only[q,true_and]
   ·rw[if_neg q];simp only[q,false_and,bd]
 |stuck=>rfl
@[simp] theorem Hx(c i:Nat)(cs:List Nat)(b:MS)(r:List Hd)(Q:MF->MH->Prop):wp (i9 c σ (⟨cs,some i,b⟩::r)) h Q E=if cs.contains c=true then wp (b (σ.set i (some (.ref h.length)))) (h++[.exn c]) (λf h1=>Q (wu i f) h1) noE else wp (i9 c σ r) h Q E:=by
 conv=>lhs;unfold i9
 by_cases q:cs.contains c=true
 ·rw[if_pos q,if_pos q];dsimp only;rw[aG,iK,aG,wP];simp only[aZ]
 ·rw[if_neg q,if_neg q]
@[simp] theorem Hw(al cs:List Nat)(n:Nat)(Q:MV->MH->Prop):wp (js (.exn al cs) (.ref n)) h Q E=(match h[n]? with
  |some (.exn c)=>al.contains c=true/\Q (.bl (cs.contains c)) h
  | _=>False):=by
 unfold js;rw[aG,eX];cases h[n]? with
 |none=>first|rfl|(unfold wp;rfl)
 |some o=>cases o with
   |exn c=>
     dsimp only;rw[di,aZ,dh,jn]
   |_=>first|rfl|(unfold wp;rfl)
@[simp] theorem ku(is:List Nat)(src:MI)(body:MS)(Q:MF->MH->Prop):wp (iu is src body σ) h Q E=wp (src σ) h (λs h1=>wp (eZ s is body s.items σ) h1 Q E) E:=by
 unfold iu;simp only[aG]
@[simp] theorem BH(e:ME)(Q:Src->MH->Prop):wp (fw e σ) h Q E=wp (e σ) h (λx h1=>match x with
  |.int j=>(-(2 ^ 62)≤j/\j<2 ^ 62)/\Q ⟨de 0 j.toNat,[]⟩ h1
  | _=>False) E:=by
 unfold fw;rw[aG];congr 1;funext x h1;cases x with
 |int j=>
   dsimp only;rw[di,aZ,dh];by_cases q:-(2 ^ 62)≤j/\j<2 ^ 62
   ·rw[if_pos q];simp only[q,true_and,and_self]
   ·rw[if_neg q];simp only[q,false_and]
 |_=>first|rfl|(unfold wp;rfl)
@[simp] theorem HA(e e':ME)(Q:Src->MH->Prop):wp (gM e e' σ) h Q E=wp (e σ) h (λx h1=>wp (e' σ) h1 (λy h2=>match x,y with
  |.int i,.int j=>(-(2 ^ 62)≤i/\i<2 ^ 62/\-(2 ^ 62)≤j/\j<2 ^ 62)/\Q ⟨de i (j-i).toNat,[]⟩ h2
  | _,_=>False) E) E:=by
 unfold gM;rw[aG];congr 1;funext x h1;rw[aG];congr 1;funext y h2;cases x <;> cases y <;> first|rfl|(unfold wp;rfl)|(dsimp only;rw[di,aZ,dh,jn])
end
open PySem in
mutual
theorem wD:∀(d:PyData),d.canLay0=true->PyData.eqv d d=true
 |.none,_=>by simp[PyData.eqv]
 |.bool b,_=>by simp[PyData.eqv]
 |.int b,_=>by simp[PyData.eqv]
 |.str b,_=>by simp[PyData.eqv]
 |.list xs,h=>by
   simp only[PyData.eqv];exact eqvAll_refl xs (by simpa[PyData.canLay0] using h)
 |.tuple xs,h=>by
   simp only[PyData.eqv];exact eqvAll_refl xs (by simpa[PyData.canLay0] using h)
 |.dict _,h=>by simp[PyData.canLay0]at h
theorem eqvAll_refl:∀(ds:List PyData),PyData.canLayAll0 ds=true->PyData.eqvAll ds ds=true
 |[],_=>by simp[PyData.eqvAll]
 |d::ds,h=>by
   simp only[PyData.canLayAll0,eP]at h;simp only[PyData.eqvAll,eP];exact⟨wD d h.1,eqvAll_refl ds h.2⟩
end
section
variable {h:MH}{E:Nat->MH->Prop}{Q:MV->MH->Prop}{x y:MV}{d:PySem.PyData}
theorem EE(h1:dat h 6 x=some d)(h2:dat h 6 y=some d)(sh:PySem.SeqAt.shaped d=true):jI x y h=.ok true h:=by
 unfold jI;rw[h1,h2];dsimp only;rw[if_pos ⟨sh,sh⟩,wD d (PySem.SeqAt.canLay_of_shaped sh)]
theorem Gd(h1:dat h 6 x=some d)(h2:dat h 6 y=some d)(sh:PySem.SeqAt.shaped d=true)(ns:iL x y=false)(q:Q (.bl false) h):wp (oNe x y) h Q E:=by
 unfold oNe;rw[if_neg (by rw[ns];exact cp),aG];exact dv (EE h1 h2 sh) (by rw[aZ];exact q)
end
theorem sX{n k:Nat}(h:k<n):ixN n (k:Int)=some k:=by
 have:(k:Int)<(n:Int):=by lia
 simp only[ixN];rw[if_pos (by lia),if_pos this];simp
end L2.Rv
namespace L2.Rv
open PySem (Str)
section
variable {α β:Type}{h:MH}{E:Nat->MH->Prop}{σ:MSt}
@[simp] theorem jc(Q:Option Int->MH->Prop):wp (part none σ) h Q E=Q none h:=by unfold wp;rfl
@[simp] theorem jD(g:ME)(Q:Option Int->MH->Prop):wp (part (some g) σ) h Q E=wp (g σ) h (λv h1=>match v with
  |.int i=>Q (some i) h1
  | _=>False) E:=by
 unfold part;dsimp only;rw[aG];congr 1;funext v h1;cases v <;> first|rfl|(unfold wp;rfl)
@[simp] theorem jv(a:ME)(lo hi:Option ME)(Q:MV->MH->Prop):wp (eSl a lo hi σ) h Q E=wp (a σ) h (λx h1=>wp (part lo σ) h1 (λl h2=>wp (part hi σ) h2 (λu h3=>wp (jF x l u) h3 Q E) E) E) E:=by
 unfold eSl;simp only[aG]
@[simp] theorem kD(a:Nat)(lo hi:Option Int)(Q:MV->MH->Prop):wp (jF (.ref a) lo hi) h Q E=(match h[a]? with
  |some (.lst xs)=>Q (.ref h.length) (h++[.lst (fk xs lo hi)])
  | _=>False):=by
 unfold jF;dsimp only;rw[aG,eX];cases h[a]? with
 |none=>first|rfl|(unfold wp;rfl)
 |some o=>cases o <;> first|rfl|(unfold wp;rfl)
@[simp] theorem AR(s:Str)(lo hi:Option Int)(Q:MV->MH->Prop):wp (jF (.str s) lo hi) h Q E=(s.length≤100000/\Q (.str (PySem.Txt.slice s lo hi)) h):=by
 unfold jF;dsimp only;rw[di,aZ,dh];by_cases c:s.length≤100000 <;> simp[c]
@[simp] theorem mO(o e:ME)(Q:MV->MH->Prop):wp (iD o e σ) h Q E=wp (o σ) h (λx h1=>match x with
  |.str s=>wp (e σ) h1 (λy h2=>wp (oG (.str s) y) h2 Q E) E
  | _=>False) E:=by
 unfold iD;rw[aG];congr 1;funext x h1;cases x with
 |str s=>dsimp only;rw[aG]
 |_=>first|rfl|(unfold wp;rfl)
theorem o5{sep:Str}{a:Nat}{ss:List Str}{Q:MV->MH->Prop}(e:h[a]?=some (.lst (ss.map .str)))(hs:sep.length≤16)(hz:(ss.map (·.length)).sum+ss.length≤100000)(q:Q (.str (PySem.Txt.join sep ss)) h):wp (oG (.str sep) (.ref a)) h Q E:=by
 have es:∀(l:List Str),fW (l.map .str)=some l:=by
  intro l
  induction l with
  |nil=>rfl
  |cons x l ih=>simp[fW,ih]
 unfold oG;dsimp only;rw[aG,eX];simp only[e,es];rw[if_pos ⟨hs,hz⟩,aZ];exact q
@[simp] theorem Go(s:Str)(Q:Option Str->MH->Prop):wp (g9 (.lit s) σ) h Q E=(s.length≤1000/\Q (some s) h):=by
 unfold g9;rw[di,aZ,dh];by_cases c:s.length≤1000 <;> simp[c]
@[simp] theorem DD(e:ME)(Q:Option Str->MH->Prop):wp (g9 (.pl e) σ) h Q E=wp (e σ) h (λv h1=>match v with
  |.str s=>s.length≤10000/\Q (some s) h1
  |.int i=>i.natAbs.log2<100/\Q (some (ah (toString i))) h1
  | _=>False) E:=by
 unfold g9;rw[aG];congr 1;funext v h1;cases v <;> first|rfl|(unfold wp;rfl)|(dsimp only;rw[di,aZ,dh,jn])
@[simp] theorem Bs(Q:List (Option Str)->MH->Prop):wp (fV [] σ) h Q E=Q [] h:=by unfold wp;rfl
@[simp] theorem Fi(p:FP)(r:List FP)(Q:List (Option Str)->MH->Prop):wp (fV (p::r) σ) h Q E=wp (g9 p σ) h (λx h1=>wp (fV r σ) h1 (λxs h2=>Q (x::xs) h2) E) E:=by
 conv=>lhs;unfold fV
 simp only[aG,aZ]
@[simp] theorem z9(ps:List FP)(Q:MV->MH->Prop):wp (ju ps σ) h Q E=(ps.length≤100/\wp (fV ps σ) h (λxs h1=>Q (match iS PySem.Str.empty xs with
  |some s=>.str s
  | none=>.any) h1) E):=by
 unfold ju;rw[di,aG,dh,jn];simp only[aZ] <;> rfl
end
def Off(S:List Nat)(h h':MH):Prop:=(∀n o,n∉S->h[n]?=some o->h'[n]?=some o)/\h.length≤h'.length
theorem Pre.off{h h':MH}{S:List Nat}(p:Pre h h'):Off S h h':=⟨λ_ _ _ e=>p.get e,p.len⟩
theorem Off.trans{S:List Nat}{h h1 h2:MH}(a:Off S h h1)(b:Off S h1 h2):Off S h h2:=⟨λn o ns e=>b.1 n o ns (a.1 n o ns e),bV a.2 b.2⟩
theorem Off.set{h:MH}{n:Nat}{o:MO}:Off [n] h (h.set n o):=⟨λk _ hk e=>rc e (λz=>hk (by simp[z])),by simp⟩
theorem Off.get{S:List Nat}{h h':MH}{n:Nat}{o:MO}(a:Off S h h')(e:h[n]?=some o)(hn:n∉S):h'[n]?=some o:=a.1 n o hn e
theorem zV:∀(a b:List Nat),a≠b->a<b∨b<a
 |[],[],h=>absurd rfl h
 |[],_::_,_=>.inl (by simp)
 |_::_,[],_=>.inr (by simp)
 |x::a,y::b,h=>by
   rcases Nat.lt_trichotomy x y with z|z|z
   ·exact .inl (o4.mpr (.inl z))
   ·subst z;have:a≠b:=λe=>h (by rw[e]);rcases zV a b this with w|w
    ·exact .inl (o4.mpr (.inr ⟨rfl,w⟩))
    ·exact .inr (o4.mpr (.inr ⟨rfl,w⟩))
   ·exact .inr (o4.mpr (.inl z))
theorem g7{a b:Str}(h:a.cps.toList=b.cps.toList):a=b:=by
 obtain⟨⟨a⟩⟩:=a;obtain⟨⟨b⟩⟩:=b;simp at h;rw[h]
structure Rt where
 nm:Str
 pt:Nat
 am:Int
 dt:Int
instance:Inhabited Rt:=⟨⟨PySem.Str.empty,0,0,0⟩⟩
noncomputable def Rt.val(r:Rt):MV:=.tup [.int r.pt,.int r.am,.int r.dt]
noncomputable def Rt.row(r:Rt):MV:=.tup [.str r.nm,.int r.pt,.int r.am,.int r.dt]
noncomputable def Rt.key(r:Rt):List MKey:=[.inl r.dt,.inr r.nm]
noncomputable def Rt.lt(a b:Rt):Bool:=decide (a.dt<b.dt∨(a.dt=b.dt/\a.nm.cps.toList<b.nm.cps.toList))
theorem Rt.lt_iff{a b:Rt}:a.lt b=true↔a.dt<b.dt∨(a.dt=b.dt/\a.nm.cps.toList<b.nm.cps.toList):=by simp[Rt.lt]
theorem Rt.lt_tr{a b c:Rt}(h1:a.lt b=true)(h2:b.lt c=true):a.lt c=true:=by
 rw[Rt.lt_iff]at *;rcases h1 with h1|⟨h1,h1'⟩ <;> rcases h2 with h2|⟨h2,h2'⟩
 ·exact .inl (by lia)
 ·exact .inl (by lia)
 ·exact .inl (by lia)
 ·exact .inr ⟨by lia,List.lt_trans h1' h2'⟩
theorem Rt.lt_asy{a b:Rt}(h1:a.lt b=true):b.lt a=false:=by
 rw[Rt.lt_iff]at h1;have:¬(b.dt<a.dt∨(b.dt=a.dt/\b.nm.cps.toList<a.nm.cps.toList)):=by
  rcases h1 with h1|⟨h1,h1'⟩
  ·lia
  ·rintro(h|⟨_,h⟩)
   ·lia
   ·exact List.lt_asymm h1' h
 simpa[Rt.lt] using this
theorem Rt.lt_tot{a b:Rt}(hn:a.nm≠b.nm)(h:a.lt b=false):b.lt a=true:=by
 have h':¬(a.dt<b.dt∨(a.dt=b.dt/\a.nm.cps.toList<b.nm.cps.toList)):=λz=>by
  rw[(Rt.lt_iff).mpr z]at h;cases h
 rw[Rt.lt_iff];by_cases e:a.dt=b.dt
 ·refine .inr ⟨e.symm,?_⟩;rcases zV a.nm.cps.toList b.nm.cps.toList (λz=>hn (g7 z)) with z|z
  ·exact absurd (.inr ⟨e,z⟩) h'
  ·exact z
 ·refine .inl ?_;have:¬a.dt<b.dt:=λz=>h' (.inl z);lia
theorem Dd{a b:Rt}(hn:a.nm≠b.nm):ltK a.key b.key=some (a.lt b):=by
 unfold Rt.key;by_cases e:a.dt=b.dt
 ·simp only[ltK,e,if_true];have:¬((Sum.inr a.nm:MKey)=Sum.inr b.nm):=λz=>hn (by injection z);rw[if_neg this];simp[Rt.lt,e]
 ·have:¬((Sum.inl a.dt:MKey)=Sum.inl b.dt):=λz=>e (by injection z);simp only[ltK];rw[if_neg this];simp[Rt.lt,e]
def Names(rs:List Rt):Prop:=(rs.map (·.nm)).Nodup
theorem Names.get{rs:List Rt}(n:Names rs){i j:Nat}{a b:Rt}(hi:rs[i]?=some a)(hj:rs[j]?=some b)(hne:i≠j):a.nm≠b.nm:=by
 intro z;have e1:(rs.map (·.nm))[i]?=some a.nm:=by simp[hi]
 have e2:(rs.map (·.nm))[j]?=some a.nm:=by simp[hj,z]
 obtain⟨l1,g1⟩:=bT.mp e1;obtain⟨l2,g2⟩:=bT.mp e2;have pw:=pz.mp n;rcases Nat.lt_or_gt_of_ne hne with q|q
 ·exact pw i j l1 l2 q (g1.trans g2.symm)
 ·exact pw j i l2 l1 q (g2.trans g1.symm)
noncomputable def hZ(rs:List Rt):List Nat:=(d8 (rs.map Rt.key)).getD []
noncomputable def aged(rs:List Rt):List Rt:=(hZ rs).map λi=>rs.getD i default
theorem nh{rs:List Rt}(n:Names rs)(h64:rs.length<64):d8 (rs.map Rt.key)=some (hZ rs)/\(hZ rs).Perm (cM rs.length)/\∀i j,i<j->j<rs.length->∀a b,(aged rs)[i]?=some a->(aged rs)[j]?=some b->a.lt b=true:=by
 by_cases h2:rs.length<2
 ·have e:d8 (rs.map Rt.key)=some (cM rs.length):=by
   unfold d8;rw[if_pos (by simpa using h2)];simp
  have e2:hZ rs=cM rs.length:=by unfold hZ;rw[e];rfl
  refine⟨by rw[e,e2],by rw[e2],λi j hij hj=>by lia⟩
 ·let lt:Nat->Nat->Bool:=λi j=>(rs.getD i default).lt (rs.getD j default)
  have gd:∀i,i<rs.length->rs[i]?=some (rs.getD i default):=λi hi=>by simp[hi]
  have O:SOrd (ji (rs.map Rt.key)) lt rs.length:=by
   refine⟨λi j hi hj hne=>?_,λi j hi hj hne h=>?_,λi j hi hj h=>?_,λi j k hi hj hk h1 h2=>?_⟩
   ·have hn:=n.get (gd i hi) (gd j hj) hne;unfold ji;rw[bX,bX,gd i hi,gd j hj];simp only[Option.map_some];rw[if_neg,Dd hn];intro z;unfold Rt.key at z;injection z with _ z;injection z with z _;injection z with z;exact hn z
   ·exact Rt.lt_tot (n.get (gd i hi) (gd j hj) hne) h
   ·exact Rt.lt_asy h
   ·exact Rt.lt_tr h1 h2
  obtain⟨p,q1,q2,q3⟩:=FF O (by lia);have e:d8 (rs.map Rt.key)=some p.toList:=by
   unfold d8;rw[if_neg (by simpa using h2),if_pos (by simpa using h64),bB,q1]
  have e2:hZ rs=p.toList:=by unfold hZ;rw[e];rfl
  refine⟨by rw[e,e2],by rw[e2];exact q2.list,λi j hij hj a b ha hb=>?_⟩;have hs:=q2.size;have u:=q3 i j hij hj;unfold aged at ha hb;rw[e2,bX]at ha hb;have pi:p.toList[i]?=some (p.getD i 0):=by simp[show i<p.size by lia]
  have pj:p.toList[j]?=some (p.getD j 0):=by simp[show j<p.size by lia]
  rw[pi]at ha;rw[pj]at hb;cases ha;cases hb;exact u
theorem i5{rs:List Rt}(n:Names rs)(h64:rs.length<64):(aged rs).Perm rs:=by
 obtain⟨_,p,_⟩:=nh n h64;have q:=p.map λi=>rs.getD i default;have e:(cM rs.length).map (λi=>rs.getD i default)=rs:=by
  apply nY;intro i;rw[bX];by_cases h:i<rs.length
  ·rw[jO h];simp[h]
  ·simp[kM h]
 rw[e]at q;exact q
theorem pP{rs:List Rt}(n:Names rs)(h64:rs.length<64):(aged rs).length=rs.length:=(i5 n h64).length_eq
theorem vH{rs:List Rt}(n:Names rs)(h64:rs.length<64):(aged rs).Pairwise λa b=>a.lt b=true:=by
 obtain⟨_,_,s⟩:=nh n h64;rw[pz];intro i j hi hj hij;have hl:=pP n h64;exact s i j hij (by lia) _ _ (by simp) (by simp)
theorem Bm{rs:List Rt}(n:Names rs)(h64:rs.length<64){i:Nat}(h:i∈hZ rs):i<rs.length:=by
 obtain⟨_,p,_⟩:=nh n h64;exact iW.mp (p.mem_iff.mp h)
theorem wq{rs:List Rt}(n:Names rs)(h64:rs.length<64)(f:Rt->MV):pick (rs.map f) (hZ rs)=(aged rs).map f:=by
 unfold pick aged;rw[cb];refine fZ λi hi=>?_;have:=Bm n h64 hi;simp[this]
theorem yC:∀{xs ys:List Rt},xs.Perm ys->xs.Pairwise (λa b=>a.lt b=true)->ys.Pairwise (λa b=>a.lt b=true)->xs=ys
 |[],ys,p,_,_=>(List.nil_perm.mp p).symm
 |x::xs,[],p,_,_=>absurd (List.perm_nil.mp p) (by simp)
 |x::xs,y::ys,p,s1,s2=>by
   obtain⟨a1,b1⟩:=List.pairwise_cons.mp s1;obtain⟨a2,b2⟩:=List.pairwise_cons.mp s2;have e:x=y:=by
    have hx:x∈y::ys:=p.mem_iff.mp dn;have hy:y∈x::xs:=p.mem_iff.mpr dn;rcases bE.mp hx with z|z
    ·exact z
    ·rcases bE.mp hy with w|w
     ·exact w.symm
     ·have:=Rt.lt_asy (a2 x z);rw[a1 y w]at this;cases this
   subst e;rw[yC (List.Perm.cons_inv p) b1 b2]
theorem Au{rs ys:List Rt}(n:Names rs)(h64:rs.length<64)(p:ys.Perm rs)(s:ys.Pairwise λa b=>a.lt b=true):aged rs=ys:=
 yC ((i5 n h64).trans p.symm) (vH n h64) s
theorem C3{rs rs':List Rt}(n:Names rs)(h64:rs.length<64)(p:rs.Perm rs'):aged rs=aged rs':=by
 have n':Names rs':=(p.map λ(r:Rt)=>r.nm).nodup_iff.mp n;have h':rs'.length<64:=by rw[←p.length_eq];exact h64
 exact Au n h64 ((i5 n' h').trans p.symm) (vH n' h')
noncomputable abbrev hG:Str:=ah "abcdefghijklmnopqrstuvwxyz"
theorem BU:hG.cps.toList=(cM 26).map (97+·):=rfl
theorem zM:hG.length=26:=rfl
theorem vJ{i:Int}(h0:0≤i)(h1:i<26):atN hG.cps.toList i=some (97+i.toNat):=by
 obtain⟨k,rfl⟩:=kz h0;have hk:k<26:=by lia
 rw[ig,BU,bX,jO hk];simp
theorem dU(a b:Str):(a++b).cps.toList=a.cps.toList++b.cps.toList:=by
 show(a.cps++b.cps).toList=_;simp
theorem BA(a b:Str):(a++b).length=a.length+b.length:=by
 show(a.cps++b.cps).size=_;simp[mU]
theorem Fw:∀(ss:List Str),(PySem.Txt.join (ah "") ss).cps.toList=(ss.map λs=>s.cps.toList).flatten:=by
 intro ss;have e:PySem.Txt.join (ah "") ss=jx (ah "") ss:=PySem.StrLaws.glued_eq_join _ _;rw[e]
 clear e
 induction ss with
 |nil=>rfl
 |cons x r ih=>
   cases r with
   |nil=>simp[jx]
   |cons y r=>
     rw[show jx (ah "") (x::y::r)=x++ah ""++jx (ah "") (y::r) from rfl,dU,dU,ih];have:(ah "").cps.toList=[]:=rfl;simp[this]
theorem q8{x:Str}{l u:Option Int}{c:Nat}(h:c∈(PySem.Txt.slice x l u).cps.toList):c∈x.cps.toList:=by
 unfold PySem.Txt.slice at h;split at h
 ·exact h
 ·simp only[rJ,um]at h;obtain⟨i,_,e⟩:=h;have:=Array.mem_of_getElem? e;simpa using this
noncomputable def dG(c:Int):List Nat:=(cM (c%8).toNat).map λ(k:Nat)=>97+((c/31+11*(k:Int)*k+k)%26).toNat
noncomputable def dN(c:Int):Str:=PySem.Txt.join (ah "") ((dG c).map λx=>⟨#[x]⟩)
theorem rh(c:Int):(dN c).cps.toList=dG c:=by
 unfold dN;rw[Fw,cb];have:((λs:Str=>s.cps.toList)∘λx:Nat=>(⟨#[x]⟩:Str))=λx=>[x]:=rfl;rw[this]
 induction dG c with
 |nil=>rfl
 |cons x l ih=>simp[ih]
theorem Hc(c:Int):(dN c).length=(c%8).toNat:=by
 have:(dN c).length=(dN c).cps.toList.length:=by simp[mU]
 rw[this,rh];simp[dG]
noncomputable def dW(c:Int):Int:=c/8%(((c%8).toNat:Int)+1)
noncomputable def kf(c:Int)(k:Nat):Nat:=97+((c/64+5*(k:Int))%26).toNat
noncomputable def dX(c:Int)(k:Nat):Str:=PySem.Txt.slice (dN c) none (some (dW c))++⟨#[kf c k]⟩++PySem.Txt.slice (dN c) (some (dW c)) none
theorem AL{c:Int}{j k:Nat}(hj:j<26)(hk:k<26)(e:dX c j=dX c k):j=k:=by
 have e2:=congrArg (λs:Str=>s.cps.toList) e;unfold dX at e2;simp only[dU]at e2;have e3:=List.append_cancel_right e2;have e4:=List.append_cancel_left e3;have e5:kf c j=kf c k:=by simpa using e4
 unfold kf at e5;have a:=fU (c/64+5*(j:Int)) (show(26:Int)≠0 by decide);have b:=fU (c/64+5*(k:Int)) (show(26:Int)≠0 by decide);have e6:(c/64+5*(j:Int))%26=(c/64+5*(k:Int))%26:=by lia
 lia
theorem pb(x:Str)(l u:Option Int):(PySem.Txt.slice x l u).length≤x.length:=PySem.Txt.slice_le x l u
noncomputable def jM(x:Int):Int:=if x%7=6 then x/7%1000001 else x/7%90
noncomputable def mL(x:Int):Int:=if x%5=4 then x/5%10000 else x/5%3
theorem DY(x:Int):0≤jM x/\jM x≤1000000:=by unfold jM;split <;> lia
noncomputable def t9(ns:List Int)(st:Int)(size:Nat)(k:Nat):Rt:=⟨dX (cell ns 1) k,(cell ns (st+3*k)%size).toNat,jM (cell ns (st+3*k+1)),mL (cell ns (st+3*k+2))⟩
noncomputable def dq(ns:List Int)(st:Int)(count size:Nat):List Rt:=(cM count).map (t9 ns st size)
theorem uI(ns:List Int)(st:Int)(count size:Nat):(dq ns st count size).length=count:=by simp[dq]
theorem EM{ns:List Int}{st:Int}{count size:Nat}(h:count≤26):Names (dq ns st count size):=by
 unfold Names dq;rw[cb,List.Nodup,List.pairwise_map];refine List.Pairwise.imp_of_mem (R:=λa b=>a≠b) (λ{a b} ha hb hne e=>hne ?_) List.nodup_range;exact AL (by have:=iW.mp ha;lia) (by have:=iW.mp hb;lia) e
theorem D8{ns:List Int}{st:Int}{count size:Nat}{r:Rt}(hs:1≤size)(h:r∈dq ns st count size):r.pt<size:=by
 unfold dq at h;obtain⟨k,_,rfl⟩:=cx.mp h;show(cell ns (st+3*k)%size).toNat<size;have:=ii (cell ns (st+3*k)) (show(0:Int)<size by lia)
 lia
section
variable {α:Type}{h:MH}{E:Nat->MH->Prop}{Q:MV->MH->Prop}{f:α->MV}{g:α->PySem.PyData}
theorem xQ{n:Nat}:∀{l:List α},(∀x∈l,dat h n (f x)=some (g x))->gH (dat h n) (l.map f)=some (l.map g)
 |[],_=>rfl
 |x::l,hd=>by
   simp only[aN,gH,hd x dn,xQ (l:=l) λy hy=>hd y (cS _ hy)]
theorem vj:∀{l:List α},(∀x∈l,(g x).canLay0=true)->PySem.PyData.canLayAll0 (l.map g)=true
 |[],_=>by simp[PySem.PyData.canLayAll0]
 |x::l,hd=>by
   simp only[aN,PySem.PyData.canLayAll0,hd x dn,vj (l:=l) λy hy=>hd y (cS _ hy),Bool.and_self]
theorem vR{k:Nat}:∀{l:List α},(∀x∈l,(g x).depth≤k)->PySem.PyData.depthAll (l.map g)≤k
 |[],_=>by simp[PySem.PyData.depthAll]
 |x::l,hd=>by
   simp only[aN,PySem.PyData.depthAll];have a:=hd x dn;have b:=vR (l:=l) λy hy=>hd y (cS _ hy);lia
theorem qc{a n:Nat}{l:List α}(e:h[a]?=some (.lst (l.map f)))(hd:∀x∈l,dat h n (f x)=some (g x)):dat h (n+1) (.ref a)=some (.list (l.map g)):=by
 unfold dat;rw[e];dsimp only;rw[xQ hd]
theorem tI{l:List α}(hl:∀x∈l,(g x).canLay0=true)(hk:∀x∈l,(g x).depth≤20):PySem.SeqAt.shaped (.list (l.map g))=true:=by
 have:=vR hk;simp[PySem.SeqAt.shaped,PySem.PyData.canLay0,vj hl,PySem.PyData.depth];lia
theorem CT{a c:Nat}{l:List α}(ha:h[a]?=some (.lst (l.map f)))(hc:h[c]?=some (.lst (l.map f)))(hd:∀x∈l,dat h 5 (f x)=some (g x))(hl:∀x∈l,(g x).canLay0=true)(hk:∀x∈l,(g x).depth≤20)(q:Q (.bl false) h):wp (oNe (.ref a) (.ref c)) h Q E:=
 Gd (qc ha hd) (qc hc hd) (tI hl hk) rfl q
end
theorem yq{c:Int}{x:Nat}(h:x∈dG c):97≤x/\x<123:=by
 unfold dG at h;obtain⟨k,_,rfl⟩:=cx.mp h;have:=ii (c/31+11*(k:Int)*k+k) (show(0:Int)<26 by decide)
 lia
theorem G4{c:Int}{k x:Nat}(hx:x∈(dX c k).cps.toList):97≤x/\x<123:=by
 unfold dX at hx;rw[dU,dU]at hx;rcases c6.mp hx with hx|hx
 ·rcases c6.mp hx with hx|hx
  ·have:=q8 hx;rw[rh]at this;exact yq this
  ·simp at hx;subst hx;unfold kf;have:=ii (c/64+5*(k:Int)) (show(0:Int)<26 by decide)
   lia
 ·have:=q8 hx;rw[rh]at this;exact yq this
theorem AW{α:Type}{xs:List α}(h:0<xs.length):atN xs (-1)=xs[xs.length-1]?:=by
 unfold atN;rw[if_neg (by decide),if_pos (by lia)];congr 1
 lia
theorem AZ{α:Type}(xs:List α)(h:0<xs.length):fk xs (some 1) none=xs.drop 1:=by
 have e:d4 xs.length 0 (some 1)=1:=by
  show(if(1:Int)<0 then((1:Int)+(xs.length:Int)).toNat else min (1:Int).toNat xs.length)=1;rw[if_neg (by decide)];show min 1 xs.length=1;lia
 show(xs.drop (d4 xs.length 0 (some 1))).take (d4 xs.length xs.length none-d4 xs.length 0 (some 1))=_;rw[e];exact mJ (mh lG)
section
variable {α:Type}
theorem xq{s:Src}{cond:Option ME}{elt:ME}{σ:MSt}{h:MH}{iv:α->List MV}{c:α->Bool}{f:α->MV}(hok:∀h',Pre h h'->s.okIn h'=true):∀(l:List α) (h1:MH),Pre h h1 ->
  (∀x∈l,∀h1,Pre h h1->wp (eE cond (σ++(iv x).map some)) h1 (λb h2=>b=c x/\Pre h1 h2) noE) ->
  (∀x∈l,c x=true->∀h1,Pre h h1->wp (elt (σ++(iv x).map some)) h1 (λv h2=>v=f x/\Pre h1 h2) noE) ->
  wp (bS s cond elt σ (l.map iv)) h1 (λvs h2=>vs=(l.filter c).map f/\Pre h1 h2) noE
 |[],h1,p,_,_=>by
   have e:bS s cond elt σ [] h1=.ok [] h1:=by simp[bS,hok h1 p]
   exact dv e ⟨rfl,.refl⟩
 |x::r,h1,p,a1,a2=>by
   have ih:=λh2 p2=>xq (iv:=iv) (c:=c) (f:=f) hok r h2 p2 (λy hy=>a1 y (cS _ hy)) (λy hy=>a2 y (cS _ hy));rw[aN];have e:bS s cond elt σ (iv x::r.map iv) h1=bnd (eE cond (σ++(iv x).map some)) (λk=>if k=true then bnd (elt (σ++(iv x).map some)) λv=>bnd (bS s cond elt σ (r.map iv)) λws=>ret (v::ws) else bS s cond elt σ (r.map iv)) h1:=by
    conv=>lhs;unfold bS
    rw[if_pos (hok h1 p)];cases cond <;> rfl
   rw[rG e,aG];refine dS (a1 x dn h1 p) (λb h2 e0=>e0.elim λeb p2=>?_) λ_ _ z=>z;subst eb;cases hc:c x with
   |true=>
     rw[if_pos rfl,aG];refine dS (a2 x dn hc h2 (p.trans p2)) (λv h3 e0=>e0.elim λfv p3=>?_) λ_ _ z=>z;rw[aG];refine dS (ih h3 ((p.trans p2).trans p3)) (λws h4 e0=>e0.elim λq1 p4=>?_) λ_ _ z=>z;rw[aZ];exact⟨by rw[vc hc,aN,fv,q1],(p2.trans p3).trans p4⟩
   |false=>
     rw[if_neg cp];refine dS (ih h2 (p.trans p2)) (λws h4 e0=>e0.elim λq1 p4=>?_) λ_ _ z=>z;rw[sM (by simp[hc])];exact⟨q1,p2.trans p4⟩
theorem gR{src:MI}{cond:Option ME}{elt:ME}{σ:MSt}{h:MH}{Q:MV->MH->Prop}{E:Nat->MH->Prop}{s:Src}{h1:MH}(l:List α)(iv:α->List MV)(c:α->Bool)(f:α->MV)(hs:src σ h=.ok s h1)(hi:s.items=l.map iv)(hok:∀h',Pre h1 h'->s.okIn h'=true)(hlen:l.length≤100000)
  (a1:∀x∈l,∀h2,Pre h1 h2->wp (eE cond (σ++(iv x).map some)) h2 (λb h3=>b=c x/\Pre h2 h3) noE)
  (a2:∀x∈l,c x=true->∀h2,Pre h1 h2->wp (elt (σ++(iv x).map some)) h2 (λv h3=>v=f x/\Pre h2 h3) noE)
  (q:∀h2,Pre h1 h2->Q (.ref h2.length) (h2++[.lst ((l.filter c).map f)])):wp (cZ src cond elt σ) h Q E:=by
 unfold cZ;rw[aG];refine dv hs ?_;rw[if_pos (by rw[hi,bB];exact hlen),aG,hi];refine yW (dS (xq (iv:=iv) (c:=c) (f:=f) hok l h1 .refl a1 a2) (λvs h2 e0=>e0.elim λq1 p=>?_) λ_ _ z=>z);subst q1;rw[iK];exact q h2 p
theorem ik{l:List α}:l.filter (λ_=>true)=l:=pQ.mpr λ_ _=>rfl
end
theorem df{g:ME}{σ:MSt}{h:MH}{v:MV}{h1:MH}(w:wp (g σ) h (λv' h'=>v'=v/\h'=h1) noE):g σ h=.ok v h1:=by
 obtain⟨s',h',e,rfl,rfl⟩:=jg w;exact e
section
variable {h:MH}{E:Nat->MH->Prop}{σ:MSt}
@[simp] theorem EC(o e:ME)(f:Nat->MV->M MV)(Q:MV->MH->Prop):wp (mB o e f σ) h Q E=wp (o σ) h (λx h1=>match x with
  | .ref n=>(match h1[n]? with
    |some (.lst _)=>wp (e σ) h1 (λv h2=>wp (f n v) h2 Q E) E
    | _=>False)
  | _=>False) E:=by
 unfold mB;rw[aG];congr 1;funext x h1;cases x with
 |ref n=>
   dsimp only;rw[aG,eX];cases h1[n]? with
   |none=>first|rfl|(unfold wp;rfl)
   |some ob=>cases ob with
     |lst ys=>dsimp only;rw[aG]
     |_=>first|rfl|(unfold wp;rfl)
 |_=>first|rfl|(unfold wp;rfl)
@[simp] theorem G7(o e:ME)(Q:MV->MH->Prop):wp (zI o e σ) h Q E=wp (mB o e oK σ) h Q E:=rfl
@[simp] theorem CB(f g:Op2)(a b c:ME)(Q:MV->MH->Prop):wp (mY f g a b c σ) h Q E=wp (a σ) h (λx h1=>wp (b σ) h1 (λy h2=>wp (f x y) h2 (λz h3=>match z with
  |.bl k=>if k=true then wp (c σ) h3 (λw h4=>wp (g y w) h4 Q E) E else Q (.bl false) h3
  | _=>False) E) E) E:=by
 unfold mY;simp only[aG];congr 1;funext x h1;congr 1;funext y h2;congr 1;funext z h3;cases z with
 |bl k=>
   dsimp only[asB];rw[aZ];rw[di,aG,aZ]
 |_=>first|rfl|(unfold wp;rfl)
end
theorem wk(h:MH)(n:Nat)(r:Rt):dat h (n+1) r.row=some (.tuple [.str r.nm,.int r.pt,.int r.am,.int r.dt]):=by
 simp[Rt.row,dat,gH]
noncomputable def Rt.data(r:Rt):PySem.PyData:=.tuple [.str r.nm,.int r.pt,.int r.am,.int r.dt]
theorem Cq{r:Rt}(ok:PySem.PyData.strOk r.nm=true):PySem.SeqAt.shaped r.data=true:=by
 simp[Rt.data,PySem.SeqAt.shaped,PySem.PyData.canLay0,PySem.PyData.canLayAll0,PySem.PyData.depth,PySem.PyData.depthAll,ok]
theorem Gz{a b:Rt}:PySem.PyData.eqv a.data b.data=decide (a.nm=b.nm/\(a.pt:Int)=b.pt/\a.am=b.am/\a.dt=b.dt):=by
 simp[Rt.data,PySem.PyData.eqv,PySem.PyData.eqvAll,Bool.decide_and];rfl
@[simp] theorem Dj{h:MH}{E:Nat->MH->Prop}(s:Str)(n:Int)(Q:MV->MH->Prop):wp (ot (.str s) (.int n)) h Q E=((1≤n/\n≤1000/\s.length*n.toNat≤10000)/\Q (.str (iQ s n)) h):=by
 unfold ot;dsimp only;rw[di,aZ,dh,jn]
theorem zr(a:Array Nat):∀(k:Nat) (acc:Array Nat),(kg (·++·) acc (bF k a)).toList=acc.toList++(bF k a.toList).flatten
 |0,acc=>by simp
 |k+1,acc=>by
   rw[f7,jp,zr a k];simp[f7]
theorem A1(c:Nat){n:Int}(h:1≤n):(iQ ⟨#[c]⟩ n).cps.toList=bF n.toNat c:=by
 unfold iQ;split
 ·rename_i q;have:n=1:=by
   simp at q;rcases q with q|q
   ·exact q
   ·exact absurd (show(1:Nat)=0 from q) (by decide)
  subst this;rfl
 ·show(kg (·++·) #[] (bF n.toNat #[c])).toList=_;rw[zr];generalize n.toNat=k
  induction k with
  |zero=>rfl
  |succ k ih=>simpa[f7] using ih
end L2.Rv
namespace L2.Rv
section
variable {h:MH}{E:Nat->MH->Prop}{σ:MSt}
end
end L2.Rv
namespace L2.Rv
open PySem (Str)
@[simp] theorem rz{h:MH}{E:Nat->MH->Prop}(i:Int)(Q:MV->MH->Prop):wp (ie (.int i)) h Q E=(i.natAbs.log2<1000/\Q (.str (ah (toString i))) h):=by
 unfold ie;dsimp only;rw[di,aZ,dh,jn]
noncomputable def txt(i:Int):Str:=ah (toString i)
theorem cW(s:Str):s.length=s.cps.toList.length:=by simp[mU]
theorem mQ(a b:Str):(a++b).length=a.length+b.length:=by rw[cW,dU,cQ,cW,cW]
theorem fL{i:Int}(h0:0≤i)(h1:i<10 ^ 7):(txt i).length≤7:=by
 obtain⟨m,rfl⟩:=kz h0;unfold txt;rw[cW,PySem.W.KIN.signs_num,bB];exact PyProof.Rows.digits10_le (by decide) (by lia)
theorem jH{i:Int}{k:Nat}(h0:0≤i)(h1:i<10 ^ 7)(hk:24≤k):i.natAbs.log2<k:=by
 by_cases z:i.natAbs=0
 ·rw[z];simp;lia
 ·refine c5 ((Nat.log2_lt z).mpr (show i.natAbs<2 ^ 24 by lia)) hk
theorem jN(sep x:Str):∀(l:List Str),(PySem.Txt.join sep (x::l)).cps.toList=x.cps.toList++(l.map λy=>sep.cps.toList++y.cps.toList).flatten:=by
 have e:∀ss,PySem.Txt.join sep ss=jx sep ss:=λss=>PySem.StrLaws.glued_eq_join _ _;intro l;rw[e]
 induction l generalizing x with
 |nil=>simp[jx]
 |cons y l ih=>
   rw[show jx sep (x::y::l)=x++sep++jx sep (y::l) from rfl,dU,dU,ih];simp
theorem rm{α:Type}{f:α->Str}{n:Nat}:∀{l:List α},(∀x∈l,(f x).length≤n)->((l.map f).map (·.length)).sum≤n*l.length
 |[],_=>by simp
 |x::l,h=>by
   have:=rm (f:=f) (n:=n) (l:=l) λy hy=>h y (cS _ hy);have:=h x dn;simp only[aN,gq,cr,Nat.mul_add];lia
theorem oQ{α:Type}{f:α->List Nat}{n:Nat}:∀{l:List α},(∀x∈l,(f x).length≤n)->(l.map f).flatten.length≤n*l.length
 |[],_=>by simp
 |x::l,h=>by
   have:=oQ (f:=f) (n:=n) (l:=l) λy hy=>h y (cS _ hy);have:=h x dn;simp only[aN,f8,cQ,cr,Nat.mul_add];lia
def Rt.small(x:Rt):Prop:=x.nm.length≤1000/\x.pt<10 ^ 7/\(0≤x.am/\x.am<10 ^ 7)/\(0≤x.dt/\x.dt<10 ^ 7)
noncomputable def bf(x:Rt):Str:=PySem.Str.empty++x.nm++ah " at "++txt x.pt++ah " wants "++txt x.am++ah " since "++txt x.dt
noncomputable def bZ(b:List Nat):Str:=PySem.Txt.join (ah " ") (ah "river"::ah "-"::b.map λ(p:Nat)=>txt p)
noncomputable def cI(b:List Nat)(A:List Rt):Str:=PySem.Txt.join (ah "\n") (bZ b::A.map bf)
theorem pd{x:Rt}(s:x.small):(bf x).length≤1039:=by
 obtain⟨h1,h2,h3,h4⟩:=s;have a:=fL (i:=x.pt) (by lia) (by lia);have b:=fL h3.1 h3.2;have c:=fL h4.1 h4.2;unfold bf;simp only[mQ];have:PySem.Str.empty.length=0:=rfl;have:(ah " at ").length=4:=rfl;have:(ah " wants ").length=7:=rfl;have:(ah " since ").length=7:=rfl
 lia
theorem nS{b:List Nat}(few:b.length<40)(hb:∀x∈b,x<10 ^ 7):(bZ b).length≤500:=by
 unfold bZ;rw[cW,jN,cQ,aN,f8,cQ,cb];have:=oQ (f:=(λy:Str=>(ah " ").cps.toList++y.cps.toList)∘λ(p:Nat)=>txt p) (n:=8) (l:=b) λx hx=>by
  have:=fL (i:=x) (by lia) (by have:=hb x hx;lia);rw[cW]at this;have e:(ah " ").cps.toList.length=1:=rfl;simp only[Function.comp,cQ,e];lia
 have e1:(ah "river").cps.toList.length=5:=rfl;have e2:((ah " ").cps.toList++(ah "-").cps.toList).length=2:=rfl
 lia
section
variable {h:MH}{E:Nat->MH->Prop}{σ:MSt}
end
section
variable {h:MH}{E:Nat->MH->Prop}{σ:MSt}
theorem wS{a b:MS}{Q:MF->MH->Prop}(w:wp (a σ) h (λf h1=>∃v,f=.ret v/\Q (.ret v) h1) E):wp (aB a b σ) h Q E:=by
 rw[gX];refine dS w (λf h1 z=>?_) λ_ _ z=>z;obtain⟨v,rfl,q⟩:=z;exact q
end
theorem yw{c:Nat}:∀{x:List Nat},c∉x->aJ c x=[x]
 |[],_=>rfl
 |y::x,h=>by
   simp only[bE,not_or]at h;unfold aJ;rw[if_neg λz=>h.1 z.symm,yw h.2]
theorem oO{c x:Nat}(l:List Nat)(h:¬x=c):aJ c (x::l)=match aJ c l with
  |[]=>[[x]]
  |p::ps=>(x::p)::ps:=by
 conv=>lhs;unfold aJ
 exact if_neg h
theorem wJ{c:Nat}(r:List Nat):∀{x:List Nat},c∉x->aJ c (x++c::r)=x::aJ c r
 |[],_=>by simp[aJ]
 |y::x,h=>by
   simp only[bE,not_or]at h;show aJ c (y::(x++c::r))=_;rw[oO _ λz=>h.1 z.symm,wJ r h.2]
theorem lu{c:Nat}:∀{l:List (List Nat)}{x:List Nat},c∉x->(∀y∈l,c∉y)->aJ c (x++(l.map λy=>c::y).flatten)=x::l
 |[],x,h,_=>by simpa using yw h
 |y::l,x,h,hl=>by
   have ih:=lu (l:=l) (x:=y) (hl y dn) λz hz=>hl z (cS _ hz);have e:x++((y::l).map λy=>c::y).flatten=x++c::(y++(l.map λy=>c::y).flatten):=by simp
   rw[e,wJ _ h,ih]
theorem ky(s:Str):(⟨s.cps.toList.toArray⟩:Str)=s:=by cases s;simp
theorem xN{c:Nat}{sep x:Str}{l:List Str}(hs:sep.cps.toList=[c])(hx:c∉x.cps.toList)(hl:∀y∈l,c∉y.cps.toList):(aJ c (PySem.Txt.join sep (x::l)).cps.toList).map (λl=>MV.str ⟨l.toArray⟩)=(x::l).map .str:=by
 rw[jN,hs];have e:(l.map λy=>[c]++y.cps.toList).flatten=((l.map λy=>y.cps.toList).map λy=>c::y).flatten:=by rw[cb];rfl
 rw[e,lu hx λy hy=>by obtain⟨z,hz,rfl⟩:=cx.mp hy;exact hl z hz];simp only[aN,cb];rw[ky];congr 1
theorem By:∀c:Nat,c<123->97≤c->(PySem.Builtin.Str.occurrences (ah "abcdefghijklmnopqrstuvwxyz") ⟨#[c]⟩ 0 (ah "abcdefghijklmnopqrstuvwxyz").length 1).isEmpty=false:=by decide +kernel
theorem GV:∀c:Nat,c<58->48≤c->(PySem.Builtin.Str.occurrences (ah "0123456789") ⟨#[c]⟩ 0 (ah "0123456789").length 1).isEmpty=false:=by decide +kernel
theorem iJ{i:Int}(h0:0≤i):∀c∈(txt i).cps.toList,48≤c/\c<58:=by
 obtain⟨m,rfl⟩:=kz h0;unfold txt;rw[PySem.W.KIN.signs_num];intro c hc;obtain⟨d,hd,rfl⟩:=cx.mp hc;have:=Nat.isDigit_of_mem_toDigits (by decide) (by decide) hd;simp only[Char.isDigit,eP,decide_eq_true_eq]at this;exact⟨this.1,Nat.lt_succ_of_le this.2⟩
theorem xD{i:Int}(h0:0≤i):1≤(txt i).length:=by
 obtain⟨m,rfl⟩:=kz h0;unfold txt;rw[cW,PySem.W.KIN.signs_num,bB];exact Nat.length_toDigits_pos
theorem uC{i:Int}{k:Nat}(hk:0<k)(h0:0≤i)(h1:i.toNat<10 ^ k):(txt i).length≤k:=by
 obtain⟨m,rfl⟩:=kz h0;unfold txt;rw[cW,PySem.W.KIN.signs_num,bB];exact PyProof.Rows.digits10_le hk (by simpa using h1)
section
variable {h:MH}{E:Nat->MH->Prop}{σ:MSt}
theorem ir{o:ME}{s t:Str}{c:Nat}{Q:MV->MH->Prop}(eo:o σ h=.ok (.str s) h)(et:t.cps.toList=[c])(hl:s.length≤100000)(hc:c<256)(q:Q (.ref h.length) (h++[.lst ((aJ c s.cps.toList).map λl=>.str ⟨l.toArray⟩)])):wp (fS o (eC (.str t)) σ) h Q E:=by
 unfold fS;rw[aG];refine dv eo ?_;dsimp only;rw[aG,w_c];dsimp only;rw[et];dsimp only;rw[if_pos ⟨hl,hc⟩,iK];exact q
theorem zn:∀bs:List Bool,iT (bs.map .bl)=some bs
 |[]=>rfl
 |b::bs=>by
   show iT (.bl b::bs.map .bl)=_;unfold iT;rw[zn bs]
theorem zJ{a:Nat}{bs:List Bool}{Q:MV->MH->Prop}(g:h[a]?=some (.lst (bs.map .bl)))(q:Q (.bl (bs.all id)) h):wp (kB (.ref a)) h Q E:=by
 unfold kB;dsimp only;rw[aG,mv g];dsimp only;rw[zn];dsimp only;rw[aZ];exact q
theorem rq{e:ME}{s:Str}(he:e σ h=.ok (.str s) h)(ha:s.cps.all (·<128)=true):i6 e σ h=.ok ⟨s.cps.toList.map λc=>[.str ⟨#[c]⟩],[]⟩ h:=by
 unfold i6;simp only[bnd,he,ha,if_true,ret]
theorem y8(s t:Str)(Q:MV->MH->Prop):wp (kY (.str s) (.str t)) h Q E=Q (.bl (!(PySem.Builtin.Str.occurrences t s 0 t.length 1).isEmpty)) h:=by unfold wp;rfl
theorem zb{s:Str}{n:Int}{Q:MV->MH->Prop}(e:PySem.intText? s=some n)(hl:s.length≤640)(q:Q (.int n) h):wp (jA (.str s)) h Q E:=by
 unfold jA;dsimp only;rw[e];dsimp only;rw[if_pos hl,aZ];exact q
end
section
variable {h:MH}{E:Nat->MH->Prop}{σ:MSt}
theorem jq{a b:MS}{Q:MF->MH->Prop}{R:MSt->MH->Prop}(w:wp (a σ) h (λf h1=>(∃σ1,f=.next σ1/\R σ1 h1)∨∃v,f=.ret v/\Q (.ret v) h1) E)(k:∀σ1 h1,R σ1 h1->wp (b σ1) h1 Q E):wp (aB a b σ) h Q E:=by
 rw[gX];refine dS w (λf h1 q=>?_) λ_ _ z=>z;rcases q with⟨σ1,rfl,r⟩|⟨v,rfl,q⟩
 ·exact k σ1 h1 r
 ·exact q
theorem pL{b:MS}{cs:List Nat}{c2:Nat}{Q:MF->MH->Prop}(w:wp (b σ) h Q (λc h1=>cs.contains c=true/\E c2 h1)):wp (k9 cs c2 b σ) h Q E:=by
 unfold wp at w ⊢;unfold k9;cases e:b σ h with
 |ok f h'=>rw[e]at w;simpa using w
 |exc c h'=>
   rw[e]at w;dsimp only at w ⊢;rw[w.1];exact w.2
 |stuck=>rw[e]at w;exact w.elim
theorem D1{src:MI}{elt:ME}{Q:MV->MH->Prop}(w:wp (cZ src none elt σ) h Q E):wp (gE src elt σ) h Q E:=by
 unfold cZ at w;unfold gE;rw[aG]at w ⊢;refine dS w (λs h1 w1=>?_) λ_ _ z=>z;split at w1
 ·rename_i hl;rw[if_pos hl];rw[aG]at w1 ⊢;rw[wP]at w1;exact zL w1 λ_ _ q=>q
 ·rw[dh]at w1;exact w1.elim
def All2{α:Type}(F:α->MV->Prop)(l:List α)(vs:List MV):Prop:=vs.length=l.length/\∀(i:Nat) (x:α) (v:MV),l[i]?=some x->vs[i]?=some v->F x v
theorem vF{α:Type}{s:Src}{elt:ME}{h0:MH}{iv:α->List MV}{F:α->MV->Prop}(hok:∀h',Pre h0 h'->s.okIn h'=true):∀(l:List α) (h1:MH),Pre h0 h1 ->
  (∀x∈l,∀h1,Pre h0 h1->wp (elt (σ++(iv x).map some)) h1 (λv h2=>F x v/\Pre h1 h2) (λc h2=>E c h2)) ->
  wp (bS s none elt σ (l.map iv)) h1 (λvs h2=>All2 F l vs/\Pre h1 h2) E
 |[],h1,p,_=>by
   have e:bS s none elt σ [] h1=.ok [] h1:=by simp[bS,hok h1 p]
   exact dv e ⟨⟨rfl,by simp⟩,.refl⟩
 |x::r,h1,p,a2=>by
   have ih:=λh2 p2=>vF (iv:=iv) (F:=F) hok r h2 p2 (λy hy=>a2 y (cS _ hy));rw[aN];have e:bS s none elt σ (iv x::r.map iv) h1=bnd (elt (σ++(iv x).map some)) (λv=>bnd (bS s none elt σ (r.map iv)) λws=>ret (v::ws)) h1:=by
    conv=>lhs;unfold bS
    rw[if_pos (hok h1 p)];rfl
   rw[rG e,aG];refine dS (a2 x dn h1 p) (λv h3 e0=>e0.elim λfv p3=>?_) λ_ _ z=>z;rw[aG];refine dS (ih h3 (p.trans p3)) (λws h4 e0=>e0.elim λq1 p4=>?_) λ_ _ z=>z;rw[aZ];refine⟨⟨by simp[q1.1],λi y u ey eu=>?_⟩,p3.trans p4⟩;cases i with
   |zero=>simp at ey eu;subst ey;subst eu;exact fv
   |succ i=>exact q1.2 i y u (by simpa using ey) (by simpa using eu)
theorem Ci{α:Type}{src:MI}{elt:ME}{Q:MV->MH->Prop}{s:Src}{h1:MH}(l:List α)(iv:α->List MV)(F:α->MV->Prop)(hs:src σ h=.ok s h1)(hi:s.items=l.map iv)(hok:∀h',Pre h1 h'->s.okIn h'=true)(hlen:l.length≤100000)
  (a2:∀x∈l,∀h2,Pre h1 h2->wp (elt (σ++(iv x).map some)) h2 (λv h3=>F x v/\Pre h2 h3) E)
  (q:∀vs h2,Pre h1 h2->All2 F l vs->Q (.ref h2.length) (h2++[.lst vs])):wp (gE src elt σ) h Q E:=by
 unfold gE;rw[aG];refine dv hs ?_;rw[if_pos (by rw[hi,bB];exact hlen),aG,hi];refine dS (vF (iv:=iv) (F:=F) hok l h1 .refl a2) (λvs h2 e0=>e0.elim λq1 p=>?_) λ_ _ z=>z;rw[iK];exact q vs h2 p q1
theorem yZ(s t:Str)(Q:MV->MH->Prop):wp (pJ (.str s) (.str t)) h Q E=Q (.bl (!(!(PySem.Builtin.Str.occurrences t s 0 t.length 1).isEmpty))) h:=by unfold wp;rfl
theorem Fd{o:ME}{t:Str}{c:Nat}{Q:MV->MH->Prop}(et:t.cps.toList=[c])(hc:c<256)(w:wp (o σ) h (λv h1=>∃s:Str,v=.str s/\s.length≤100000/\Q (.ref h1.length) (h1++[.lst ((aJ c s.cps.toList).map λl=>.str ⟨l.toArray⟩)])) E):wp (fS o (eC (.str t)) σ) h Q E:=by
 unfold fS;rw[aG];refine dS w (λv h1 z=>?_) λ_ _ z=>z;obtain⟨s,rfl,hl,q⟩:=z;dsimp only;rw[aG,w_c];dsimp only;rw[et];dsimp only;rw[if_pos ⟨hl,hc⟩,iK];exact q
theorem Ea{a:Nat}{ss:List Str}{Q:MV->MH->Prop}(g:h[a]?=some (.lst (ss.map .str)))(few:ss.length≤1000)(q:Q (.int (ss.foldl dZ []).length) h):wp (sj (.ref a)) h Q E:=by
 have es:∀(l:List Str),fW (l.map .str)=some l:=by
  intro l
  induction l with
  |nil=>rfl
  |cons x l ih=>simp[fW,ih]
 unfold sj;dsimp only;rw[aG,mv g];dsimp only;rw[es];dsimp only;rw[if_pos few,aZ];exact q
theorem uh:∀(ss D:List Str),D.Nodup->(ss.foldl dZ D).length≤D.length+ss.length/\((ss.foldl dZ D).length=D.length+ss.length↔(D++ss).Nodup)
 |[],D,hd=>by simpa using hd
 |x::ss,D,hd=>by
   by_cases c:x∈D
   ·have e:dZ D x=D:=by unfold dZ;rw[if_pos c]
    obtain⟨h1,h2⟩:=uh ss D hd;rw[jp,e,cr];refine⟨by lia,λz=>by lia,λz=>?_⟩;exact absurd rfl ((kI.mp z).2.2 x c x (by simp))
   ·have e:dZ D x=D++[x]:=by unfold dZ;rw[if_neg c]
    have hd':(D++[x]).Nodup:=by
     rw[kI];exact⟨hd,by simp,λa ha b hb z=>c (by rw[dC.mp hb]at z;exact z▸ha)⟩
    obtain⟨h1,h2⟩:=uh ss (D++[x]) hd';rw[jp,e,cr];rw[cQ,uV]at h1 h2;have ea:D++x::ss=D++[x]++ss:=by simp
    rw[ea,←h2];exact⟨by lia,by lia⟩
theorem xE{x:MV}{xs:List MV}{Q:MV->MH->Prop}(fx:flat x=true)(fs:xs.all flat=true)(q:Q (.bl (inM x xs)) h):wp (oIn false x (.tup xs)) h Q E:=by
 unfold oIn;dsimp only;rw[if_pos ⟨fx,fs⟩,aZ];exact q
theorem Cf{v i:Nat}{xs:List MV}{e f:ME}{Q:MV->MH->Prop}(sv:σ[v]?=some (some (.ref i)))(g:h[i]?=some (.lst xs)){k:Int}{x:MV}(ee:e σ h=.ok (.int k) h)(ef:f σ h=.ok x h)(few:xs.length<100000/\-1000000≤k/\k≤1000000)(q:Q .non (h.set i (.lst (eU xs (kr xs.length k) x)))):wp (r6 (af v) e f σ) h Q E:=by
 unfold r6;rw[aG,aA,sv];dsimp only;rw[aG,mv g];dsimp only;rw[aG];refine dv ee ?_;rw[aG];refine dv ef ?_;dsimp only;rw[aG,mv g];dsimp only;rw[if_pos few,aG,vi (d5 g),aZ];exact q
theorem Eb{i:Nat}{x:MV}{xs:List MV}{Q:MV->MH->Prop}(g:h[i]?=some (.lst (x::xs)))(q:Q x (h.set i (.lst xs))):wp (oK i (.int 0)) h Q E:=by
 unfold oK;dsimp only;rw[aG,mv g];dsimp only;rw[if_pos (by decide)];have e:ixN (x::xs).length 0=some 0:=by simp[ixN]
 rw[e];dsimp only;rw[aC];dsimp only;rw[aG,vi (d5 g),aZ];exact q
end
section
variable {h:MH}{E:Nat->MH->Prop}{σ:MSt}
end
end L2.Rv
namespace L2.Rv
noncomputable section
open PySem (Str)
def sJ:MS:=(bI (oS (cj (af 0) [3] "held") 0 (fh (ao (cj (aj oIx (cj (af 1) [3] "held") (af 0)) [2] "date") (ao (af 0) aD)))))
def nu:Fn:=fnOf 1 1 sJ
noncomputable def qa:MS:=(aB (sIf (aj oLt (af 1) (eUn bL (af 0))) (bI (aj oIx (af 0) (af 1))) cu)
  (bI (eC (.int 0))))
noncomputable def eW:Fn:=fnOf 2 2 qa
def t5:MS:=(bI (aj bG (eJ (ao (eC .non) aD)) (cZ (gM (eC (.int 1)) (af 2)) none (aj cR (bO eW (ao (af 0) (ao (aj bG (af 1) (af 3)) aD))) (af 3)))))
def rK:Fn:=fnOf 3 3 t5
def tS:MS:=(bI (cZ (du (eUn oE (cZ (du (af 0)) none (fh (ao (fh (ao (aj oIx (af 1) (eC (.int 3))) (ao (aj oIx (af 1) (eC (.int 0))) aD))) (ao (af 1) aD)))))) none (aj oIx (af 1) (eC (.int 1)))))
def j4:Fn:=fnOf 1 1 tS
def pc:MS:=(aB (sIf (eOr (aj oEq (af 0) (eC (.str (ah "")))) (eOr (aj oGt (eUn bL (af 0)) (eC (.int 7))) (iE (aj oGt (eUn bL (af 0)) (eC (.int 1))) (aj oEq (aj oIx (af 0) (eC (.int 0))) (eC (.str (ah "0"))))))) (bI (eUn i8 (eC (.int 1)))) cu)
  (aB (iu [2] (i6 (af 0)) (sIf (aj pJ (af 2) (eC (.str (ah "0123456789")))) (bI (eUn i8 (eC (.int 1)))) cu))
  (aB (sIf (aj oGt (eUn jA (af 0)) (af 1)) (bI (eUn i8 (eC (.int 1)))) cu)
  (bI (eUn jA (af 0))))))
def kN:Fn:=fnOf 2 3 pc
def rQ:MS:=(aB (aS 2 (fS (af 0) (eC (.str (ah " ")))))
  (aB (sIf (eOr (aj oNe (eUn bL (af 2)) (eC (.int 7))) (aj oNe (eJ (ao (aj oIx (af 2) (eC (.int 1))) (ao (aj oIx (af 2) (eC (.int 3))) (ao (aj oIx (af 2) (eC (.int 5))) aD)))) (eJ (ao (eC (.str (ah "at"))) (ao (eC (.str (ah "wants"))) (ao (eC (.str (ah "since"))) aD)))))) (bI (eC .non)) cu)
  (aB (aS 3 (aj oIx (af 2) (eC (.int 0))))
  (aB (sIf (eOr (ia (mY oLe oLe (eC (.int 1)) (eUn bL (af 3)) (eC (.int 8)))) (aj oGt (eUn bL (cZ (i6 (af 3)) (some (aj pJ (af 5) (eC (.str (ah "abcdefghijklmnopqrstuvwxyz"))))) (af 5))) (eC (.int 0)))) (bI (eC .non)) cu)
  (aB (aS 4 (fh (ao (af 3) (ao (bO kN (ao (aj oIx (af 2) (eC (.int 2))) (ao (aj oh (af 1) (eC (.int 1))) aD))) (ao (bO kN (ao (aj oIx (af 2) (eC (.int 4))) (ao (eC (.int 1000000)) aD))) (ao (bO kN (ao (aj oIx (af 2) (eC (.int 6))) (ao (eC (.int 9999)) aD))) aD))))))
  (aB (sIf (aj (oIn false) (eUn i8 (eC (.int 1))) (af 4)) (bI (eC .non)) cu)
  (bI (af 4))))))))
def pA:Fn:=fnOf 2 5 rQ
def rO:MS:=(aB (aS 1 (fS (af 0) (eC (.str (ah "\n")))))
  (aB (aS 2 (fS (aj oIx (af 1) (eC (.int 0))) (eC (.str (ah " ")))))
  (aB (sIf (eOr (aj oNe (eSl (af 2) none (some (eC (.int 2)))) (eJ (ao (eC (.str (ah "river"))) (ao (eC (.str (ah "-"))) aD)))) (aj oGt (eUn bL (af 2)) (eC (.int 41)))) (bI (eC (.bl false))) cu)
  (aB (iu [3] (gM (eC (.int 2)) (eUn bL (af 2))) (sIf (aj oLt (bO kN (ao (aj oIx (af 2) (af 3)) (ao (aj oh (af 3) (eC (.int 2))) aD))) (eC (.int 0))) (bI (eC (.bl false))) cu))
  (aB (aS 4 (cZ (du (eSl (af 1) (some (eC (.int 1))) none)) none (bO pA (ao (af 6) (ao (aj oh (eUn bL (af 2)) (eC (.int 1))) aD)))))
  (aB (sIf (eOr (aj mT (eC .non) (af 4)) (aj oGt (eUn bL (af 4)) (eC (.int 40)))) (bI (eC (.bl false))) cu)
  (aB (aS 5 (cZ (du (af 4)) none (aj oIx (af 6) (eC (.int 0)))))
  (bI (iE (aj oEq (eUn sj (af 5)) (eUn bL (af 5))) (aj oEq (af 4) (bO j4 (ao (af 4) aD))))))))))))
def rA:Fn:=fnOf 1 6 rO
noncomputable def uf:MS:=(aB (gB (af 0) [3] "stream" (af 1))
  (gB (af 0) [3] "held" ul))
noncomputable def rY:Fn:=fnOf 2 2 uf
noncomputable def qp:MS:=(sIf (aj (oIn false) (af 1) (cj (af 0) [3] "held")) (d6 104 (ao (ju [.lit (ah "there is a right "),.rp (af 1)]) aD)) cu)
noncomputable def jC:Fn:=fnOf 2 2 qp
noncomputable def sP:MS:=(aB (gB (af 0) [2] "point" (af 1))
  (aB (gB (af 0) [2] "amount" (af 2))
  (gB (af 0) [2] "date" (af 3))))
noncomputable def uM:Fn:=fnOf 4 4 sP
noncomputable def nj:MS:=(sIf (eOr (aj oLt (af 1) (eC (.int 0))) (aj oGe (af 1) (eUn bL (cj (af 0) [1] "runs_to")))) (d6 103 (ao (eC (.str (ah "the river has no such point"))) aD)) cu)
noncomputable def gY:Fn:=fnOf 2 2 nj
noncomputable def qd:MS:=(aB (fN (dJ 3 "check_free" jC (af 0) (ao (af 1) aD)))
  (aB (fN (dJ 1 "check_point" gY (cj (af 0) [3] "stream") (ao (af 2) aD)))
  (aB (ib (cj (af 0) [3] "held") (af 1) (lK 2 uM (ao (af 2) (ao (af 3) (ao (af 4) aD)))))
  (bI (eUn bL (cj (af 0) [3] "held"))))))
noncomputable def jd:Fn:=fnOf 5 5 qd
def k8:MS:=(aB (sIf (eOr (aj oLt (eUn bL (af 0)) (eC (.int 1))) (eOr (aj oGt (eUn bL (af 0)) (eC (.int 8))) (ia (eUn kB (cZ (i6 (af 0)) none (aj kY (af 1) (eC (.str (ah "abcdefghijklmnopqrstuvwxyz"))))))))) (d6 212 (ao (eC (.str (ah "a name has 1 to 8 small letters"))) aD)) cu)
  (bI (af 0)))
def lQ:Fn:=fnOf 1 1 k8
def le:MS:=(aB (sIf (eOr (aj oLt (eUn bL (af 0)) (eC (.int 1))) (eOr (aj oGt (eUn bL (af 0)) (eUn bL (eUn ie (af 1)))) (ia (eUn kB (cZ (i6 (af 0)) none (aj kY (af 3) (eC (.str (ah "0123456789"))))))))) (d6 212 (ao (eC (.str (ah "a number is written by figures, and no greater than its bound"))) aD)) cu)
  (aB (aS 2 (eUn jA (af 0)))
  (aB (sIf (aj oGt (af 2) (af 1)) (d6 212 (ao (eC (.str (ah "a number is no greater than its bound"))) aD)) cu)
  (bI (af 2)))))
def iU:Fn:=fnOf 2 3 le
def kZ:MS:=(aB (aS 2 (fS (af 1) (eC (.str (ah " ")))))
  (aB (sIf (eOr (aj oNe (eUn bL (af 2)) (eC (.int 7))) (aj oNe (eJ (ao (aj oIx (af 2) (eC (.int 1))) (ao (aj oIx (af 2) (eC (.int 3))) (ao (aj oIx (af 2) (eC (.int 5))) aD)))) (eJ (ao (eC (.str (ah "at"))) (ao (eC (.str (ah "wants"))) (ao (eC (.str (ah "since"))) aD)))))) (d6 212 (ao (eC (.str (ah "a line behind the first tells a right"))) aD)) cu)
  (aB (aS 3 (bO lQ (ao (aj oIx (af 2) (eC (.int 0))) aD)))
  (aB (aS 4 (bO iU (ao (aj oIx (af 2) (eC (.int 2))) (ao (eC (.int 40)) aD))))
  (aB (aS 5 (bO iU (ao (aj oIx (af 2) (eC (.int 4))) (ao (eC (.int 1000000)) aD))))
  (aB (aS 6 (bO iU (ao (aj oIx (af 2) (eC (.int 6))) (ao (eC (.int 9999)) aD))))
  (k9 [103,104] 212 (fN (dJ 3 "grant" jd (af 0) (ao (af 3) (ao (af 4) (ao (af 5) (ao (af 6) aD)))))))))))))
def ma:Fn:=fnOf 2 8 kZ
def jV:MS:=(aB (sIf (eOr (aj oLt (eUn bL (af 0)) (eC (.int 1))) (aj oGt (eUn bL (af 0)) (eC (.int 40)))) (d6 101 (ao (eC (.str (ah "a river has 1 to 40 points"))) aD)) cu)
  (aB (sIf (eUn nG (aj oIx (af 0) (eC (.int 0)))) (d6 101 (ao (eC (.str (ah "nothing lies below the mouth"))) aD)) cu)
  (iu [1] (gM (eC (.int 1)) (eUn bL (af 0))) (aB (aS 2 (aj oIx (af 0) (af 1)))
  (sIf (eOr (eUn kT (af 2)) (eOr (aj oLt (af 2) (eC (.int 0))) (aj oGe (af 2) (af 1)))) (d6 101 (ao (eC (.str (ah "each point but the mouth has a point of a lesser number below it"))) aD)) cu)))))
def mS:Fn:=fnOf 1 3 jV
def mj:MS:=(aB (fN (bO mS (ao (af 1) aD)))
  (gB (af 0) [1] "runs_to" (eUn oH (af 1))))
def ki:Fn:=fnOf 2 2 mj
def lF:MS:=(aB (aS 1 (fS (af 0) (eC (.str (ah " ")))))
  (aB (sIf (aj oNe (aj oIx (af 1) (eC (.int 0))) (eC (.str (ah "river")))) (d6 212 (ao (eC (.str (ah "the first line tells the river"))) aD)) cu)
  (aB (aS 2 (gE (du (eSl (af 1) (some (eC (.int 1))) none)) (eIf (aj oEq (af 4) (eC (.str (ah "-")))) (eC .non) (bO iU (ao (af 4) (ao (eC (.int 40)) aD))))))
  (k9 [101] 212 (bI (lK 1 ki (ao (af 2) aD)))))))
def lX:Fn:=fnOf 1 4 lF
noncomputable def sK:MS:=(bI (cj (af 0) [3] "stream"))
noncomputable def rF:Fn:=fnOf 1 1 sK
noncomputable def tT:MS:=(aB (sIf (aj (oIn true) (af 1) (cj (af 0) [3] "held")) (d6 105 (ao (ju [.lit (ah "there is no right "),.rp (af 1)]) aD)) cu)
  (bI (aj oIx (cj (af 0) [3] "held") (af 1))))
noncomputable def mP:Fn:=fnOf 2 2 tT
noncomputable def sO:MS:=(aB (aS 2 (dJ 3 "held_right" mP (af 0) (ao (af 1) aD)))
  (bI (fh (ao (cj (af 2) [2] "point") (ao (cj (af 2) [2] "amount") (ao (cj (af 2) [2] "date") aD))))))
noncomputable def oA:Fn:=fnOf 2 3 sO
noncomputable def qq:MS:=(aB (aS 2 (dJ 3 "right" oA (af 0) (ao (af 1) aD)))
  (aB (aS 3 (aj oIx (af 2) (eC (.int 0))))
  (aB (aS 4 (aj oIx (af 2) (eC (.int 1))))
  (aB (aS 5 (aj oIx (af 2) (eC (.int 2))))
  (bI (ju [.pl (af 1),.lit (ah " at "),.pl (af 3),.lit (ah " wants "),.pl (af 4),.lit (ah " since "),.pl (af 5)]))))))
noncomputable def o6:Fn:=fnOf 2 6 qq
noncomputable def t6:MS:=(aB (fN (dJ 1 "check_point" gY (af 0) (ao (af 1) aD)))
  (bI (aj oIx (cj (af 0) [1] "runs_to") (af 1))))
noncomputable def ou:Fn:=fnOf 2 2 t6
noncomputable def tU:MS:=(bI (eUn bL (cj (af 0) [1] "runs_to")))
noncomputable def jS:Fn:=fnOf 1 1 tU
def pf:MS:=(aB (aS 1 (cZ (fw (dJ 1 "points" jS (af 0) aD)) none (dJ 1 "below" ou (af 0) (ao (af 2) aD))))
  (bI (iD (eC (.str (ah " "))) (aj bG (eJ (ao (eC (.str (ah "river"))) aD)) (cZ (du (af 1)) none (eIf (eUn kT (af 2)) (eC (.str (ah "-"))) (eUn ie (af 2))))))))
def qV:Fn:=fnOf 1 2 pf
def q9:MS:=(aB (aS 1 (cZ (du (dJ 3 "names" nu (af 0) aD)) none (bO o6 (ao (af 0) (ao (af 2) aD)))))
  (bI (iD (eC (.str (ah "\n"))) (aj bG (eJ (ao (bO qV (ao (dJ 3 "river" rF (af 0) aD) aD)) aD)) (af 1)))))
def nT:Fn:=fnOf 1 2 q9
def k6:MS:=(aB (aS 1 (fS (af 0) (eC (.str (ah "\n")))))
  (aB (sIf (aj oGt (eUn bL (af 1)) (aj bG (eC (.int 1)) (eC (.int 40)))) (d6 212 (ao (eC (.str (ah "a book has at most 40 rights"))) aD)) cu)
  (aB (aS 2 (lK 3 rY (ao (bO lX (ao (aj oIx (af 1) (eC (.int 0))) aD)) aD)))
  (aB (iu [3] (du (eSl (af 1) (some (eC (.int 1))) none)) (fN (bO ma (ao (af 2) (ao (af 3) aD)))))
  (aB (sIf (aj oNe (bO nT (ao (af 2) aD)) (af 0)) (d6 212 (ao (eC (.str (ah "a book is not written so"))) aD)) cu)
  (bI (af 2)))))))
def kK:Fn:=fnOf 1 4 k6
def qb:MS:=(aB (aS 1 (eC (.bl false)))
  (aB (mI [100,101,103,104,105,212] (fN (bO kK (ao (af 0) aD))) (⟨[212],some 2,(aB (aS 3 (eOr (eUn (js (.exn [100,101,103,104,105,212] [101])) (af 2)) (eOr (eUn (js (.exn [100,101,103,104,105,212] [103])) (af 2)) (eUn (js (.exn [100,101,103,104,105,212] [104])) (af 2)))))
  (aS 1 (iE (eUn (js (.exn [100,101,103,104,105,212] [100,101,103,104,105,212])) (af 2)) (ia (af 3)))))⟩::[]))
  (bI (af 1))))
def qh:Fn:=fnOf 1 4 qb
def yN:MS:=(aB (aS 2 (eC (.str (ah "abcdefghijklmnopqrstuvwxyz"))))
  (aB (aS 3 (iD (eC (.str (ah ""))) (cZ (fw (aj cR (af 0) (eC (.int 8)))) none (aj oIx (af 2) (aj cR (aj bG (aj bG (aj fF (af 0) (eC (.int 31))) (aj hU (aj hU (eC (.int 11)) (af 5)) (af 5))) (af 5)) (eC (.int 26)))))))
  (aB (aS 4 (aj cR (aj fF (af 0) (eC (.int 8))) (aj bG (eUn bL (af 3)) (eC (.int 1)))))
  (bI (cZ (fw (af 1)) none (aj bG (aj bG (eSl (af 3) none (some (af 4))) (aj oIx (af 2) (aj cR (aj bG (aj fF (af 0) (eC (.int 64))) (aj hU (eC (.int 5)) (af 5))) (eC (.int 26))))) (eSl (af 3) (some (af 4)) none)))))))
def p8:Fn:=fnOf 2 5 yN
def zS:MS:=(aB (aS 4 (bO p8 (ao (bO eW (ao (af 0) (ao (eC (.int 1)) aD))) (ao (af 2) aD))))
  (aB (aS 5 (eJ aD))
  (aB (iu [6] (fw (af 2)) (aB (aS 7 (bO eW (ao (af 0) (ao (aj bG (aj bG (af 1) (aj hU (eC (.int 3)) (af 6))) (eC (.int 1))) aD))))
  (aB (aS 8 (bO eW (ao (af 0) (ao (aj bG (aj bG (af 1) (aj hU (eC (.int 3)) (af 6))) (eC (.int 2))) aD))))
  (aB (sIf (aj oEq (aj cR (af 7) (eC (.int 7))) (eC (.int 6))) (aS 7 (aj cR (aj fF (af 7) (eC (.int 7))) (eC (.int 1000001)))) (aS 7 (aj cR (aj fF (af 7) (eC (.int 7))) (eC (.int 90)))))
  (aB (sIf (aj oEq (aj cR (af 8) (eC (.int 5))) (eC (.int 4))) (aS 8 (aj cR (aj fF (af 8) (eC (.int 5))) (eC (.int 10000)))) (aS 8 (aj cR (aj fF (af 8) (eC (.int 5))) (eC (.int 3)))))
  (fN (oV (af 5) (fh (ao (aj oIx (af 4) (af 6)) (ao (aj cR (bO eW (ao (af 0) (ao (aj bG (af 1) (aj hU (eC (.int 3)) (af 6))) aD))) (af 3)) (ao (af 7) (ao (af 8) aD))))))))))))
  (bI (af 5)))))
def mi:Fn:=fnOf 4 9 zS
def pH:MS:=(aB (aS 2 (eC (.str (ah "river -"))))
  (aB (iu [3] (du (eSl (af 0) (some (eC (.int 1))) none)) (aS 2 (aj bG (aj bG (af 2) (eC (.str (ah " ")))) (eUn ie (af 3)))))
  (aB (iu [4] (du (bO j4 (ao (af 1) aD))) (aB (aS 2 (aj bG (aj bG (aj bG (aj bG (af 2) (eC (.str (ah "\n")))) (aj oIx (af 4) (eC (.int 0)))) (eC (.str (ah " at ")))) (eUn ie (aj oIx (af 4) (eC (.int 1))))))
  (aB (aS 2 (aj bG (aj bG (af 2) (eC (.str (ah " wants ")))) (eUn ie (aj oIx (af 4) (eC (.int 2))))))
  (aS 2 (aj bG (aj bG (af 2) (eC (.str (ah " since ")))) (eUn ie (aj oIx (af 4) (eC (.int 3)))))))))
  (bI (af 2)))))
def qD:Fn:=fnOf 2 5 pH
noncomputable def pB:MS:=(aB (aS 2 (eJ (ao (eC (.str (ah ""))) (ao (eC (.str (ah "-"))) (ao (aj bG (eC (.str (ah "0"))) (af 0)) (ao (aj bG (eC (.str (ah "+"))) (af 0)) (ao (aj bG (af 0) (eC (.str (ah " ")))) (ao (eC (.str (ah "At"))) (ao (eC (.str (ah "at"))) (ao (eC (.str (ah "1000001"))) (ao (eC (.str (ah "10000"))) (ao (eC (.str (ah "-1"))) (ao (eC (.str (ah "a b"))) (ao (eC (.str (ah "A"))) aD))))))))))))))
  (aB (aS 2 (aj bG (af 2) (eJ (ao (eC (.str (ah "abcdefghi"))) (ao (aj bG (af 0) (eC (.str (ah ".")))) (ao (eC (.str (ah "1_0"))) (ao (aj ot (eC (.str (ah "9"))) (aj bG (eC (.int 8)) (aj cR (aj fF (af 1) (eC (.int 16))) (eC (.int 300))))) aD)))))))
  (bI (aj oIx (af 2) (aj cR (af 1) (eC (.int 16)))))))
noncomputable def oz:Fn:=fnOf 2 3 pB
def rV:MS:=(aB (aS 4 (eUn oH (af 0)))
  (aB (aS 5 (aj cR (af 2) (eUn bL (af 4))))
  (aB (aS 6 (fS (aj oIx (af 4) (af 5)) (eC (.str (ah " ")))))
  (aB (sIf (eOr (aj oEq (af 1) (eC (.int 0))) (aj oEq (af 1) (eC (.int 1)))) (aB (aS 7 (aj cR (aj fF (af 2) (eC (.int 7))) (eUn bL (af 6))))
  (aB (ib (af 6) (af 7) (bO oz (ao (aj oIx (af 6) (af 7)) (ao (af 3) aD))))
  (ib (af 4) (af 5) (iD (eC (.str (ah " "))) (af 6))))) cu)
  (aB (sIf (aj oEq (af 1) (eC (.int 2))) (aB (ib (af 4) (af 5) (aj oIx (af 0) (eUn i8 (eC (.int 1)))))
  (ib (af 4) (eUn i8 (eC (.int 1))) (aj oIx (af 0) (af 5)))) cu)
  (aB (sIf (aj oEq (af 1) (eC (.int 3))) (fN (r6 (af 4) (af 5) (aj oIx (af 4) (eUn i8 (eC (.int 1)))))) cu)
  (aB (sIf (aj oEq (af 1) (eC (.int 4))) (fN (zI (af 4) (eC (.int 0)))) cu)
  (aB (aS 8 (iD (eC (.str (ah "\n"))) (af 4)))
  (aB (sIf (eOr (aj oEq (af 1) (eC (.int 5))) (aj oEq (af 1) (eC (.int 6)))) (aB (aS 7 (aj cR (af 3) (aj bG (eUn bL (af 8)) (eC (.int 1)))))
  (aS 8 (aj bG (aj bG (eSl (af 8) none (some (af 7))) (aj oIx (eJ (ao (eC (.str (ah " "))) (ao (eC (.str (ah "\n"))) aD))) (aj cR (af 2) (eC (.int 2))))) (eSl (af 8) (some (af 7)) none)))) cu)
  (bI (af 8)))))))))))
def su:Fn:=fnOf 4 9 rV
def qL:MS:=(aB (aS 1 (aj bG (eC (.int 1)) (aj cR (bO eW (ao (af 0) (ao (eC (.int 0)) aD))) (eC (.int 8)))))
  (aB (aS 2 (bO rK (ao (af 0) (ao (eC (.int 2)) (ao (af 1) aD)))))
  (aB (aS 3 (bO mi (ao (af 0) (ao (eC (.int 18)) (ao (aj bG (eC (.int 1)) (aj cR (aj fF (bO eW (ao (af 0) (ao (eC (.int 0)) aD))) (eC (.int 8))) (eC (.int 4)))) (ao (af 1) aD))))))
  (aB (aS 4 (fS (bO qD (ao (af 2) (ao (af 3) aD))) (eC (.str (ah "\n")))))
  (aB (aS 5 (bO eW (ao (af 0) (ao (eC (.int 35)) aD))))
  (aB (aS 6 (bO su (ao (af 4) (ao (aj cR (bO eW (ao (af 0) (ao (eC (.int 34)) aD))) (eC (.int 8))) (ao (af 5) (ao (bO eW (ao (af 0) (ao (eC (.int 36)) aD))) aD))))))
  (aB (sIf (ia (bO rA (ao (af 6) aD))) (bI (bO qh (ao (af 6) aD))) cu)
  (bI (aj oEq (bO nT (ao (bO kK (ao (af 6) aD)) aD)) (af 6))))))))))
def n6:Fn:=fnOf 1 7 qL
end
end L2.Rv
namespace L2.Rv
open PySem PySem.Spec PyProof.Rows
noncomputable def top(i:Nat):aV:=PySem.Challenge.pw_riverdue_k27_texts_refused.main.body.getD i (.Pass ⟨0,0,0,0⟩)
noncomputable abbrev pG:aV:=eO (top 11) 2
noncomputable abbrev pT:aV:=top 31
noncomputable abbrev rk:aV:=top 32
noncomputable abbrev qU:aV:=top 35
noncomputable abbrev qF:aV:=top 39
noncomputable abbrev qN:aV:=top 40
noncomputable abbrev sr:aV:=top 41
noncomputable abbrev se:aV:=eO (top 11) 0
noncomputable abbrev qG:aV:=eO (top 11) 9
noncomputable abbrev rH:aV:=eO (top 10) 0
noncomputable abbrev o9:aV:=eO (top 14) 2
noncomputable abbrev qX:aV:=eO (top 11) 4
noncomputable abbrev rP:aV:=top 28
noncomputable abbrev qj:aV:=top 29
noncomputable abbrev qg:aV:=top 27
noncomputable abbrev pI:aV:=top 15
noncomputable abbrev pO:aV:=eO (top 14) 0
noncomputable abbrev pp:aV:=top 26
noncomputable abbrev rT:aV:=eO (top 11) 1
noncomputable abbrev qH:aV:=eO (top 11) 8
noncomputable abbrev rN:aV:=eO (top 11) 3
noncomputable abbrev qP:aV:=top 24
noncomputable abbrev qm:aV:=eO (top 14) 3
noncomputable abbrev pF:aV:=eO (top 14) 1
noncomputable abbrev qQ:aV:=top 23
noncomputable abbrev qC:aV:=top 22
noncomputable abbrev pq:aV:=top 25
noncomputable abbrev oZ:aV:=top 42
noncomputable abbrev qB:aV:=top 33
noncomputable abbrev qT:aV:=top 34
noncomputable abbrev pV:aV:=top 36
noncomputable abbrev sg:aV:=top 37
noncomputable abbrev si:aV:=top 38
noncomputable abbrev qO:aV:=top 43
structure Adr where
 zfj:ad
 zd4:ad
 zeu:ad
 zdD:ad
 zb6:ad
 zcY:ad
 zfk:ad
 zfS:ad
 zet:ad
 zeG:ad
 zdg:bq
 zdV:ad
 zdP:bq
 zfo:ad
 zfl:bq
 zgo:ad
 zgl:bq
 zeJ:ad
 zey:bq
 zcy:ad
 zcv:bq
 zgp:ad
 zgm:bq
 zc0:ad
 zcZ:bq
 zca:ad
 zb7:bq
 zcw:ad
 zct:bq
 zbD:ad
 zbB:bq
 zeF:ad
 zev:bq
 zfq:ad
 zfn:bq
 zdX:ad
 zdR:bq
 zeM:ad
 zeB:bq
 zdU:ad
 zdO:bq
 zcx:ad
 zcu:bq
 zeN:ad
 zeC:bq
 zeI:ad
 zex:bq
 zcb:ad
 zb8:bq
 zeH:ad
 zew:bq
 zeO:ad
 zeD:bq
 zdT:ad
 zdN:bq
 zdt:ad
 zds:bq
 zeP:ad
 zeE:bq
 zld:ad
 zlc:bq
 znQ:ad
 znP:bq
 zdW:ad
 zdQ:bq
 zfp:ad
 zfm:bq
 zeK:ad
 zez:bq
 zgq:ad
 zgn:bq
 zhR:ad
 zhQ:bq
 zeL:ad
 zeA:bq
 zqb:ad
 zqa:bq
 tb:ad
noncomputable def Adr.cl(a:Adr):Nat->ad:=λn=>if n=999 then a.tb else if n=998 then 35 else if n=997 then 37 else if n=996 then 1 else if n=2 then a.zfj else if n=3 then a.zd4 else if n=1 then a.zeu else if n=100 then a.zdD else if n=101 then a.zb6 else if n=103 then a.zcY else if n=104 then a.zfk else if n=105 then a.zfS else if n=212 then a.zet else 0
structure Txt(K:PySem.W.Frag)(mg:Str->Option ae)(a:Adr):Prop where
 zqc:mg "all"=none
 zoS:mg "int"=none
 zcm:mg "isinstance"=none
 zbM:mg "len"=none
 znV:mg "list"=none
 zeR:mg "range"=none
 zrJ:mg "set"=none
 zjr:mg "sorted"=none
 zlf:mg "str"=none
 zkr:∃t,mg "FIGURES"=some (.str (ah "0123456789") t)
 zks:∃t,mg "LETTERS"=some (.str (ah "abcdefghijklmnopqrstuvwxyz") t)
 zfT:∃t,mg "MOST_AMOUNT"=some (.int 1000000 t)
 zhS:∃t,mg "MOST_DATE"=some (.int 9999 t)
 ze8:∃t,mg "MOST_LETTERS"=some (.int 8 t)
 zcM:∃t,mg "MOST_POINTS"=some (.int 40 t)
 zfU:∃t,mg "MOST_RIGHTS"=some (.int 40 t)
 znR:mg "Right"=some (.ref a.zfj)
 zdf:Cls K a.zfj
 zlQ:Mk K a.zfj a.zcw
 zdu:fE K a.zfj "point"
 zc1:fE K a.zfj "amount"
 zcN:fE K a.zfj "date"
 zpa:mg "Book"=some (.ref a.zd4)
 zbd:Cls K a.zd4
 znU:Mk K a.zd4 a.zc0
 zcf:fE K a.zd4 "stream"
 zaU:fE K a.zd4 "held"
 znS:mg "River"=some (.ref a.zeu)
 zcK:Cls K a.zeu
 zlR:Mk K a.zeu a.zcx
 zbb:fE K a.zeu "runs_to"
 ziD:mg "DueError"=some (.ref a.zdD)
 zbC:dY K a.zdD
 zcP:mg "BadRiver"=some (.ref a.zb6)
 za9:dY K a.zb6
 zfV:mg "NoPoint"=some (.ref a.zcY)
 zbq:dY K a.zcY
 zjq:mg "Taken"=some (.ref a.zfk)
 zcL:dY K a.zfk
 zkt:mg "NoRight"=some (.ref a.zfS)
 zb9:dY K a.zfS
 zbj:mg "BadText"=some (.ref a.zet)
 zbK:dY K a.zet
 zdS:PySem.W.excIn K a.zb6 nO nH=true
 zbc:PySem.W.excIn K a.zet nO nH=true
 ziA:PySem.W.excIn K a.zcY nO nH=true
 ziB:PySem.W.excIn K a.zfS nO nH=true
 zlO:PySem.W.excIn K a.zfk nO nH=true
 zhT:KTy K a.cl (.ref a.zb6) (.exn [100,101,103,104,105,212] [101])
 zhU:KTy K a.cl (.ref a.zdD) (.exn [100,101,103,104,105,212] [100,101,103,104,105,212])
 ziC:KTy K a.cl (.ref a.zcY) (.exn [100,101,103,104,105,212] [103])
 zlP:KTy K a.cl (.ref a.zfk) (.exn [100,101,103,104,105,212] [104])
 zhY:∀n∈([100,101,103,104,105,212]:List Nat),PySem.W.subIn K (.ref (a.cl n)) (.ref a.zb6)=some (([101]:List Nat).contains n)
 ziG:∀n∈([100,101,103,104,105,212]:List Nat),PySem.W.subIn K (.ref (a.cl n)) (.ref a.zet)=some (([212]:List Nat).contains n)
 ziH:∀n∈([100,101,103,104,105,212]:List Nat),PySem.W.subIn K (.ref (a.cl n)) (.ref a.zcY)=some (([103]:List Nat).contains n)
 zlS:∀n∈([100,101,103,104,105,212]:List Nat),PySem.W.subIn K (.ref (a.cl n)) (.ref a.zfk)=some (([104]:List Nat).contains n)
 zgL:Fun K "names" "Book.names" pG a.zeG a.zdg
 zgB:Binds K a.zdg ["self"] []
 zfZ:Meth K a.zd4 "names" a.zeG
 zaz:Fun K "_law_cell_at" "_law_cell_at" pT a.zdV a.zdP
 zaD:Binds K a.zdP ["script","k"] []
 zaE:mg "_law_cell_at"=some (.ref a.zdV)
 zfg:Fun K "_law_below" "_law_below" rk a.zfo a.zfl
 zhM:Binds K a.zfl ["script","start","size"] []
 zhV:mg "_law_below"=some (.ref a.zfo)
 zeW:Fun K "_law_aged" "_law_aged" qU a.zgo a.zgl
 zgi:Binds K a.zgl ["rights"] []
 zgr:mg "_law_aged"=some (.ref a.zgo)
 zbJ:Fun K "_law_number" "_law_number" qF a.zeJ a.zey
 zck:Binds K a.zey ["word","most"] []
 zcl:mg "_law_number"=some (.ref a.zeJ)
 zcs:Fun K "_law_right_line" "_law_right_line" qN a.zcy a.zcv
 zd1:Binds K a.zcv ["line","points"] []
 zd5:mg "_law_right_line"=some (.ref a.zcy)
 zgj:Fun K "_law_good" "_law_good" sr a.zgp a.zgm
 ziy:Binds K a.zgm ["text"] []
 ziE:mg "_law_good"=some (.ref a.zgp)
 zem:Fun K "__init__" "Book.__init__" se a.zc0 a.zcZ
 zel:Binds K a.zcZ ["self","river"] []
 zdB:Fun K "check_free" "Book.check_free" qG a.zca a.zb7
 zdz:Binds K a.zb7 ["self","name"] []
 zdh:Meth K a.zd4 "check_free" a.zca
 zd2:Fun K "__init__" "Right.__init__" rH a.zcw a.zct
 zdZ:Binds K a.zct ["self","point","amount","date"] []
 zcX:Fun K "check_point" "River.check_point" o9 a.zbD a.zbB
 zbA:Binds K a.zbB ["self","point"] []
 zbs:Meth K a.zeu "check_point" a.zbD
 zgK:Fun K "grant" "Book.grant" qX a.zeF a.zev
 zgA:Binds K a.zev ["self","name","point","amount","date"] []
 zfY:Meth K a.zd4 "grant" a.zeF
 zfi:Fun K "read_name" "read_name" rP a.zfq a.zfn
 zhO:Binds K a.zfn ["word"] []
 zhX:mg "read_name"=some (.ref a.zfq)
 zbp:Fun K "read_number" "read_number" qj a.zdX a.zdR
 zbY:Binds K a.zdR ["word","most"] []
 zbZ:mg "read_number"=some (.ref a.zdX)
 zep:Fun K "read_right" "read_right" qg a.zeM a.zeB
 zgG:Binds K a.zeB ["book","line"] []
 zgQ:mg "read_right"=some (.ref a.zeM)
 zdL:Fun K "check_below" "check_below" pI a.zdU a.zdO
 zfP:Binds K a.zdO ["below"] []
 zfW:mg "check_below"=some (.ref a.zdU)
 zd3:Fun K "__init__" "River.__init__" pO a.zcx a.zcu
 zd0:Binds K a.zcu ["self","below"] []
 zeq:Fun K "read_river" "read_river" pp a.zeN a.zeC
 zgH:Binds K a.zeC ["line"] []
 zgR:mg "read_river"=some (.ref a.zeN)
 zgN:Fun K "river" "Book.river" rT a.zeI a.zex
 zgD:Binds K a.zex ["self"] []
 zf1:Meth K a.zd4 "river" a.zeI
 zdC:Fun K "held_right" "Book.held_right" qH a.zcb a.zb8
 zdA:Binds K a.zb8 ["self","name"] []
 zdi:Meth K a.zd4 "held_right" a.zcb
 zgM:Fun K "right" "Book.right" rN a.zeH a.zew
 zgC:Binds K a.zew ["self","name"] []
 zf0:Meth K a.zd4 "right" a.zeH
 zer:Fun K "right_line" "right_line" qP a.zeO a.zeD
 zgI:Binds K a.zeD ["book","name"] []
 zgS:mg "right_line"=some (.ref a.zeO)
 zfR:Fun K "below" "River.below" qm a.zdT a.zdN
 zfO:Binds K a.zdN ["self","point"] []
 ze9:Meth K a.zeu "below" a.zdT
 ze7:Fun K "points" "River.points" pF a.zdt a.zds
 ze6:Binds K a.zds ["self"] []
 zeQ:Meth K a.zeu "points" a.zdt
 zes:Fun K "river_line" "river_line" qQ a.zeP a.zeE
 zgJ:Binds K a.zeE ["river"] []
 zgT:mg "river_line"=some (.ref a.zeP)
 zjp:Fun K "shown" "shown" qC a.zld a.zlc
 zlb:Binds K a.zlc ["book"] []
 zle:mg "shown"=some (.ref a.zld)
 zlN:Fun K "read" "read" pq a.znQ a.znP
 znO:Binds K a.znP ["text"] []
 znT:mg "read"=some (.ref a.znQ)
 zdM:Fun K "_law_refused" "_law_refused" oZ a.zdW a.zdQ
 zfQ:Binds K a.zdQ ["text"] []
 zfX:mg "_law_refused"=some (.ref a.zdW)
 zfh:Fun K "_law_names" "_law_names" qB a.zfp a.zfm
 zhN:Binds K a.zfm ["cell","count"] []
 zhW:mg "_law_names"=some (.ref a.zfp)
 zen:Fun K "_law_rights" "_law_rights" qT a.zeK a.zez
 zgE:Binds K a.zez ["script","start","count","size"] []
 zgO:mg "_law_rights"=some (.ref a.zeK)
 zgk:Fun K "_law_text" "_law_text" pV a.zgq a.zgn
 ziz:Binds K a.zgn ["below","rights"] []
 ziF:mg "_law_text"=some (.ref a.zgq)
 zhP:Fun K "_law_odd" "_law_odd" sg a.zhR a.zhQ
 zkq:Binds K a.zhQ ["word","cell"] []
 zku:mg "_law_odd"=some (.ref a.zhR)
 zeo:Fun K "_law_turned" "_law_turned" si a.zeL a.zeA
 zgF:Binds K a.zeA ["lines","way","cell","other"] []
 zgP:mg "_law_turned"=some (.ref a.zeL)
 zrI:Fun K "law" "law" qO a.zqb a.zqa
 zse:Binds K a.zqa ["script"] []
 zsf:mg "law"=some (.ref a.zqb)
 lam:sR K mg a.cl a.zdg.code
end L2.Rv
namespace L2.Rv
noncomputable section
open PySem PySem.Spec PyProof.Rows
noncomputable abbrev kS(x:String)(t:Nat):ae:=.str (ah x) t
noncomputable abbrev kE(P:Params)(x:String)(t:Nat)(v:ae):DictEntry:=⟨PyData.keyHash P (ah x),kS x t,v⟩
noncomputable abbrev KQc:Array ae:=#[(kS "names" 358),(kS "Book.names" 359),(kS "/claim/cut.py" 360),(.int 34 0),(.int 1 0),(.int 0 0),(.int 0 0),(.int 3 0),(.ref 137),(.bool true),(.int 181 0),(.ref 138),.none,(.ref 139),(.ref 140),(.ref 141),(.int 363 0),(.int 34 0),(kS "/claim/cut.py" 364)]
noncomputable abbrev fO(n q:Str)(s:aV)(m:String)(k:Nat)(c:ad):bq:=PySem.W.fnOf n q (ol s) (j3 s) (bM s) .none .none .none (kS m k) none (.ref c) .none
noncomputable abbrev kF(n q:Str)(s:aV)(m:String)(k:Nat)(c:ad):aw:=⟨.type "function",none,.func ⟨n,q,ol s,.stmts (j3 s),bM s,3,[],.none,.none,.none,kS m k,none,.ref c,.none,0⟩,#[]⟩
noncomputable abbrev kC(n q f:String)(t l g v a x b c d e i:Nat):aw:=⟨.type "code",none,.fields #[kS n t,kS q (t+1),kS f (t+2),.int l 0,.int g 0,.int 0 0,.int 0 0,.int v 0,.ref a,.bool true,.int x 0,.ref b,.none,.ref c,.ref d,.ref e,.int i 0,.int l 0,kS f (i+1)],#[]⟩
theorem fm{K:PySem.W.Frag}{n q:Str}{m:String}{s:aV}{k:Nat}{f c:ad}(l:K.lookup f=some ⟨.type "function",none,.func (fO n q s m k c),#[]⟩:=by kernel_rfl)(x:PySem.W.codeIn K (.ref c) q=true:=by kernel_rfl)(y:PySem.W.keepIn K (.ref f)=true:=by kernel_rfl):Fun K n q s f (fO n q s m k c):=Fb l x y
theorem nA{K:PySem.W.Frag}{C:ad}{f:Str}(h:PySem.W.findIn K (.ref C) f=some none:=by kernel_rfl):fE K C f:=h
theorem nN{K:PySem.W.Frag}{h:aI}{mg:Str->Option ae}{x:Str}(X:K.In h)(G:h.Ns dA mg)(e:PySem.W.nsIn K dA x=some none:=by kernel_rfl):mg x=none:=PySem.W.mg_none_of X G e
theorem nR{K:PySem.W.Frag}{h:aI}{mg:Str->Option ae}{x:Str}{v:ae}(X:K.In h)(G:h.Ns dA mg)(e:PySem.W.nsIn K dA x=some (some v):=by kernel_rfl):mg x=some v:=PySem.W.mg_of X G e
theorem nC{K:PySem.W.Frag}{C:ad}(a:PySem.W.plainGet K C Str.empty=true:=by kernel_rfl)(b:PySem.W.hasDictIn K C=true:=by kernel_rfl)(c:PySem.W.plainOver K C=true:=by kernel_rfl)(d:PySem.W.findIn K (.ref C) "__setattr__"=some (some (.builtin "object.__setattr__")):=by kernel_rfl):Cls K C:=⟨a,b,c,d⟩
theorem nK{K:PySem.W.Frag}{C f:ad}(a:PySem.W.makesIn K C=true:=by kernel_rfl)(b:PySem.W.findIn K (.ref C) "__init__"=some (some (.ref f)):=by kernel_rfl)(c:PySem.W.isFn K (.ref f)=true:=by kernel_rfl)(d:PySem.W.keepIn K (.ref C)=true:=by kernel_rfl):Mk K C f:=⟨a,b,c,d⟩
theorem nM{K:PySem.W.Frag}{C f:ad}{m:Str}(a:PySem.W.findIn K (.ref C) m=some (some (.ref f)):=by kernel_rfl)(b:PySem.W.isFn K (.ref f)=true:=by kernel_rfl)(c:PySem.W.keepIn K (.ref f)=true:=by kernel_rfl):Meth K C m f:=⟨a,b,c⟩
theorem nX{K:PySem.W.Frag}{C:ad}(s:PySem.W.specialIn K (.builtin "object.__class__") "__get__"=some (some (.builtin "getset_descriptor.__get__")))(t:PySem.W.takesIn K (.builtin "object.__class__")=some true)(a:PySem.W.findIn K (.ref C) "__getattribute__"=some (some (.builtin "BaseException.__getattribute__")):=by kernel_rfl)(b:PySem.W.findIn K (.ref C) "__getattr__"=some none:=by kernel_rfl)(c:PySem.W.subIn K (.ref C) (.type "BaseException")=some true:=by kernel_rfl)(d:PySem.W.findIn K (.ref C) "__class__"=some (some (.builtin "object.__class__")):=by kernel_rfl)(e:PySem.W.mroIn K C (.type "object")=some true:=by kernel_rfl)(f:PySem.W.isClsIn K C=true:=by kernel_rfl)(g:PySem.W.typeIn K (.ref C)=some (.type "type"):=by kernel_rfl):dY K C:=⟨a,b,c,Dl f d s t,e,f,g⟩
noncomputable def KQ0(P:Params):PySem.W.Frag:=[(2,⟨.none,none,(.dict #[] 0),#[]⟩),
 (3,⟨(.type "dict"),none,(.dict #[kE P "__name__" 165 (kS "law_riverdue_k27_texts_refused" 599),kE P "__doc__" 166 .none,kE P "__package__" 167 .none,kE P "__loader__" 168 (.builtin "__main__.__loader__#opaque"),kE P "__spec__" 169 .none,kE P "__annotations__" 170 (.ref 6),kE P "__builtins__" 171 (.ref 4),kE P "__file__" 173 (kS "/claim/cut.py" 172),kE P "__cached__" 174 .none,kE P "_wall" 193 (.ref 21),kE P "DueError" 213 (.ref 31),kE P "BadRiver" 229 (.ref 44),kE P "NoPoint" 245 (.ref 56),kE P "Taken" 261 (.ref 68),kE P "NoRight" 277 (.ref 80),kE P "BadText" 293 (.ref 92),kE P "MOST_AMOUNT" 297 (.int 1000000 296),kE P "Right" 330 (.ref 111),kE P "Book" 438 (.ref 195),kE P "MOST_POINTS" 442 (.int 40 441),kE P "River" 511 (.ref 251),kE P "check_below" 520 (.ref 262),kE P "MOST_RIGHTS" 524 (.int 40 523),kE P "MOST_LETTERS" 526 (.int 8 525),kE P "MOST_DATE" 528 (.int 9999 527),kE P "LETTERS" 530 (kS "abcdefghijklmnopqrstuvwxyz" 529),kE P "FIGURES" 532 (kS "0123456789" 531),kE P "shown" 538 (.ref 267),kE P "river_line" 544 (.ref 272),kE P "right_line" 556 (.ref 279),kE P "read" 566 (.ref 286),kE P "read_river" 572 (.ref 291),kE P "read_right" 586 (.ref 298),kE P "read_name" 592 (.ref 303),kE P "read_number" 598 (.ref 308),kE P "_law_cell_at" 608 (.ref 315),kE P "_law_below" 614 (.ref 320),kE P "_law_names" 620 (.ref 325),kE P "_law_rights" 635 (.ref 332),kE P "_law_aged" 641 (.ref 337),kE P "_law_text" 652 (.ref 344),kE P "_law_odd" 661 (.ref 351),kE P "_law_turned" 676 (.ref 358),kE P "_law_number" 685 (.ref 365),kE P "_law_right_line" 691 (.ref 370),kE P "_law_good" 697 (.ref 375),kE P "_law_refused" 707 (.ref 382),kE P "law" 720 (.ref 389)] 48),#[]⟩),
 (20,kC "_wall" "_wall" "/claim/cut.py" 187 1 1 3 15 181 16 17 18 19 191),
 (21,kF "_wall" "_wall" (top 0) "__main__" 164 20),
 (30,⟨(.type "dict"),none,(.dict #[kE P "__module__" 203 (kS "riverdue.errors" 194),kE P "__firstlineno__" 207 (.int 5 206),kE P "__static_attributes__" 208 (.ref 29),kE P "__weakref__" 210 (.ref 32),kE P "__doc__" 211 .none] 3),#[]⟩),
 (31,⟨(.type "type"),none,(.cls ⟨"DueError",[(.type "ValueError")],[(.ref 31),(.type "ValueError"),(.type "Exception"),(.type "BaseException"),(.type "object")],30,"DueError",true,[],[(.ref 44),(.ref 56),(.ref 68),(.ref 80),(.ref 92)],false,none,false⟩),#[(some (.ref 22)),none,(some (kS "DueError" 196)),(some (kS "DueError" 204)),(some (.builtin "ValueError.__new__")),(some (.bool true))]⟩),
 (32,⟨(.type "getset_descriptor"),none,(.fields #[(kS "__weakref__" 209),(.ref 31),(.builtin "ExceptionGroup.__weakref__"),.none]),#[]⟩),
 (43,⟨(.type "dict"),none,(.dict #[kE P "__module__" 221 (kS "riverdue.errors" 194),kE P "__firstlineno__" 225 (.int 7 224),kE P "__static_attributes__" 226 (.ref 42),kE P "__doc__" 227 .none] 2),#[]⟩),
 (44,⟨(.type "type"),none,(.cls ⟨"BadRiver",[(.ref 31)],[(.ref 44),(.ref 31),(.type "ValueError"),(.type "Exception"),(.type "BaseException"),(.type "object")],43,"BadRiver",true,[],[],false,none,false⟩),#[(some (.ref 35)),none,(some (kS "BadRiver" 214)),(some (kS "BadRiver" 222)),(some (.builtin "ValueError.__new__")),(some (.bool true))]⟩),
 (55,⟨(.type "dict"),none,(.dict #[kE P "__module__" 237 (kS "riverdue.errors" 194),kE P "__firstlineno__" 241 (.int 9 240),kE P "__static_attributes__" 242 (.ref 54),kE P "__doc__" 243 .none] 2),#[]⟩),
 (56,⟨(.type "type"),none,(.cls ⟨"NoPoint",[(.ref 31)],[(.ref 56),(.ref 31),(.type "ValueError"),(.type "Exception"),(.type "BaseException"),(.type "object")],55,"NoPoint",true,[],[],false,none,false⟩),#[(some (.ref 47)),none,(some (kS "NoPoint" 230)),(some (kS "NoPoint" 238)),(some (.builtin "ValueError.__new__")),(some (.bool true))]⟩),
 (67,⟨(.type "dict"),none,(.dict #[kE P "__module__" 253 (kS "riverdue.errors" 194),kE P "__firstlineno__" 257 (.int 11 256),kE P "__static_attributes__" 258 (.ref 66),kE P "__doc__" 259 .none] 2),#[]⟩)]
noncomputable def KQ1(P:Params):PySem.W.Frag:=[(68,⟨(.type "type"),none,(.cls ⟨"Taken",[(.ref 31)],[(.ref 68),(.ref 31),(.type "ValueError"),(.type "Exception"),(.type "BaseException"),(.type "object")],67,"Taken",true,[],[],false,none,false⟩),#[(some (.ref 59)),none,(some (kS "Taken" 246)),(some (kS "Taken" 254)),(some (.builtin "ValueError.__new__")),(some (.bool true))]⟩),
 (79,⟨(.type "dict"),none,(.dict #[kE P "__module__" 269 (kS "riverdue.errors" 194),kE P "__firstlineno__" 273 (.int 13 272),kE P "__static_attributes__" 274 (.ref 78),kE P "__doc__" 275 .none] 2),#[]⟩),
 (80,⟨(.type "type"),none,(.cls ⟨"NoRight",[(.ref 31)],[(.ref 80),(.ref 31),(.type "ValueError"),(.type "Exception"),(.type "BaseException"),(.type "object")],79,"NoRight",true,[],[],false,none,false⟩),#[(some (.ref 71)),none,(some (kS "NoRight" 262)),(some (kS "NoRight" 270)),(some (.builtin "ValueError.__new__")),(some (.bool true))]⟩),
 (91,⟨(.type "dict"),none,(.dict #[kE P "__module__" 285 (kS "riverdue.errors" 194),kE P "__firstlineno__" 289 (.int 15 288),kE P "__static_attributes__" 290 (.ref 90),kE P "__doc__" 291 .none] 2),#[]⟩),
 (92,⟨(.type "type"),none,(.cls ⟨"BadText",[(.ref 31)],[(.ref 92),(.ref 31),(.type "ValueError"),(.type "Exception"),(.type "BaseException"),(.type "object")],91,"BadText",true,[],[],false,none,false⟩),#[(some (.ref 83)),none,(some (kS "BadText" 278)),(some (kS "BadText" 286)),(some (.builtin "ValueError.__new__")),(some (.bool true))]⟩),
 (107,kC "__init__" "Right.__init__" "/claim/cut.py" 310 21 4 3 102 181 103 104 105 106 317),
 (108,kF "__init__" "Right.__init__" rH "riverdue.rights" 294 107),
 (110,⟨(.type "dict"),none,(.dict #[kE P "__module__" 305 (kS "riverdue.rights" 294),kE P "__firstlineno__" 309 (.int 19 308),kE P "__init__" 319 (.ref 108),kE P "__static_attributes__" 323 (.ref 109),kE P "__dict__" 325 (.ref 112),kE P "__weakref__" 327 (.ref 113),kE P "__doc__" 328 .none] 4),#[]⟩),
 (111,⟨(.type "type"),none,(.cls ⟨"Right",[(.type "object")],[(.ref 111),(.type "object")],110,"Right",true,[],[],false,none,false⟩),#[none,none,(some (kS "Right" 298)),(some (kS "Right" 306)),(some (.builtin "object.__new__")),(some (.bool true))]⟩),
 (112,⟨(.type "getset_descriptor"),none,(.fields #[(kS "__dict__" 324),(.ref 111),(.builtin "function.__dict__"),(.builtin "function.__dict__#set")]),#[]⟩),
 (113,⟨(.type "getset_descriptor"),none,(.fields #[(kS "__weakref__" 326),(.ref 111),(.builtin "ExceptionGroup.__weakref__"),.none]),#[]⟩),
 (128,kC "__init__" "Book.__init__" "/claim/cut.py" 343 27 2 3 123 181 124 125 126 127 348)]
noncomputable def KQ2(P:Params):PySem.W.Frag:=[(129,kF "__init__" "Book.__init__" se "riverdue.rights" 294 128),
 (135,kC "river" "Book.river" "/claim/cut.py" 351 31 1 3 130 181 131 132 133 134 355),
 (136,kF "river" "Book.river" rT "riverdue.rights" 294 135),
 (142,kC "names" "Book.names" "/claim/cut.py" 358 34 1 3 137 181 138 139 140 141 363),
 (143,kF "names" "Book.names" pG "riverdue.rights" 294 142),
 (149,kC "right" "Book.right" "/claim/cut.py" 366 37 2 3 144 181 145 146 147 148 372),
 (150,kF "right" "Book.right" rN "riverdue.rights" 294 149),
 (156,kC "grant" "Book.grant" "/claim/cut.py" 375 41 5 3 151 181 152 153 154 155 383),
 (157,kF "grant" "Book.grant" qX "riverdue.rights" 294 156),
 (163,kC "drop" "Book.drop" "/claim/cut.py" 386 47 2 3 158 181 159 160 161 162 391),
 (164,kF "drop" "Book.drop" (eO (top 11) 5) "riverdue.rights" 294 163),
 (170,kC "part" "Book.part" "/claim/cut.py" 394 50 4 3 165 181 166 167 168 169 401)]
noncomputable def KQ3(P:Params):PySem.W.Frag:=[(171,kF "part" "Book.part" (eO (top 11) 6) "riverdue.rights" 294 170),
 (177,kC "unite" "Book.unite" "/claim/cut.py" 404 53 3 3 172 181 173 174 175 176 410),
 (178,kF "unite" "Book.unite" (eO (top 11) 7) "riverdue.rights" 294 177),
 (184,kC "held_right" "Book.held_right" "/claim/cut.py" 413 56 2 3 179 181 180 181 182 183 418),
 (185,kF "held_right" "Book.held_right" qH "riverdue.rights" 294 184),
 (191,kC "check_free" "Book.check_free" "/claim/cut.py" 421 61 2 3 186 181 187 188 189 190 426),
 (192,kF "check_free" "Book.check_free" qG "riverdue.rights" 294 191),
 (194,⟨(.type "dict"),none,(.dict #[kE P "__module__" 338 (kS "riverdue.rights" 294),kE P "__firstlineno__" 342 (.int 25 341),kE P "__init__" 350 (.ref 129),kE P "river" 357 (.ref 136),kE P "names" 365 (.ref 143),kE P "right" 374 (.ref 150),kE P "grant" 385 (.ref 157),kE P "drop" 393 (.ref 164),kE P "part" 403 (.ref 171),kE P "unite" 412 (.ref 178),kE P "held_right" 420 (.ref 185),kE P "check_free" 428 (.ref 192),kE P "__static_attributes__" 431 (.ref 193),kE P "__dict__" 433 (.ref 196),kE P "__weakref__" 435 (.ref 197),kE P "__doc__" 436 .none] 4),#[]⟩),
 (195,⟨(.type "type"),none,(.cls ⟨"Book",[(.type "object")],[(.ref 195),(.type "object")],194,"Book",true,[],[],false,none,false⟩),#[none,none,(some (kS "Book" 331)),(some (kS "Book" 339)),(some (.builtin "object.__new__")),(some (.bool true))]⟩),
 (196,⟨(.type "getset_descriptor"),none,(.fields #[(kS "__dict__" 432),(.ref 195),(.builtin "function.__dict__"),(.builtin "function.__dict__#set")]),#[]⟩),
 (197,⟨(.type "getset_descriptor"),none,(.fields #[(kS "__weakref__" 434),(.ref 195),(.builtin "ExceptionGroup.__weakref__"),.none]),#[]⟩),
 (212,kC "__init__" "River.__init__" "/claim/cut.py" 455 68 2 3 207 181 208 209 210 211 460)]
noncomputable def KQ4(P:Params):PySem.W.Frag:=[(213,kF "__init__" "River.__init__" pO "riverdue.river" 439 212),
 (219,kC "points" "River.points" "/claim/cut.py" 463 72 1 3 214 181 215 216 217 218 467),
 (220,kF "points" "River.points" pF "riverdue.river" 439 219),
 (226,kC "check_point" "River.check_point" "/claim/cut.py" 470 75 2 3 221 181 222 223 224 225 475),
 (227,kF "check_point" "River.check_point" o9 "riverdue.river" 439 226),
 (233,kC "below" "River.below" "/claim/cut.py" 478 79 2 3 228 181 229 230 231 232 483),
 (234,kF "below" "River.below" qm "riverdue.river" 439 233),
 (240,kC "way" "River.way" "/claim/cut.py" 486 83 2 3 235 181 236 237 238 239 492),
 (241,kF "way" "River.way" (eO (top 14) 4) "riverdue.river" 439 240),
 (247,kC "above" "River.above" "/claim/cut.py" 495 91 2 3 242 181 243 244 245 246 500),
 (248,kF "above" "River.above" (eO (top 14) 5) "riverdue.river" 439 247),
 (250,⟨(.type "dict"),none,(.dict #[kE P "__module__" 450 (kS "riverdue.river" 439),kE P "__firstlineno__" 454 (.int 66 453),kE P "__init__" 462 (.ref 213),kE P "points" 469 (.ref 220),kE P "check_point" 477 (.ref 227),kE P "below" 485 (.ref 234),kE P "way" 494 (.ref 241),kE P "above" 502 (.ref 248),kE P "__static_attributes__" 504 (.ref 249),kE P "__dict__" 506 (.ref 252),kE P "__weakref__" 508 (.ref 253),kE P "__doc__" 509 .none] 4),#[]⟩)]
noncomputable def KQ5(P:Params):PySem.W.Frag:=[(251,⟨(.type "type"),none,(.cls ⟨"River",[(.type "object")],[(.ref 251),(.type "object")],250,"River",true,[],[],false,none,false⟩),#[none,none,(some (kS "River" 443)),(some (kS "River" 451)),(some (.builtin "object.__new__")),(some (.bool true))]⟩),
 (252,⟨(.type "getset_descriptor"),none,(.fields #[(kS "__dict__" 505),(.ref 251),(.builtin "function.__dict__"),(.builtin "function.__dict__#set")]),#[]⟩),
 (253,⟨(.type "getset_descriptor"),none,(.fields #[(kS "__weakref__" 507),(.ref 251),(.builtin "ExceptionGroup.__weakref__"),.none]),#[]⟩),
 (261,kC "check_below" "check_below" "/claim/cut.py" 512 93 1 3 256 181 257 258 259 260 518),
 (262,kF "check_below" "check_below" pI "riverdue.river" 439 261),
 (266,⟨(.type "code"),none,(.fields #[(kS "shown" 533),(kS "shown" 534),(kS "/claim/cut.py" 535),(.int 108 0),(.int 1 0),(.int 0 0),(.int 0 0),(.int 3 0),(.ref 263),(.bool true),(.int 181 0),(.ref 264),.none,.none,.none,(.ref 265),(.int 536 0),(.int 108 0),(kS "/claim/cut.py" 537)]),#[]⟩),
 (267,kF "shown" "shown" qC "riverdue.notes" 521 266),
 (271,⟨(.type "code"),none,(.fields #[(kS "river_line" 539),(kS "river_line" 540),(kS "/claim/cut.py" 541),(.int 111 0),(.int 1 0),(.int 0 0),(.int 0 0),(.int 3 0),(.ref 268),(.bool true),(.int 181 0),(.ref 269),.none,.none,.none,(.ref 270),(.int 542 0),(.int 111 0),(kS "/claim/cut.py" 543)]),#[]⟩),
 (272,kF "river_line" "river_line" qQ "riverdue.notes" 521 271),
 (278,kC "right_line" "right_line" "/claim/cut.py" 545 114 2 3 273 181 274 275 276 277 554),
 (279,kF "right_line" "right_line" qP "riverdue.notes" 521 278),
 (285,kC "read" "read" "/claim/cut.py" 557 120 1 3 280 181 281 282 283 284 564)]
noncomputable def KQ6(P:Params):PySem.W.Frag:=[(286,kF "read" "read" pq "riverdue.notes" 521 285),
 (290,⟨(.type "code"),none,(.fields #[(kS "read_river" 567),(kS "read_river" 568),(kS "/claim/cut.py" 569),(.int 130 0),(.int 1 0),(.int 0 0),(.int 0 0),(.int 3 0),(.ref 287),(.bool true),(.int 181 0),(.ref 288),.none,.none,.none,(.ref 289),(.int 570 0),(.int 130 0),(kS "/claim/cut.py" 571)]),#[]⟩),
 (291,kF "read_river" "read_river" pp "riverdue.notes" 521 290),
 (297,kC "read_right" "read_right" "/claim/cut.py" 573 139 2 3 292 181 293 294 295 296 584),
 (298,kF "read_right" "read_right" qg "riverdue.notes" 521 297),
 (302,⟨(.type "code"),none,(.fields #[(kS "read_name" 587),(kS "read_name" 588),(kS "/claim/cut.py" 589),(.int 151 0),(.int 1 0),(.int 0 0),(.int 0 0),(.int 3 0),(.ref 299),(.bool true),(.int 181 0),(.ref 300),.none,.none,.none,(.ref 301),(.int 590 0),(.int 151 0),(kS "/claim/cut.py" 591)]),#[]⟩),
 (303,kF "read_name" "read_name" rP "riverdue.notes" 521 302),
 (307,⟨(.type "code"),none,(.fields #[(kS "read_number" 593),(kS "read_number" 594),(kS "/claim/cut.py" 595),(.int 155 0),(.int 2 0),(.int 0 0),(.int 0 0),(.int 3 0),(.ref 304),(.bool true),(.int 181 0),(.ref 305),.none,.none,.none,(.ref 306),(.int 596 0),(.int 155 0),(kS "/claim/cut.py" 597)]),#[]⟩),
 (308,kF "read_number" "read_number" qj "riverdue.notes" 521 307),
 (314,kC "_law_cell_at" "_law_cell_at" "/claim/cut.py" 601 163 2 3 309 181 310 311 312 313 606),
 (315,kF "_law_cell_at" "_law_cell_at" pT "law_riverdue_k27_texts_refused" 599 314),
 (319,⟨(.type "code"),none,(.fields #[(kS "_law_below" 609),(kS "_law_below" 610),(kS "/claim/cut.py" 611),(.int 167 0),(.int 3 0),(.int 0 0),(.int 0 0),(.int 3 0),(.ref 316),(.bool true),(.int 181 0),(.ref 317),.none,.none,.none,(.ref 318),(.int 612 0),(.int 167 0),(kS "/claim/cut.py" 613)]),#[]⟩)]
noncomputable def KQ7(P:Params):PySem.W.Frag:=[(320,kF "_law_below" "_law_below" rk "law_riverdue_k27_texts_refused" 599 319),
 (324,⟨(.type "code"),none,(.fields #[(kS "_law_names" 615),(kS "_law_names" 616),(kS "/claim/cut.py" 617),(.int 169 0),(.int 2 0),(.int 0 0),(.int 0 0),(.int 3 0),(.ref 321),(.bool true),(.int 181 0),(.ref 322),.none,.none,.none,(.ref 323),(.int 618 0),(.int 169 0),(kS "/claim/cut.py" 619)]),#[]⟩),
 (325,kF "_law_names" "_law_names" qB "law_riverdue_k27_texts_refused" 599 324),
 (331,kC "_law_rights" "_law_rights" "/claim/cut.py" 621 174 4 3 326 181 327 328 329 330 633),
 (332,kF "_law_rights" "_law_rights" qT "law_riverdue_k27_texts_refused" 599 331),
 (336,⟨(.type "code"),none,(.fields #[(kS "_law_aged" 636),(kS "_law_aged" 637),(kS "/claim/cut.py" 638),(.int 190 0),(.int 1 0),(.int 0 0),(.int 0 0),(.int 3 0),(.ref 333),(.bool true),(.int 181 0),(.ref 334),.none,.none,.none,(.ref 335),(.int 639 0),(.int 190 0),(kS "/claim/cut.py" 640)]),#[]⟩),
 (337,kF "_law_aged" "_law_aged" qU "law_riverdue_k27_texts_refused" 599 336),
 (343,kC "_law_text" "_law_text" "/claim/cut.py" 642 192 2 3 338 181 339 340 341 342 650),
 (344,kF "_law_text" "_law_text" pV "law_riverdue_k27_texts_refused" 599 343),
 (350,kC "_law_odd" "_law_odd" "/claim/cut.py" 653 201 2 3 345 181 346 347 348 349 659),
 (351,kF "_law_odd" "_law_odd" sg "law_riverdue_k27_texts_refused" 599 350),
 (357,kC "_law_turned" "_law_turned" "/claim/cut.py" 662 205 4 3 352 181 353 354 355 356 674)]
noncomputable def KQ8(P:Params):PySem.W.Frag:=[(358,kF "_law_turned" "_law_turned" si "law_riverdue_k27_texts_refused" 599 357),
 (364,kC "_law_number" "_law_number" "/claim/cut.py" 677 225 2 3 359 181 360 361 362 363 683),
 (365,kF "_law_number" "_law_number" qF "law_riverdue_k27_texts_refused" 599 364),
 (369,⟨(.type "code"),none,(.fields #[(kS "_law_right_line" 686),(kS "_law_right_line" 687),(kS "/claim/cut.py" 688),(.int 234 0),(.int 2 0),(.int 0 0),(.int 0 0),(.int 3 0),(.ref 366),(.bool true),(.int 181 0),(.ref 367),.none,.none,.none,(.ref 368),(.int 689 0),(.int 234 0),(kS "/claim/cut.py" 690)]),#[]⟩),
 (370,kF "_law_right_line" "_law_right_line" qN "law_riverdue_k27_texts_refused" 599 369),
 (374,⟨(.type "code"),none,(.fields #[(kS "_law_good" 692),(kS "_law_good" 693),(kS "/claim/cut.py" 694),(.int 245 0),(.int 1 0),(.int 0 0),(.int 0 0),(.int 3 0),(.ref 371),(.bool true),(.int 181 0),(.ref 372),.none,.none,.none,(.ref 373),(.int 695 0),(.int 245 0),(kS "/claim/cut.py" 696)]),#[]⟩),
 (375,kF "_law_good" "_law_good" sr "law_riverdue_k27_texts_refused" 599 374),
 (381,kC "_law_refused" "_law_refused" "/claim/cut.py" 698 258 1 3 376 181 377 378 379 380 705),
 (382,kF "_law_refused" "_law_refused" oZ "law_riverdue_k27_texts_refused" 599 381),
 (388,kC "law" "law" "/claim/cut.py" 708 266 1 3 383 181 384 385 386 387 718),
 (389,kF "law" "law" qO "law_riverdue_k27_texts_refused" 599 388),
 (4,⟨(.type "module"),(some 0),.plain,#[]⟩)]
noncomputable def KQ(P:Params):PySem.W.Frag:=KQ0 P++(KQ1 P++(KQ2 P++(KQ3 P++(KQ4 P++(KQ5 P++(KQ6 P++(KQ7 P++(KQ8 P++[(138,PySem.W.tabObj #[])]))))))))
noncomputable abbrev KM(w:aR):PySem.W.Frag:=KD KQ 138 w.params
noncomputable def KQa:List ad:=[2,3,20,21,30,31,32,43,44,55,56,67,68,79,80,91,92,107,108,110,111,112,113,128,129,135,136,142,143,149,150,156,157,163,164,170,171,177,178,184,185,191,192,194,195,196,197,212,213,219,220,226,227,233,234,240,241,247,248,250,251,252,253,261,262,266,267,271,272,278,279,285,286,290,291,297,298,302,303,307,308,314,315,319,320,324,325,331,332,336,337,343,344,350,351,357,358,364,365,369,370,374,375,381,382,388,389,4,138]
end
end L2.Rv
namespace L2.Rv
open PySem PySem.Spec PyProof.Rows
section
variable {P:bh}{w:aR}{K:PySem.W.Frag}{mg:Str->Option ae}{base:aI}{a:Adr}
theorem Bc:cf ["self"] ["self"] (bM pG):=⟨rfl,rfl,rfl,by decide +kernel,rfl,by decide +kernel,by decide +kernel⟩
theorem BB(T:Txt K mg a):FnG P w K mg base a.cl 4 a.zeG a.zdg ["self"] nu:=by
 refine xM (N:=["self"]) (k:=3) (g:=sJ) T.zgL Bc rfl λcdv hc A outer s H E sa ns hr=>?_;exact(aO (ci (DM (k:=1) (nm:="name") (fv:="self") (i:=0) (hc▸T.lam) (fg (f:="held") (ai 0) (dj.one T.zbd T.zaU)) ⟨rfl,rfl,rfl,rfl,rfl,by decide,CZ rfl,rfl,rfl,rfl,rfl⟩ T.zjr hr rfl rfl (λfd v h1 h2 h3=>FW h1 h2 h3) (λL f cdv s H hr=>(k7 (av (fg (f:="date") (bK (bz hr) (fg (f:="held") (ai 1) (dj.one T.zbd T.zaU)) (ai 0)) (dj.one T.zdf T.zcN)) (av (ai 0) aM)))))))
theorem Db:cf ["script","k"] ["script","k"] (bM pT):=⟨rfl,rfl,rfl,by decide +kernel,rfl,by decide +kernel,by decide +kernel⟩
theorem gW(T:Txt K mg a):FnG P w K mg base a.cl 1 a.zdV a.zdP ["script","k"] eW:=by
 refine cG (N:=["script","k"]) (k:=0) (g:=qa) T.zaz Db rfl λcdv A outer s H E sa ns hr=>?_;exact (aH (cL (bP (λ_=>jX) jW (ai 1) (cJ (λ_=>cY) c9 (ai 0) T.zbM PySem.boot_len) (bQ _)) (aO (ci (bK (bz hr) (ai 0) (ai 1)))) cV)
  (aO (ci ge_int)))
theorem E2:cf ["script","start","size"] ["script","start","size"] (bM rk):=⟨rfl,rfl,rfl,by decide +kernel,rfl,by decide +kernel,by decide +kernel⟩
theorem z7(T:Txt K mg a):FnG P w K mg base a.cl 2 a.zfo a.zfl ["script","start","size"] rK:=by
 refine cG (N:=["script","start","size"]) (k:=1) (g:=t5) T.zfg E2 rfl λcdv A outer s H E sa ns hr=>?_;exact(aO (ci (aP (λ_=>cq) cn (gz (av lI aM)) (iY (x:=["k"]) (one:=true) (dz.of rfl ⟨rfl,⟨rfl,trivial⟩⟩ rfl rfl) (uk ge_int (ai 2) T.zeR) (λC s H fp pins=>(aP (λ_=>dP) dL (b9 (gW T) (hr.mono (by decide)) T.zaE T.zaz.kp T.zaD (av (ai 0) (av (aP (λ_=>cq) cn (ai 1) (ai 3)) aM))) (ai 3))) trivial (λnd C s H fp pins=>dO nd)))))
theorem Av:cf ["rights"] ["rights"] (bM qU):=⟨rfl,rfl,rfl,by decide +kernel,rfl,by decide +kernel,by decide +kernel⟩
theorem vT(T:Txt K mg a):FnG P w K mg base a.cl 1 a.zgo a.zgl ["rights"] j4:=by
 refine cG (N:=["rights"]) (k:=0) (g:=tS) T.zeW Av rfl λcdv A outer s H E sa ns hr=>?_;exact(aO (ci (iY (x:=["row"]) (one:=true) (dz.of rfl trivial rfl rfl) (gZ (cJ (λ_=>Ch hr.units) Hf (iY (x:=["right"]) (one:=true) (dz.of rfl trivial rfl rfl) (gZ (ai 0)) (λC s H fp pins=>(k7 (av (k7 (av (bK (bz hr) (ai 1) ge_int) (av (bK (bz hr) (ai 1) ge_int) aM))) (av (ai 1) aM)))) trivial (λnd C s H fp pins=>dO nd)) T.zjr boot_sorted)) (λC s H fp pins=>(bK (bz hr) (ai 1) ge_int)) trivial (λnd C s H fp pins=>dO nd))))
theorem zg:cf ["word","most","sign"] ["word","most"] (bM qF):=⟨rfl,rfl,rfl,by decide +kernel,rfl,by decide +kernel,by decide +kernel⟩
theorem re(T:Txt K mg a):FnG P w K mg base a.cl 1 a.zeJ a.zey ["word","most"] kN:=by
 refine cG (N:=["word","most","sign"]) (k:=0) (g:=pc) T.zbJ zg rfl λcdv A outer s H E sa ns hr=>?_;exact (aH (cL (GW.gt (eT (bP (λ_=>(fq hr.units)) fi (ai 0) ba (bQ _)) (eT (bP (λ_=>gL) gQ (cJ (λ_=>cY) c9 (ai 0) T.zbM PySem.boot_len) ge_int (bQ _)) (fM .Or (GW.gt (AB (bP (λ_=>gL) gQ (cJ (λ_=>cY) c9 (ai 0) T.zbM PySem.boot_len) ge_int (bQ _)) (fM .And (bP (λ_=>(fq hr.units)) fi (bK (bz hr) (ai 0) ge_int) ba (bQ _))))))))) (aO (ci (jY ge_int))) cV)
  (aH (jP (one:=true) (is:=[2]) (rL (ai 0)) (dO zg.nd) (aO (cL (bP (λ_=>zF) yR (ai 2) ba rfl) (aO (ci (jY ge_int))) cV)))
  (aH (cL (bP (λ_=>gL) gQ (gN (λ_=>uN) u9 (ai 0) T.zoS PyProof.Rows.Boot.«int») (ai 1) (bQ _)) (aO (ci (jY ge_int))) cV)
  (aO (ci (gN (λ_=>uN) u9 (ai 0) T.zoS PyProof.Rows.Boot.«int»))))))
theorem rZ:cf ["line","points","words","name","found"] ["line","points"] (bM qN):=⟨rfl,rfl,rfl,by decide +kernel,rfl,by decide +kernel,by decide +kernel⟩
theorem AX(T:Txt K mg a):FnG P w K mg base a.cl 2 a.zcy a.zcv ["line","points"] pA:=by
 refine cG (N:=["line","points","words","name","found"]) (k:=1) (g:=rQ) T.zcs rZ rfl λcdv A outer s H E sa ns hr=>?_;exact (aH (bv (n:=2) (jm (ai 0) ba) rZ.nd)
  (aH (cL (GW.gt (eT (bP (λ_=>(j5 hr.units)) kj (cJ (λ_=>cY) c9 (ai 2) T.zbM PySem.boot_len) ge_int (bQ _)) (fM .Or (bP (λ_=>(j5 hr.units)) kj (gz (av (bK (bz hr) (ai 2) ge_int) (av (bK (bz hr) (ai 2) ge_int) (av (bK (bz hr) (ai 2) ge_int) aM)))) (gz (av ba (av ba (av ba aM)))) (bQ _))))) (aO (ci lI)) cV)
  (aH (bv (n:=3) (bK (bz hr) (ai 2) ge_int) rZ.nd)
  (aH (cL (GW.gt (eT (qM (FJ (λ_=>wl) (λ_=>wl) yc yc ge_int (cJ (λ_=>cY) c9 (ai 3) T.zbM PySem.boot_len) ge_int)) (fM .Or (bP (λ_=>gL) gQ (cJ (λ_=>cY) c9 (iY (x:=["sign"]) (one:=true) (dz.of rfl trivial rfl rfl) (rL (ai 3)) (λC s H fp pins=>(ai 5)) (λC s H fp pins=>(bP (λ_=>zF) yR (ai 5) ba rfl)) (λnd C s H fp pins=>dO nd)) T.zbM PySem.boot_len) ge_int (bQ _))))) (aO (ci lI)) cV)
  (aH (bv (n:=4) (k7 (av (ai 3) (av (b9 (re T) (hr.mono (by decide)) T.zcl T.zbJ.kp T.zck (av (bK (bz hr) (ai 2) ge_int) (av (aP (λ_=>sF) u8 (ai 1) ge_int) aM))) (av (b9 (re T) (hr.mono (by decide)) T.zcl T.zbJ.kp T.zck (av (bK (bz hr) (ai 2) ge_int) (av ge_int aM))) (av (b9 (re T) (hr.mono (by decide)) T.zcl T.zbJ.kp T.zck (av (bK (bz hr) (ai 2) ge_int) (av ge_int aM))) aM))))) rZ.nd)
  (aH (cL (bP (λ_=>(yg (bz hr))) sD (jY ge_int) (ai 4) rfl) (aO (ci lI)) cV)
  (aO (ci (ai 4)))))))))
theorem lP:cf ["text","lines","words","k","rights","names"] ["text"] (bM sr):=⟨rfl,rfl,rfl,by decide +kernel,rfl,by decide +kernel,by decide +kernel⟩
theorem AC(T:Txt K mg a):FnG P w K mg base a.cl 3 a.zgp a.zgm ["text"] rA:=by
 refine cG (N:=["text","lines","words","k","rights","names"]) (k:=2) (g:=rO) T.zgj lP rfl λcdv A outer s H E sa ns hr=>?_;exact (aH (bv (n:=1) (jm (ai 0) ba) lP.nd)
  (aH (bv (n:=2) (jm (bK (bz hr) (ai 1) ge_int) ba) lP.nd)
  (aH (cL (GW.gt (eT (bP (λ_=>(j5 hr.units)) kj (iZ (ai 2) trivial ge_int) (gz (av ba (av ba aM))) (bQ _)) (fM .Or (bP (λ_=>gL) gQ (cJ (λ_=>cY) c9 (ai 2) T.zbM PySem.boot_len) ge_int (bQ _))))) (aO (ci qr)) cV)
  (aH (jP (one:=true) (is:=[3]) (uk ge_int (cJ (λ_=>cY) c9 (ai 2) T.zbM PySem.boot_len) T.zeR) (dO lP.nd) (aO (cL (bP (λ_=>jX) jW (b9 (re T) (hr.mono (by decide)) T.zcl T.zbJ.kp T.zck (av (bK (bz hr) (ai 2) (ai 3)) (av (aP (λ_=>sF) u8 (ai 3) ge_int) aM))) ge_int (bQ _)) (aO (ci qr)) cV)))
  (aH (mq (n:=4) (x:=["line"]) (one:=true) (dz.of rfl ⟨rfl,trivial⟩ rfl rfl) (gZ (iZ (ai 1) ge_int trivial)) (λC s H fp pins=>(b9 (AX T) (hr.mono (by decide)) T.zd5 T.zcs.kp T.zd1 (av (ai 6) (av (aP (λ_=>sF) u8 (cJ (λ_=>cY) c9 (ai 2) T.zbM PySem.boot_len) ge_int) aM)))) trivial (λnd C s H fp pins=>dO nd) lP.nd)
  (aH (cL (GW.gt (eT (bP (λ_=>(DN (u70 hr))) Dp lI (ai 4) rfl) (fM .Or (bP (λ_=>gL) gQ (cJ (λ_=>cY) c9 (ai 4) T.zbM PySem.boot_len) ge_int (bQ _))))) (aO (ci qr)) cV)
  (aH (mq (n:=5) (x:=["right"]) (one:=true) (dz.of rfl trivial rfl rfl) (gZ (ai 4)) (λC s H fp pins=>(bK (bz hr) (ai 6) ge_int)) trivial (λnd C s H fp pins=>dO nd) lP.nd)
  (aO (ci (yM (n9 (λ_=>(fq hr.units)) fi (Gy (ai 5) T.zrJ T.zbM hr.hd) (cJ (λ_=>cY) c9 (ai 5) T.zbM PySem.boot_len) (bQ _)) (ua (n9 (λ_=>(fq hr.units)) fi (ai 4) (b9 (vT T) (hr.mono (by decide)) T.zgr T.zeW.kp T.zgi (av (ai 4) aM)) (bQ _)))))))))))))
theorem ED:cf ["self","river"] ["self","river"] (bM se):=⟨rfl,rfl,rfl,by decide +kernel,rfl,by decide +kernel,by decide +kernel⟩
theorem GM(T:Txt K mg a):FnG P w K mg base a.cl 1 a.zc0 a.zcZ ["self","river"] rY:=by
 refine cG (N:=["self","river"]) (k:=0) (g:=uf) T.zem ED rfl λcdv A outer s H E sa ns hr=>?_;exact (aH (kQ (f:="stream") (ai 0) (ai 1) (dj.one T.zbd T.zcf))
  (aO (kQ (f:="held") (ai 0) AV (dj.one T.zbd T.zaU))))
theorem Dw:cf ["self","name"] ["self","name"] (bM qG):=⟨rfl,rfl,rfl,by decide +kernel,rfl,by decide +kernel,by decide +kernel⟩
theorem E6(T:Txt K mg a):FnG P w K mg base a.cl 1 a.zca a.zb7 ["self","name"] jC:=by
 refine cG (N:=["self","name"]) (k:=0) (g:=qp) T.zdB Dw rfl λcdv A outer s H E sa ns hr=>?_;exact(aO (cL (bP (λ_=>(yg (bz hr))) sD (ai 1) (fg (f:="held") (ai 0) (dj.one T.zbd T.zaU)) rfl) (aO (fY (c:=104) fA T.zlO T.zjq hr.hd (av (uD (.cons .lit (.cons (.rp (ai 1)) Paired.nil))) aM))) cV))
theorem Fx:cf ["self","point","amount","date"] ["self","point","amount","date"] (bM rH):=⟨rfl,rfl,rfl,by decide +kernel,rfl,by decide +kernel,by decide +kernel⟩
theorem Bd(T:Txt K mg a):FnG P w K mg base a.cl 1 a.zcw a.zct ["self","point","amount","date"] uM:=by
 refine cG (N:=["self","point","amount","date"]) (k:=0) (g:=sP) T.zd2 Fx rfl λcdv A outer s H E sa ns hr=>?_;exact (aH (kQ (f:="point") (ai 0) (ai 1) (dj.one T.zdf T.zdu))
  (aH (kQ (f:="amount") (ai 0) (ai 2) (dj.one T.zdf T.zc1))
  (aO (kQ (f:="date") (ai 0) (ai 3) (dj.one T.zdf T.zcN)))))
theorem C7:cf ["self","point"] ["self","point"] (bM o9):=⟨rfl,rfl,rfl,by decide +kernel,rfl,by decide +kernel,by decide +kernel⟩
theorem xp(T:Txt K mg a):FnG P w K mg base a.cl 1 a.zbD a.zbB ["self","point"] gY:=by
 refine cG (N:=["self","point"]) (k:=0) (g:=nj) T.zcX C7 rfl λcdv A outer s H E sa ns hr=>?_;exact(aO (cL (GW.gt (eT (bP (λ_=>jX) jW (ai 1) ge_int (bQ _)) (fM .Or (bP (λ_=>wZ) zh (ai 1) (cJ (λ_=>cY) c9 (fg (f:="runs_to") (ai 0) (dj.one T.zcK T.zbb)) T.zbM PySem.boot_len) (bQ _))))) (aO (fY (c:=103) fA T.ziA T.zfV hr.hd (av ba aM))) cV))
theorem D2:cf ["self","name","point","amount","date"] ["self","name","point","amount","date"] (bM qX):=⟨rfl,rfl,rfl,by decide +kernel,rfl,by decide +kernel,by decide +kernel⟩
theorem De(T:Txt K mg a):FnG P w K mg base a.cl 3 a.zeF a.zev ["self","name","point","amount","date"] jd:=by
 refine cG (N:=["self","name","point","amount","date"]) (k:=2) (g:=qd) T.zgK D2 rfl λcdv A outer s H E sa ns hr=>?_;exact (aH (gU (j8 (c:=3) (mth:="check_free") (ai 0) T.zbd T.zdh (E6 T) (hr.mono (by decide)) T.zdz (av (ai 1) aM)))
  (aH (gU (j8 (c:=1) (mth:="check_point") (fg (f:="stream") (ai 0) (dj.one T.zbd T.zcf)) T.zcK T.zbs (xp T) (hr.mono (by decide)) T.zbA (av (ai 2) aM)))
  (aH (oB (fg (f:="held") (ai 0) (dj.one T.zbd T.zaU)) (ai 1) (uj (c:=2) T.zlQ (Bd T) (hr.mono (by decide)) T.znR T.zdZ (av (ai 2) (av (ai 3) (av (ai 4) aM)))) (hg:=λE t t' h1 h2=>mK h1 h2 (mC (bz hr))))
  (aO (ci (cJ (λ_=>cY) c9 (fg (f:="held") (ai 0) (dj.one T.zbd T.zaU)) T.zbM PySem.boot_len))))))
theorem F0:cf ["word"] ["word"] (bM rP):=⟨rfl,rfl,rfl,by decide +kernel,rfl,by decide +kernel,by decide +kernel⟩
theorem Cr(T:Txt K mg a):FnG P w K mg base a.cl 1 a.zfq a.zfn ["word"] lQ:=by
 obtain⟨t_LETTERS,h_LETTERS⟩:=T.zks;obtain⟨t_MOST_LETTERS,h_MOST_LETTERS⟩:=T.ze8;refine cG (N:=["word"]) (k:=0) (g:=k8) T.zfi F0 rfl λcdv A outer s H E sa ns hr=>?_;exact (aH (cL (GW.gt (eT (bP (λ_=>jX) jW (cJ (λ_=>cY) c9 (ai 0) T.zbM PySem.boot_len) ge_int (bQ _)) (eT (bP (λ_=>gL) gQ (cJ (λ_=>cY) c9 (ai 0) T.zbM PySem.boot_len) (kO rfl h_MOST_LETTERS ⟨_,rfl⟩) (bQ _)) (fM .Or (qM (t4 (cJ (λ_=>wH rfl) zC (iY (x:=["sign"]) (one:=true) (dz.of rfl trivial rfl rfl) (rL (ai 0)) (λC s H fp pins=>(n9 (λ_=>vg) yd (ai 1) (vW rfl h_LETTERS ⟨_,rfl⟩) rfl)) trivial (λnd C s H fp pins=>dO nd)) T.zqc boot_all))))))) (aO (fY (c:=212) fA T.zbc T.zbj hr.hd (av ba aM))) cV)
  (aO (ci (ai 0))))
theorem xr:cf ["word","most","number"] ["word","most"] (bM qj):=⟨rfl,rfl,rfl,by decide +kernel,rfl,by decide +kernel,by decide +kernel⟩
theorem pX(T:Txt K mg a):FnG P w K mg base a.cl 1 a.zdX a.zdR ["word","most"] iU:=by
 obtain⟨t_FIGURES,h_FIGURES⟩:=T.zkr;refine cG (N:=["word","most","number"]) (k:=0) (g:=le) T.zbp xr rfl λcdv A outer s H E sa ns hr=>?_;exact (aH (cL (GW.gt (eT (bP (λ_=>jX) jW (cJ (λ_=>cY) c9 (ai 0) T.zbM PySem.boot_len) ge_int (bQ _)) (eT (bP (λ_=>gL) gQ (cJ (λ_=>cY) c9 (ai 0) T.zbM PySem.boot_len) (cJ (λ_=>cY) c9 (gN (λ_=>lM) lH (ai 1) T.zlf PyProof.Rows.Boot.«str») T.zbM PySem.boot_len) (bQ _)) (fM .Or (qM (t4 (cJ (λ_=>wH rfl) zC (iY (x:=["sign"]) (one:=true) (dz.of rfl trivial rfl rfl) (rL (ai 0)) (λC s H fp pins=>(n9 (λ_=>vg) yd (ai 3) (vW rfl h_FIGURES ⟨_,rfl⟩) rfl)) trivial (λnd C s H fp pins=>dO nd)) T.zqc boot_all))))))) (aO (fY (c:=212) fA T.zbc T.zbj hr.hd (av ba aM))) cV)
  (aH (bv (n:=2) (gN (λ_=>uN) u9 (ai 0) T.zoS PyProof.Rows.Boot.«int») xr.nd)
  (aH (cL (bP (λ_=>gL) gQ (ai 2) (ai 1) (bQ _)) (aO (fY (c:=212) fA T.zbc T.zbj hr.hd (av ba aM))) cV)
  (aO (ci (ai 2))))))
theorem jU:cf ["book","line","words","name","point","amount","date","e"] ["book","line"] (bM qg):=⟨rfl,rfl,rfl,by decide +kernel,rfl,by decide +kernel,by decide +kernel⟩
theorem G0(T:Txt K mg a):FnG P w K mg base a.cl 4 a.zeM a.zeB ["book","line"] ma:=by
 obtain⟨t_MOST_AMOUNT,h_MOST_AMOUNT⟩:=T.zfT;obtain⟨t_MOST_DATE,h_MOST_DATE⟩:=T.zhS;obtain⟨t_MOST_POINTS,h_MOST_POINTS⟩:=T.zcM;refine cG (N:=["book","line","words","name","point","amount","date","e"]) (k:=3) (g:=kZ) T.zep jU rfl λcdv A outer s H E sa ns hr=>?_;exact (aH (bv (n:=2) (jm (ai 1) ba) jU.nd)
  (aH (cL (GW.gt (eT (bP (λ_=>(j5 hr.units)) kj (cJ (λ_=>cY) c9 (ai 2) T.zbM PySem.boot_len) ge_int (bQ _)) (fM .Or (bP (λ_=>(j5 hr.units)) kj (gz (av (bK (bz hr) (ai 2) ge_int) (av (bK (bz hr) (ai 2) ge_int) (av (bK (bz hr) (ai 2) ge_int) aM)))) (gz (av ba (av ba (av ba aM)))) (bQ _))))) (aO (fY (c:=212) fA T.zbc T.zbj hr.hd (av ba aM))) cV)
  (aH (bv (n:=3) (b9 (Cr T) (hr.mono (by decide)) T.zhX T.zfi.kp T.zhO (av (bK (bz hr) (ai 2) ge_int) aM)) jU.nd)
  (aH (bv (n:=4) (b9 (pX T) (hr.mono (by decide)) T.zbZ T.zbp.kp T.zbY (av (bK (bz hr) (ai 2) ge_int) (av (kO rfl h_MOST_POINTS ⟨_,rfl⟩) aM))) jU.nd)
  (aH (bv (n:=5) (b9 (pX T) (hr.mono (by decide)) T.zbZ T.zbp.kp T.zbY (av (bK (bz hr) (ai 2) ge_int) (av (kO rfl h_MOST_AMOUNT ⟨_,rfl⟩) aM))) jU.nd)
  (aH (bv (n:=6) (b9 (pX T) (hr.mono (by decide)) T.zbZ T.zbp.kp T.zbY (av (bK (bz hr) (ai 2) ge_int) (av (kO rfl h_MOST_DATE ⟨_,rfl⟩) aM))) jU.nd)
  (aO (wt (c2:=212) (i:=7) (cs:=[103,104]) (λpn EX=>(aO (gU (j8 (c:=3) (mth:="grant") (ai 0) T.zbd T.zfY (De T) (hr.mono (by decide)) T.zgA (av (ai 3) (av (ai 4) (av (ai 5) (av (ai 6) aM)))))))) (Cm (by exact T.zjq) (by exact T.zfV) (by rfl) (by rfl) (by exact T.zcL) (by exact T.zbq) (by exact Ce T.zlS T.ziH (by decide))) fA T.zbc T.zbj (λn hn=>by simp only [uc,List.contains_nil,qE,tZ,beq_iff_eq] at hn;rcases hn with rfl | rfl <;> first | exact ⟨rfl,T.zbq.sb⟩ | exact ⟨rfl,T.zcL.sb⟩) jU.nd rfl rfl (Or.inl rfl)))))))))
theorem sI:cf ["below","point","lower"] ["below"] (bM pI):=⟨rfl,rfl,rfl,by decide +kernel,rfl,by decide +kernel,by decide +kernel⟩
theorem BI(T:Txt K mg a):FnG P w K mg base a.cl 1 a.zdU a.zdO ["below"] mS:=by
 obtain⟨t_MOST_POINTS,h_MOST_POINTS⟩:=T.zcM;refine cG (N:=["below","point","lower"]) (k:=0) (g:=jV) T.zdL sI rfl λcdv A outer s H E sa ns hr=>?_;exact (aH (cL (GW.gt (eT (bP (λ_=>jX) jW (cJ (λ_=>cY) c9 (ai 0) T.zbM PySem.boot_len) ge_int (bQ _)) (fM .Or (bP (λ_=>gL) gQ (cJ (λ_=>cY) c9 (ai 0) T.zbM PySem.boot_len) (kO rfl h_MOST_POINTS ⟨_,rfl⟩) (bQ _))))) (aO (fY (c:=101) fA T.zdS T.zcP hr.hd (av ba aM))) cV)
  (aH (cL (BD (bK (bz hr) (ai 0) ge_int)) (aO (fY (c:=101) fA T.zdS T.zcP hr.hd (av ba aM))) cV)
  (aO (jP (one:=true) (is:=[1]) (uk ge_int (cJ (λ_=>cY) c9 (ai 0) T.zbM PySem.boot_len) T.zeR) (dO sI.nd) (aH (bv (n:=2) (bK (bz hr) (ai 0) (ai 1)) sI.nd)
  (aO (cL (GW.gt (eT (zc (ai 2)) (eT (bP (λ_=>jX) jW (ai 2) ge_int (bQ _)) (fM .Or (bP (λ_=>wZ) zh (ai 2) (ai 1) (bQ _)))))) (aO (fY (c:=101) fA T.zdS T.zcP hr.hd (av ba aM))) cV)))))))
theorem FO:cf ["self","below"] ["self","below"] (bM pO):=⟨rfl,rfl,rfl,by decide +kernel,rfl,by decide +kernel,by decide +kernel⟩
theorem Bq(T:Txt K mg a):FnG P w K mg base a.cl 2 a.zcx a.zcu ["self","below"] ki:=by
 refine cG (N:=["self","below"]) (k:=1) (g:=mj) T.zd3 FO rfl λcdv A outer s H E sa ns hr=>?_;exact (aH (gU (b9 (BI T) (hr.mono (by decide)) T.zfW T.zdL.kp T.zfP (av (ai 1) aM)))
  (aO (kQ (f:="runs_to") (ai 0) (gN (λ_=>ye) yJ (ai 1) T.znV PyProof.Rows.Boot.«list») (dj.one T.zcK T.zbb))))
theorem oR:cf ["line","words","below","e"] ["line"] (bM pp):=⟨rfl,rfl,rfl,by decide +kernel,rfl,by decide +kernel,by decide +kernel⟩
theorem Bb(T:Txt K mg a):FnG P w K mg base a.cl 4 a.zeN a.zeC ["line"] lX:=by
 obtain⟨t_MOST_POINTS,h_MOST_POINTS⟩:=T.zcM;refine cG (N:=["line","words","below","e"]) (k:=3) (g:=lF) T.zeq oR rfl λcdv A outer s H E sa ns hr=>?_;exact (aH (bv (n:=1) (jm (ai 0) ba) oR.nd)
  (aH (cL (bP (λ_=>(j5 hr.units)) kj (bK (bz hr) (ai 1) ge_int) ba (bQ _)) (aO (fY (c:=212) fA T.zbc T.zbj hr.hd (av ba aM))) cV)
  (aH (Hb (n:=2) (x:=["word"]) (one:=true) (dz.of rfl trivial rfl rfl) (gZ (iZ (ai 1) ge_int trivial)) (λC s H fp pins=>(vw (bP (λ_=>(fq hr.units)) fi (ai 4) ba (bQ _)) lI (b9 (pX T) (hr.mono (by decide)) T.zbZ T.zbp.kp T.zbY (av (ai 4) (av (kO rfl h_MOST_POINTS ⟨_,rfl⟩) aM))))) (λnd C s H fp pins=>dO nd) oR.nd)
  (aO (wt (c2:=212) (i:=3) (cs:=[101]) (λpn EX=>(aO (ci (uj (c:=1) T.zlR (Bq T) (hr.mono (by decide)) T.znS T.zd0 (av (ai 2) aM))))) (FN (by exact T.zcP) (by rfl) (by exact T.za9) (by exact Fs T.zhY (by decide))) fA T.zbc T.zbj (λn hn=>by simp only [uc,List.contains_nil,qE,tZ,beq_iff_eq] at hn;rcases hn with rfl <;> first | exact ⟨rfl,T.za9.sb⟩) oR.nd rfl rfl (Or.inl rfl))))))
theorem G3:cf ["self"] ["self"] (bM rT):=⟨rfl,rfl,rfl,by decide +kernel,rfl,by decide +kernel,by decide +kernel⟩
theorem Gh(T:Txt K mg a):FnG P w K mg base a.cl 1 a.zeI a.zex ["self"] rF:=by
 refine cG (N:=["self"]) (k:=0) (g:=sK) T.zgN G3 rfl λcdv A outer s H E sa ns hr=>?_;exact(aO (ci (fg (f:="stream") (ai 0) (dj.one T.zbd T.zcf))))
theorem EK:cf ["self","name"] ["self","name"] (bM qH):=⟨rfl,rfl,rfl,by decide +kernel,rfl,by decide +kernel,by decide +kernel⟩
theorem AF(T:Txt K mg a):FnG P w K mg base a.cl 1 a.zcb a.zb8 ["self","name"] mP:=by
 refine cG (N:=["self","name"]) (k:=0) (g:=tT) T.zdC EK rfl λcdv A outer s H E sa ns hr=>?_;exact (aH (cL (bP (λ_=>(EJ (bz hr))) sD (ai 1) (fg (f:="held") (ai 0) (dj.one T.zbd T.zaU)) rfl) (aO (fY (c:=105) fA T.ziB T.zkt hr.hd (av (uD (.cons .lit (.cons (.rp (ai 1)) Paired.nil))) aM))) cV)
  (aO (ci (bK (bz hr) (fg (f:="held") (ai 0) (dj.one T.zbd T.zaU)) (ai 1)))))
theorem vn:cf ["self","name","found"] ["self","name"] (bM rN):=⟨rfl,rfl,rfl,by decide +kernel,rfl,by decide +kernel,by decide +kernel⟩
theorem G9(T:Txt K mg a):FnG P w K mg base a.cl 2 a.zeH a.zew ["self","name"] oA:=by
 refine cG (N:=["self","name","found"]) (k:=1) (g:=sO) T.zgM vn rfl λcdv A outer s H E sa ns hr=>?_;exact (aH (bv (n:=2) (j8 (c:=3) (mth:="held_right") (ai 0) T.zbd T.zdi (AF T) (hr.mono (by decide)) T.zdA (av (ai 1) aM)) vn.nd)
  (aO (ci (k7 (av (fg (f:="point") (ai 2) (dj.one T.zdf T.zdu)) (av (fg (f:="amount") (ai 2) (dj.one T.zdf T.zc1)) (av (fg (f:="date") (ai 2) (dj.one T.zdf T.zcN)) aM)))))))
theorem mG:cf ["book","name","right","point","amount","date"] ["book","name"] (bM qP):=⟨rfl,rfl,rfl,by decide +kernel,rfl,by decide +kernel,by decide +kernel⟩
theorem CC(T:Txt K mg a):FnG P w K mg base a.cl 3 a.zeO a.zeD ["book","name"] o6:=by
 refine cG (N:=["book","name","right","point","amount","date"]) (k:=2) (g:=qq) T.zer mG rfl λcdv A outer s H E sa ns hr=>?_;exact (aH (bv (n:=2) (j8 (c:=3) (mth:="right") (ai 0) T.zbd T.zf0 (G9 T) (hr.mono (by decide)) T.zgC (av (ai 1) aM)) mG.nd)
  (aH (bv (n:=3) (bK (bz hr) (ai 2) ge_int) mG.nd)
  (aH (bv (n:=4) (bK (bz hr) (ai 2) ge_int) mG.nd)
  (aH (bv (n:=5) (bK (bz hr) (ai 2) ge_int) mG.nd)
  (aO (ci (uD (.cons (.pl (ai 1)) (.cons .lit (.cons (.pl (ai 3)) (.cons .lit (.cons (.pl (ai 4)) (.cons .lit (.cons (.pl (ai 5)) Paired.nil))))))))))))))
theorem BV:cf ["self","point"] ["self","point"] (bM qm):=⟨rfl,rfl,rfl,by decide +kernel,rfl,by decide +kernel,by decide +kernel⟩
theorem F5(T:Txt K mg a):FnG P w K mg base a.cl 2 a.zdT a.zdN ["self","point"] ou:=by
 refine cG (N:=["self","point"]) (k:=1) (g:=t6) T.zfR BV rfl λcdv A outer s H E sa ns hr=>?_;exact (aH (gU (j8 (c:=1) (mth:="check_point") (ai 0) T.zcK T.zbs (xp T) (hr.mono (by decide)) T.zbA (av (ai 1) aM)))
  (aO (ci (bK (bz hr) (fg (f:="runs_to") (ai 0) (dj.one T.zcK T.zbb)) (ai 1)))))
theorem DX:cf ["self"] ["self"] (bM pF):=⟨rfl,rfl,rfl,by decide +kernel,rfl,by decide +kernel,by decide +kernel⟩
theorem D5(T:Txt K mg a):FnG P w K mg base a.cl 1 a.zdt a.zds ["self"] jS:=by
 refine cG (N:=["self"]) (k:=0) (g:=tU) T.ze7 DX rfl λcdv A outer s H E sa ns hr=>?_;exact(aO (ci (cJ (λ_=>cY) c9 (fg (f:="runs_to") (ai 0) (dj.one T.zcK T.zbb)) T.zbM PySem.boot_len)))
theorem xu:cf ["river","lower"] ["river"] (bM qQ):=⟨rfl,rfl,rfl,by decide +kernel,rfl,by decide +kernel,by decide +kernel⟩
theorem FM(T:Txt K mg a):FnG P w K mg base a.cl 3 a.zeP a.zeE ["river"] qV:=by
 refine cG (N:=["river","lower"]) (k:=2) (g:=pf) T.zes xu rfl λcdv A outer s H E sa ns hr=>?_;exact (aH (mq (n:=1) (x:=["point"]) (one:=true) (dz.of rfl ⟨rfl,trivial⟩ rfl rfl) (rg (tE (c:=1) (mth:="points") (ai 0) T.zcK T.zeQ (D5 T) (hr.mono (by decide)) T.ze6) T.zeR) (λC s H fp pins=>(j8 (c:=1) (mth:="below") (ai 0) T.zcK T.ze9 (F5 T) (hr.mono (by decide)) T.zfO (av (ai 2) aM))) trivial (λnd C s H fp pins=>dO nd) xu.nd)
  (aO (ci (nI ba (aP (λ_=>cq) cn (gz (av ba aM)) (iY (x:=["point"]) (one:=true) (dz.of rfl trivial rfl rfl) (gZ (ai 1)) (λC s H fp pins=>(vw (zc (ai 2)) ba (gN (λ_=>lM) lH (ai 2) T.zlf PyProof.Rows.Boot.«str»))) trivial (λnd C s H fp pins=>dO nd)))))))
theorem yE:cf ["book","lines"] ["book"] (bM qC):=⟨rfl,rfl,rfl,by decide +kernel,rfl,by decide +kernel,by decide +kernel⟩
theorem xS(T:Txt K mg a):FnG P w K mg base a.cl 5 a.zld a.zlc ["book"] nT:=by
 refine cG (N:=["book","lines"]) (k:=4) (g:=q9) T.zjp yE rfl λcdv A outer s H E sa ns hr=>?_;exact (aH (mq (n:=1) (x:=["name"]) (one:=true) (dz.of rfl ⟨rfl,trivial⟩ rfl rfl) (gZ (tE (c:=3) (mth:="names") (ai 0) T.zbd T.zfZ (BB T) (hr.mono (by decide)) T.zgB)) (λC s H fp pins=>(b9 (CC T) (hr.mono (by decide)) T.zgS T.zer.kp T.zgI (av (ai 0) (av (ai 2) aM)))) trivial (λnd C s H fp pins=>dO nd) yE.nd)
  (aO (ci (nI ba (aP (λ_=>cq) cn (gz (av (b9 (FM T) (hr.mono (by decide)) T.zgT T.zes.kp T.zgJ (av (tE (c:=3) (mth:="river") (ai 0) T.zbd T.zf1 (Gh T) (hr.mono (by decide)) T.zgD) aM)) aM)) (ai 1))))))
theorem qA:cf ["text","lines","book","line"] ["text"] (bM pq):=⟨rfl,rfl,rfl,by decide +kernel,rfl,by decide +kernel,by decide +kernel⟩
theorem zu(T:Txt K mg a):FnG P w K mg base a.cl 6 a.znQ a.znP ["text"] kK:=by
 obtain⟨t_MOST_RIGHTS,h_MOST_RIGHTS⟩:=T.zfU;refine cG (N:=["text","lines","book","line"]) (k:=5) (g:=k6) T.zlN qA rfl λcdv A outer s H E sa ns hr=>?_;exact (aH (bv (n:=1) (jm (ai 0) ba) qA.nd)
  (aH (cL (bP (λ_=>gL) gQ (cJ (λ_=>cY) c9 (ai 1) T.zbM PySem.boot_len) (aP (λ_=>cq) cn ge_int (kO rfl h_MOST_RIGHTS ⟨_,rfl⟩)) (bQ _)) (aO (fY (c:=212) fA T.zbc T.zbj hr.hd (av ba aM))) cV)
  (aH (bv (n:=2) (uj (c:=3) T.znU (GM T) (hr.mono (by decide)) T.zpa T.zel (av (b9 (Bb T) (hr.mono (by decide)) T.zgR T.zeq.kp T.zgH (av (bK (bz hr) (ai 1) ge_int) aM)) aM)) qA.nd)
  (aH (jP (one:=true) (is:=[3]) (gZ (iZ (ai 1) ge_int trivial)) (dO qA.nd) (aO (gU (b9 (G0 T) (hr.mono (by decide)) T.zgQ T.zep.kp T.zgG (av (ai 2) (av (ai 3) aM))))))
  (aH (cL (bP (λ_=>(j5 hr.units)) kj (b9 (xS T) (hr.mono (by decide)) T.zle T.zjp.kp T.zlb (av (ai 2) aM)) (ai 0) (bQ _)) (aO (fY (c:=212) fA T.zbc T.zbj hr.hd (av ba aM))) cV)
  (aO (ci (ai 2))))))))
theorem nJ:cf ["text","bad","e","other"] ["text"] (bM oZ):=⟨rfl,rfl,rfl,by decide +kernel,rfl,by decide +kernel,by decide +kernel⟩
theorem EI(T:Txt K mg a):FnG P w K mg base a.cl 7 a.zdW a.zdQ ["text"] qh:=by
 refine cG (N:=["text","bad","e","other"]) (k:=6) (g:=qb) T.zdM nJ rfl λcdv A outer s H E sa ns hr=>?_;exact (aH (bv (n:=1) qr nJ.nd)
  (aH (CW (al:=[100,101,103,104,105,212]) (λpn EX=>(aO (gU (b9 (zu T) (hr.mono (by decide)) T.znT T.zlN.kp T.znO (av (ai 0) aM))))) (.named (i:=2) T.zbj rfl T.zbK T.ziG nJ.nd rfl rfl (λA'=>(aH (bv (n:=3) (wb (qi (ai 2) (λE=>lL (v:=.ref a.zb6) rfl T.zcP rfl) (.inr ⟨_,rfl,rfl⟩) T.zhT T.zcm) (wb (qi (ai 2) (λE=>lL (v:=.ref a.zcY) rfl T.zfV rfl) (.inr ⟨_,rfl,rfl⟩) T.ziC T.zcm) (ua (qi (ai 2) (λE=>lL (v:=.ref a.zfk) rfl T.zjq rfl) (.inr ⟨_,rfl,rfl⟩) T.zlP T.zcm)))) nJ.nd)
  (aO (bv (n:=1) (yM (qi (ai 2) (λE=>lL (v:=.ref a.zdD) rfl T.ziD rfl) (.inr ⟨_,rfl,rfl⟩) T.zhU T.zcm) (ua (GY (ai 3)))) nJ.nd)))) (by decide) GHs.nil))
  (aO (ci (ai 1)))))
theorem rR:cf ["cell","count","letters","stem","place"] ["cell","count"] (bM qB):=⟨rfl,rfl,rfl,by decide +kernel,rfl,by decide +kernel,by decide +kernel⟩
theorem Eg(T:Txt K mg a):FnG P w K mg base a.cl 1 a.zfp a.zfm ["cell","count"] p8:=by
 refine cG (N:=["cell","count","letters","stem","place"]) (k:=0) (g:=yN) T.zfh rR rfl λcdv A outer s H E sa ns hr=>?_;exact (aH (bv (n:=2) ba rR.nd)
  (aH (bv (n:=3) (nI ba (iY (x:=["k"]) (one:=true) (dz.of rfl ⟨rfl,⟨rfl,trivial⟩⟩ rfl rfl) (rg (aP (λ_=>dP) dL (ai 0) ge_int) T.zeR) (λC s H fp pins=>(bK (bz hr) (ai 2) (aP (λ_=>dP) dL (aP (λ_=>cq) cn (aP (λ_=>cq) cn (aP (λ_=>g5) g8 (ai 0) ge_int) (aP (λ_=>lB) lY (aP (λ_=>lB) lY ge_int (ai 5)) (ai 5))) (ai 5)) ge_int))) trivial (λnd C s H fp pins=>dO nd))) rR.nd)
  (aH (bv (n:=4) (aP (λ_=>dP) dL (aP (λ_=>g5) g8 (ai 0) ge_int) (aP (λ_=>cq) cn (cJ (λ_=>cY) c9 (ai 3) T.zbM PySem.boot_len) ge_int)) rR.nd)
  (aO (ci (iY (x:=["k"]) (one:=true) (dz.of rfl ⟨rfl,⟨rfl,⟨rfl,⟨rfl,trivial⟩⟩⟩⟩ rfl rfl) (rg (ai 1) T.zeR) (λC s H fp pins=>(aP (λ_=>cq) cn (aP (λ_=>cq) cn (iZ (ai 3) trivial (ai 4)) (bK (bz hr) (ai 2) (aP (λ_=>dP) dL (aP (λ_=>cq) cn (aP (λ_=>g5) g8 (ai 0) ge_int) (aP (λ_=>lB) lY ge_int (ai 5))) ge_int))) (iZ (ai 3) (ai 4) trivial))) trivial (λnd C s H fp pins=>dO nd)))))))
theorem g6:cf ["script","start","count","size","names","rights","k","amount","date"] ["script","start","count","size"] (bM qT):=⟨rfl,rfl,rfl,by decide +kernel,rfl,by decide +kernel,by decide +kernel⟩
theorem Cu(T:Txt K mg a):FnG P w K mg base a.cl 2 a.zeK a.zez ["script","start","count","size"] mi:=by
 refine cG (N:=["script","start","count","size","names","rights","k","amount","date"]) (k:=1) (g:=zS) T.zen g6 rfl λcdv A outer s H E sa ns hr=>?_;exact (aH (bv (n:=4) (b9 (Eg T) (hr.mono (by decide)) T.zhW T.zfh.kp T.zhN (av (b9 (gW T) (hr.mono (by decide)) T.zaE T.zaz.kp T.zaD (av (ai 0) (av ge_int aM))) (av (ai 2) aM))) g6.nd)
  (aH (bv (n:=5) (gz aM) g6.nd)
  (aH (jP (one:=true) (is:=[6]) (rg (ai 2) T.zeR) (dO g6.nd) (aH (bv (n:=7) (b9 (gW T) (hr.mono (by decide)) T.zaE T.zaz.kp T.zaD (av (ai 0) (av (aP (λ_=>cq) cn (aP (λ_=>cq) cn (ai 1) (aP (λ_=>lB) lY ge_int (ai 6))) ge_int) aM))) g6.nd)
  (aH (bv (n:=8) (b9 (gW T) (hr.mono (by decide)) T.zaE T.zaz.kp T.zaD (av (ai 0) (av (aP (λ_=>cq) cn (aP (λ_=>cq) cn (ai 1) (aP (λ_=>lB) lY ge_int (ai 6))) ge_int) aM))) g6.nd)
  (aH (cL (bP (λ_=>(fq hr.units)) fi (aP (λ_=>dP) dL (ai 7) ge_int) ge_int (bQ _)) (aO (bv (n:=7) (aP (λ_=>dP) dL (aP (λ_=>g5) g8 (ai 7) ge_int) ge_int) g6.nd)) (aO (bv (n:=7) (aP (λ_=>dP) dL (aP (λ_=>g5) g8 (ai 7) ge_int) ge_int) g6.nd)))
  (aH (cL (bP (λ_=>(fq hr.units)) fi (aP (λ_=>dP) dL (ai 8) ge_int) ge_int (bQ _)) (aO (bv (n:=8) (aP (λ_=>dP) dL (aP (λ_=>g5) g8 (ai 8) ge_int) ge_int) g6.nd)) (aO (bv (n:=8) (aP (λ_=>dP) dL (aP (λ_=>g5) g8 (ai 8) ge_int) ge_int) g6.nd)))
  (aO (gU (Eu (ai 5) (k7 (av (bK (bz hr) (ai 4) (ai 6)) (av (aP (λ_=>dP) dL (b9 (gW T) (hr.mono (by decide)) T.zaE T.zaz.kp T.zaD (av (ai 0) (av (aP (λ_=>cq) cn (ai 1) (aP (λ_=>lB) lY ge_int (ai 6))) aM))) (ai 3)) (av (ai 7) (av (ai 8) aM)))))))))))))
  (aO (ci (ai 5))))))
theorem jz:cf ["below","rights","text","point","right"] ["below","rights"] (bM pV):=⟨rfl,rfl,rfl,by decide +kernel,rfl,by decide +kernel,by decide +kernel⟩
theorem CP(T:Txt K mg a):FnG P w K mg base a.cl 2 a.zgq a.zgn ["below","rights"] qD:=by
 refine cG (N:=["below","rights","text","point","right"]) (k:=1) (g:=pH) T.zgk jz rfl λcdv A outer s H E sa ns hr=>?_;exact (aH (bv (n:=2) ba jz.nd)
  (aH (jP (one:=true) (is:=[3]) (gZ (iZ (ai 0) ge_int trivial)) (dO jz.nd) (aO (bv (n:=2) (aP (λ_=>cq) cn (aP (λ_=>cq) cn (ai 2) ba) (gN (λ_=>lM) lH (ai 3) T.zlf PyProof.Rows.Boot.«str»)) jz.nd)))
  (aH (jP (one:=true) (is:=[4]) (gZ (b9 (vT T) (hr.mono (by decide)) T.zgr T.zeW.kp T.zgi (av (ai 1) aM))) (dO jz.nd) (aH (bv (n:=2) (aP (λ_=>cq) cn (aP (λ_=>cq) cn (aP (λ_=>cq) cn (aP (λ_=>cq) cn (ai 2) ba) (bK (bz hr) (ai 4) ge_int)) ba) (gN (λ_=>lM) lH (bK (bz hr) (ai 4) ge_int) T.zlf PyProof.Rows.Boot.«str»)) jz.nd)
  (aH (bv (n:=2) (aP (λ_=>cq) cn (aP (λ_=>cq) cn (ai 2) ba) (gN (λ_=>lM) lH (bK (bz hr) (ai 4) ge_int) T.zlf PyProof.Rows.Boot.«str»)) jz.nd)
  (aO (bv (n:=2) (aP (λ_=>cq) cn (aP (λ_=>cq) cn (ai 2) ba) (gN (λ_=>lM) lH (bK (bz hr) (ai 4) ge_int) T.zlf PyProof.Rows.Boot.«str»)) jz.nd)))))
  (aO (ci (ai 2))))))
theorem uS:cf ["word","cell","some"] ["word","cell"] (bM sg):=⟨rfl,rfl,rfl,by decide +kernel,rfl,by decide +kernel,by decide +kernel⟩
theorem Ga(T:Txt K mg a):FnG P w K mg base a.cl 1 a.zhR a.zhQ ["word","cell"] oz:=by
 refine cG (N:=["word","cell","some"]) (k:=0) (g:=pB) T.zhP uS rfl λcdv A outer s H E sa ns hr=>?_;exact (aH (bv (n:=2) (gz (av ba (av ba (av (aP (λ_=>cq) cn ba (ai 0)) (av (aP (λ_=>cq) cn ba (ai 0)) (av (aP (λ_=>cq) cn (ai 0) ba) (av ba (av ba (av ba (av ba (av ba (av ba (av ba aM))))))))))))) uS.nd)
  (aH (bv (n:=2) (aP (λ_=>cq) cn (ai 2) (gz (av ba (av (aP (λ_=>cq) cn (ai 0) ba) (av ba (av (aP (λ_=>BO) GK ba (aP (λ_=>cq) cn ge_int (aP (λ_=>dP) dL (aP (λ_=>g5) g8 (ai 1) ge_int) ge_int))) aM)))))) uS.nd)
  (aO (ci (bK (bz hr) (ai 2) (aP (λ_=>dP) dL (ai 1) ge_int))))))
theorem jy:cf ["lines","way","cell","other","rows","at","words","place","text"] ["lines","way","cell","other"] (bM si):=⟨rfl,rfl,rfl,by decide +kernel,rfl,by decide +kernel,by decide +kernel⟩
theorem GP(T:Txt K mg a):FnG P w K mg base a.cl 2 a.zeL a.zeA ["lines","way","cell","other"] su:=by
 refine cG (N:=["lines","way","cell","other","rows","at","words","place","text"]) (k:=1) (g:=rV) T.zeo jy rfl λcdv A outer s H E sa ns hr=>?_;exact (aH (bv (n:=4) (gN (λ_=>ye) yJ (ai 0) T.znV PyProof.Rows.Boot.«list») jy.nd)
  (aH (bv (n:=5) (aP (λ_=>dP) dL (ai 2) (cJ (λ_=>cY) c9 (ai 4) T.zbM PySem.boot_len)) jy.nd)
  (aH (bv (n:=6) (jm (bK (bz hr) (ai 4) (ai 5)) ba) jy.nd)
  (aH (cL (GW.gt (eT (bP (λ_=>(fq hr.units)) fi (ai 1) ge_int (bQ _)) (fM .Or (bP (λ_=>(fq hr.units)) fi (ai 1) ge_int (bQ _))))) (aH (bv (n:=7) (aP (λ_=>dP) dL (aP (λ_=>g5) g8 (ai 2) ge_int) (cJ (λ_=>cY) c9 (ai 6) T.zbM PySem.boot_len)) jy.nd)
  (aH (oB (ai 6) (ai 7) (b9 (Ga T) (hr.mono (by decide)) T.zku T.zhP.kp T.zkq (av (bK (bz hr) (ai 6) (ai 7)) (av (ai 3) aM))) (hg:=λE t t' h1 h2=>mK h1 h2 (mC (bz hr))))
  (aO (oB (ai 4) (ai 5) (nI ba (ai 6)) (hg:=λE t t' h1 h2=>mK h1 h2 (mC (bz hr))))))) cV)
  (aH (cL (bP (λ_=>(fq hr.units)) fi (ai 1) ge_int (bQ _)) (aH (oB (ai 4) (ai 5) (bK (bz hr) (ai 0) (jY ge_int)) (hg:=λE t t' h1 h2=>mK h1 h2 (mC (bz hr))))
  (aO (oB (ai 4) (jY ge_int) (bK (bz hr) (ai 0) (ai 5)) (hg:=λE t t' h1 h2=>mK h1 h2 (mC (bz hr)))))) cV)
  (aH (cL (bP (λ_=>(fq hr.units)) fi (ai 1) ge_int (bQ _)) (aO (gU (Hk (ai 4) (ai 5) (bK (bz hr) (ai 4) (jY ge_int))))) cV)
  (aH (cL (bP (λ_=>(fq hr.units)) fi (ai 1) ge_int (bQ _)) (aO (gU (Em (mn:="pop") PySem.F.slot_list_pop PySem.F.type_list_pop (λ_=>AH) BW (ai 4) ge_int))) cV)
  (aH (bv (n:=8) (nI ba (ai 4)) jy.nd)
  (aH (cL (GW.gt (eT (bP (λ_=>(fq hr.units)) fi (ai 1) ge_int (bQ _)) (fM .Or (bP (λ_=>(fq hr.units)) fi (ai 1) ge_int (bQ _))))) (aH (bv (n:=7) (aP (λ_=>dP) dL (ai 3) (aP (λ_=>cq) cn (cJ (λ_=>cY) c9 (ai 8) T.zbM PySem.boot_len) ge_int)) jy.nd)
  (aO (bv (n:=8) (aP (λ_=>cq) cn (aP (λ_=>cq) cn (iZ (ai 8) trivial (ai 7)) (bK (bz hr) (gz (av ba (av ba aM))) (aP (λ_=>dP) dL (ai 2) ge_int))) (iZ (ai 8) (ai 7) trivial)) jy.nd))) cV)
  (aO (ci (ai 8))))))))))))
theorem j7:cf ["script","size","below","rights","lines","cell","text"] ["script"] (bM qO):=⟨rfl,rfl,rfl,by decide +kernel,rfl,by decide +kernel,by decide +kernel⟩
theorem E0(T:Txt K mg a):FnG P w K mg base a.cl 8 a.zqb a.zqa ["script"] n6:=by
 refine cG (N:=["script","size","below","rights","lines","cell","text"]) (k:=7) (g:=qL) T.zrI j7 rfl λcdv A outer s H E sa ns hr=>?_;exact (aH (bv (n:=1) (aP (λ_=>cq) cn ge_int (aP (λ_=>dP) dL (b9 (gW T) (hr.mono (by decide)) T.zaE T.zaz.kp T.zaD (av (ai 0) (av ge_int aM))) ge_int)) j7.nd)
  (aH (bv (n:=2) (b9 (z7 T) (hr.mono (by decide)) T.zhV T.zfg.kp T.zhM (av (ai 0) (av ge_int (av (ai 1) aM)))) j7.nd)
  (aH (bv (n:=3) (b9 (Cu T) (hr.mono (by decide)) T.zgO T.zen.kp T.zgE (av (ai 0) (av ge_int (av (aP (λ_=>cq) cn ge_int (aP (λ_=>dP) dL (aP (λ_=>g5) g8 (b9 (gW T) (hr.mono (by decide)) T.zaE T.zaz.kp T.zaD (av (ai 0) (av ge_int aM))) ge_int) ge_int)) (av (ai 1) aM))))) j7.nd)
  (aH (bv (n:=4) (jm (b9 (CP T) (hr.mono (by decide)) T.ziF T.zgk.kp T.ziz (av (ai 2) (av (ai 3) aM))) ba) j7.nd)
  (aH (bv (n:=5) (b9 (gW T) (hr.mono (by decide)) T.zaE T.zaz.kp T.zaD (av (ai 0) (av ge_int aM))) j7.nd)
  (aH (bv (n:=6) (b9 (GP T) (hr.mono (by decide)) T.zgP T.zeo.kp T.zgF (av (ai 4) (av (aP (λ_=>dP) dL (b9 (gW T) (hr.mono (by decide)) T.zaE T.zaz.kp T.zaD (av (ai 0) (av ge_int aM))) ge_int) (av (ai 5) (av (b9 (gW T) (hr.mono (by decide)) T.zaE T.zaz.kp T.zaD (av (ai 0) (av ge_int aM))) aM))))) j7.nd)
  (aH (cL (qM (t4 (b9 (AC T) (hr.mono (by decide)) T.ziE T.zgj.kp T.ziy (av (ai 6) aM)))) (aO (ci (b9 (EI T) (hr.mono (by decide)) T.zfX T.zdM.kp T.zfQ (av (ai 6) aM)))) cV)
  (aO (ci (n9 (λ_=>(fq hr.units)) fi (b9 (xS T) (hr.mono (by decide)) T.zle T.zjp.kp T.zlb (av (b9 (zu T) (hr.mono (by decide)) T.znT T.zlN.kp T.znO (av (ai 6) aM)) aM)) (ai 6) (bQ _)))))))))))
end
end L2.Rv
namespace L2.Rv
open PySem PySem.Spec PyProof.Rows
open PySem.W
def tR(K:Frag)(tb:ad):Sp:=λvs H Q _=>∃(sa:ad) (ns:List Int),vs=[.ref sa]/\qR tb H/\H tb=some (.tbl #[])/\SqL K H sa (ns.map V.int)/\ns.length≤63/\∀H',Q (.bl true) H'
noncomputable def AQ:Adr:=⟨111,195,251,31,44,56,68,80,92,143,fO "names" "Book.names" pG "riverdue.rights" 294 142,315,fO "_law_cell_at" "_law_cell_at" pT "law_riverdue_k27_texts_refused" 599 314,320,fO "_law_below" "_law_below" rk "law_riverdue_k27_texts_refused" 599 319,337,fO "_law_aged" "_law_aged" qU "law_riverdue_k27_texts_refused" 599 336,365,fO "_law_number" "_law_number" qF "law_riverdue_k27_texts_refused" 599 364,370,fO "_law_right_line" "_law_right_line" qN "law_riverdue_k27_texts_refused" 599 369,375,fO "_law_good" "_law_good" sr "law_riverdue_k27_texts_refused" 599 374,129,fO "__init__" "Book.__init__" se "riverdue.rights" 294 128,192,fO "check_free" "Book.check_free" qG "riverdue.rights" 294 191,108,fO "__init__" "Right.__init__" rH "riverdue.rights" 294 107,227,fO "check_point" "River.check_point" o9 "riverdue.river" 439 226,157,fO "grant" "Book.grant" qX "riverdue.rights" 294 156,303,fO "read_name" "read_name" rP "riverdue.notes" 521 302,308,fO "read_number" "read_number" qj "riverdue.notes" 521 307,298,fO "read_right" "read_right" qg "riverdue.notes" 521 297,262,fO "check_below" "check_below" pI "riverdue.river" 439 261,213,fO "__init__" "River.__init__" pO "riverdue.river" 439 212,291,fO "read_river" "read_river" pp "riverdue.notes" 521 290,136,fO "river" "Book.river" rT "riverdue.rights" 294 135,185,fO "held_right" "Book.held_right" qH "riverdue.rights" 294 184,150,fO "right" "Book.right" rN "riverdue.rights" 294 149,279,fO "right_line" "right_line" qP "riverdue.notes" 521 278,234,fO "below" "River.below" qm "riverdue.river" 439 233,220,fO "points" "River.points" pF "riverdue.river" 439 219,272,fO "river_line" "river_line" qQ "riverdue.notes" 521 271,267,fO "shown" "shown" qC "riverdue.notes" 521 266,286,fO "read" "read" pq "riverdue.notes" 521 285,382,fO "_law_refused" "_law_refused" oZ "law_riverdue_k27_texts_refused" 599 381,325,fO "_law_names" "_law_names" qB "law_riverdue_k27_texts_refused" 599 324,332,fO "_law_rights" "_law_rights" qT "law_riverdue_k27_texts_refused" 599 331,344,fO "_law_text" "_law_text" pV "law_riverdue_k27_texts_refused" 599 343,351,fO "_law_odd" "_law_odd" sg "law_riverdue_k27_texts_refused" 599 350,358,fO "_law_turned" "_law_turned" si "law_riverdue_k27_texts_refused" 599 357,389,fO "law" "law" qO "law_riverdue_k27_texts_refused" 599 388,138⟩
theorem all_mk{l:OpenLaw}{w:aR}{h:aI}{mg:Str->Option ae}{fa:ad}(X:(KM w).In h)(G:h.Ns dA mg)(hfa:mg "law"=some (.ref fa))
  (hold:∀ns:List Int,ns.length≤63->∃h',n6 [.scr ns] []=.ok (.bl true) h') :
  (∃c o vs,(KM w).lookup c=some o/\o.cls=.type "code"/\o.data=.fields vs/\vs[11]?=some (.ref 138))/\∃fd:bq,(∀(s:ag) (v:ae),BindsTo s fd ⟨[v],[]⟩ [("script",v)])/\∀base:aI,(KM w).In base->base.Ns dA mg->iV l.prog w (KM w) mg base (CXe l.prog w) 8 fa fd ["script"] (tR (KM w) 138):=by
 have x_a_law:nsIn (KM w) dA "law"=some (some (.ref 389)):=by kernel_rfl
 have x_lcd:((.ref 142):ae)=.ref 142:=by rfl
 have x_lco:(KM w).lookup 142=some ⟨.type "code",none,.fields KQc,#[]⟩:=by kernel_rfl
 have x_l11:KQc[11]?=some (.ref 138):=by rfl
 have x_l11d:KQc.getD 11 .none=.ref 138:=by rfl
 have x_l18:KQc.getD 18 .none=.str "/claim/cut.py" 364:=by rfl
 have x_l7:KQc.getD 7 .none=.int 3 0:=by rfl
 have x_l9:KQc.getD 9 .none=.bool true:=by rfl
 have x_l10:KQc.getD 10 .none=.int 181 0:=by rfl
 have x_bms:nsIn (KM w) dA "__builtins__"=some (some (.ref 4)):=by kernel_rfl
 have x_bml:(KM w).lookup 4=some ⟨.type "module",some builtinsNs,.plain,#[]⟩:=by kernel_rfl
 have x_bm1:4≠builtinsNs:=by decide
 have x_bm2:4≠dA:=by decide
 have x_sp_cls:specialIn (KM w) (.builtin "object.__class__") "__get__"=some (some (.builtin "getset_descriptor.__get__")):=by kernel_rfl
 have x_tk_cls:takesIn (KM w) (.builtin "object.__class__")=some true:=by kernel_rfl
 obtain rfl:389=fa:=(Value.ref.inj (Option.some.inj (hfa.symm.trans (mg_of X G x_a_law)))).symm;have zbC:dY (KM w) 31:=nX x_sp_cls x_tk_cls;have za9:dY (KM w) 44:=nX x_sp_cls x_tk_cls;have zbq:dY (KM w) 56:=nX x_sp_cls x_tk_cls;have zcL:dY (KM w) 68:=nX x_sp_cls x_tk_cls;have zb9:dY (KM w) 80:=nX x_sp_cls x_tk_cls;have zbK:dY (KM w) 92:=nX x_sp_cls x_tk_cls;have T:Txt (KM w) mg AQ:={
  zqc:=nN X G
  zoS:=nN X G
  zcm:=nN X G
  zbM:=nN X G
  znV:=nN X G
  zeR:=nN X G
  zrJ:=nN X G
  zjr:=nN X G
  zlf:=nN X G
  zkr:=⟨531,nR X G⟩
  zks:=⟨529,nR X G⟩
  zfT:=⟨296,nR X G⟩
  zhS:=⟨527,nR X G⟩
  ze8:=⟨525,nR X G⟩
  zcM:=⟨441,nR X G⟩
  zfU:=⟨523,nR X G⟩
  znR:=nR X G
  zdf:=nC
  zlQ:=nK
  zdu:=nA
  zc1:=nA
  zcN:=nA
  zpa:=nR X G
  zbd:=nC
  znU:=nK
  zcf:=nA
  zaU:=nA
  znS:=nR X G
  zcK:=nC
  zlR:=nK
  zbb:=nA
  ziD:=nR X G
  zbC:=zbC
  zcP:=nR X G
  za9:=za9
  zfV:=nR X G
  zbq:=zbq
  zjq:=nR X G
  zcL:=zcL
  zkt:=nR X G
  zb9:=zb9
  zbj:=nR X G
  zbK:=zbK
  zdS:=by kernel_rfl
  zbc:=by kernel_rfl
  ziA:=by kernel_rfl
  ziB:=by kernel_rfl
  zlO:=by kernel_rfl
  zhT:=.exc (λn hn=>by simp only[bE,fG,or_false]at hn;rcases hn with rfl|rfl|rfl|rfl|rfl|rfl <;> first|exact⟨zbC,by kernel_rfl⟩|exact⟨za9,by kernel_rfl⟩|exact⟨zbq,by kernel_rfl⟩|exact⟨zcL,by kernel_rfl⟩|exact⟨zb9,by kernel_rfl⟩|exact⟨zbK,by kernel_rfl⟩)
  zhU:=.exc (λn hn=>by simp only[bE,fG,or_false]at hn;rcases hn with rfl|rfl|rfl|rfl|rfl|rfl <;> first|exact⟨zbC,by kernel_rfl⟩|exact⟨za9,by kernel_rfl⟩|exact⟨zbq,by kernel_rfl⟩|exact⟨zcL,by kernel_rfl⟩|exact⟨zb9,by kernel_rfl⟩|exact⟨zbK,by kernel_rfl⟩)
  ziC:=.exc (λn hn=>by simp only[bE,fG,or_false]at hn;rcases hn with rfl|rfl|rfl|rfl|rfl|rfl <;> first|exact⟨zbC,by kernel_rfl⟩|exact⟨za9,by kernel_rfl⟩|exact⟨zbq,by kernel_rfl⟩|exact⟨zcL,by kernel_rfl⟩|exact⟨zb9,by kernel_rfl⟩|exact⟨zbK,by kernel_rfl⟩)
  zlP:=.exc (λn hn=>by simp only[bE,fG,or_false]at hn;rcases hn with rfl|rfl|rfl|rfl|rfl|rfl <;> first|exact⟨zbC,by kernel_rfl⟩|exact⟨za9,by kernel_rfl⟩|exact⟨zbq,by kernel_rfl⟩|exact⟨zcL,by kernel_rfl⟩|exact⟨zb9,by kernel_rfl⟩|exact⟨zbK,by kernel_rfl⟩)
  zhY:=(λn hn=>by simp only[bE,fG,or_false]at hn;rcases hn with rfl|rfl|rfl|rfl|rfl|rfl <;> kernel_rfl)
  ziG:=(λn hn=>by simp only[bE,fG,or_false]at hn;rcases hn with rfl|rfl|rfl|rfl|rfl|rfl <;> kernel_rfl)
  ziH:=(λn hn=>by simp only[bE,fG,or_false]at hn;rcases hn with rfl|rfl|rfl|rfl|rfl|rfl <;> kernel_rfl)
  zlS:=(λn hn=>by simp only[bE,fG,or_false]at hn;rcases hn with rfl|rfl|rfl|rfl|rfl|rfl <;> kernel_rfl)
  zgL:=fm
  zgB:=.all (len1 λ_=>rfl)
  zfZ:=nM
  zaz:=fm
  zaD:=.all (len2 λ_ _=>rfl)
  zaE:=nR X G
  zfg:=fm
  zhM:=.all (len3 λ_ _ _=>rfl)
  zhV:=nR X G
  zeW:=fm
  zgi:=.all (len1 λ_=>rfl)
  zgr:=nR X G
  zbJ:=fm
  zck:=.all (len2 λ_ _=>rfl)
  zcl:=nR X G
  zcs:=fm
  zd1:=.all (len2 λ_ _=>rfl)
  zd5:=nR X G
  zgj:=fm
  ziy:=.all (len1 λ_=>rfl)
  ziE:=nR X G
  zem:=fm
  zel:=.all (len2 λ_ _=>rfl)
  zdB:=fm
  zdz:=.all (len2 λ_ _=>rfl)
  zdh:=nM
  zd2:=fm
  zdZ:=.all (len4 λ_ _ _ _=>rfl)
  zcX:=fm
  zbA:=.all (len2 λ_ _=>rfl)
  zbs:=nM
  zgK:=fm
  zgA:=.all (len5 λ_ _ _ _ _=>rfl)
  zfY:=nM
  zfi:=fm
  zhO:=.all (len1 λ_=>rfl)
  zhX:=nR X G
  zbp:=fm
  zbY:=.all (len2 λ_ _=>rfl)
  zbZ:=nR X G
  zep:=fm
  zgG:=.all (len2 λ_ _=>rfl)
  zgQ:=nR X G
  zdL:=fm
  zfP:=.all (len1 λ_=>rfl)
  zfW:=nR X G
  zd3:=fm
  zd0:=.all (len2 λ_ _=>rfl)
  zeq:=fm
  zgH:=.all (len1 λ_=>rfl)
  zgR:=nR X G
  zgN:=fm
  zgD:=.all (len1 λ_=>rfl)
  zf1:=nM
  zdC:=fm
  zdA:=.all (len2 λ_ _=>rfl)
  zdi:=nM
  zgM:=fm
  zgC:=.all (len2 λ_ _=>rfl)
  zf0:=nM
  zer:=fm
  zgI:=.all (len2 λ_ _=>rfl)
  zgS:=nR X G
  zfR:=fm
  zfO:=.all (len2 λ_ _=>rfl)
  ze9:=nM
  ze7:=fm
  ze6:=.all (len1 λ_=>rfl)
  zeQ:=nM
  zes:=fm
  zgJ:=.all (len1 λ_=>rfl)
  zgT:=nR X G
  zjp:=fm
  zlb:=.all (len1 λ_=>rfl)
  zle:=nR X G
  zlN:=fm
  znO:=.all (len1 λ_=>rfl)
  znT:=nR X G
  zdM:=fm
  zfQ:=.all (len1 λ_=>rfl)
  zfX:=nR X G
  zfh:=fm
  zhN:=.all (len2 λ_ _=>rfl)
  zhW:=nR X G
  zen:=fm
  zgE:=.all (len4 λ_ _ _ _=>rfl)
  zgO:=nR X G
  zgk:=fm
  ziz:=.all (len2 λ_ _=>rfl)
  ziF:=nR X G
  zhP:=fm
  zkq:=.all (len2 λ_ _=>rfl)
  zku:=nR X G
  zeo:=fm
  zgF:=.all (len4 λ_ _ _ _=>rfl)
  zgP:=nR X G
  zrI:=fm
  zse:=.all (len1 λ_=>rfl)
  zsf:=nR X G
  lam:=⟨(show(1:Nat)≠0 by decide),⟨142,x_lcd,_,_,_,_,_,_,_,_,_,x_lco,rfl,rfl,x_l11,x_l11d,x_l18,x_l7,x_l9,x_l10⟩,⟨4,_,mg_of X G x_bms,x_bm1,x_bm2,x_bml,rfl,rfl,rfl⟩⟩
 }
 refine⟨⟨142,_,_,x_lco,rfl,rfl,x_l11⟩,?_⟩;refine⟨_,λs v=>.of_eq rfl,λbase _ _=>(E0 T).ok.imp λvs H Q E q=>?_⟩;obtain⟨sa,ns,rfl,hO,hH,hS,hl,hQ⟩:=q;obtain⟨h',hh⟩:=hold ns hl;refine⟨sa,ns,[],[],[.scr ns],rfl,.cons ⟨rfl,rfl⟩ .nil,⟨rfl,List.nodup_nil,λn a o e=>by simp at e,?_,.inr ⟨by simp,.inl hH⟩⟩,?_⟩
 ·rcases hS with(hS|⟨o,hS⟩)|hS
  ·rcases hO sa with z|⟨ob,xs,z⟩|⟨_,z⟩ <;> (rw[hS]at z;cases z)
  ·exact .inl ⟨o,hS⟩
  ·exact .inr λH0=>.inr hS
 ·rw[hh];intro m' H' v' _ _ r;cases(show v'=V.bl true from r);exact hQ H'
theorem walk{l:OpenLaw}{q:bh}{loose:List Str}{XP:(Str->Option ae)->aI->Prop}{YP:aR->aI->Prop}{d:DefRec}{K:Params->Frag}{tb:ad}(hn:l.most=some 63)(hdf:d.params.defaults=[])
  (hY:∀(w:aR) (h:aI),YP w h->(K w.params).In h/\h.get? tb=some (tabObj #[])) (hK:∀w:aR,(K w.params).lookup tb=none)
  (F:∀(w:aR) (mg:Str->Option ae) (fa:ad) (h:aI),(K w.params).In h->h.Ns dA mg->mg d.name=some (.ref fa) ->
   (∃c o vs,(K w.params).lookup c=some o/\o.cls=.type "code"/\o.data=.fields vs/\vs[11]?=some (.ref tb)) /\
   ∃fd:bq,(∀(s:ag) (u:ae),BindsTo s fd ⟨[u],[]⟩ [("script",u)])/\∀base:aI,(K w.params).In base->base.Ns dA mg->iV l.prog w (K w.params) mg base (CXe l.prog w) 8 fa fd ["script"] (tR (K w.params) tb)) :
  WalkO q loose XP YP l.row.toRowW d [] (λf vs=>PySem.call f vs):=
 Ep (n:=63) (k:=8) (x:="script") (CX:=λw=>CXe l.prog w) (sp:=λw=>tR (K w.params) tb) hn (by decide) hdf ⟨rfl,by decide,by decide⟩ hY hK F (λ_ _ a ns hl hO hH hS=>⟨a,ns,rfl,hO,hH,hS,hl,λ_=>rfl⟩) λ_ _ _ _ _ z=>by obtain⟨_,_,_,_,_,_,_,_,_,_,y⟩:=z;exact y
end L2.Rv
namespace L2.Rv
open PySem (Str)
theorem kL{ns:List Int}{k:Int}(hk:0≤k){h:MH}{Q:MV->MH->Prop}{E:Nat->MH->Prop}:wp (eW [.scr ns,.int k]) h Q E=Q (.int (cell ns k)) h:=by
 obtain⟨k,rfl⟩:=kz hk;have key:eW [.scr ns,.int k] h=.ok (.int (cell ns k)) h:=by
  by_cases c:k<ns.length
  ·have e:atN ns (k:Int)=some (cell ns k):=by rw[ig];simp[cell,c]
   simp[eW,qa,fnOf,bnd,aB,sIf,tst,aj,af,eUn,bL,oLt,ret,asB,bI,oIx,c,e]
  ·have e:cell ns k=0:=by simp[cell,kM c]
   simp[eW,qa,fnOf,bnd,aB,sIf,tst,aj,af,eUn,bL,oLt,ret,asB,bI,oIx,c,e,cu,eC]
 unfold wp;rw[key]
noncomputable def nats(l:List Nat):List MV:=l.map λ(x:Nat)=>.int (x:Int)
noncomputable def rows(b:List Nat):List MV:=.non::nats b
def Wf(b:List Nat):Prop:=∀(k x:Nat),b[k]?=some x->x≤k
theorem CG(b:List Nat):(nats b).length=b.length:=by simp[nats]
theorem iH(b:List Nat):(rows b).length=b.length+1:=by simp[rows,nats]
theorem Ai{b:List Nat}{p x:Nat}(e:b[p]?=some x):(rows b)[p+1]?=some (.int x):=by simp[rows,nats,e]
structure cU(h:MH)(r:Nat)(b:List Nat):Prop where
 ob:∃l,h[r]?=some (.ins 1 [("runs_to",.ref l)])/\h[l]?=some (.lst (rows b))
 wf:Wf b
 few:b.length<40
theorem cU.pre{h h':MH}{r:Nat}{b:List Nat}(R:cU h r b)(p:Pre h h'):cU h' r b:=by
 obtain⟨⟨l,h1,h2⟩,w,f⟩:=R;exact⟨⟨l,p.get h1,p.get h2⟩,w,f⟩
section
variable {h:MH}{r:Nat}{b:List Nat}{Q:MV->MH->Prop}{E:Nat->MH->Prop}
theorem D0{a:Nat}(ha:h[a]?=some (.lst (rows b)))(w:Wf b)(f:b.length<40)(q:Q .non h):wp (mS [.ref a]) h Q E:=by
 refine cF (by rfl) ?_;have c1:¬((b.length:Int)+1<1):=by lia
 have c2:¬(40<(b.length:Int)+1):=by lia
 have c0:atN (rows b) 0=some .non:=rfl;simp[jV,ha,iH,c1,c2,c0];refine⟨by lia,?_⟩;refine ja (λk σ h'=>h'=h/\∃x y,σ=[some (.ref a),x,y]) (λ_ _ _ _=>rfl) (λk x σ h' hx ⟨eh,u,v,es⟩=>?_) (λσ h' ⟨eh,u,v,es⟩=>?_) ⟨rfl,_,_,rfl⟩
 ·subst eh;subst es;have hk:k<b.length:=by
   have:=(bT.mp hx).1;rw[iw]at this;lia
  rw[pM (by lia)]at hx;cases hx;obtain⟨z,ez⟩:∃z,b[k]?=some z:=⟨b[k],by simp[hk]⟩
  have g:atN (rows b) (1+(k:Int))=some (.int z):=by
   rw[show(1+(k:Int))=((k+1:Nat):Int) by lia,ig];exact Ai ez
  have lz:=w k z ez;have d1:¬((z:Int)<0):=by lia
  have d2:¬(1+(k:Int)≤(z:Int)):=by lia
  simp[dI,ha,g,d1,d2]
 ·subst eh;exact q
structure u4(h:MH)(r:Nat)(b:List Nat)(lo:Nat):Prop where
 ob:∃l,h[r]?=some (.ins 1 [("runs_to",.ref l)])/\h[l]?=some (.lst (rows b))/\lo≤l
 lo:lo≤r
 wf:Wf b
 few:b.length<40
theorem u4.at{lo:Nat}(R:u4 h r b lo):cU h r b:=by
 obtain⟨⟨l,h1,h2,h3⟩,h4,w,f⟩:=R;exact⟨⟨l,h1,h2⟩,w,f⟩
theorem FA{a:Nat}(ha:h[a]?=some (.lst (rows b)))(w:Wf b)(f:b.length<40)(q:∀h',Pre h h'->u4 h' h.length b h.length->Q .non h'):wp (ki [.ref h.length,.ref a]) (h++[.ins 1 []]) Q E:=by
 unfold ki;refine cF (by rfl) ?_;have ha':(h++[.ins 1 []])[a]?=some (.lst (rows b)):=eI ha;have la:=d5 ha;simp[mj];refine D0 ha' w f ?_;simp[ha',putF];exact⟨by lia,q _ ⟨_,rfl⟩ ⟨⟨h.length+1,by simp,by simp,by lia⟩,bc _,w,f⟩⟩
theorem wm{a:Nat}(ha:h[a]?=some (.lst (rows b)))(w:Wf b)(f:b.length<40)(q:∀h',Pre h h'->cU h' h.length b->Q .non h'):wp (ki [.ref h.length,.ref a]) (h++[.ins 1 []]) Q E:=
 FA ha w f λh' p R=>q h' p R.at
theorem Ft(R:cU h r b):wp (jS [.ref r]) h Q E=Q (.int ((b.length:Int)+1)) h:=by
 obtain⟨⟨l,h1,h2⟩,w,f⟩:=R;have key:jS [.ref r] h=.ok (.int ((b.length:Int)+1)) h:=by
  simp[jS,tU,fnOf,bnd,bI,eUn,cj,af,ret,look,h1,h2,bL,iH]
 unfold wp;rw[key]
theorem yt{p:Int}(R:cU h r b)(h0:0≤p)(hp:p<(b.length:Int)+1):wp (gY [.ref r,.int p]) h Q E=Q .non h:=by
 obtain⟨⟨l,h1,h2⟩,w,f⟩:=R;have n1:¬p<0:=by lia
 have n2:¬(b.length:Int)+1≤p:=by lia
 have key:gY [.ref r,.int p] h=.ok .non h:=by
  simp[gY,nj,fnOf,bnd,sIf,tst,eOr,aj,eC,oLt,oGe,asB,eUn,cj,af,ret,look,h1,h2,bL,iH,n1,n2,cu]
 unfold wp;rw[key]
theorem Cg{p:Int}(R:cU h r b)(hp:p<0∨(b.length:Int)+1≤p):wp (gY [.ref r,.int p]) h Q E=E 103 h:=by
 obtain⟨⟨l,h1,h2⟩,w,f⟩:=R;have key:gY [.ref r,.int p] h=.exc 103 h:=by
  by_cases n1:p<0
  ·simp[gY,nj,fnOf,bnd,sIf,tst,eOr,aj,eC,oLt,oGe,asB,eUn,cj,af,ret,look,h1,h2,bL,iH,n1,d6,ao,aD,rse]
  ·have n2:(b.length:Int)+1≤p:=by lia
   simp[gY,nj,fnOf,bnd,sIf,tst,eOr,aj,eC,oLt,oGe,asB,eUn,cj,af,ret,look,h1,h2,bL,iH,n1,n2,d6,ao,aD,rse]
 unfold wp;rw[key]
theorem cU.meth(R:cU h r b){f:Fn}{mth:String}{a:MA}{σ:MSt}{i:Nat}(hm:(mth == "runs_to")=false)(hs:σ[i]?=some (some (.ref r))):wp (dJ 1 mth f (af i) a σ) h Q E=wp (a σ) h (λxs h2=>wp (f (.ref r::xs)) h2 Q E) E:=by
 obtain⟨⟨l,h1,h2⟩,w,f⟩:=R;have hm':mth≠"runs_to":=by simpa using hm
 simp[hs,h1,cO,hm,hm']
noncomputable def km(b:List Nat)(p:Nat):MV:=(rows b).getD p .non
theorem EH(hp:p<b.length+1):atN (rows b) ((p:Nat):Int)=some (km b p):=by
 rw[ig,km,List.getD_eq_getElem?_getD];have:p<(rows b).length:=by rw[iH];exact hp
 simp[this]
theorem Gm{p:Nat}(R:cU h r b)(hp:p<b.length+1):wp (ou [.ref r,.int p]) h Q E=Q (km b p) h:=by
 have c:=yt (Q:=λv h'=>v=.non/\h'=h) (E:=noE) (p:=p) R (by lia) (by lia);obtain⟨⟨l,h1,h2⟩,w,f⟩:=R;have key:ou [.ref r,.int p] h=.ok (km b p) h:=by
  obtain⟨v,h',e,rfl,rfl⟩:=jg (cast c.symm ⟨rfl,rfl⟩);simp[ou,t6,fnOf,bnd,aB,fN,dJ,ao,aD,af,ret,look,h1,h2,cO,e,bI,aj,cj,oIx,EH hp]
 unfold wp;rw[key]
end
noncomputable def gJ(ns:List Int)(st:Int)(size:Nat):List Nat:=(cM (size-1)).map λ(k:Nat)=>(cell ns (st+(1+(k:Int)))%(1+(k:Int))).toNat
theorem ya(ns:List Int)(st:Int)(size:Nat):(gJ ns st size).length=size-1:=by simp[gJ]
theorem Da(ns:List Int)(st:Int)(size:Nat):Wf (gJ ns st size):=by
 intro k x e;unfold gJ at e;rw[bX]at e;cases ek:(cM (size-1))[k]? with
 |none=>rw[ek]at e;cases e
 |some j=>
   rw[ek]at e;have hj:j=k:=by
    obtain⟨h1,h2⟩:=bT.mp ek;simpa using h2.symm
   subst hj;have e:(cell ns (st+(1+(j:Int)))%(1+(j:Int))).toNat=x:=Option.some.inj e;have a:=ii (cell ns (st+(1+(j:Int)))) (show(0:Int)<1+(j:Int) by lia)
   lia
theorem BY{n:Nat}{lo:Int}{f:List MV->MV}{g:Nat->Nat}(hf:∀k,k<n->f [.int (lo+(k:Int))]=.int (g k:Int)):(de lo n).map f=nats ((cM n).map g):=by
 unfold de nats;rw[cb,cb];refine fZ λk hk=>?_;exact hf k (iW.mp hk)
theorem BC{ns:List Int}{st:Int}{size:Nat}{h:MH}{Q:MV->MH->Prop}{E:Nat->MH->Prop}(h0:0≤st)(hs:1≤size)(hz:size≤1000)(q:∀h',Pre h h'->h.length<h'.length->Q (.ref h'.length) (h'++[.lst (rows (gJ ns st size))])):wp (rK [.scr ns,.int st,.int size]) h Q E:=by
 unfold rK;refine cF (by rfl) ?_;simp[t5];have hsrc:gM (eC (.int 1)) (af 2) [some (.scr ns),some (.int st),some (.int size)] (h++[.lst [.non]])=.ok ⟨de 1 (size-1),[]⟩ (h++[.lst [.non]]):=by
  exact xT rfl rfl ⟨by lia,by lia⟩ ⟨by lia,by lia⟩ (by lia)
 refine tK (λ_=>true) (λx=>match x with
  |[.int k]=>.int (cell ns (st+k)%k)
  | _=>.non) hsrc (λ_ _=>rfl) (by simp [iw];lia) (λx hx h2 p2=>?_) (λx hx _ h2 p2=>?_) λh2 p2=>?_
 ·simp[eE,aZ,Pre.refl]
 ·obtain⟨k,hk,rfl⟩:=sS hx;have h1:(0:Int)≤st+(1+(k:Int)):=by lia
  simp[kL h1];exact⟨by lia,.refl⟩
 ·have e:lN (λx=>match x with
   |[MV.int k]=>MV.int (cell ns (st+k)%k)
   | _=>MV.non) (kq (λ_=>true) (de 1 (size - 1)))=nats (gJ ns st size):=by
   rw[pQ.mpr λ_ _=>rfl];unfold gJ;refine BY λk hk=>?_;have a:=fU (cell ns (st+(1+(k:Int)))) (show(1+(k:Int))≠0 by lia);simp only[MV.int.injEq];lia
  rw[e];have pl:=p2.len;simp at pl;have g1:(h2++[.lst (nats (gJ ns st size))])[h.length]?=some (.lst [.non]):=eI (p2.get bp);have l1:(nats (gJ ns st size)).length+1≤100000:=by rw[CG,ya];lia
  simp[g1,l1];refine⟨by lia,?_⟩;have:=q (h2++[.lst (nats (gJ ns st size))]) (((Pre.app _).trans p2).snoc _) (by simp;lia);simpa[rows] using this
section
variable {h:MH}{a:Nat}{b:List Nat}{Q:MV->MH->Prop}{E:Nat->MH->Prop}
end
section
variable {h:MH}{r:Nat}{b:List Nat}{Q:MV->MH->Prop}{E:Nat->MH->Prop}
end
theorem Do{c:Int}{count:Nat}{h:MH}{Q:MV->MH->Prop}{E:Nat->MH->Prop}(hz:count≤100)(q:∀h',Pre h h'->Q (.ref h'.length) (h'++[.lst ((cM count).map λk=>.str (dX c k))])):wp (p8 [.int c,.int count]) h Q E:=by
 unfold p8;refine cF (by rfl) ?_;have m0:=fU c (show(8:Int)≠0 by decide);have m1:=ii c (show(0:Int)<8 by decide);refine aL (R:=λσ h1=>h=h1/\σ=[some (.int c),some (.int count),some (.str hG),none,none]) (by simp) ?_;rintro _ _ ⟨rfl,rfl⟩;refine aL (R:=λσ h1=>Pre h h1/\σ=[some (.int c),some (.int count),some (.str hG),some (.str (dN c)),none]) ?_ ?_
 ·rw[bH,mO,w_c];dsimp only;have hs:fw (aj cR (af 0) (eC (.int 8))) [some (.int c),some (.int count),some (.str hG),none,none] h=.ok ⟨de 0 (c%8).toNat,[]⟩ h:=by
   refine uH (j:=c%8) ?_ ⟨by lia,by lia⟩ rfl;simp[aj,af,eC,bnd,ret,cR]
  refine tK (λ_=>true) (λx=>match x with
   |[.int k]=>.str ⟨#[97+((c/31+11*k*k+k)%26).toNat]⟩
   | _=>.non) hs (λ_ _=>rfl) (by simp [iw];lia) (λx hx h2 p2=>?_) (λx hx _ h2 p2=>?_) λh2 p2=>?_
  ·simp[eE,aZ,Pre.refl]
  ·obtain⟨k,hk,rfl⟩:=sS hx;have e0:(0:Int)+(k:Int)=k:=by lia
   have b0:=fU (c/31+11*(k:Int)*k+k) (show(26:Int)≠0 by decide);have b1:=ii (c/31+11*(k:Int)*k+k) (show(0:Int)<26 by decide);have g:=vJ b0 b1;have ll:hG.length≤100000:=by rw[zM];decide
   have c1:(-18446744073709551616:Int)<(k:Int)/\(k:Int)<18446744073709551616:=by lia
   simp[e0,g,ll,c1,Pre.refl]
  ·have e:lN (λx=>match x with
    |[MV.int k]=>MV.str ⟨#[97+((c/31+11*k*k+k)%26).toNat]⟩
    | _=>MV.non) (kq (λ_=>true) (de 0 (c % 8).toNat))=((dG c).map λx=>(⟨#[x]⟩:Str)).map .str:=by
    rw[pQ.mpr λ_ _=>rfl];unfold de dG;simp only[cb];refine fZ λk hk=>?_;simp
   rw[e];refine o5 (ss:=(dG c).map λx=>(⟨#[x]⟩:Str)) bp (by decide) ?_ ⟨_,rfl,p2.snoc _,rfl⟩;have l1:((dG c).map λx=>(⟨#[x]⟩:Str)).length≤7:=by simp[dG];lia
   have l2:(((dG c).map λx=>(⟨#[x]⟩:Str)).map (·.length)).sum≤7:=by
    have:((dG c).map λx=>(⟨#[x]⟩:Str)).map (·.length)=bF (dG c).length 1:=by
     rw[cb];apply nY;intro i;by_cases hi:i<(dG c).length
     ·simp[hi,iC];rfl
     ·simp[hi,iC,kM hi]
    rw[this];simp[dG];lia
   lia
 rintro _ h1 ⟨p1,rfl⟩;have sl:=Hc c;have sl2:(dN c).length≤100000:=by lia
 have pl0:=fU (c/8) (show(((c%8).toNat:Int)+1)≠0 by lia);refine aL (R:=λσ h2=>h1=h2/\σ=[some (.int c),some (.int count),some (.str hG),some (.str (dN c)),some (.int (dW c))]) ?_ ?_
 ·simp[sl2,sl,dW];lia
 rintro _ _ ⟨rfl,rfl⟩;rw[cH];have hs:fw (af 1) [some (.int c),some (.int count),some (.str hG),some (.str (dN c)),some (.int (dW c))] h1=.ok ⟨de 0 count,[]⟩ h1:=uH (j:=count) rfl ⟨by lia,by lia⟩ (by simp);refine tK (λ_=>true) (λx=>match x with
  |[.int k]=>.str (dX c k.toNat)
  | _=>.non) hs (λ_ _=>rfl) (by simp [iw];lia) (λx hx h2 p2=>?_) (λx hx _ h2 p2=>?_) λh2 p2=>?_
 ·simp[eE,aZ,Pre.refl]
 ·obtain⟨k,hk,rfl⟩:=sS hx;have e0:(0:Int)+(k:Int)=k:=by lia
  have b0:=fU (c/64+5*(k:Int)) (show(26:Int)≠0 by decide);have b1:=ii (c/64+5*(k:Int)) (show(0:Int)<26 by decide);have g:=vJ b0 b1;have ll:hG.length≤100000:=by rw[zM];decide
  have s1:=pb (dN c) none (some (dW c));have s2:=pb (dN c) (some (dW c)) none;have one:(⟨#[97+((c/64+5*(k:Int))%26).toNat]⟩:Str).length=1:=rfl;have a1:(PySem.Txt.slice (dN c) none (some (dW c))).length+1≤100000:=by lia
  have a2:(PySem.Txt.slice (dN c) none (some (dW c))).length+1+(PySem.Txt.slice (dN c) (some (dW c)) none).length≤100000:=by lia
  simp[e0,g,ll,sl2,one,a1,a2,BA,dX,kf,Pre.refl]
 ·have e:lN (λx=>match x with
   |[MV.int k]=>MV.str (dX c k.toNat)
   | _=>MV.non) (kq (λ_=>true) (de 0 count))=(cM count).map λk=>.str (dX c k):=by
   rw[pQ.mpr λ_ _=>rfl];unfold de;rw[cb];refine fZ λk hk=>?_;simp
  rw[e];exact q h2 (p1.trans p2)
theorem F8{ns:List Int}{sv:MV}{st:Int}{count size:Nat}{h:MH}{Q:MV->MH->Prop}{E:Nat->MH->Prop}(cw:∀{k:Int}{h':MH}{Q:MV->MH->Prop}{E:Nat->MH->Prop},0≤k->Pre h h'->wp (eW [sv,.int k]) h' Q E=Q (.int (cell ns k)) h')(h0:0≤st)(hs:1≤size)(hz:count≤100)(q:∀h',Pre h h'->h.length≤h'.length->Q (.ref h'.length) (h'++[.lst ((dq ns st count size).map Rt.row)])) :
  wp (mi [sv,.int st,.int count,.int size]) h Q E:=by
 unfold mi;refine cF (by rfl) ?_;refine aL (R:=λσ h1=>∃a,Pre h h1/\h1[a]?=some (.lst ((cM count).map λk=>.str (dX (cell ns 1) k)))/\σ=[some sv,some (.int st),some (.int count),some (.int size),some (.ref a),none,none,none,none]) ?_ ?_
 ·simp[cw (show(0:Int)≤1 by decide) Pre.refl];exact Do hz λh1 p1=>⟨p1.snoc _,by simp⟩
 rintro _ h1 ⟨a,p1,ha,rfl⟩;refine aL (R:=λσ h2=>h2=h1++[.lst ((dq ns st 0 size).map Rt.row)]/\σ=[some sv,some (.int st),some (.int count),some (.int size),some (.ref a),some (.ref h1.length),none,none,none]) (by simp[dq]) ?_;rintro _ _ ⟨rfl,rfl⟩;refine aL (R:=λσ h2=>h2=h1++[.lst ((dq ns st count size).map Rt.row)]/\∃x y z,σ=[some sv,some (.int st),some (.int count),some (.int size),some (.ref a),some (.ref h1.length),x,y,z]) ?_ ?_
 ·rw[ku];refine dv (uH (n:=count) (h':=h1++[.lst ((dq ns st 0 size).map Rt.row)]) rfl ⟨by lia,by lia⟩ (by simp)) ?_;refine ja (λk σ h2=>k≤count/\h2=h1++[.lst ((dq ns st k size).map Rt.row)]/\∃x y z,σ=[some sv,some (.int st),some (.int count),some (.int size),some (.ref a),some (.ref h1.length),x,y,z]) (λ_ _ _ _=>rfl) (λk x σ h2 hx ⟨hk,eh,u,v,w,es⟩=>?_) (λσ h2 ⟨hk,eh,r⟩=>?_) ⟨by lia,rfl,_,_,_,rfl⟩
  ·subst eh;subst es;have hk:k<count:=by
    have:=(bT.mp hx).1
    rwa [iw]at this
   rw[pM hk]at hx;cases hx;have e0:(0:Int)+(k:Int)=k:=by lia
   have c0:(0:Int)≤st+3*k:=by lia
   have c1:(0:Int)≤st+3*k+1:=by lia
   have c2:(0:Int)≤st+3*k+2:=by lia
   have ga:∀o,(h1++[o])[a]?=some (.lst ((cM count).map λk=>.str (dX (cell ns 1) k))):=λo=>eI ha;have gn:atN ((cM count).map λk=>MV.str (dX (cell ns 1) k)) (k:Int)=some (.str (dX (cell ns 1) k)):=by
    rw[ig,bX,jO hk];rfl
   have tl:((dq ns st k size).map Rt.row).length<100000:=by rw[bB,uI];lia
   have sz:(0:Int)<size:=by lia
   have m0:=fU (cell ns (st+3*(k:Int))) (show(size:Int)≠0 by lia);have snoc:(dq ns st k size).map Rt.row++[.tup [.str (dX (cell ns 1) k),.int (cell ns (st+3*k)%size),.int (jM (cell ns (st+3*k+1))),.int (mL (cell ns (st+3*k+2)))]]=(dq ns st (k+1) size).map Rt.row:=by
    unfold dq;rw[List.range_succ,gA,gA];simp only[aN,dQ];have:((cell ns (st+3*(k:Int))%(size:Int)).toNat:Int)=cell ns (st+3*(k:Int))%(size:Int):=by lia
    unfold Rt.row t9;simp only[this]
   have bm:(-18446744073709551616:Int)<(k:Int)/\(k:Int)<18446744073709551616:=by lia
   generalize hB:h1++[MO.lst ((dq ns st k size).map Rt.row)]=hk1;have pk:Pre h hk1:=hB▸p1.snoc _;simp only[dI,iF,jr,e0];refine aL (R:=λσ h=>hk1=h/\σ=[some sv,some (.int st),some (.int count),some (.int size),some (.ref a),some (.ref h1.length),some (.int k),some (.int (cell ns (st+3*k+1))),w]) (by simp[cw c1 pk,bm]) ?_;rintro _ _ ⟨rfl,rfl⟩;refine aL (R:=λσ h=>hk1=h/\σ=[some sv,some (.int st),some (.int count),some (.int size),some (.ref a),some (.ref h1.length),some (.int k),some (.int (cell ns (st+3*k+1))),some (.int (cell ns (st+3*k+2)))]) (by simp[cw c2 pk,bm]) ?_;rintro _ _ ⟨rfl,rfl⟩;refine aL (R:=λσ h=>hk1=h/\σ=[some sv,some (.int st),some (.int count),some (.int size),some (.ref a),some (.ref h1.length),some (.int k),some (.int (jM (cell ns (st+3*k+1)))),some (.int (cell ns (st+3*k+2)))]) ?_ ?_
   ·unfold jM;by_cases ca:cell ns (st+3*k+1)%7=6 <;> simp[ca]
   rintro _ _ ⟨rfl,rfl⟩;refine aL (R:=λσ h=>hk1=h/\σ=[some sv,some (.int st),some (.int count),some (.int size),some (.ref a),some (.ref h1.length),some (.int k),some (.int (jM (cell ns (st+3*k+1)))),some (.int (mL (cell ns (st+3*k+2))))]) ?_ ?_
   ·unfold mL;by_cases cd:cell ns (st+3*k+2)%5=4 <;> simp[cd]
   rintro _ _ ⟨rfl,rfl⟩;subst hB;simp[cw c0 (p1.snoc _),ga,gn,tl,sz,bm,snoc,uI];lia
  ·rw[iw]at eh;exact⟨σ,rfl,eh,r⟩
 rintro _ _ ⟨rfl,x,y,z,rfl⟩;simp;exact q h1 p1 p1.len
theorem BJ{ns:List Int}{st:Int}{count size:Nat}{h:MH}{Q:MV->MH->Prop}{E:Nat->MH->Prop}(h0:0≤st)(hs:1≤size)(hz:count≤100)(q:∀h',Pre h h'->h.length≤h'.length->Q (.ref h'.length) (h'++[.lst ((dq ns st count size).map Rt.row)])) :
  wp (mi [.scr ns,.int st,.int count,.int size]) h Q E:=F8 (λhk _=>kL hk) h0 hs hz q
abbrev Rid:=Rt×Nat
noncomputable def rtO(r:Rt):MO:=.ins 2 [("point",.int r.pt),("amount",.int r.am),("date",.int r.dt)]
noncomputable def eG(rs:List Rid):List (Str×MV):=rs.map λx=>(x.1.nm,.ref x.2)
structure cD(h:MH)(bk r d:Nat)(rs:List Rid):Prop where
 ob:h[bk]?=some (.ins 3 [("stream",.ref r),("held",.ref d)])
 dc:h[d]?=some (.dct (eG rs))
 it:∀x∈rs,h[x.2]?=some (rtO x.1)
 nd:(rs.map (·.2)).Nodup
 nm:Names (rs.map (·.1))
noncomputable abbrev bg(rs:List Rid):List Rt:=rs.map (·.1)
theorem uA{rs:List Rid}(n:Names (bg rs)){x:Rid}(hx:x∈rs):dget x.1.nm (eG rs)=some (.ref x.2):=by
 induction rs with
 |nil=>cases hx
 |cons y r ih=>
   have n':(y.1.nm::(bg r).map (·.nm)).Nodup:=n;obtain⟨n1,n2⟩:=mZ.mp n';show(if y.1.nm=x.1.nm then some (MV.ref y.2) else dget x.1.nm (eG r))=_;rcases bE.mp hx with e|e
   ·subst e;rw[if_pos rfl]
   ·have ne:y.1.nm≠x.1.nm:=λz=>n1 (by rw[z];exact cx.mpr ⟨x.1,cx.mpr ⟨x,e,rfl⟩,rfl⟩);rw[if_neg ne];exact ih n2 e
theorem vm{rs:List Rid}{k:Str}(hk:k∉(bg rs).map (·.nm)):dget k (eG rs)=none:=by
 induction rs with
 |nil=>rfl
 |cons y r ih=>
   simp only[bg,aN,bE,not_or]at hk;show(if y.1.nm=k then some (MV.ref y.2) else dget k (eG r))=none;rw[if_neg (λz=>hk.1 z.symm)];exact ih hk.2
theorem tz(rs:List Rid):(eG rs).length=rs.length:=by simp[eG]
theorem Hm{rs:List Rid}{k:Str}{v:MV}(hk:k∉(bg rs).map (·.nm)):dput k v (eG rs)=eG rs++[(k,v)]:=by
 unfold dput;rw[vm hk];simp
theorem cD.off{h h':MH}{bk r d:Nat}{rs:List Rid}{S:List Nat}(B:cD h bk r d rs)(o:Off S h h')(h1:bk∉S)(h2:d∉S)(h3:∀x∈rs,x.2∉S):cD h' bk r d rs:=
 ⟨o.get B.ob h1,o.get B.dc h2,λx hx=>o.get (B.it x hx) (h3 x hx),B.nd,B.nm⟩
theorem cD.pre{h h':MH}{bk r d:Nat}{rs:List Rid}(B:cD h bk r d rs)(p:Pre h h'):cD h' bk r d rs:=B.off (S:=[]) p.off (by simp) (by simp) (by simp)
theorem cU.off{h h':MH}{r:Nat}{b:List Nat}{S:List Nat}(R:cU h r b)(o:Off S h h')(hS:∀n∈S,∀ob,h[n]?=some ob->(∀xs,ob≠.lst xs)/\∀fs,ob≠.ins 1 fs):cU h' r b:=by
 obtain⟨⟨l,h1,h2⟩,w,f⟩:=R;exact⟨⟨l,o.get h1 (λz=>(hS r z _ h1).2 _ rfl),o.get h2 (λz=>(hS l z _ h2).1 _ rfl)⟩,w,f⟩
section
variable {h:MH}{bk r d:Nat}{rs:List Rid}{b:List Nat}{Q:MV->MH->Prop}{E:Nat->MH->Prop}
theorem cD.meth(B:cD h bk r d rs){f:Fn}{mth:String}{a:MA}{σ:MSt}{i:Nat}(hm:(mth == "stream")=false/\(mth == "held")=false)(hs:σ[i]?=some (some (.ref bk))):wp (dJ 3 mth f (af i) a σ) h Q E=wp (a σ) h (λxs h2=>wp (f (.ref bk::xs)) h2 Q E) E:=by
 have h1:=B.ob;have hm1:mth≠"stream":=by simpa using hm.1
 have hm2:mth≠"held":=by simpa using hm.2
 have lk:gC mth [("stream",MV.ref r),("held",MV.ref d)]=none:=by simp only[cO,hm.1,hm.2,List.lookup_nil]
 simp only[Gg,aA,hs,h1,lk,true_and]
theorem E9(B:cD h bk r d rs){x:Rid}(hx:x∈rs):wp (mP [.ref bk,.str x.1.nm]) h Q E=Q (.ref x.2) h:=by
 have g:=uA B.nm hx;have h1:=B.ob;have h2:=B.dc;have key:mP [.ref bk,.str x.1.nm] h=.ok (.ref x.2) h:=by
  simp[mP,tT,fnOf,bnd,aB,sIf,tst,aj,af,cj,ret,look,h1,h2,cO,oIn,g,asB,cu,bI,oIx]
 unfold wp;rw[key]
theorem xW(B:cD h bk r d rs){k:Str}(hk:k∉(bg rs).map (·.nm)):wp (jC [.ref bk,.str k]) h Q E=Q .non h:=by
 have g:=vm hk;have h1:=B.ob;have h2:=B.dc;have key:jC [.ref bk,.str k] h=.ok .non h:=by
  simp[jC,qp,fnOf,bnd,aB,sIf,tst,aj,af,cj,ret,look,h1,h2,cO,oIn,g,asB,cu]
 unfold wp;rw[key]
theorem GD(B:cD h bk r d rs){k:Str}(hk:k∈(bg rs).map (·.nm))(ok:iO k=true):wp (jC [.ref bk,.str k]) h Q E=E 104 h:=by
 obtain⟨y,hy,rfl⟩:=cx.mp hk;obtain⟨x,hx,rfl⟩:=cx.mp hy;have g:=uA B.nm hx;have h1:=B.ob;have h2:=B.dc;have l1:(ah "there is a right ").length≤1000:=by decide
 have key:jC [.ref bk,.str x.1.nm] h=.exc 104 h:=by
  simp[jC,qp,fnOf,bnd,aB,sIf,tst,aj,af,cj,ret,look,h1,h2,cO,oIn,g,asB,d6,ao,aD,ju,fV,g9,l1,ok,rse]
 unfold wp;rw[key]
theorem Bw(B:cD h bk r d rs){x:Rid}(hx:x∈rs):wp (oA [.ref bk,.str x.1.nm]) h Q E=Q x.1.val h:=by
 have key:oA [.ref bk,.str x.1.nm] h=.ok x.1.val h:=by
  have c:=E9 (Q:=λv h'=>v=.ref x.2/\h'=h) (E:=noE) B hx;obtain⟨v,h',e,rfl,rfl⟩:=jg (cast c.symm ⟨rfl,rfl⟩);have h1:=B.ob;have h3:=B.it x hx;unfold rtO at h3;simp[oA,sO,fnOf,bnd,aB,aS,dJ,ao,aD,af,ret,look,h1,h3,cO,e,bI,fh,cj,Rt.val]
 unfold wp;rw[key]
theorem yU{r:Nat}(q:∀h',Pre h h'->cD h' h.length r (h.length+1) []->Q .non h'):wp (rY [.ref h.length,.ref r]) (h++[.ins 3 []]) Q E:=by
 unfold rY;refine cF (by rfl) ?_;simp[uf,putF];refine⟨by lia,?_⟩;refine q (h++[.ins 3 [("stream",.ref r),("held",.ref (h.length+1))],.dct []]) ⟨_,rfl⟩ ⟨?_,?_,?_,?_,?_⟩ <;> simp[eG,Names]
theorem xh(B:cD h bk r d rs)(R:cU h r b){x:Rt}(hk:x.nm∉(bg rs).map (·.nm))(hp:x.pt<b.length+1)(hz:rs.length<900)
  (q:∀h' a,Off [d] h h'->h.length≤a->cD h' bk r d (rs++[(x,a)])->Q (.int (rs.length+1)) h'):wp (jd [.ref bk,.str x.nm,.int x.pt,.int x.am,.int x.dt]) h Q E:=by
 unfold jd;refine cF (by rfl) ?_;have h1:=B.ob;have h2:=B.dc;have ld:=d5 h2;refine aL (R:=λσ h'=>h=h'/\σ=[some (.ref bk),some (.str x.nm),some (.int x.pt),some (.int x.am),some (.int x.dt)]) ?_ ?_
 ·rw[gO,B.meth (by decide) rfl];simp[xW B hk]
 rintro _ _ ⟨rfl,rfl⟩;refine aL (R:=λσ h'=>h=h'/\σ=[some (.ref bk),some (.str x.nm),some (.int x.pt),some (.int x.am),some (.int x.dt)]) ?_ ?_
 ·have c:=λQ=>yt (Q:=Q) (E:=E) (p:=(x.pt:Int)) R (by lia) (by lia);obtain⟨⟨l,g1,g2⟩,w,f⟩:=R;simp[h1,cO,g1,c]
 rintro _ _ ⟨rfl,rfl⟩;refine aL (R:=λσ h'=>(∃a,Off [d] h h'/\h.length≤a/\cD h' bk r d (rs++[(x,a)]))/\σ=[some (.ref bk),some (.str x.nm),some (.int x.pt),some (.int x.am),some (.int x.dt)]) ?_ ?_
 ·have g1:∀t,(h++t)[bk]?=some (.ins 3 [("stream",.ref r),("held",.ref d)]):=λt=>eI h1;have g2:∀t,(h++t)[d]?=some (.dct (eG rs)):=λt=>eI h2;have hl:(eG rs).length<1000:=by rw[tz];lia
  simp[uM];refine cF (by rfl) ?_;simp[sP,putF,g1,g2,cO,hl,Hm hk];refine⟨by lia,?_⟩;refine⟨?_,h.length,bc _,?_⟩
  ·exact Off.trans (Pre.off ⟨_,rfl⟩) Off.set
  ·have nb:d≠bk:=λz=>by rw[z,h1]at h2;cases h2
   refine⟨?_,?_,λy hy=>?_,?_,?_⟩
   ·exact rc (eI h1) nb
   ·rw[iA (by simp;lia)];simp[eG]
   ·rcases c6.mp hy with hy|hy
    ·have h3:=B.it y hy;refine rc (eI h3) λz=>?_;rw[z,h3]at h2;cases h2
    ·rw[dC.mp hy];rw[je (by lia)];simp[rtO]
   ·rw[gA,kI];refine⟨B.nd,by simp,λa ha c hc=>?_⟩;simp at hc;subst hc;obtain⟨y,hy,rfl⟩:=cx.mp ha;have:=d5 (B.it y hy);lia
   ·unfold Names;rw[gA,gA,kI];refine⟨B.nm,by simp,λa ha c hc=>?_⟩;simp at hc;subst hc;intro z;subst z;exact hk ha
 rintro _ h' ⟨⟨a,o,ha,B'⟩,rfl⟩;have h1':=B'.ob;have h2':=B'.dc;have hl:(eG (rs++[(x,a)])).length=rs.length+1:=by rw[tz];simp
 simp[h1',h2',cO,hl];exact q h' a o ha B'
theorem Cc(B:cD h bk r d rs){k:Str}{p am dt:MV}(hk:k∈(bg rs).map (·.nm))(ok:iO k=true):wp (jd [.ref bk,.str k,p,am,dt]) h Q E↔E 104 h:=by
 unfold jd fnOf qd;rw[if_pos (show[MV.ref bk,MV.str k,p,am,dt].length=5 from rfl),aG,gX,gO,B.meth (by decide) rfl];simp[GD B hk ok]
theorem FT(B:cD h bk r d rs)(R:cU h r b){k:Str}{p:Int}{am dt:MV}(hk:k∉(bg rs).map (·.nm))(hp:p<0∨(b.length:Int)+1≤p):wp (jd [.ref bk,.str k,.int p,am,dt]) h Q E↔E 103 h:=by
 unfold jd fnOf qd;rw[if_pos (show[MV.ref bk,MV.str k,.int p,am,dt].length=5 from rfl),aG,gX,gO,B.meth (by decide) rfl];have h1:=B.ob;have c:=λQ=>Cg (Q:=Q) (E:=E) (p:=p) R hp;obtain⟨⟨l,g1,g2⟩,w,f⟩:=R;simp[xW B hk,h1,cO,g1,c]
theorem wn{cs:List Nat}(hcs:cs.contains 2=true)(B:cD h bk r d rs):∀(l:List Rid),(∀x∈l,x∈rs)->d7 (fh (ao (cj (aj oIx (cj (af 1) [3] "held") (af 0)) cs "date") (ao (af 0) aD))) [some (.ref bk)] ((eG l).map (·.1)) h=.ok (l.map λx=>.tup [.int x.1.dt,.str x.1.nm]) h
 |[],_=>rfl
 |x::l,hl=>by
   have hx:=hl x dn;have ih:=wn hcs B l λy hy=>hl y (cS _ hy);have g:=uA B.nm hx;have h1:=B.ob;have h2:=B.dc;have h3:=B.it x hx;unfold rtO at h3;show d7 _ _ (x.1.nm::(eG l).map (·.1)) h=_;unfold d7;have e:fh (ao (cj (aj oIx (cj (af 1) [3] "held") (af 0)) cs "date") (ao (af 0) aD)) [some (.str x.1.nm),some (.ref bk)] h=.ok (.tup [.int x.1.dt,.str x.1.nm]) h:=by
    simp[fh,ao,aD,cj,aj,af,bnd,ret,look,h1,h2,h3,cO,oIx,g,-List.contains_eq_mem,hcs]
   rw[e];simp only[if_true];simp[bnd,ih,ret]
theorem D6(B:cD h bk r d rs)(hz:rs.length<64)(q:Q (.ref h.length) (h++[.lst ((aged (bg rs)).map λx=>.str x.nm)])):wp (nu [.ref bk]) h Q E:=by
 unfold nu;refine cF (by rfl) ?_;unfold sJ;rw[cH];have h1:=B.ob;have h2:=B.dc;have hz':(bg rs).length<64:=by simpa[bg] using hz
 have ks:=λ{cs:List Nat} (hcs:cs.contains 2=true)=>wn hcs B rs λ_ hx=>hx;obtain⟨six,_,_⟩:=nh B.nm hz';have er:eB fP (rs.map λx=>MV.tup [.int x.1.dt,.str x.1.nm])=some ((bg rs).map Rt.key):=by
  have go:∀l:List Rid,eB fP (l.map λx=>MV.tup [.int x.1.dt,.str x.1.nm])=some ((bg l).map Rt.key):=by
   intro l
   induction l with
   |nil=>rfl
   |cons x l ih=>simp only[aN,eB,fP,jL,me,ih,bg];rfl
  exact go rs
 have ea:((bg rs).map Rt.key).all gT=true:=by simp[Rt.key,gT]
 have ep:pick ((eG rs).map λkv=>MV.str kv.1) (hZ (bg rs))=(aged (bg rs)).map λx=>.str x.nm:=by
  rw[←wq B.nm hz' (λx=>.str x.nm)];congr 1;simp[eG,bg]
 have key:∀{cs:List Nat},cs.contains 2=true->oS (cj (af 0) [3] "held") 0 (fh (ao (cj (aj oIx (cj (af 1) [3] "held") (af 0)) cs "date") (ao (af 0) aD))) [some (.ref bk)] h=.ok (.ref h.length) (h++[.lst ((aged (bg rs)).map λx=>.str x.nm)]):=λ{cs} hcs=>by
  have o1:cj (af 0) [3] "held" [some (.ref bk)] h=.ok (.ref d) h:=by simp[cj,af,bnd,ret,look,h1,cO]
  have o2:look d h=.ok (.dct (eG rs)) h:=by simp[look,h2]
  unfold oS;simp only[bnd,o1,o2];rw[if_pos (by rw[tz];exact hz)];have e0:(([some (MV.ref bk)]:MSt)[0]?).getD none=some (.ref bk):=rfl;rw[e0];simp only[bnd,ks hcs,er,six];rw[if_pos ea,ep];rfl
 exact dv (key rfl) q
end
theorem xO{h:MH}{a:Nat}{rts:List Rt}{Q:MV->MH->Prop}{E:Nat->MH->Prop}(ha:h[a]?=some (.lst (rts.map Rt.row)))(n:Names rts)(hz:rts.length<64)(q:∀h',Pre h h'->Q (.ref h'.length) (h'++[.lst ((aged rts).map Rt.row)])):wp (j4 [.ref a]) h Q E:=by
 unfold j4;refine cF (by rfl) ?_;unfold tS;rw[cH];have i0:∀u v w z:MV,atN [u,v,w,z] 0=some u:=λ_ _ _ _=>rfl;have i3:∀u v w z:MV,atN [u,v,w,z] 3=some z:=λ_ _ _ _=>rfl;obtain⟨six,_,_⟩:=nh n hz;have w1:wp (eUn oE (cZ (du (af 0)) none (fh (ao (fh (ao (aj oIx (af 1) (eC (.int 3))) (ao (aj oIx (af 1) (eC (.int 0))) aD))) (ao (af 1) aD)))) [some (.ref a)]) h (λv h1=>Pre h h1/\∃c,v=.ref c/\h1[c]?=some (.lst ((aged rts).map λx=>.tup [.tup [.int x.dt,.str x.nm],x.row]))) noE:=by
  rw[bN];refine gR rts (λx=>[x.row]) (λ_=>true) (λx=>.tup [.tup [.int x.dt,.str x.nm],x.row]) (gj (n:=a) (h':=h) rfl ha) (by simp) (λh' p=>gu (p.get ha)) (by lia) (λx hx h2 p2=>?_) (λx hx _ h2 p2=>?_) λh2 p2=>?_
  ·simp[eE,aZ,Pre.refl]
  ·simp[Rt.row,i0,i3,Pre.refl]
  ·rw[ik];have e0:eB fP (rts.map λx=>MV.tup [.tup [.int x.dt,.str x.nm],x.row])=if rts.length=0 then some [] else none:=by
    cases rts with
    |nil=>rfl
    |cons x l=>simp[eB,fP,jL,me]
   have e1:eB lV (rts.map λx=>MV.tup [.tup [.int x.dt,.str x.nm],x.row])=some (rts.map Rt.key):=by
    have go:∀l:List Rt,eB lV (l.map λx=>MV.tup [.tup [.int x.dt,.str x.nm],x.row])=some (l.map Rt.key):=by
     intro l
     induction l with
     |nil=>rfl
     |cons x l ih=>simp only[aN,eB,lV,fP,jL,me,ih];rfl
    exact go rts
   have pk:=wq n hz λx=>MV.tup [.tup [.int x.dt,.str x.nm],x.row];have key:oE (.ref h2.length) (h2++[.lst (rts.map λx=>.tup [.tup [.int x.dt,.str x.nm],x.row])])=.ok (.ref (h2++[MO.lst (rts.map λx=>.tup [.tup [.int x.dt,.str x.nm],x.row])]).length) (h2++[.lst (rts.map λx=>.tup [.tup [.int x.dt,.str x.nm],x.row])]++[.lst ((aged rts).map λx=>.tup [.tup [.int x.dt,.str x.nm],x.row])]):=by
    unfold oE;simp only[bnd,look,bp];by_cases c:rts.length=0
    ·have:rts=[]:=ud.mp c;subst this;rw[e0,if_pos c];rfl
    ·rw[e0,if_neg c,e1];simp only[six,pk];rfl
   exact dv key ⟨(p2.snoc _).snoc _,_,rfl,bp⟩
 obtain⟨v,h1,e1,p1,c,rfl,hc⟩:=jg w1;refine gR (aged rts) (λx=>[.tup [.tup [.int x.dt,.str x.nm],x.row]]) (λ_=>true) Rt.row (gj e1 hc) (by simp) (λh' p=>gu (p.get hc)) (by rw[pP n hz];lia) (λx hx h2 p2=>?_) (λx hx _ h2 p2=>?_) λh2 p2=>?_
 ·simp[eE,aZ,Pre.refl]
 ·have a1:∀u v:MV,atN [u,v] 1=some v:=λ_ _=>rfl;simp[a1,Pre.refl]
 ·rw[ik];exact q h2 (p1.trans p2)
section
variable {h:MH}{bk r d:Nat}{rs:List Rid}{b:List Nat}{Q:MV->MH->Prop}{E:Nat->MH->Prop}
end
section
variable {h:MH}{bk r d:Nat}{rs:List Rid}{b:List Nat}{Q:MV->MH->Prop}{E:Nat->MH->Prop}
end
section
variable {h:MH}{bk r d:Nat}{rs:List Rid}{b:List Nat}{Q:MV->MH->Prop}{E:Nat->MH->Prop}
end
section
variable {h:MH}{r:Nat}{b:List Nat}{Q:MV->MH->Prop}{E:Nat->MH->Prop}
end
section
variable {h:MH}{bk r d:Nat}{rs:List Rid}{b:List Nat}{Q:MV->MH->Prop}{E:Nat->MH->Prop}
end
theorem GJ{ns:List Int}{st:Int}{count size:Nat}{r:Rt}(h:r∈dq ns st count size):0≤r.am/\r.am≤1000000:=by
 obtain⟨k,_,rfl⟩:=cx.mp h;exact DY _
theorem Fq{h:MH}{bk r d:Nat}{rs:List Rid}{Q:MV->MH->Prop}{E:Nat->MH->Prop}(B:cD h bk r d rs){x:Rid}(hx:x∈rs)(s:x.1.small)(q:Q (.str (bf x.1)) h):wp (o6 [.ref bk,.str x.1.nm]) h Q E:=by
 unfold o6;refine cF (by rfl) ?_;change wp (qq [some (.ref bk),some (.str x.1.nm),none,none,none,none]) _ _ _;unfold qq;obtain⟨s1,s2,s3,s4⟩:=s;have k0:∀u v w:MV,atN [u,v,w] 0=some u:=λ_ _ _=>rfl;have k1:∀u v w:MV,atN [u,v,w] 1=some v:=λ_ _ _=>rfl;have k2:∀u v w:MV,atN [u,v,w] 2=some w:=λ_ _ _=>rfl;rw[gX,bH,B.meth (by decide) rfl];simp only[bo,bi,aA,aC,aE,iz,fJ,bF,aN,dQ];rw[Bw B hx];have l1:((x.1.pt:Int)).natAbs.log2<100:=jH (by lia) (by lia) (by decide);have l2:=jH (k:=100) s3.1 s3.2 (by decide);have l3:=jH (k:=100) s4.1 s4.2 (by decide);have n1:x.1.nm.length≤10000:=by lia
 have a1:(ah " at ").length≤1000:=by decide
 have a2:(ah " wants ").length≤1000:=by decide
 have a3:(ah " since ").length≤1000:=by decide
 simp only[Rt.val,gX,bH,aQ,aA,w_c,uY,k0,k1,k2,cH,z9,Fi,DD,Go,Bs,aC,aE,jr,iF,l1,l2,l3,n1,a1,a2,a3,true_and,iS];exact⟨by decide,q⟩
theorem E4(b:List Nat):(cM (b.length+1)).map (km b)=rows b:=by
 apply nY;intro i;rw[bX];by_cases h:i<b.length+1
 ·rw[jO h];have:i<(rows b).length:=by rw[iH];exact h
  simp[km,List.getD_eq_getElem?_getD,this]
 ·rw[sZ (by rw[List.length_range];lia),sZ (by rw[iH];lia)];rfl
theorem Ay{h:MH}{r:Nat}{b:List Nat}{Q:MV->MH->Prop}{E:Nat->MH->Prop}(R:cU h r b)(q:∀h',Pre h h'->Q (.str (bZ b)) h'):wp (qV [.ref r]) h Q E:=by
 unfold qV;refine cF (by rfl) ?_;have few:=R.few;have sm:∀x∈b,x<10 ^ 7:=λx hx=>by
  obtain⟨k,hk,e⟩:=ly hx;have:=R.wf k x (by rw[←e];simp)
  lia
 change wp (pf [some (.ref r),none]) _ _ _;unfold pf;refine aL (R:=λσ h'=>∃a,Pre h h'/\h'[a]?=some (.lst (rows b))/\σ=[some (.ref r),some (.ref a)]) ?_ ?_
 ·rw[bH];have hs:fw (dJ 1 "points" jS (af 0) aD) [some (.ref r),none] h=.ok ⟨de 0 (b.length+1),[]⟩ h:=by
   have w:wp (fw (dJ 1 "points" jS (af 0) aD) [some (.ref r),none]) h (λs h1=>s=⟨de 0 (b.length+1),[]⟩/\h1=h) noE:=by
    rw[BH,R.meth (by decide) rfl];simp[Ft R];lia
   obtain⟨s,h1,e,rfl,rfl⟩:=jg w;exact e
  refine gR (cM (b.length+1)) (λ(k:Nat)=>[.int (0+(k:Int))]) (λ_=>true) (km b) hs rfl (λ_ _=>rfl) (by simp;lia) (λp hp h2 p2=>?_) (λp hp _ h2 p2=>?_) λh2 p2=>?_
  ·simp[eE,aZ,Pre.refl]
  ·have R2:=R.pre p2;have e0:(0:Int)+(p:Int)=p:=by lia
   simp only[aN,dQ,iz,fJ,e0];rw[R2.meth (by decide) rfl];simp only[bo,bi,aA,aC,aE];rw[Gm R2 (iW.mp hp)];exact⟨rfl,.refl⟩
  ·rw[ik,E4];exact⟨_,rfl,h2.length,p2.snoc _,bp,rfl⟩
 rintro _ h1 ⟨a,p1,g1,rfl⟩;rw[cH,mO];simp only[w_c,aQ,jl,bo,bi];have p2:Pre h1 (h1++[.lst [.str (ah "river")]]):=Pre.app _;have g2:(h1++[MO.lst [.str (ah "river")]])[h1.length]?=some (.lst [.str (ah "river")]):=bp;generalize h1++[MO.lst [.str (ah "river")]]=h2 at p2 g2;have e1:(af 1) [some (.ref r),some (.ref a)] h2=.ok (.ref a) h2:=df (by simp);have ga:=p2.get g1;refine⟨by decide,?_⟩;refine gR (h1:=h2) (none::b.map some) (λ(x:Option Nat)=>[match x with|none=>MV.non|some p=>.int (p:Int)]) (λ_=>true) (λx=>match x with|none=>.str (ah "-")|some p=>.str (txt p)) (gj e1 ga) (by simp[rows,nats]) (λh' p'=>gu (p'.get ga)) (by simp;lia) (λx hx h3 p3=>?_) (λx hx _ h3 p3=>?_) λh3 p3=>?_
 ·simp[eE,aZ,Pre.refl]
 ·cases x with
  |none=>simp[Pre.refl]
  |some p=>
    have hp:p∈b:=by simpa using hx
    have:=sm p hp;have:=jH (i:=(p:Int)) (k:=1000) (by lia) (by lia) (by decide);simp only[Int.natAbs_natCast]at this;simp[Pre.refl,this,txt]
 ·rw[ik];have ev:((none::b.map some).map λ(x:Option Nat)=>(match x with|none=>MV.str (ah "-")|some p=>.str (txt p)))=(ah "-"::b.map λ(p:Nat)=>txt p).map .str:=by simp
  rw[ev,tW,bp,eI (p3.get g2)];refine⟨by simp;lia,?_⟩;have el:[MV.str (ah "river")]++(ah "-"::b.map λ(p:Nat)=>txt p).map .str=(ah "river"::ah "-"::b.map λ(p:Nat)=>txt p).map .str:=rfl;rw[el];refine o5 bp (by decide) ?_ (q _ ?_)
  ·have:=rm (f:=λ(p:Nat)=>txt p) (n:=7) (l:=b) λx hx=>fL (by lia) (by have:=sm x hx;lia);simp only[aN,gq,cr,bB];have e1:(ah "river").length=5:=rfl;have e2:(ah "-").length=1:=rfl;simp only[cb]at this ⊢;lia
  ·exact(((p1.trans p2).trans p3).snoc _).snoc _
theorem uR{h:MH}{bk r d:Nat}{rs:List Rid}{b:List Nat}{Q:MV->MH->Prop}{E:Nat->MH->Prop}(B:cD h bk r d rs)(R:cU h r b)(hz:rs.length<64)(hs:∀x∈bg rs,x.small)(q:∀h',Pre h h'->Q (.str (cI b (aged (bg rs)))) h'):wp (nT [.ref bk]) h Q E:=by
 unfold nT;refine cF (by rfl) ?_;have hz':(bg rs).length<64:=by simpa[bg] using hz
 have mem:∀x∈aged (bg rs),∃y∈rs,y.1=x:=λx hx=>by
  have:=(i5 B.nm hz').mem_iff.mp hx;obtain⟨y,hy,e⟩:=cx.mp this;exact⟨y,hy,e⟩
 have al:(aged (bg rs)).length=rs.length:=by rw[pP B.nm hz',bB]
 have few:=R.few;have sm:∀x∈b,x<10 ^ 7:=λx hx=>by
  obtain⟨k,hk,e⟩:=ly hx;have:=R.wf k x (by rw[←e];simp)
  lia
 have smA:∀x∈aged (bg rs),x.small:=λx hx=>hs x ((i5 B.nm hz').mem_iff.mp hx);change wp (q9 [some (.ref bk),none]) _ _ _;unfold q9;refine aL (R:=λσ h'=>∃a,Pre h h'/\h'[a]?=some (.lst (((aged (bg rs)).map bf).map .str))/\σ=[some (.ref bk),some (.ref a)]) ?_ ?_
 ·rw[bH];have hs:du (dJ 3 "names" nu (af 0) aD) [some (.ref bk),none] h=.ok ⟨((aged (bg rs)).map λx=>MV.str x.nm).map λv=>[v],[(h.length,(aged (bg rs)).map λx=>MV.str x.nm)]⟩ (h++[.lst ((aged (bg rs)).map λx=>.str x.nm)]):=by
   refine gj (df ?_) bp;rw[B.meth (by decide) rfl,bi];exact D6 B hz ⟨rfl,rfl⟩
  have p1:Pre h (h++[.lst ((aged (bg rs)).map λx=>.str x.nm)]):=Pre.app _;refine gR (aged (bg rs)) (λx=>[.str x.nm]) (λ_=>true) (λx=>.str (bf x)) hs (by simp) (λh' p=>gu (p.get bp)) (by lia) (λx hx h2 p2=>?_) (λx hx _ h2 p2=>?_) λh2 p2=>?_
  ·simp[eE,aZ,Pre.refl]
  ·have sx:=smA x hx;obtain⟨y,hy,rfl⟩:=mem x hx;simp only[aN,dQ,iz,fJ,cy,bo,bi,aA,aC,aE];exact Fq (B.pre (p1.trans p2)) hy sx ⟨rfl,.refl⟩
  ·rw[ik];exact⟨_,rfl,h2.length,(p1.trans p2).snoc _,by rw[bp,cb];rfl,rfl⟩
 rintro _ h1 ⟨a,p1,g1,rfl⟩;rw[cH,mO];simp only[w_c,aQ,jl,bo,bi,cy];have B1:=B.pre p1;rw[B1.meth (by decide) rfl,bi];have rv:∀Q':MV->MH->Prop,wp (rF [.ref bk]) h1 Q' E=Q' (.ref r) h1:=λQ'=>by
  unfold rF fnOf sK;have ob:=B1.ob;simp[aG,aZ,ob,cO]
 rw[rv];refine Ay (R.pre p1) λh2 p2=>⟨by simp,?_⟩
 simp only[aA,aC,aE];rw[tW,bp,eI (p2.get g1)];refine⟨by simp;lia,?_⟩;have el:[MV.str (bZ b)]++((aged (bg rs)).map bf).map .str=(bZ b::(aged (bg rs)).map bf).map .str:=rfl;rw[el];refine o5 bp (by decide) ?_ (q _ (((p1.trans p2).snoc _).snoc _));have s1:=rm (f:=bf) (n:=1039) (l:=aged (bg rs)) λx hx=>pd (smA x hx);have s2:=nS few sm;simp only[aN,gq,cr,bB];lia
theorem Et{h:MH}{a l:Nat}{b:List Nat}{rts:List Rt}{Q:MV->MH->Prop}{E:Nat->MH->Prop}(ha:h[a]?=some (.lst (rows b)))(w:Wf b)(few:b.length<40)(hl:h[l]?=some (.lst (rts.map Rt.row)))(nm:Names rts)(hz:rts.length<64)(hs:∀x∈rts,x.small)(q:∀h',Pre h h'->Q (.str (cI b (aged rts))) h'):wp (qD [.ref a,.ref l]) h Q E:=by
 unfold qD;refine cF (by rfl) ?_;have al:=pP nm hz;have smA:∀x∈aged rts,x.small:=λx hx=>hs x ((i5 nm hz).mem_iff.mp hx);have sm:∀x∈b,x<10 ^ 7:=λx hx=>by
  obtain⟨k,hk,e⟩:=ly hx;have:=w k x (by rw[←e];simp)
  lia
 change wp (pH [some (.ref a),some (.ref l),none,none,none]) _ _ _;unfold pH;refine aL (R:=λσ h'=>h=h'/\σ=[some (.ref a),some (.ref l),some (.str (ah "river -")),none,none]) (by simp) ?_;rintro _ _ ⟨rfl,rfl⟩;have tl:(rows b).drop 1=nats b:=rfl;refine aL (R:=λσ h'=>Pre h h'/\∃u,σ=[some (.ref a),some (.ref l),some (.str (bZ b)),u,none]) ?_ ?_
 ·rw[ku];have hsrc:du (eSl (af 0) (some (eC (.int 1))) none) [some (.ref a),some (.ref l),some (.str (ah "river -")),none,none] h=.ok ⟨(nats b).map λv=>[v],[(h.length,nats b)]⟩ (h++[.lst (nats b)]):=by
   refine gj (df ?_) bp;rw[jv,aA];simp only[aC,aE,jc,jD,w_c,kD,ha];rw[AZ _ (by rw[iH];lia),tl];exact⟨by trivial,by trivial⟩
  refine dv hsrc ?_;have p0:Pre h (h++[.lst (nats b)]):=Pre.app _;have g0:(h++[MO.lst (nats b)])[h.length]?=some (.lst (nats b)):=bp;generalize hm:h.length=m at g0;generalize h++[MO.lst (nats b)]=h0 at p0 g0;refine ja (λk σ h'=>h0=h'/\∃t u,t.cps.toList=(ah "river -").cps.toList++((b.take k).map λ(p:Nat)=>(ah " ").cps.toList++(txt p).cps.toList).flatten/\σ=[some (.ref a),some (.ref l),some (.str t),u,none]) (λk σ h' ⟨e,_⟩=>gu (e▸g0)) (λk vv σ h' hv ⟨e,t,u,et,es⟩=>?_) (λσ h' ⟨e,t,u,et,es⟩=>⟨σ,rfl,e▸p0,u,?_⟩) ⟨rfl,ah "river -",none,by simp,rfl⟩
  ·subst e es;rw[bX]at hv;unfold nats at hv;rw[bX]at hv;cases ek:b[k]? with
   |none=>rw[ek]at hv;cases hv
   |some p=>
     rw[ek]at hv;cases hv;have hp:=sm p (dR ek);have kb:=(bT.mp ek).1;have lg:=jH (i:=(p:Int)) (k:=1000) (by lia) (by lia) (by decide)
     have tp:=fL (i:=(p:Int)) (by lia) (by lia);have tk:b.take (k+1)=b.take k++[p]:=by rw[sW,ek];rfl
     have lt:t.length≤7+8*k:=by
      rw[cW,et,cQ];have:=oQ (f:=λ(p:Nat)=>(ah " ").cps.toList++(txt p).cps.toList) (n:=8) (l:=b.take k) λx hx=>by
       have:=fL (i:=(x:Int)) (by lia) (by have:=sm x (tX hx);lia);rw[cW]at this;have e:(ah " ").cps.toList.length=1:=rfl;simp only[cQ,e];lia
      have e1:(ah "river -").cps.toList.length=7:=rfl;have e2:(b.take k).length≤k:=by simp;lia
      have e3:8*(b.take k).length≤8*k:=oI _ e2;lia
     have e1:(ah " ").length=1:=rfl;simp only[dI,iF,jr,bH,aQ,aA,w_c,bN,aC,aE,oM,rz,lg,true_and];refine⟨by lia,by rw[mQ];unfold txt at tp;lia,?_⟩;refine⟨t++ah " "++txt p,_,?_,rfl⟩;rw[dU,dU,et,tk];simp
  ·subst es;have kb:b.take ((nats b).map λv=>[v]).length=b:=mJ (by simp[nats]);rw [kb] at et;have:t=bZ b:=g7 (by
    unfold bZ;rw [et,jN,aN,f8,cb];rfl)
   rw[this]
 rintro _ h1 ⟨p1,u1,rfl⟩;have r0:∀u v w z:MV,atN [u,v,w,z] 0=some u:=λ_ _ _ _=>rfl;have r1:∀u v w z:MV,atN [u,v,w,z] 1=some v:=λ_ _ _ _=>rfl;have r2:∀u v w z:MV,atN [u,v,w,z] 2=some w:=λ_ _ _ _=>rfl;have r3:∀u v w z:MV,atN [u,v,w,z] 3=some z:=λ_ _ _ _=>rfl;refine aL (R:=λσ h'=>Pre h h'/\∃u v,σ=[some (.ref a),some (.ref l),some (.str (cI b (aged rts))),u,v]) ?_ ?_
 ·rw[ku];obtain⟨n2,h2,hsrc,p2,g2⟩:∃(n2:Nat) (h2:MH),du (bO j4 (ao (af 1) aD)) [some (.ref a),some (.ref l),some (.str (bZ b)),u1,none] h1=.ok ⟨((aged rts).map Rt.row).map λv=>[v],[(n2,(aged rts).map Rt.row)]⟩ h2/\Pre h1 h2/\h2[n2]?=some (MO.lst ((aged rts).map Rt.row)):=by
   have ww:wp (bO j4 (ao (af 1) aD) [some (.ref a),some (.ref l),some (.str (bZ b)),u1,none]) h1 (λv h2=>∃n2,v=.ref n2/\Pre h1 h2/\h2[n2]?=some (.lst ((aged rts).map Rt.row))) noE:=by
    rw[cy];simp only[bo,bi,aA,aC,aE];exact xO (p1.get hl) nm hz λh' p'=>⟨_,rfl,p'.snoc _,bp⟩
   obtain⟨v,h2,e,n2,rfl,p2,g2⟩:=jg ww;exact⟨n2,h2,gj e g2,p2,g2⟩
  refine dv hsrc ?_;refine ja (λk σ h'=>h2=h'/\∃t u v,t.cps.toList=(bZ b).cps.toList++(((aged rts).take k).map λx=>(ah "\n").cps.toList++(bf x).cps.toList).flatten/\σ=[some (.ref a),some (.ref l),some (.str t),u,v]) (λk σ h' ⟨e,_⟩=>gu (e▸g2)) (λk vv σ h' hv ⟨e,t,u,v,et,es⟩=>?_) (λσ h' ⟨e,t,u,v,et,es⟩=>⟨σ,rfl,e▸p1.trans p2,u,v,?_⟩) ⟨rfl,bZ b,u1,none,by simp,rfl⟩
  ·subst e es;rw[bX,bX]at hv;cases ek:(aged rts)[k]? with
   |none=>rw[ek]at hv;cases hv
   |some x=>
     rw[ek]at hv;cases hv;have sx:=smA x (dR ek);have ka:=(bT.mp ek).1;have tk:(aged rts).take (k+1)=(aged rts).take k++[x]:=by rw[sW,ek];rfl
     have lt:t.length≤500+1040*k:=by
      rw[cW,et,cQ];have rl:=nS few sm;rw[cW]at rl;have:=oQ (f:=λx=>(ah "\n").cps.toList++(bf x).cps.toList) (n:=1040) (l:=(aged rts).take k) λx hx=>by
       have:=pd (smA x (tX hx));rw[cW]at this;have e:(ah "\n").cps.toList.length=1:=rfl;simp only[cQ,e];lia
      have e2:((aged rts).take k).length≤k:=by simp;lia
      have e3:1040*((aged rts).take k).length≤1040*k:=oI _ e2;lia
     obtain⟨s1,s2,s3,s4⟩:=sx;have l1:((x.pt:Int)).natAbs.log2<1000:=jH (by lia) (by lia) (by decide);have l2:=jH (k:=1000) s3.1 s3.2 (by decide);have l3:=jH (k:=1000) s4.1 s4.2 (by decide);have t1:(ah (toString (x.pt:Int))).length≤7:=fL (i:=(x.pt:Int)) (by lia) (by lia);have t2:(ah (toString x.am)).length≤7:=fL s3.1 s3.2;have t3:(ah (toString x.dt)).length≤7:=fL s4.1 s4.2;have a0:(ah "\n").length=1:=rfl;have a1:(ah " at ").length=4:=rfl;have a2:(ah " wants ").length=7:=rfl;have a3:(ah " since ").length=7:=rfl;simp only[dI,iF,jr,gX,Rt.row,bH,aQ,aA,w_c,bN,aC,aE,oM,rz,uY,r0,r1,r2,r3,l1,l2,l3,true_and,mQ];refine⟨by lia,by lia,by lia,by lia,by lia,by lia,by lia,by lia,?_⟩;refine⟨t++ah "\n"++x.nm++ah " at "++txt x.pt++ah " wants "++txt x.am++ah " since "++txt x.dt,_,_,?_,rfl⟩;rw[tk];have z:PySem.Str.empty.cps.toList=[]:=rfl;simp[bf,dU,et,z]
  ·subst es;rw[mJ (by simp)]at et;have:t=cI b (aged rts):=g7 (by
    unfold cI;rw [et,jN,cb];rfl)
   rw[this]
 rintro _ h2 ⟨p2,u,v,rfl⟩;simp only[cH,aA,aC,aE];exact q h2 p2
theorem BP(c:Int)(k:Nat):(dX c k).cps.toList=(dG c).take (dW c).toNat++[kf c k]++(dG c).drop (dW c).toNat:=by
 have sl:=rh c;have ll:(dG c).length=(c%8).toNat:=by simp[dG]
 have hp:0≤dW c/\dW c≤((c%8).toNat:Int):=by
  unfold dW;have a:=fU (c/8) (show(((c%8).toNat:Int)+1)≠0 by lia);have b:=ii (c/8) (show(0:Int)<((c%8).toNat:Int)+1 by lia)
  lia
 have e1:PySem.Txt.slice (dN c) none (some (dW c))=⟨(((dN c).cps.toList.drop 0).take (dW c-0).toNat).toArray⟩:=PySem.StrLaws.sliceText_to ⟨hp.1,by rw[sl,ll];exact hp.2⟩;have e2:PySem.Txt.slice (dN c) (some (dW c)) none=⟨(((dN c).cps.toList.drop (dW c).toNat).take (((dN c).cps.toList.length:Int)-dW c).toNat).toArray⟩:=PySem.StrLaws.sliceText_from ⟨hp.1,by rw[sl,ll];exact hp.2⟩;unfold dX;rw[dU,dU,e1,e2,sl];simp;rw[mJ (by rw[lG];lia)]
section
variable {h:MH}{r:Nat}{b:List Nat}{Q:MV->MH->Prop}{E:Nat->MH->Prop}
end
theorem nv{α:Type}(xs:List α):fk xs (some 1) none=xs.drop 1:=by
 cases xs with
 |nil=>rfl
 |cons x xs=>
   have:d4 (x::xs).length 0 (some 1)=1:=by simp[d4]
   unfold fk;rw[this];simp[d4]
section
variable {h:MH}{Q:MV->MH->Prop}{E:Nat->MH->Prop}
theorem wC{σ:MSt}{v n:Nat}{s T:Str}(sv:σ[v]?=some (some (.str s)))(sl:σ.length=n)(ha:s.cps.all (·<128)=true)(hT:∀c∈s.cps.toList,(PySem.Builtin.Str.occurrences T ⟨#[c]⟩ 0 T.length 1).isEmpty=false)(few:s.length≤100)(q:∀h',Pre h h'->Q (.bl true) h') :
  wp (eUn kB (cZ (i6 (af v)) none (aj kY (af n) (eC (.str T)))) σ) h Q E:=by
 rw[bN];have e1:(af v) σ h=.ok (.str s) h:=df (by simp[sv]);rw[cW]at few;refine gR (h1:=h) s.cps.toList (λc=>[.str ⟨#[c]⟩]) (λ_=>true) (λ_=>.bl true) (rq e1 ha) (by simp) (λh' p'=>rfl) (by lia) (λx _ h2 p2=>?_) (λx hx _ h2 p2=>?_) λh2 p2=>?_
 ·simp[eE,aZ,Pre.refl]
 ·have en:(σ++[some (.str ⟨#[x]⟩)])[n]?=some (some (.str ⟨#[x]⟩)):=by rw[ic (by lia),sl];simp
  simp only[aN,dQ,aQ,aA,en,w_c,y8,hT x hx,fQ];exact⟨trivial,.refl⟩
 ·rw[ik];have eb:(s.cps.toList.map λ_=>MV.bl true)=(s.cps.toList.map λ_=>true).map MV.bl:=by simp
  rw[eb];refine zJ bp ?_;have:(s.cps.toList.map λ_=>true).all id=true:=by simp
  rw[this];exact q _ (p2.snoc _)
theorem uT{s:Str}(hs:∀c∈s.cps.toList,c<128):s.cps.all (·<128)=true:=by
 rw[Array.all_eq_true'];intro x hx;simpa using hs x (by simpa using hx)
theorem sB{i most:Int}(h0:0≤i)(h1:i≤most)(hm:most=40∨most=1000000∨most=9999)(q:∀h',Pre h h'->Q (.int i) h'):wp (iU [.str (txt i),.int most]) h Q E:=by
 have dg:=iJ h0;have lp:=xD h0;have l7:(txt i).length≤(ah (toString most)).length:=by
  rcases hm with rfl|rfl|rfl
  ·exact uC (k:=2) (by decide) h0 (by lia)
  ·exact uC (k:=7) (by decide) h0 (by lia)
  ·exact uC (k:=4) (by decide) h0 (by lia)
 have l10:(ah (toString most)).length≤10/\most.natAbs.log2<1000:=by
  rcases hm with rfl|rfl|rfl <;> exact⟨by decide,by decide⟩
 have lo:(txt i).length≤100000:=by lia
 have lo2:(ah (toString most)).length≤100000:=by lia
 have c1:¬((txt i).length:Int)<1:=by lia
 have c2:¬((ah (toString most)).length:Int)<((txt i).length:Int):=by lia
 have c3:¬most<i:=by lia
 have nr:=PySem.W.KIN.num_reads h0 (show i<10 ^ 10 by rcases hm with rfl|rfl|rfl <;> lia);unfold iU;refine cF (by rfl) ?_;change wp (le [some (.str (txt i)),some (.int most),none]) _ _ _;unfold le;refine aL (R:=λσ h'=>Pre h h'/\σ=[some (.str (txt i)),some (.int most),none]) ?_ ?_
 ·rw[cN,bA,eV,bA,aQ,bN,aA];simp only[aC];rw[f6];refine⟨lo,?_⟩;rw[w_c,w_lt];simp only[c1,decide_false,bd,if_false];rw[eV,bA,aQ,bN,aA];simp only[aC];rw[f6];refine⟨lo,?_⟩;rw[bN,bN,aA];simp only[aC,aE];rw[rz];refine⟨l10.2,?_⟩;rw[f6];refine⟨lo2,?_⟩;rw[gk];simp only[c2,decide_false,bd,if_false];rw[w_not,bA];refine wC (v:=0) rfl rfl (uT λc hc=>by have:=dg c hc;lia) (λc hc=>GV c (dg c hc).2 (dg c hc).1) (by lia) λh' p=>?_;simp;exact p
 rintro _ h1 ⟨p1,rfl⟩;refine aL (R:=λσ h'=>h1=h'/\σ=[some (.str (txt i)),some (.int most),some (.int i)]) ?_ ?_
 ·rw[bH,bN,aA];exact zb nr (by lia) ⟨_,rfl,rfl,rfl⟩
 rintro _ _ ⟨rfl,rfl⟩;simp[c3];exact q h1 p1
theorem DI{nm:Str}(l1:1≤nm.length)(l8:nm.length≤8)(hn:∀c∈nm.cps.toList,97≤c/\c<123)(q:∀h',Pre h h'->Q (.str nm) h'):wp (lQ [.str nm]) h Q E:=by
 have lo:nm.length≤100000:=by lia
 have c1:¬(nm.length:Int)<1:=by lia
 have c2:¬(8:Int)<(nm.length:Int):=by lia
 unfold lQ;refine cF (by rfl) ?_;change wp (k8 [some (.str nm)]) _ _ _;unfold k8;refine aL (R:=λσ h'=>Pre h h'/\σ=[some (.str nm)]) ?_ ?_
 ·rw[cN,bA,eV,bA,aQ,bN,aA];simp only[aC];rw[f6];refine⟨lo,?_⟩;rw[w_c,w_lt];simp only[c1,decide_false,bd,if_false];rw[eV,bA,aQ,bN,aA];simp only[aC];rw[f6];refine⟨lo,?_⟩;rw[w_c,gk];simp only[c2,decide_false,bd,if_false];rw[w_not,bA];refine wC (v:=0) rfl rfl (uT λc hc=>by have:=hn c hc;lia) (λc hc=>By c (hn c hc).2 (hn c hc).1) (by lia) λh' p=>?_;simp;exact p
 rintro _ h1 ⟨p1,rfl⟩;simp;exact q h1 p1
def Rt.rd(x:Rt):Prop:=(1≤x.nm.length/\x.nm.length≤8/\∀c∈x.nm.cps.toList,97≤c/\c<123)/\x.pt≤40/\(0≤x.am/\x.am≤1000000)/\(0≤x.dt/\x.dt≤9999)
theorem xX{x:Rt}(s:x.rd):(aJ 32 (bf x).cps.toList).map (λl=>MV.str ⟨l.toArray⟩)=[.str x.nm,.str (ah "at"),.str (txt x.pt),.str (ah "wants"),.str (txt x.am),.str (ah "since"),.str (txt x.dt)]:=by
 obtain⟨⟨_,_,n1⟩,_,⟨a0,_⟩,⟨d0,_⟩⟩:=s;have e:(bf x).cps.toList=x.nm.cps.toList++(([(ah "at"),txt x.pt,ah "wants",txt x.am,ah "since",txt x.dt].map λy=>y.cps.toList).map λy=>32::y).flatten:=by
  have e1:(ah " at ").cps.toList=32::(ah "at").cps.toList++[32]:=rfl;have e2:(ah " wants ").cps.toList=32::(ah "wants").cps.toList++[32]:=rfl;have e3:(ah " since ").cps.toList=32::(ah "since").cps.toList++[32]:=rfl;have e0:PySem.Str.empty.cps.toList=[]:=rfl;unfold bf;simp only[dU,e0,e1,e2,e3];simp
 have dg:∀{i:Int},0≤i->32∉(txt i).cps.toList:=λh z=>by have:=(iJ h _ z).1;lia
 have hx:32∉x.nm.cps.toList:=λz=>by have:=(n1 _ z).1;lia
 rw[e,lu hx]
 ·simp[ky]
 ·intro y hy;simp only[aN,dQ,bE,fG,or_false]at hy;rcases hy with rfl|rfl|rfl|rfl|rfl|rfl
  ·decide
  ·exact dg (by lia)
  ·decide
  ·exact dg a0
  ·decide
  ·exact dg d0
theorem uX{x:Rt}(s:x.rd):10∉(bf x).cps.toList:=by
 obtain⟨⟨_,_,n1⟩,_,⟨a0,_⟩,⟨d0,_⟩⟩:=s;have dg:∀{i:Int},0≤i->10∉(txt i).cps.toList:=λh z=>by have:=(iJ h _ z).1;lia
 have hx:10∉x.nm.cps.toList:=λz=>by have:=(n1 _ z).1;lia
 have e0:10∉PySem.Str.empty.cps.toList:=by decide
 unfold bf;simp only[dU,c6,not_or];exact⟨⟨⟨⟨⟨⟨⟨e0,hx⟩,by decide⟩,dg (by lia)⟩,by decide⟩,dg a0⟩,by decide⟩,dg d0⟩
end
def ng(k:Nat):MV->Prop
 |.non=>True
 |.int i=>i<0∨(k:Int)≤i
 |_=>False
noncomputable def oX:MV->Bool
 |.non=>true
 |.int _=>true
 |_=>false
def uv(xs:List MV):Prop:=xs.length=0∨40<xs.length∨(∃i,xs[0]?=some (.int i))∨∃k x,1≤k/\xs[k]?=some x/\ng k x
theorem Co{h:MH}{a:Nat}{xs:List MV}{Q:MV->MH->Prop}{E:Nat->MH->Prop}(ha:h[a]?=some (.lst xs))(rv:xs.all oX=true)(bad:uv xs)(q:E 101 h):wp (mS [.ref a]) h Q E:=by
 unfold mS;refine cF (by rfl) ?_;by_cases c1:xs.length=0
 ·simp[jV,ha,c1,q]
 by_cases c2:40<xs.length
 ·have d1:¬((xs.length:Int)<1):=by lia
  have d2:(40:Int)<xs.length:=by lia
  simp[jV,ha,d1,d2,q]
 have d1:¬((xs.length:Int)<1):=by lia
 have d2:¬(40:Int)<xs.length:=by lia
 obtain⟨x0,e0⟩:∃x,xs[0]?=some x:=⟨xs[0]'(by lia),by simp⟩
 have a0:atN xs 0=some x0:=by rw[show(0:Int)=((0:Nat):Int) from rfl,ig];exact e0
 have v0:oX x0=true:=(eY.mp rv) x0 (dR e0);cases x0 with
 |int i=>simp[jV,ha,d1,d2,a0,q]
 |non=>
   simp[jV,ha,d1,d2,a0];refine⟨by lia,?_⟩;refine ja (λk σ h'=>h'=h/\(∃x y,σ=[some (.ref a),x,y])/\∀j x,j<k->xs[j+1]?=some x->¬ng (j+1) x) (λ_ _ _ _=>rfl) (λk x σ h' hx ⟨eh,⟨u,v,es⟩,ok⟩=>?_) (λσ h' ⟨eh,_,ok⟩=>?_) ⟨rfl,⟨_,_,rfl⟩,λj x hj=>by lia⟩
   ·subst eh;subst es;have hk:k<xs.length-1:=by
     have:=(bT.mp hx).1;rw[iw]at this;lia
    rw[pM (by lia)]at hx;cases hx;obtain⟨z,ez⟩:∃z,xs[k+1]?=some z:=⟨xs[k+1]'(by lia),by simp⟩
    have g:atN xs (1+(k:Int))=some z:=by
     rw[show(1+(k:Int))=((k+1:Nat):Int) by lia,ig];exact ez
    have vz:oX z=true:=(eY.mp rv) z (dR ez);cases z with
    |non=>simp[dI,ha,g,q]
    |int i=>
      by_cases b1:i<0
      ·simp[dI,ha,g,b1,q]
      ·by_cases b2:1+(k:Int)≤i
       ·simp[dI,ha,g,b1,b2,q]
       ·simp[dI,ha,g,b1,b2];intro j x hj ex;by_cases e:j=k
        ·subst e;rw[ez]at ex;cases ex;simp[ng];lia
        ·exact ok j x (by lia) ex
    |_=>exact absurd vz cp
   ·exfalso;rcases bad with z|z|⟨i,z⟩|⟨k,x,hk,ex,bx⟩
    ·exact c1 z
    ·exact c2 z
    ·rw[e0]at z;cases z
    ·have lk:=(bT.mp ex).1;refine ok (k-1) x ?_ ?_ ?_
     ·rw[iw];lia
     ·rw[show k-1+1=k by lia];exact ex
     ·rw[show k-1+1=k by lia];exact bx
 |_=>exact absurd v0 cp
section
variable {h:MH}{bk r d:Nat}{rs:List Rid}{b:List Nat}{Q:MV->MH->Prop}{E:Nat->MH->Prop}
theorem Hl(B:cD h bk r d rs)(R:cU h r b){x:Rt}(s:x.rd)(hk:x.nm∉(bg rs).map (·.nm))(hp:x.pt<b.length+1)(hz:rs.length<900)
  (q:∀h' a,Off [d] h h'->h.length≤a->cD h' bk r d (rs++[(x,a)])->Q .non h'):wp (ma [.ref bk,.str (bf x)]) h Q E:=by
 obtain⟨⟨l1,l8,hn⟩,p40,⟨a0,a1⟩,⟨d0,d1⟩⟩:=id s;have sm:x.small:=⟨by lia,by lia,⟨a0,by lia⟩,⟨d0,by lia⟩⟩
 have ll:=pd sm;have ew:=xX s;unfold ma;refine cF (by rfl) ?_;change wp (kZ [some (.ref bk),some (.str (bf x)),none,none,none,none,none,none]) _ _ _;unfold kZ;refine aL (R:=λσ h'=>∃w,Pre h h'/\h'[w]?=some (.lst [.str x.nm,.str (ah "at"),.str (txt x.pt),.str (ah "wants"),.str (txt x.am),.str (ah "since"),.str (txt x.dt)])/\σ=[some (.ref bk),some (.str (bf x)),some (.ref w),none,none,none,none,none]) ?_ ?_
 ·rw[bH];refine ir (c:=32) (s:=bf x) (df (by simp)) rfl (by lia) (by decide) ?_;rw[ew];exact⟨_,rfl,h.length,Pre.app _,bp,rfl⟩
 rintro _ h1 ⟨w,p1,gw,rfl⟩;have w0:∀a b c d e f g:MV,atN [a,b,c,d,e,f,g] 0=some a:=λ_ _ _ _ _ _ _=>rfl;have w1:∀a b c d e f g:MV,atN [a,b,c,d,e,f,g] 1=some b:=λ_ _ _ _ _ _ _=>rfl;have w2:∀a b c d e f g:MV,atN [a,b,c,d,e,f,g] 2=some c:=λ_ _ _ _ _ _ _=>rfl;have w3:∀a b c d e f g:MV,atN [a,b,c,d,e,f,g] 3=some d:=λ_ _ _ _ _ _ _=>rfl;have w4:∀a b c d e f g:MV,atN [a,b,c,d,e,f,g] 4=some e:=λ_ _ _ _ _ _ _=>rfl;have w5:∀a b c d e f g:MV,atN [a,b,c,d,e,f,g] 5=some f:=λ_ _ _ _ _ _ _=>rfl;have w6:∀a b c d e f g:MV,atN [a,b,c,d,e,f,g] 6=some g:=λ_ _ _ _ _ _ _=>rfl;refine aL (R:=λσ h'=>Pre h1 h'/\σ=[some (.ref bk),some (.str (bf x)),some (.ref w),none,none,none,none,none]) ?_ ?_
 ·rw[cN,bA,eV,bA,aQ,bN,aA];simp only[aC,aE,gP,gw,w_c,xb];have e7:decide (((([MV.str x.nm,.str (ah "at"),.str (txt x.pt),.str (ah "wants"),.str (txt x.am),.str (ah "since"),.str (txt x.dt)]:List MV).length:Nat):Int)=7)=true:=by simp
  rw[e7];simp only[d3,bd,if_false];simp only[aQ,jl,bo,bi,aA,w_c,dm,gw,w1,w3,w5,aC,aE];refine⟨by decide,by decide,?_⟩;refine CT (f:=MV.str) (g:=PySem.PyData.str) (l:=[ah "at",ah "wants",ah "since"]) (eI bp) bp (λy _=>rfl) (λy hy=>?_) (λy _=>by simp[PySem.PyData.depth]) ?_
  ·simp only[bE,fG,or_false]at hy;rcases hy with rfl|rfl|rfl <;> decide +kernel
  ·simp only[bd,if_false,dl];exact⟨_,rfl,(Pre.app _).snoc _,rfl⟩
 rintro _ h2 ⟨p2,rfl⟩;have gw2:=p2.get gw;refine aL (R:=λσ h'=>Pre h2 h'/\σ=[some (.ref bk),some (.str (bf x)),some (.ref w),some (.str x.nm),none,none,none,none]) ?_ ?_
 ·simp only[bH,cy,bo,bi,aQ,aA,w_c,dm,gw2,w0,aC,aE];exact DI l1 l8 hn λh' p=>⟨_,rfl,p,rfl⟩
 rintro _ h3 ⟨p3,rfl⟩;have gw3:=p3.get gw2;refine aL (R:=λσ h'=>Pre h3 h'/\σ=[some (.ref bk),some (.str (bf x)),some (.ref w),some (.str x.nm),some (.int x.pt),none,none,none]) ?_ ?_
 ·simp only[bH,cy,bo,bi,aQ,aA,w_c,dm,gw3,w2,aC,aE];exact sB (by lia) (by lia) (.inl rfl) λh' p=>⟨_,rfl,p,rfl⟩
 rintro _ h4 ⟨p4,rfl⟩;have gw4:=p4.get gw3;refine aL (R:=λσ h'=>Pre h4 h'/\σ=[some (.ref bk),some (.str (bf x)),some (.ref w),some (.str x.nm),some (.int x.pt),some (.int x.am),none,none]) ?_ ?_
 ·simp only[bH,cy,bo,bi,aQ,aA,w_c,dm,gw4,w4,aC,aE];exact sB a0 a1 (.inr (.inl rfl)) λh' p=>⟨_,rfl,p,rfl⟩
 rintro _ h5 ⟨p5,rfl⟩;have gw5:=p5.get gw4;refine aL (R:=λσ h'=>Pre h5 h'/\σ=[some (.ref bk),some (.str (bf x)),some (.ref w),some (.str x.nm),some (.int x.pt),some (.int x.am),some (.int x.dt),none]) ?_ ?_
 ·simp only[bH,cy,bo,bi,aQ,aA,w_c,dm,gw5,w6,aC,aE];exact sB d0 d1 (.inr (.inr rfl)) λh' p=>⟨_,rfl,p,rfl⟩
 rintro _ h6 ⟨p6,rfl⟩;have P:=p1.trans (p2.trans (p3.trans (p4.trans (p5.trans p6))));have B6:=B.pre P;refine pL ?_;rw[gO,B6.meth (by decide) rfl];simp only[bo,bi,aA,aC,aE];refine xh B6 (R.pre P) hk hp hz λh' a f la B'=>?_;exact q h' a (P.off.trans f) (by have:=P.len;lia) B'
theorem DL{b:List Nat}:(aJ 32 (bZ b).cps.toList).map (λl=>MV.str ⟨l.toArray⟩)=(ah "river"::ah "-"::b.map λ(p:Nat)=>txt p).map .str:=by
 unfold bZ;refine xN rfl (by decide) λy hy=>?_;rcases bE.mp hy with rfl|hy
 ·decide
 ·obtain⟨p,_,rfl⟩:=cx.mp hy;exact λz=>by have:=(iJ (by lia) _ z).1;lia
theorem sY{b:List Nat}:10∉(bZ b).cps.toList:=by
 unfold bZ;rw[jN];simp only[c6,not_or];refine⟨by decide,λz=>?_⟩;obtain⟨l,hl,hc⟩:=List.mem_flatten.mp z;obtain⟨y,hy,rfl⟩:=cx.mp hl;rcases c6.mp hc with z|z
 ·exact absurd z (by decide)
 ·rcases bE.mp hy with rfl|hy
  ·exact absurd z (by decide)
  ·obtain⟨p,_,rfl⟩:=cx.mp hy;have:=(iJ (by lia) _ z).1
   lia
theorem Di(w:Wf b)(few:b.length<40)(q:∀h' r',Pre h h'->h.length≤r'->cU h' r' b->Q (.ref r') h'):wp (lX [.str (bZ b)]) h Q E:=by
 have sm:∀x∈b,x<40:=λx hx=>by
  obtain⟨k,hk,e⟩:=ly hx;have:=w k x (by rw[←e];simp)
  lia
 have ll:=nS few λx hx=>by have:=sm x hx;lia
 unfold lX;refine cF (by rfl) ?_;change wp (lF [some (.str (bZ b)),none,none,none]) _ _ _;unfold lF;refine aL (R:=λσ h'=>∃w,Pre h h'/\h'[w]?=some (.lst ((ah "river"::ah "-"::b.map λ(p:Nat)=>txt p).map .str))/\σ=[some (.str (bZ b)),some (.ref w),none,none]) ?_ ?_
 ·rw[bH];refine ir (c:=32) (s:=bZ b) (df (by simp)) rfl (by lia) (by decide) ?_;rw[DL];exact⟨_,rfl,h.length,Pre.app _,bp,rfl⟩
 rintro _ h1 ⟨wd,p1,gw,rfl⟩;have x0:atN ((ah "river"::ah "-"::b.map λ(p:Nat)=>txt p).map MV.str) 0=some (.str (ah "river")):=rfl;refine aL (R:=λσ h'=>h1=h'/\σ=[some (.str (bZ b)),some (.ref wd),none,none]) ?_ ?_
 ·rw[cN];simp only[bA,aQ,aA,w_c,dm,gw,x0,rj,decide_true,d3,bd,if_false,dl,aC,aE];exact⟨_,rfl,trivial,rfl⟩
 rintro _ _ ⟨rfl,rfl⟩;have ct:fk ((ah "river"::ah "-"::b.map λ(p:Nat)=>txt p).map MV.str) (some 1) none=(none::b.map some).map λo:Option Nat=>MV.str (match o with
  |none=>ah "-"
  | some p=>txt p):=by
  rw[nv];simp
 refine aL (R:=λσ h'=>∃l,Pre h1 h'/\h'[l]?=some (.lst (rows b))/\σ=[some (.str (bZ b)),some (.ref wd),some (.ref l),none]) ?_ ?_
 ·rw [bH];refine D1 ?_;have e1:du (eSl (af 1) (some (eC (.int 1))) none) [some (.str (bZ b)),some (.ref wd),none,none] h1=.ok ⟨((none::b.map some).map λo:Option Nat=>MV.str (match o with
    |none=>ah "-"
    | some p=>txt p)).map λv=>[v],[(h1.length,(none::b.map some).map λo:Option Nat=>MV.str (match o with
    |none=>ah "-"
    | some p=>txt p))]⟩ (h1++[.lst ((none::b.map some).map λo:Option Nat=>MV.str (match o with
    |none=>ah "-"
    | some p=>txt p))]):=by
   refine gj (df ?_) bp;simp only[jv,aA,jc,jD,w_c,kD,gw,ct,aC,aE]
   first|exact⟨trivial,rfl⟩|exact⟨trivial,trivial⟩|exact⟨rfl,rfl⟩
  refine gR (none::b.map some) (λo:Option Nat=>[MV.str (match o with
    |none=>ah "-"
    | some p=>txt p)]) (λ_=>true) (λo=>match o with
    |none=>.non
    | some p=>.int p) e1 (by simp) (λh' p=>gu (p.get bp)) (by simp;lia) (λv hv h5 p5=>?_) (λv hv _ h5 p5=>?_) λh5 p5=>?_
  ·simp[eE,aZ,Pre.refl]
  ·cases v with
   |none=>simp[Pre.refl]
   |some p=>
     have hp:p∈b:=by simpa using hv
     have p40:=sm p hp;have ne:¬txt (p:Int)=ah "-":=λz=>by
      have:45∈(txt (p:Int)).cps.toList:=by rw[z];decide
      have:=(iJ (by lia) _ this).1
      lia
     simp[ne];exact sB (by lia) (by lia) (.inl rfl) λh' p'=>⟨rfl,p'⟩
  ·rw [ik];have er:((none::b.map some).map λo:Option Nat=>(match o with
    |none=>MV.non
    | some p=>.int p))=rows b:=by simp [rows,nats]
   rw[er];exact⟨_,rfl,h5.length,((Pre.app _).trans p5).snoc _,bp,rfl⟩
 rintro _ h2 ⟨l,p2,gl,rfl⟩;refine pL ?_;simp only[cH,qk,bo,bi,aA,aC,aE];refine wm gl w few λh' p R=>⟨rfl,q h' h2.length ((p1.trans p2).trans p) ?_ R⟩;have:=p1.len;have:=p2.len;lia
end
theorem CQ{b:List Nat}{A:List Rt}(w:Wf b)(few:b.length<40)(hA:∀x∈A,x.rd)(lA:A.length≤40):(cI b A).length≤100000:=by
 have sm:∀x∈b,x<10 ^ 7:=λx hx=>by
  obtain⟨k,hk,e⟩:=ly hx;have:=w k x (by rw[←e];simp)
  lia
 have ll:=nS few sm;have fl:=oQ (f:=λy:Str=>(ah "\n").cps.toList++y.cps.toList) (n:=1040) (l:=A.map bf) λy hy=>by
  obtain⟨x,hx,rfl⟩:=cx.mp hy;obtain⟨⟨l1,l8,hn⟩,p40,⟨a0,a1⟩,⟨d0,d1⟩⟩:=hA x hx;have:=pd (x:=x) ⟨by lia,by lia,⟨a0,by lia⟩,⟨d0,by lia⟩⟩;have e1:(ah "\n").cps.toList.length=1:=rfl;rw[cQ,e1,←cW];lia
 rw[bB]at fl;unfold cI;rw[cW,jN,cQ,←cW];have:1040*A.length≤1040*40:=oI _ lA;lia
theorem F7{h:MH}{b:List Nat}{A:List Rt}{Q:MV->MH->Prop}{E:Nat->MH->Prop}(w:Wf b)(few:b.length<40)(hA:∀x∈A,x.rd/\x.pt<b.length+1)(nA:Names A)(lA:A.length≤40)(sA:aged A=A)
  (q:∀h' bk r d rs,Off [] h h'->cD h' bk r d rs->cU h' r b->bg rs=A->h.length≤d->(∀x∈rs,h.length≤x.2)->Q (.ref bk) h'):wp (kK [.str (cI b A)]) h Q E:=by
 have ln:=CQ w few (λx hx=>(hA x hx).1) lA;have ew:(aJ 10 (cI b A).cps.toList).map (λl=>MV.str ⟨l.toArray⟩)=(bZ b::A.map bf).map .str:=by
  unfold cI;refine xN rfl sY λy hy=>?_;obtain⟨x,hx,rfl⟩:=cx.mp hy;exact uX (hA x hx).1
 unfold kK;refine cF (by rfl) ?_;change wp (k6 [some (.str (cI b A)),none,none,none]) _ _ _;unfold k6;refine aL (R:=λσ h'=>∃l,Pre h h'/\h'[l]?=some (.lst ((bZ b::A.map bf).map .str))/\σ=[some (.str (cI b A)),some (.ref l),none,none]) ?_ ?_
 ·rw[bH];refine ir (c:=10) (s:=cI b A) (df (by simp)) rfl ln (by decide) ?_;rw[ew];exact⟨_,rfl,h.length,Pre.app _,bp,rfl⟩
 rintro _ h1 ⟨l,p1,gl,rfl⟩;have c1:¬(1+40:Int)<((((bZ b::A.map bf).map MV.str).length:Nat):Int):=by simp;lia
 refine aL (R:=λσ h'=>h1=h'/\σ=[some (.str (cI b A)),some (.ref l),none,none]) ?_ ?_
 ·rw[cN];simp only[bA,aQ,bN,aA,w_c,gP,gl,n4,gk,c1,decide_false,bd,if_false,dl,aC,aE];exact⟨_,rfl,trivial,rfl⟩
 rintro _ _ ⟨rfl,rfl⟩;have x0:atN ((bZ b::A.map bf).map MV.str) 0=some (.str (bZ b)):=rfl;refine aL (R:=λσ h'=>∃bk r d,Pre h1 h'/\cD h' bk r d []/\cU h' r b/\h1.length≤d/\σ=[some (.str (cI b A)),some (.ref l),some (.ref bk),none]) ?_ ?_
 ·simp only[bH,qk,cy,bo,bi,aQ,aA,w_c,dm,gl,x0,aC,aE];refine Di w few λh2 r' p2 lr R2=>?_;exact yU λh3 p3 B3=>⟨rfl,_,rfl,h2.length,r',h2.length+1,p2.trans p3,B3,R2.pre p3,by have:=p2.len;lia,rfl⟩
 rintro _ h2 ⟨bk,r,d,p2,B2,R2,ld,rfl⟩;have gl2:=p2.get gl;have ct:fk ((bZ b::A.map bf).map MV.str) (some 1) none=(A.map bf).map .str:=by rw[nv];rfl
 have e1:du (eSl (af 1) (some (eC (.int 1))) none) [some (.str (cI b A)),some (.ref l),some (.ref bk),none] h2=.ok ⟨((A.map bf).map MV.str).map λv=>[v],[(h2.length,(A.map bf).map MV.str)]⟩ (h2++[.lst ((A.map bf).map MV.str)]):=by
  refine gj (df ?_) bp;simp only[jv,aA,jc,jD,w_c,kD,gl2,ct,aC,aE]
  first|exact⟨trivial,rfl⟩|exact⟨trivial,trivial⟩|exact⟨rfl,rfl⟩
 have hl1:=p1.len;refine aL (R:=λσ h'=>(∃rs,Off [] h h'/\cD h' bk r d rs/\cU h' r b/\bg rs=A/\∀x∈rs,h.length≤x.2)/\∃u,σ=[some (.str (cI b A)),some (.ref l),some (.ref bk),u]) ?_ ?_
 ·rw[ku];refine dv e1 ?_;have p3:Pre h2 (h2++[.lst ((A.map bf).map MV.str)]):=Pre.app _;have g3:(h2++[MO.lst ((A.map bf).map MV.str)])[h2.length]?=some (.lst ((A.map bf).map MV.str)):=bp;generalize h2.length=sl at g3;generalize h2++[MO.lst ((A.map bf).map MV.str)]=h3 at p3 g3;have P3:=p1.trans (p2.trans p3);refine ja (λk σ h'=>(∃rs,Off [] h h'/\cD h' bk r d rs/\cU h' r b/\bg rs=A.take k/\(∀x∈rs,h.length≤x.2)/\h'[sl]?=some (.lst ((A.map bf).map MV.str)))/\∃u,σ=[some (.str (cI b A)),some (.ref l),some (.ref bk),u]) (λk σ h' J=>?_) (λk v σ h' hv J=>?_) (λσ h' J=>?_) ⟨⟨[],P3.off,B2.pre p3,R2.pre p3,rfl,by simp,g3⟩,_,rfl⟩
  ·obtain⟨⟨rs,_,_,_,_,_,e⟩,_⟩:=J;exact gu e
  ·obtain⟨⟨rs,f,B,R,er,la,gs⟩,u,rfl⟩:=J;rw[bX,bX,bX]at hv;cases ek:A[k]? with
   |none=>rw[ek]at hv;cases hv
   |some x=>
     rw[ek]at hv;cases hv;have hx:=hA x (dR ek);have tk:A.take (k+1)=A.take k++[x]:=by rw[sW,ek];rfl
     have hk:=(bT.mp ek).1;have fr:x.nm∉(bg rs).map (·.nm):=λm=>by
      rw[er]at m;have n2:((A.take (k+1)).map (·.nm)).Nodup:=List.Nodup.sublist ((List.take_sublist _ _).map _) nA;rw[tk,gA,kI]at n2;exact n2.2.2 _ m _ (by simp) rfl
     have lr:rs.length≤40:=by
      have:=congrArg eF er;simp[bg]at this;lia
     simp only[dI,iF,jr,gO,cy,bo,bi,aA,aC,aE];refine Hl B R hx.1 fr hx.2 (by lia) λh4 a f4 la4 B4=>?_;have nd:∀n∈[d],∀ys,h'[n]?≠some (.lst ys):=λn hn ys z=>by rw[dC.mp hn,B.dc]at z;cases z
     refine⟨⟨rs++[(x,a)],⟨λn ob _ e=>?_,bV f.2 f4.2⟩,B4,R.off f4 λn hn ob e=>?_,by rw[tk,←er];simp[bg],λy hy=>?_,f4.get gs λz=>nd _ z _ gs⟩,_,rfl⟩
     ·have:=d5 e;exact f4.get (f.get e (by simp)) (by simp;lia)
     ·rw[dC.mp hn,B.dc]at e;cases e
      constructor <;> (intro _ z;cases z)
     ·rcases c6.mp hy with hy|hy
      ·exact la y hy
      ·rw[dC.mp hy];exact bV f.2 la4
  ·obtain⟨⟨rs,f,B,R,er,la,gs⟩,i⟩:=J;rw[bB,bB,bB,List.take_length]at er;exact⟨σ,rfl,⟨rs,f,B,R,er,la⟩,i⟩
 rintro _ h3 ⟨⟨rs,f,B,R,er,la⟩,u,rfl⟩;have lr:rs.length≤40:=by
  have:=congrArg eF er;simp[bg]at this;lia
 have sm:∀x∈bg rs,x.small:=λx hx=>by
  rw[er]at hx;obtain⟨⟨l1,l8,hn⟩,p40,⟨a0,a1⟩,⟨d0,d1⟩⟩:=(hA x hx).1;exact⟨by lia,by lia,⟨a0,by lia⟩,⟨d0,by lia⟩⟩
 refine aL (R:=λσ h'=>Pre h3 h'/\σ=[some (.str (cI b A)),some (.ref l),some (.ref bk),u]) ?_ ?_
 ·rw[cN,bA,aQ,cy];simp only[bo,bi,aA,aC,aE];refine uR B R (by lia) sm λh' p=>?_;rw[er,sA];simp only[rj,decide_true,d3,bd,if_false,dl];exact⟨_,rfl,p,rfl⟩
 rintro _ h4 ⟨p4,rfl⟩;simp;exact q h4 bk r d rs (f.trans p4.off) (B.pre p4) (R.pre p4) er (by lia) la
noncomputable def fI(c:Nat):List (List Nat)->List Nat
 |[]=>[]
 |x::l=>x++(l.map λy=>c::y).flatten
theorem nF(c:Nat):∀l:List Nat,fI c (aJ c l)=l
 |[]=>rfl
 |x::l=>by
   have ih:=nF c l;have ne:=jB c l;cases e:aJ c l with
   |nil=>exact absurd e ne
   |cons p ps=>
     rw[e]at ih;by_cases h:x=c
     ·subst h;have:aJ x (x::l)=[]::p::ps:=by rw[←e];simp[aJ]
      rw[this];simp only[fI,aN,f8,fJ,iz]at ih ⊢;rw[ih]
     ·rw[oO l h,e];simp only[fI]at ih ⊢;rw[iz,ih]
theorem fH(c:Nat):∀(l p:List Nat),p∈aJ c l->(∀x∈p,x∈l)/\p.length≤l.length
 |[],p,h=>by
   rw[show aJ c []=[[]] from rfl]at h;rw[dC.mp h];simp
 |x::l,p,h=>by
   have ih:=fH c l;have ne:=jB c l;cases e:aJ c l with
   |nil=>exact absurd e ne
   |cons q qs=>
     rw[e]at ih;have up:∀r∈q::qs,(∀y∈r,y∈x::l)/\r.length≤(x::l).length:=λr hr=>⟨λy hy=>cS _ ((ih r hr).1 y hy),Nat.le_succ_of_le (ih r hr).2⟩
     by_cases hc:x=c
     ·subst hc;have:aJ x (x::l)=[]::q::qs:=by rw[←e];simp[aJ]
      rw[this]at h;rcases bE.mp h with rfl|h
      ·simp
      ·exact up p h
     ·rw[oO l hc,e]at h;rcases bE.mp h with rfl|h
      ·refine⟨λy hy=>?_,?_⟩
       ·rcases bE.mp hy with rfl|hy
        ·exact dn
        ·exact(up q dn).1 y hy
       ·have:=(ih q dn).2;simp only[cr];lia
      ·exact up p (cS _ h)
theorem sG(c:Nat):∀l:List Nat,(aJ c l).length≤l.length+1
 |[]=>by simp[aJ]
 |x::l=>by
   have ih:=sG c l;by_cases h:x=c
   ·subst h;have:aJ x (x::l)=[]::aJ x l:=by simp[aJ]
    rw[this];simp only[cr];lia
   ·rw[oO l h];cases e:aJ c l with
    |nil=>simp
    |cons q qs=>
      rw[e]at ih;simp only[cr]at ih ⊢;lia
noncomputable abbrev mkS(l:List Nat):Str:=⟨l.toArray⟩
theorem cE(l:List Nat):(mkS l).cps.toList=l:=by simp
theorem l9{l:List Nat}{s:Str}:mkS l=s↔l=s.cps.toList:=⟨λe=>by rw[←e],λe=>e▸ky s⟩
theorem dB(l:List Nat):(mkS l).length=l.length:=by rw[cW,cE]
abbrev Asc(l:List Nat):Prop:=∀c∈l,c<128
noncomputable abbrev dval(w:List Nat):Nat:=PySem.NumText.digitsVal w
def Digs(w:List Nat):Prop:=∀c∈w,48≤c/\c<58
theorem Digs.all{w:List Nat}(h:Digs w):PySem.NumText.AllDigits w:=λc hc=>⟨(h c hc).1,Nat.le_of_lt_succ (h c hc).2⟩
theorem vI:∀c:Nat,c<58->48≤c->(lZ 10 (c-48)).map Char.toNat=[c]:=by decide +kernel
theorem AY(c:Nat):dval [c]=c-48:=by simp[dval,PySem.NumText.digitsVal]
theorem Fy:∀(n:Nat) (w:List Nat),w.length=n->w≠[]->Digs w->(1<w.length->w[0]?≠some 48)->(lZ 10 (dval w)).map Char.toNat=w:=by
 intro n
 induction n with
 |zero=>intro w hn ne;exact absurd (ud.mp hn) ne
 |succ n ih=>
   intro w hn ne hd h0;obtain⟨v,c,rfl⟩:∃v c,w=v++[c]:=⟨w.dropLast,w.getLast ne,(List.dropLast_concat_getLast ne).symm⟩;have hc:=hd c (by simp);by_cases hv:v=[]
   ·subst hv;rw[fJ,AY];exact vI c hc.2 hc.1
   ·have lv:0<v.length:=lm.mpr hv;have g0:(v++[c])[0]?=v[0]?:=eM lv;have h1:v[0]?≠some 48:=by rw[←g0];exact h0 (by simp;lia)
    have iv:=ih v (by simpa using hn) hv (λx hx=>hd x (by simp[hx])) (λ_=>h1);have pv:0<dval v:=by
     rcases Nat.eq_zero_or_pos (dval v) with z|z
     ·rw[z]at iv;exact absurd (by rw[←iv];rfl) h1
     ·exact z
    have ed:dval (v++[c])=10*dval v+(c-48):=by
     have:=PySem.NumText.digitsVal_snoc v c;show PySem.NumText.digitsVal (v++[c])=_;rw[this];show dval v*10+_=_;lia
    rw[ed,←zW (by decide) pv (by lia),gA,iv,vI c hc.2 hc.1]
theorem B9{w:List Nat}(ne:w≠[])(hd:Digs w)(h0:1<w.length->w[0]?≠some 48):txt ((dval w:Nat):Int)=mkS w:=by
 refine g7 ?_;unfold txt;rw[PySem.W.KIN.signs_num,cE];exact Fy _ w rfl ne hd h0
open Classical in
def bu(w:List Nat)(most:Int):Int:=if w=[]∨7<w.length∨(1<w.length/\w[0]?=some 48) then -1 else if Digs w then(if most<(dval w:Int) then -1 else(dval w:Int)) else -1
theorem uO(w:List Nat)(most:Int):bu w most=-1∨(bu w most=dval w/\(dval w:Int)≤most/\mkS w=txt (dval w:Nat)):=by
 unfold bu;split
 ·exact .inl rfl
 ·rename_i h;split
  ·rename_i hd;split
   ·exact .inl rfl
   ·rename_i hm;refine .inr ⟨rfl,by lia,(B9 (λz=>h (.inl z)) hd λh1 z=>h (.inr (.inr ⟨h1,z⟩))).symm⟩
  ·exact .inl rfl
theorem sN{w:List Nat}{most:Int}(h:0≤bu w most):bu w most≤most/\mkS w=txt (bu w most):=by
 rcases uO w most with e|⟨e,h1,h2⟩
 ·lia
 ·rw[e];exact⟨h1,h2⟩
theorem tG{w:List Nat}{most:Int}(h:¬0≤bu w most):bu w most=-1:=by
 rcases uO w most with e|⟨e,h1,h2⟩
 ·exact e
 ·lia
theorem Dm:∀m:Nat,m<10->0<m->([Nat.digitChar m].map Char.toNat)[0]?≠some 48:=by decide
theorem Bp(m:Nat):0<m->((lZ 10 m).map Char.toNat)[0]?≠some 48:=by
 induction m using Nat.strongRecOn with
 |_ m ih=>
   intro hm;by_cases h:m<10
   ·rw[Nat.toDigits_of_lt_base h];exact Dm m h hm
   ·have t:lZ 10 (m/10)++lZ 10 (m%10)=lZ 10 (10*(m/10)+m%10):=zW (by decide) (by lia) (Nat.mod_lt m (by decide));rw[Nat.div_add_mod]at t;rw[←t,gA,eM (by rw[bB];exact Nat.length_toDigits_pos)];exact ih (m/10) (by lia) (by lia)
theorem rW{i most:Int}(h0:0≤i)(h1:i≤most)(h7:i<10 ^ 7):bu (txt i).cps.toList most=i:=by
 have dg:=iJ h0;have lp:=xD h0;have l7:=fL h0 h7;rw[cW]at lp l7;obtain⟨m,rfl⟩:=kz h0;have ev:dval (txt (m:Nat)).cps.toList=m:=by
  unfold txt;rw[PySem.W.KIN.signs_num];exact PySem.W.KIN.val_back m
 have hn:¬((txt (m:Nat)).cps.toList=[]∨7<(txt (m:Nat)).cps.toList.length∨(1<(txt (m:Nat)).cps.toList.length/\(txt (m:Nat)).cps.toList[0]?=some 48)):=by
  rintro(z|z|⟨z1,z2⟩)
  ·rw[z]at lp;simp at lp
  ·lia
  ·have:0<m:=by
    rcases Nat.eq_zero_or_pos m with e|e
    ·subst e;have:(txt ((0:Nat):Int)).cps.toList.length=1:=rfl;lia
    ·exact e
   unfold txt at z2;rw[PySem.W.KIN.signs_num]at z2;exact Bp m this z2
 unfold bu;rw[if_neg hn,if_pos (show Digs _ from λc hc=>dg c hc),ev,if_neg (by lia)]
noncomputable abbrev chL(s:String):List Nat:=(ah s).cps.toList
def Word(a:List Nat):Prop:=1≤a.length/\a.length≤8/\∀c∈a,97≤c/\c<123
def gI(l:List Nat)(n:Nat)(x:Rt):Prop:=∃a p m d,aJ 32 l=[a,chL "at",p,chL "wants",m,chL "since",d]/\Word a/\0≤bu p ((n:Int)-1)/\0≤bu m 1000000/\0≤bu d 9999/\x=⟨mkS a,(bu p ((n:Int)-1)).toNat,bu m 1000000,bu d 9999⟩
theorem gI.uniq{l:List Nat}{n:Nat}{x y:Rt}(h1:gI l n x)(h2:gI l n y):x=y:=by
 obtain⟨a,p,m,d,e,_,_,_,_,rfl⟩:=h1;obtain⟨a',p',m',d',e',_,_,_,_,rfl⟩:=h2;rw[e]at e';simp only[List.cons.injEq,true_and,and_true]at e';obtain⟨rfl,rfl,rfl,rfl⟩:=e';rfl
theorem Ae(x:Rt):(bf x).cps.toList=fI 32 [x.nm.cps.toList,chL "at",(txt x.pt).cps.toList,chL "wants",(txt x.am).cps.toList,chL "since",(txt x.dt).cps.toList]:=by
 have e1:(ah " at ").cps.toList=32::(ah "at").cps.toList++[32]:=rfl;have e2:(ah " wants ").cps.toList=32::(ah "wants").cps.toList++[32]:=rfl;have e3:(ah " since ").cps.toList=32::(ah "since").cps.toList++[32]:=rfl;have e0:PySem.Str.empty.cps.toList=[]:=rfl;unfold bf fI;simp only[dU,e0,e1,e2,e3,chL];simp
theorem gI.line{l:List Nat}{n:Nat}{x:Rt}(h:gI l n x)(n1:1≤n)(n41:n≤41):mkS l=bf x/\x.rd/\x.pt<n:=by
 obtain⟨a,p,m,d,e,⟨w1,w2,w3⟩,hp,hm,hd,rfl⟩:=h;obtain⟨p1,p2⟩:=sN hp;obtain⟨m1,m2⟩:=sN hm;obtain⟨d1,d2⟩:=sN hd;refine⟨?_,⟨⟨by rw[dB];exact w1,by rw[dB];exact w2,by rw[cE];exact w3⟩,by show(bu p ((n:Int)-1)).toNat≤40;lia,⟨hm,m1⟩,⟨hd,d1⟩⟩,by show(bu p ((n:Int)-1)).toNat<n;lia⟩;rw[l9,Ae,←nF 32 l,e];have tp:((((bu p ((n:Int)-1)).toNat:Nat):Int))=bu p ((n:Int)-1):=uJ hp;dsimp only;rw[tp,←p2,←m2,←d2]
theorem AU{x:Rt}{n:Nat}(s:x.rd)(hn:x.pt<n):gI (bf x).cps.toList n x:=by
 have ew:=xX s;obtain⟨⟨l1,l8,hc⟩,p40,⟨a0,a1⟩,⟨d0,d1⟩⟩:=s;have p1:bu (txt x.pt).cps.toList ((n:Int)-1)=x.pt:=rW (by lia) (by lia) (by lia);have m1:bu (txt x.am).cps.toList 1000000=x.am:=rW a0 a1 (by lia);have q1:bu (txt x.dt).cps.toList 9999=x.dt:=rW d0 d1 (by lia);refine⟨x.nm.cps.toList,(txt x.pt).cps.toList,(txt x.am).cps.toList,(txt x.dt).cps.toList,?_,⟨by rw[←cW];exact l1,by rw[←cW];exact l8,hc⟩,by rw[p1];lia,by rw[m1];exact a0,by rw[q1];exact d0,?_⟩
 ·have inj:∀{l l':List (List Nat)},l.map (λl=>MV.str ⟨l.toArray⟩)=l'.map (λl=>MV.str ⟨l.toArray⟩)->l=l':=λ{l l'} e=>by
   have:=congrArg (lN λv:MV=>match v with
    |.str s=>s.cps.toList
    | _=>[]) e
   simp only [cb] at this;have idf:((λv:MV=>match v with
    |.str s=>s.cps.toList
    | _=>[])∘λl:List Nat=>MV.str ⟨l.toArray⟩)=id:=funext λl=>rfl
   rw[idf,qW,qW]at this;exact this
  refine inj (ew.trans ?_);simp[ky]
 ·rw[p1,m1,q1];simp[ky]
open Classical in
def dM(l:List Nat)(n:Nat):Option Rt:=if h:∃x,gI l n x then some h.choose else none
theorem wG{l:List Nat}{n:Nat}{x:Rt}(h:gI l n x):dM l n=some x:=by
 unfold dM;have hx:∃x,gI l n x:=⟨x,h⟩;rw[dif_pos hx,hx.choose_spec.uniq h]
theorem ug{l:List Nat}{n:Nat}(h:∀x,¬gI l n x):dM l n=none:=by
 unfold dM;rw[dif_neg (λz=>h _ z.choose_spec)]
theorem we{l:List Nat}{n:Nat}{x:Rt}(h:dM l n=some x):gI l n x:=by
 unfold dM at h;split at h
 ·rename_i hx;cases h;exact hx.choose_spec
 ·cases h
theorem zH{n:Nat}(n1:1≤n)(n41:n≤41):∀(ls:List (List Nat)),(∀l∈ls,dM l n≠none)->∃A:List Rt,ls.map (λl=>dM l n)=A.map some/\ls.map mkS=A.map bf/\∀x∈A,x.rd/\x.pt<n
 |[],_=>⟨[],rfl,rfl,by simp⟩
 |l::ls,h=>by
   obtain⟨A,e1,e2,e3⟩:=zH n1 n41 ls λy hy=>h y (cS _ hy);cases e:dM l n with
   |none=>exact absurd e (h l dn)
   |some x=>
     obtain⟨f1,f2,f3⟩:=(we e).line n1 n41;refine⟨x::A,by simp[e,e1],by rw[aN,aN,f1,e2],λy hy=>?_⟩;rcases bE.mp hy with rfl|hy
     ·exact⟨f2,f3⟩
     ·exact e3 y hy
def rM(b:List Nat)(A:List Rt):Prop:=Wf b/\b.length<40/\(∀x∈A,x.rd/\x.pt<b.length+1)/\Names A/\A.length≤40/\aged A=A
def iq(t:Str):Prop:=∃b A,rM b A/\t=cI b A
theorem kX{c:Nat}{sep x:Str}{l:List Str}(hs:sep.cps.toList=[c]):(PySem.Txt.join sep (x::l)).cps.toList=fI c (x.cps.toList::l.map λy=>y.cps.toList):=by
 rw[jN,hs];show _=x.cps.toList++((l.map λy=>y.cps.toList).map λy=>c::y).flatten;rw[cb];rfl
theorem tO(l:List (List Nat)):(l.map mkS).map (λy=>y.cps.toList)=l:=by
 rw[cb]
 conv=>rhs;rw[←qW l]
 exact fZ λy _=>cE y
theorem Ed{ws rest:List (List Nat)}{l:List Nat}(e:aJ 32 l=chL "river"::chL "-"::rest)(hr:∀(k:Nat) (w:List Nat),rest[k]?=some w->0≤bu w (k:Int)):Wf (rest.map dval)/\mkS l=bZ (rest.map dval):=by
 have one:∀(k:Nat) (w:List Nat),rest[k]?=some w->dval w≤k/\mkS w=txt ((dval w:Nat):Int):=λk w h=>by
  have h0:=hr k w h;rcases uO w (k:Int) with z|⟨_,z1,z2⟩
  ·lia
  ·exact⟨by lia,z2⟩
 refine⟨λk x hx=>?_,?_⟩
 ·rw[bX]at hx;cases ew:rest[k]? with
  |none=>rw[ew]at hx;cases hx
  |some w=>
    rw[ew]at hx;cases hx;exact(one k w ew).1
 ·rw[l9];unfold bZ;rw[kX (c:=32) rfl,aN,←nF 32 l,e,cb];congr 2;congr 1
  conv=>lhs;rw[←tO rest]
  rw[cb,cb];refine fZ λw hw=>?_;obtain⟨k,hk⟩:=mX.mp hw;show(mkS w).cps.toList=(txt ((dval w:Nat):Int)).cps.toList;rw[(one k w hk).2]
theorem EZ{t:List Nat}{l0:List Nat}{lr:List (List Nat)}{b:List Nat}{A:List Rt}(e:aJ 10 t=l0::lr)(e0:mkS l0=bZ b)(e1:lr.map mkS=A.map bf)(k:rM b A):iq (mkS t):=by
 refine⟨b,A,k,?_⟩;rw[l9];unfold cI;rw[kX (c:=10) rfl,←e0,←e1,tO,cE,←e,nF]
theorem EG{t:List Nat}(g:iq (mkS t)):∃b A,rM b A/\aJ 10 t=(bZ b).cps.toList::A.map (λx=>(bf x).cps.toList)/\aJ 32 (bZ b).cps.toList=chL "river"::chL "-"::b.map (λ(p:Nat)=>(txt p).cps.toList)/\∀x∈A,dM (bf x).cps.toList (b.length+1)=some x:=by
 obtain⟨b,A,k,e⟩:=g;obtain⟨w,few,hA,nA,lA,sA⟩:=id k;rw[l9]at e;refine⟨b,A,k,?_,?_,λx hx=>wG (AU (hA x hx).1 (hA x hx).2)⟩
 ·rw[e];unfold cI;rw[kX (c:=10) rfl];unfold fI;rw[lu sY (λy hy=>?_),cb]
  ·rfl
  ·obtain⟨z,hz,rfl⟩:=cx.mp hy;obtain⟨x,hx,rfl⟩:=cx.mp hz;exact uX (hA x hx).1
 ·unfold bZ;rw[kX (c:=32) rfl];unfold fI;rw[lu (by decide) (λy hy=>?_),aN,cb]
  ·rfl
  ·obtain⟨z,hz,rfl⟩:=cx.mp hy;rcases bE.mp hz with rfl|hz
   ·decide
   ·obtain⟨p,_,rfl⟩:=cx.mp hz;exact λz=>by have:=(iJ (by lia) _ z).1;lia
section
variable {α:Type}[DecidableEq α]{h:MH}{E:Nat->MH->Prop}{Q:MV->MH->Prop}{f:α->MV}{g:α->PySem.PyData}
theorem vh(inj:∀x y,PySem.PyData.eqv (g x) (g y)=decide (x=y)):∀(l l':List α),PySem.PyData.eqvAll (l.map g) (l'.map g)=decide (l=l')
 |[],[]=>by simp[PySem.PyData.eqvAll]
 |[],y::l'=>by simp[PySem.PyData.eqvAll]
 |x::l,[]=>by simp[PySem.PyData.eqvAll]
 |x::l,y::l'=>by
   simp only[aN,PySem.PyData.eqvAll,inj,vh inj l l',List.cons.injEq];by_cases a:x=y <;> by_cases b:l=l' <;> simp[a,b]
theorem zK{a c:Nat}{l l':List α}(inj:∀x y,PySem.PyData.eqv (g x) (g y)=decide (x=y))(ha:h[a]?=some (.lst (l.map f)))(hc:h[c]?=some (.lst (l'.map f)))(hd:∀x,dat h 5 (f x)=some (g x))(hl:∀x,x∈l∨x∈l'->(g x).canLay0=true)(hk:∀x,(g x).depth≤20):jI (.ref a) (.ref c) h=.ok (decide (l=l')) h:=by
 unfold jI;rw[qc ha λx _=>hd x,qc hc λx _=>hd x];dsimp only;rw[if_pos ⟨tI (λx hx=>hl x (.inl hx)) λx _=>hk x,tI (λx hx=>hl x (.inr hx)) λx _=>hk x⟩];have:PySem.PyData.eqv (.list (l.map g)) (.list (l'.map g))=decide (l=l'):=by
  rw[←vh inj l l'];simp only[PySem.PyData.eqv]
 rw[this]
theorem ER{a c:Nat}{l l':List α}(inj:∀x y,PySem.PyData.eqv (g x) (g y)=decide (x=y))(ha:h[a]?=some (.lst (l.map f)))(hc:h[c]?=some (.lst (l'.map f)))(hd:∀x,dat h 5 (f x)=some (g x))(hl:∀x,x∈l∨x∈l'->(g x).canLay0=true)(hk:∀x,(g x).depth≤20)(q:Q (.bl (decide (l=l'))) h):wp (oEq (.ref a) (.ref c)) h Q E:=by
 unfold oEq;rw[if_neg (show ¬iL (.ref a) (.ref c)=true from cp),aG];refine dv (zK inj ha hc hd hl hk) ?_;rw[aZ];exact q
theorem Gi{a c:Nat}{l l':List α}(inj:∀x y,PySem.PyData.eqv (g x) (g y)=decide (x=y))(ha:h[a]?=some (.lst (l.map f)))(hc:h[c]?=some (.lst (l'.map f)))(hd:∀x,dat h 5 (f x)=some (g x))(hl:∀x,x∈l∨x∈l'->(g x).canLay0=true)(hk:∀x,(g x).depth≤20)(q:Q (.bl (!decide (l=l'))) h):wp (oNe (.ref a) (.ref c)) h Q E:=by
 unfold oNe;rw[if_neg (show ¬iL (.ref a) (.ref c)=true from cp),aG];refine dv (zK inj ha hc hd hl hk) ?_;rw[aZ];exact q
end
theorem tF{l:List Nat}(ha:Asc l):PySem.PyData.strOk (mkS l)=true:=by
 unfold PySem.PyData.strOk;rw[Array.all_eq_true_iff_forall_mem];intro x hx;have:=ha x (by simpa using hx);simp;lia
section
variable {h:MH}{Q:MV->MH->Prop}{E:Nat->MH->Prop}
theorem yz{a c:Nat}{l l':List (List Nat)}(ha:h[a]?=some (.lst (l.map λx=>.str (mkS x))))(hc:h[c]?=some (.lst (l'.map λx=>.str (mkS x))))(k1:∀x∈l,Asc x)(k2:∀x∈l',Asc x)(q:Q (.bl (!decide (l=l'))) h):wp (oNe (.ref a) (.ref c)) h Q E:=by
 refine Gi (f:=λx=>MV.str (mkS x)) (g:=λx=>PySem.PyData.str (mkS x)) (λx y=>?_) ha hc (λx=>rfl) (λx hx=>?_) (λx=>by simp[PySem.PyData.depth]) q
 ·simp only[PySem.PyData.eqv];by_cases e:x=y
  ·simp[e]
  ·have:mkS x≠mkS y:=λz=>e (by rw[l9,cE]at z;exact z);simp[e,this]
 ·rcases hx with hx|hx
  ·simp[PySem.PyData.canLay0,tF (k1 x hx)]
  ·simp[PySem.PyData.canLay0,tF (k2 x hx)]
theorem vV:∀c:Nat,c<128->(PySem.Builtin.Str.occurrences (ah "0123456789") ⟨#[c]⟩ 0 (ah "0123456789").length 1).isEmpty=!decide (48≤c/\c<58):=by decide +kernel
theorem xw:∀c:Nat,c<128->(PySem.Builtin.Str.occurrences (ah "abcdefghijklmnopqrstuvwxyz") ⟨#[c]⟩ 0 (ah "abcdefghijklmnopqrstuvwxyz").length 1).isEmpty=!decide (97≤c/\c<123):=by decide +kernel
theorem ut{l:List Nat}(ha:Asc l):(mkS l).cps.all (·<128)=true:=uT (by rw[cE];exact ha)
theorem Fg{c d:Nat}{s:Str}(hs:s.cps.toList=[d]):decide ((⟨#[c]⟩:Str)=s)=decide (c=d):=by
 by_cases e:c=d
 ·subst e;have:(⟨#[c]⟩:Str)=s:=g7 (by rw[hs]);simp[this]
 ·have:¬(⟨#[c]⟩:Str)=s:=λz=>e (by
   have:=congrArg (λs:Str=>s.cps.toList) z;simp only[hs]at this;simpa using this)
  simp[e,this]
open Classical in
theorem BE{σ:MSt}{w:List Nat}{Q':Bool->MH->Prop}(s0:σ[0]?=some (some (.str (mkS w))))(hl:w.length≤100000)(q:Q' (decide (w=[]∨7<w.length∨(1<w.length/\w[0]?=some 48))) h):wp (tst (eOr (aj oEq (af 0) (eC (.str (ah "")))) (eOr (aj oGt (eUn bL (af 0)) (eC (.int 7))) (iE (aj oGt (eUn bL (af 0)) (eC (.int 1))) (aj oEq (aj oIx (af 0) (eC (.int 0))) (eC (.str (ah "0"))))))) σ) h Q' E:=by
 have ln:=dB w;have lo:(mkS w).length≤100000:=by lia
 simp only[bA,eV,zp,aQ,bN,aA,w_c,s0,yk,f6,gk,AI,ln];by_cases e0:w=[]
 ·subst e0;have:(mkS []=ah ""):=rfl;simpa[this] using q
 ·have n0:¬mkS w=ah "":=λz=>e0 (by rw[l9]at z;exact z);obtain⟨c,w',rfl⟩:=mM e0;have a0:atN (mkS (c::w')).cps.toList 0=some c:=by rw[cE];rfl
  simp only[a0,Fg (d:=48) (s:=ah "0") rfl];simp only[n0,decide_false,bd,if_false];refine⟨hl,?_⟩;by_cases e7:7<(c::w').length
  ·have:decide ((7:Int)<((c::w').length:Int))=true:=by simp only[decide_eq_true_eq];lia
   rw[this,if_pos rfl];rw[decide_eq_true (.inr (.inl e7))]at q;exact q
  ·have:decide ((7:Int)<((c::w').length:Int))=false:=by simp only[decide_eq_false_iff_not];lia
   rw[this];simp only[bd,if_false];refine⟨hl,?_⟩;by_cases e1:1<(c::w').length
   ·have:decide ((1:Int)<((c::w').length:Int))=true:=by simp only[decide_eq_true_eq];lia
    rw[this,if_pos rfl];refine⟨hl,?_⟩;have:decide (c=48)=decide (c::w'=[]∨7<(c::w').length∨(1<(c::w').length/\(c::w')[0]?=some 48)):=by
     by_cases e:c=48
     ·rw[decide_eq_true e,decide_eq_true (.inr (.inr ⟨e1,by rw[e];rfl⟩))]
     ·rw[decide_eq_false e,decide_eq_false];rintro(z|z|⟨_,z⟩)
      ·cases z
      ·exact e7 z
      ·exact e (by simpa using z)
    rw[this];exact q
   ·have:decide ((1:Int)<((c::w').length:Int))=false:=by simp only[decide_eq_false_iff_not];lia
    rw[this];simp only[bd,if_false];rw[decide_eq_false]at q
    ·exact q
    ·rintro(z|z|⟨z,_⟩)
     ·cases z
     ·exact e7 z
     ·exact e1 z
theorem uu{w:List Nat}(ne:w≠[])(hd:Digs w)(few:w.length≤640)(q:Q (.int (dval w)) h):wp (jA (.str (mkS w))) h Q E:=by
 refine zb (n:=((dval w:Nat):Int)) ?_ (by rw[dB];exact few) q;have:=PySem.intText_digits (x:=mkS w) (by rw[cE];exact hd.all) (by rw[cE];exact ne) (by rw[dB];lia);rw[cE]at this;exact this
open Classical in
theorem r8{w:List Nat}{most:Int}(ha:Asc w)(hl:w.length≤100000)(q:Q (.int (bu w most)) h):wp (kN [.str (mkS w),.int most]) h Q E:=by
 unfold kN;refine cF (by rfl) ?_;change wp (pc [some (.str (mkS w)),some (.int most),none]) _ _ _;unfold pc;refine jq (R:=λσ h'=>h=h'/\σ=[some (.str (mkS w)),some (.int most),none]/\¬(w=[]∨7<w.length∨(1<w.length/\w[0]?=some 48))) ?_ ?_
 ·rw[cN];refine BE rfl hl ?_;by_cases c1:w=[]∨7<w.length∨(1<w.length/\w[0]?=some 48)
  ·rw[decide_eq_true c1,if_pos rfl];simp only[cH,bN,w_c,jJ];refine .inr ⟨_,rfl,?_⟩;unfold bu at q;rw[if_pos c1]at q;exact q
  ·rw[decide_eq_false c1];simp only[bd,if_false,dl];exact .inl ⟨_,rfl,by trivial,by trivial,c1⟩
 rintro _ _ ⟨rfl,rfl,c1⟩;have ne:w≠[]:=λz=>c1 (.inl z);have l7:w.length≤7:=by
  have:¬7<w.length:=λz=>c1 (.inr (.inl z));lia
 refine jq (R:=λσ h'=>h=h'/\(∃u,σ=[some (.str (mkS w)),some (.int most),u])/\Digs w) ?_ ?_
 ·rw[ku];refine dv (rq (s:=mkS w) (df (by simp)) (ut ha)) ?_;rw[cE];refine ja (λk σ h'=>h=h'/\(∃u,σ=[some (.str (mkS w)),some (.int most),u])/\∀(j c:Nat),j<k->w[j]?=some c->48≤c/\c<58) (λ_ _ _ _=>rfl) (λk x σ h' hx J=>?_) (λσ h' J=>?_) ⟨rfl,⟨_,rfl⟩,λj c hj=>absurd hj (Nat.not_lt_zero _)⟩
  ·obtain⟨rfl,⟨u,rfl⟩,ok⟩:=J;rw[bX]at hx;cases ek:w[k]? with
   |none=>rw[ek]at hx;cases hx
   |some c=>
     rw[ek]at hx;cases hx;have hc:=ha c (dR ek);simp only[dI,iF,jr];rw[cN];simp only[bA,aQ,aA,w_c,yZ,vV c hc,aC,aE,Bool.not_not]
     by_cases d:48≤c/\c<58
     ·rw[decide_eq_true d];simp only[d3,bd,if_false,dl];refine⟨by trivial,⟨_,rfl⟩,λj e hj ej=>?_⟩;by_cases z:j=k
      ·subst z;rw[ek]at ej;cases ej;exact d
      ·exact ok j e (by lia) ej
     ·rw[decide_eq_false d];simp only[fQ,if_true,cH,bN,w_c,jJ];refine .inr ⟨_,rfl,?_⟩;unfold bu at q;rw[if_neg c1,if_neg (λz=>d (z c (dR ek)))]at q;exact q
  ·obtain⟨rfl,u,ok⟩:=J;refine .inl ⟨σ,rfl,rfl,u,λc hc=>?_⟩;obtain⟨j,ej⟩:=mX.mp hc;exact ok j c (by rw[bB];exact(bT.mp ej).1) ej
 rintro _ _ ⟨rfl,⟨u,rfl⟩,hd⟩;refine jq (R:=λσ h'=>h=h'/\σ=[some (.str (mkS w)),some (.int most),u]/\¬most<(dval w:Int)) ?_ ?_
 ·rw[cN,bA,aQ,bN,aA];refine uu ne hd (by lia) ?_;simp only[aA,aC,aE,gk];by_cases c2:most<(dval w:Int)
  ·rw[decide_eq_true c2,if_pos rfl];simp only[cH,bN,w_c,jJ];refine .inr ⟨_,rfl,?_⟩;unfold bu at q;rw[if_neg c1,if_pos hd,if_pos c2]at q;exact q
  ·rw[decide_eq_false c2];simp only[bd,if_false,dl];exact .inl ⟨_,rfl,by trivial,by trivial,c2⟩
 rintro _ _ ⟨rfl,rfl,c2⟩;rw[cH,bN,aA];refine uu ne hd (by lia) ?_;unfold bu at q;rw[if_neg c1,if_pos hd,if_neg c2]at q;exact q
noncomputable def iG:Option Rt->MV
 |none=>.non
 |some x=>x.row
theorem j9{α:Type}{l:List α}{n:Nat}(h:l.length=n+1):∃a r,l=a::r/\r.length=n:=by
 cases l with
 |nil=>cases h
 |cons a r=>exact⟨a,r,rfl,by simpa using h⟩
theorem seven{α:Type}{l:List α}(h:l.length=7):∃a b c d e f g,l=[a,b,c,d,e,f,g]:=by
 obtain⟨a,l1,rfl,h1⟩:=j9 h;obtain⟨b,l2,rfl,h2⟩:=j9 h1;obtain⟨c,l3,rfl,h3⟩:=j9 h2;obtain⟨d,l4,rfl,h4⟩:=j9 h3;obtain⟨e,l5,rfl,h5⟩:=j9 h4;obtain⟨f,l6,rfl,h6⟩:=j9 h5;obtain⟨g,l7,rfl,h7⟩:=j9 h6;exact⟨a,b,c,d,e,f,g,by rw[ud.mp h7]⟩
theorem at7{a b c d e f g:MV}:atN [a,b,c,d,e,f,g] 0=some a/\atN [a,b,c,d,e,f,g] 1=some b/\atN [a,b,c,d,e,f,g] 2=some c/\atN [a,b,c,d,e,f,g] 3=some d/\atN [a,b,c,d,e,f,g] 4=some e/\atN [a,b,c,d,e,f,g] 5=some f/\atN [a,b,c,d,e,f,g] 6=some g:=⟨rfl,rfl,rfl,rfl,rfl,rfl,rfl⟩
open Classical in
theorem vM{σ:MSt}{wd:Nat}{ws:List (List Nat)}{Q':Bool->MH->Prop}(s2:σ[2]?=some (some (.ref wd)))(g:h[wd]?=some (.lst (ws.map λx=>.str (mkS x))))(ha:∀w∈ws,Asc w)(q:∀h',Pre h h'->Q' (!decide (∃a p m d,ws=[a,chL "at",p,chL "wants",m,chL "since",d])) h') :
  wp (tst (eOr (aj oNe (eUn bL (af 2)) (eC (.int 7))) (aj oNe (eJ (ao (aj oIx (af 2) (eC (.int 1))) (ao (aj oIx (af 2) (eC (.int 3))) (ao (aj oIx (af 2) (eC (.int 5))) aD)))) (eJ (ao (eC (.str (ah "at"))) (ao (eC (.str (ah "wants"))) (ao (eC (.str (ah "since"))) aD)))))) σ) h Q' E:=by
 rw[bA,eV,bA,aQ,bN,aA,s2];simp only[gP,g,w_c,xb,bB];by_cases c7:ws.length=7
 ·have e7:decide ((ws.length:Int)=7)=true:=by simp only[decide_eq_true_eq];lia
  rw[e7];simp only[d3,bd,if_false];obtain⟨a,b,c,d,e,f,k,rfl⟩:=seven c7;simp only[aN,dQ]at g;obtain⟨_,w1,_,w3,_,w5,_⟩:=@at7 (.str (mkS a)) (.str (mkS b)) (.str (mkS c)) (.str (mkS d)) (.str (mkS e)) (.str (mkS f)) (.str (mkS k));simp only[aQ,jl,bo,bi,aA,s2,w_c,dm,g,w1,w3,w5];refine⟨by simp,by simp,?_⟩;refine yz (l:=[b,d,f]) (l':=[chL "at",chL "wants",chL "since"]) (eI bp) bp (λx hx=>ha x ?_) (λx hx=>?_) ?_
  ·simp only[bE,fG,or_false]at hx ⊢;rcases hx with rfl|rfl|rfl <;> simp
  ·simp only[bE,fG,or_false]at hx;rcases hx with rfl|rfl|rfl <;> decide
  ·have e:decide ([b,d,f]=[chL "at",chL "wants",chL "since"])=decide (∃a' p m d',[a,b,c,d,e,f,k]=[a',chL "at",p,chL "wants",m,chL "since",d']):=by
    by_cases z:[b,d,f]=[chL "at",chL "wants",chL "since"]
    ·rw[decide_eq_true z,decide_eq_true];simp only[List.cons.injEq,and_true]at z;obtain⟨rfl,rfl,rfl⟩:=z;exact⟨_,_,_,_,rfl⟩
    ·rw[decide_eq_false z,decide_eq_false];rintro⟨a',p,m,d',y⟩;simp only[List.cons.injEq,and_true]at y;exact z (by rw[y.2.1,y.2.2.2.1,y.2.2.2.2.2.1])
   rw[e];exact q _ ((Pre.app _).snoc _)
 ·have e7:decide ((ws.length:Int)=7)=false:=by simp only[decide_eq_false_iff_not];lia
  rw[e7];simp only[fQ,if_true];have:decide (∃a p m d,ws=[a,chL "at",p,chL "wants",m,chL "since",d])=false:=decide_eq_false λ⟨a,p,m,d,z⟩=>c7 (by rw[z];rfl);have:=this▸q h .refl;exact this
open Classical in
theorem C8{l:List Nat}{n:Nat}(ha:Asc l)(hl:l.length≤100000)(q:∀h',Pre h h'->Q (iG (dM l n)) h'):wp (pA [.str (mkS l),.int n]) h Q E:=by
 unfold pA;refine cF (by rfl) ?_;change wp (rQ [some (.str (mkS l)),some (.int n),none,none,none]) _ _ _;unfold rQ;have hw:∀w∈aJ 32 l,Asc w/\w.length≤100000:=λw hw=>⟨λc hc=>ha c ((fH 32 l w hw).1 c hc),bV (fH 32 l w hw).2 hl⟩;refine aL (R:=λσ h'=>∃wd,Pre h h'/\h'[wd]?=some (.lst ((aJ 32 l).map λx=>.str (mkS x)))/\σ=[some (.str (mkS l)),some (.int n),some (.ref wd),none,none]) ?_ ?_
 ·rw[bH];refine ir (c:=32) (s:=mkS l) (df (by simp)) rfl (by rw[dB];exact hl) (by decide) ?_;rw[cE];exact⟨_,rfl,h.length,Pre.app _,bp,rfl⟩
 rintro _ h1 ⟨wd,p1,gw,rfl⟩;refine jq (R:=λσ h'=>Pre h1 h'/\(∃a p m d,aJ 32 l=[a,chL "at",p,chL "wants",m,chL "since",d])/\σ=[some (.str (mkS l)),some (.int n),some (.ref wd),none,none]) ?_ ?_
 ·rw[cN];refine vM rfl gw (λw hx=>(hw w hx).1) λh2 p2=>?_;by_cases c:∃a p m d,aJ 32 l=[a,chL "at",p,chL "wants",m,chL "since",d]
  ·rw[decide_eq_true c];simp only[d3,bd,if_false,dl];exact .inl ⟨_,rfl,p2,c,rfl⟩
  ·rw[decide_eq_false c];simp only[fQ,if_true,cH,w_c];have:=q h2 (p1.trans p2);rw[ug (λx ⟨a,p,m,d,e,_⟩=>c ⟨a,p,m,d,e⟩)]at this;exact .inr ⟨_,rfl,this⟩
 rintro _ h2 ⟨p2,⟨a,p,m,d,es⟩,rfl⟩;have gw2:=p2.get gw;rw[es]at gw2 hw;simp only[aN,dQ]at gw2;obtain⟨w0,_,w2,_,w4,_,w6⟩:=@at7 (.str (mkS a)) (.str (mkS (chL "at"))) (.str (mkS p)) (.str (mkS (chL "wants"))) (.str (mkS m)) (.str (mkS (chL "since"))) (.str (mkS d));obtain⟨ha1,ha2⟩:=hw a (by simp);obtain⟨hp1,hp2⟩:=hw p (by simp);obtain⟨hm1,hm2⟩:=hw m (by simp);obtain⟨hd1,hd2⟩:=hw d (by simp);refine aL (R:=λσ h'=>h2=h'/\σ=[some (.str (mkS l)),some (.int n),some (.ref wd),some (.str (mkS a)),none]) ?_ ?_
 ·simp only[bH,aQ,aA,w_c,dm,gw2,w0,aC,aE];exact⟨_,rfl,by trivial,by trivial⟩
 rintro _ _ ⟨rfl,rfl⟩;have P2:=p1.trans p2;refine jq (R:=λσ h'=>Pre h2 h'/\Word a/\σ=[some (.str (mkS l)),some (.int n),some (.ref wd),some (.str (mkS a)),none]) ?_ ?_
 ·rw[cN,bA,eV,bA,w_not,bA,CB];simp only[w_c,bN,aA,aC,aE,f6,E8,dB];refine⟨ha2,?_⟩;have non:¬Word a->∀h',Pre h2 h'->Q (iG none) h':=λc h' p'=>by
   have:=q h' (P2.trans p');rw[ug (λx ⟨a',p',m',d',e,w,_⟩=>c (by rw[es]at e;cases e;exact w))]at this;exact this
  by_cases c1:1≤a.length
  ·have e1:decide ((1:Int)≤(a.length:Int))=true:=by simp only[decide_eq_true_eq];lia
   rw[e1];simp only[if_true];by_cases c8:a.length≤8
   ·have e8:decide ((a.length:Int)≤8)=true:=by simp only[decide_eq_true_eq];lia
    rw[e8];simp only[d3,bd,if_false];rw[aQ,bN];refine gR (h1:=h2) a (λc=>[.str ⟨#[c]⟩]) (λc=>!decide (97≤c/\c<123)) (λc=>.str ⟨#[c]⟩) (by rw[rq (s:=mkS a) (df (by simp)) (ut ha1),cE]) rfl (λh' p'=>rfl) (by lia) (λx hx h3 p3=>?_) (λx hx _ h3 p3=>?_) λh3 p3=>?_
    ·show wp (tst _ _) _ _ _;have hc:=ha1 x hx;simp only[bA,aQ,aA,w_c,yZ,xw x hc,aN,dQ,iz,fJ,aC,aE,Bool.not_not];exact⟨by trivial,.refl⟩
    ·simp[Pre.refl]
    ·rw[gP,bp];simp only[w_c,gk,bB];by_cases cl:∀c∈a,97≤c/\c<123
     ·have:a.filter (λc=>!decide (97≤c/\c<123))=[]:=by
       rw[List.filter_eq_nil_iff];intro c hc;simp only[uq,decide_eq_false_iff_not];exact λz=>z (cl c hc)
      rw[this,if_neg (by decide)];simp only[dl];exact .inl ⟨_,rfl,p3.snoc _,⟨c1,c8,cl⟩,rfl⟩
     ·have:decide ((0:Int)<((a.filter (λc=>!decide (97≤c/\c<123))).length:Int))=true:=by
       simp only[decide_eq_true_eq];have:0<(a.filter (λc=>!decide (97≤c/\c<123))).length:=by
        rw[lm];intro z;rw[List.filter_eq_nil_iff]at z;refine cl λc hc=>?_;have:=z c hc;simp only[uq,decide_eq_false_iff_not,o0]at this;exact this
       lia
      rw[this];simp only[if_true,cH,w_c];exact .inr ⟨_,rfl,non (λw=>cl w.2.2) _ (p3.snoc _)⟩
   ·have e8:decide ((a.length:Int)≤8)=false:=by simp only[decide_eq_false_iff_not];lia
    rw[e8];simp only[fQ,if_true,cH,w_c];exact .inr ⟨_,rfl,non (λw=>c8 w.2.1) _ .refl⟩
  ·have e1:decide ((1:Int)≤(a.length:Int))=false:=by simp only[decide_eq_false_iff_not];lia
   rw[e1];simp only[bd,if_false,fQ,if_true,cH,w_c];exact .inr ⟨_,rfl,non (λw=>c1 w.1) _ .refl⟩
 rintro _ h3 ⟨p3,wa,rfl⟩;have gw3:=p3.get gw2;have P3:=P2.trans p3;refine aL (R:=λσ h'=>h3=h'/\σ=[some (.str (mkS l)),some (.int n),some (.ref wd),some (.str (mkS a)),some (.tup [.str (mkS a),.int (bu p ((n:Int)-1)),.int (bu m 1000000),.int (bu d 9999)])]) ?_ ?_
 ·simp only[bH,Fz,bo,bi,cy,aQ,aA,w_c,dm,gw3,w2,sU,aC,aE];refine r8 hp1 hp2 ?_;simp only[gw3,w4];refine r8 hm1 hm2 ?_;simp only[gw3,w6];refine r8 hd1 hd2 ?_;exact⟨by simp,_,rfl,by trivial,by trivial⟩
 rintro _ _ ⟨rfl,rfl⟩;have iM:inM (.int (-1)) [.str (mkS a),.int (bu p ((n:Int)-1)),.int (bu m 1000000),.int (bu d 9999)]=decide (bu p ((n:Int)-1)=-1∨bu m 1000000=-1∨bu d 9999=-1):=by
  simp only[inM,j0,List.any_nil,eqM,qE,Bool.false_or];by_cases z1:bu p ((n:Int)-1)=-1 <;> by_cases z2:bu m 1000000=-1 <;> by_cases z3:bu d 9999=-1 <;> simp[z1,z2,z3]
 by_cases c:bu p ((n:Int)-1)=-1∨bu m 1000000=-1∨bu d 9999=-1
 ·refine wS ?_;rw [cN,bA,aQ,bN];simp only [w_c,jJ,aA,aC,aE];refine xE rfl rfl ?_;rw [iM,decide_eq_true c];simp only [if_true,cH,w_c];refine ⟨_,rfl,?_⟩;have:=q h3 P3;rw [ug (λx ⟨a',p',m',d',e,w,y1,y2,y3,_⟩=>by
   rw [es] at e;simp only [List.cons.injEq,true_and,and_true] at e;obtain ⟨rfl,rfl,rfl,rfl⟩:=e;lia)] at this
  exact this
 ·refine aL (R:=λσ h'=>h3=h'/\σ=[some (.str (mkS l)),some (.int n),some (.ref wd),some (.str (mkS a)),some (.tup [.str (mkS a),.int (bu p ((n:Int)-1)),.int (bu m 1000000),.int (bu d 9999)])]) ?_ ?_
  ·rw[cN,bA,aQ,bN];simp only[w_c,jJ,aA,aC,aE];refine xE rfl rfl ?_;rw[iM,decide_eq_false c];simp only[bd,if_false,dl];exact⟨_,rfl,by trivial,by trivial⟩
  rintro _ _ ⟨rfl,rfl⟩;simp only[cH,aA,aC,aE];have y1:0≤bu p ((n:Int)-1):=o0.mp λz=>c (.inl (tG z));have y2:0≤bu m 1000000:=o0.mp λz=>c (.inr (.inl (tG z)));have y3:0≤bu d 9999:=o0.mp λz=>c (.inr (.inr (tG z)));have:=q h3 P3;rw[wG ⟨a,p,m,d,es,wa,y1,y2,y3,rfl⟩]at this;simp only[iG,Rt.row,uJ y1]at this;exact this
end
section
variable {h:MH}{Q:MV->MH->Prop}{E:Nat->MH->Prop}
theorem DK{α:Type}(xs:List α):fk xs none (some 2)=xs.take 2:=by
 unfold fk;have e1:d4 xs.length 0 none=0:=rfl;have e2:d4 xs.length xs.length (some 2)=min 2 xs.length:=by simp[d4]
 rw[e1,e2];simp only[pY,Nat.sub_zero];rw[List.take_eq_take_iff];simp
open Classical in
theorem C5(x y:Rt):PySem.PyData.eqv x.data y.data=decide (x=y):=by
 rw[Gz];by_cases e:x=y
 ·rw[decide_eq_true e,decide_eq_true];rw[e];exact⟨rfl,rfl,rfl,rfl⟩
 ·rw[decide_eq_false e,decide_eq_false];rintro⟨z1,z2,z3,z4⟩;obtain⟨a,b,c,d⟩:=x;obtain⟨a',b',c',d'⟩:=y;exact e (by simp only at z1 z2 z3 z4;rw[z1,z3,z4,Int.ofNat.inj z2])
open Classical in
theorem w9{h:MH}:∀(os:List (Option Rt)),(∀x,some x∈os->PySem.PyData.strOk x.nm=true)->gv h .none (os.map iG)=some (decide (none∈os))
 |[],_=>by simp[gv]
 |none::os,_=>by
   have:PySem.SeqAt.shaped .none=true:=by decide
   simp[gv,iG,dat,this,PySem.PyData.eqv]
 |some x::os,k=>by
   have ih:=w9 (h:=h) os λy hy=>k y (cS _ hy);have d:=wk h 5 x;have sh:=Cq (k x dn);unfold Rt.data at sh;rw[aN];unfold gv;have d':dat h 6 (iG (some x))=_:=d;rw[d'];dsimp only;rw[if_pos sh,if_neg (by simp[PySem.PyData.eqv]),ih];simp
open Classical in
theorem wg{t:List Nat}(ha:Asc t)(hl:t.length≤90000)(qt:iq (mkS t)->∀h',Pre h h'->Q (.bl true) h')(qf:¬iq (mkS t)->∀h',Pre h h'->Q (.bl false) h'):wp (rA [.str (mkS t)]) h Q E:=by
 unfold rA;refine cF (by rfl) ?_;change wp (rO [some (.str (mkS t)),none,none,none,none,none]) _ _ _;unfold rO;obtain⟨l0,lr,es⟩:∃l0 lr,aJ 10 t=l0::lr:=mM (jB 10 t);have hL:∀l∈l0::lr,Asc l/\l.length≤90000:=λl hx=>by
  rw[←es]at hx;exact⟨λc hc=>ha c ((fH 10 t l hx).1 c hc),bV (fH 10 t l hx).2 hl⟩
 have llr:lr.length≤90000:=by
  have:=sG 10 t;rw[es]at this;simp only[cr]at this;lia
 have hW:∀w∈aJ 32 l0,Asc w/\w.length≤90000:=λw hx=>⟨λc hc=>(hL l0 (by simp)).1 c ((fH 32 l0 w hx).1 c hc),bV (fH 32 l0 w hx).2 (hL l0 (by simp)).2⟩
 refine aL (R:=λσ h'=>∃ld,Pre h h'/\h'[ld]?=some (.lst ((l0::lr).map λx=>.str (mkS x)))/\σ=[some (.str (mkS t)),some (.ref ld),none,none,none,none]) ?_ ?_
 ·rw[bH];refine ir (c:=10) (s:=mkS t) (df (by simp)) rfl (by rw[dB];lia) (by decide) ?_;rw[cE,es];exact⟨_,rfl,h.length,Pre.app _,bp,rfl⟩
 rintro _ h1 ⟨ld,p1,gl,rfl⟩;have x0:atN ((l0::lr).map λx=>MV.str (mkS x)) 0=some (.str (mkS l0)):=rfl;refine aL (R:=λσ h'=>∃wd,Pre h1 h'/\h'[wd]?=some (.lst ((aJ 32 l0).map λx=>.str (mkS x)))/\σ=[some (.str (mkS t)),some (.ref ld),some (.ref wd),none,none,none]) ?_ ?_
 ·rw[bH];refine ir (c:=32) (s:=mkS l0) (df (by simp only[aQ,aA,w_c,dm,gl,x0,aC,aE];trivial)) rfl (by rw[dB];have:=(hL l0 (by simp)).2;lia) (by decide) ?_;rw[cE];exact⟨_,rfl,h1.length,Pre.app _,bp,rfl⟩
 rintro _ h2 ⟨wd,p2,gw,rfl⟩;have P2:=p1.trans p2;generalize hws:aJ 32 l0=ws at gw hW;have c0:iq (mkS t)->∃b A,rM b A/\ws=chL "river"::chL "-"::b.map (λ(p:Nat)=>(txt p).cps.toList)/\lr=A.map (λx=>(bf x).cps.toList)/\∀x∈A,dM (bf x).cps.toList (b.length+1)=some x:=λg=>by
  obtain⟨b,A,k,e1,e2,e3⟩:=EG g;rw[es]at e1;simp only[List.cons.injEq]at e1;refine⟨b,A,k,?_,e1.2,e3⟩;rw[←hws,e1.1,e2]
 refine jq (R:=λσ h'=>Pre h2 h'/\(∃rest,ws=chL "river"::chL "-"::rest/\rest.length<40)/\σ=[some (.str (mkS t)),some (.ref ld),some (.ref wd),none,none,none]) ?_ ?_
 ·rw[cN,bA,eV,bA,aQ];simp only[jv,aA,jc,jD,w_c,kD,gw,jl,bo,bi,aC,aE];refine⟨by simp,?_⟩;rw[DK,←List.map_take];refine yz (l:=ws.take 2) (l':=[chL "river",chL "-"]) (eI bp) bp (λx hx=>(hW x (tX hx)).1) (λx hx=>?_) ?_
  ·simp only[bE,fG,or_false]at hx;rcases hx with rfl|rfl <;> decide
  by_cases c1:ws.take 2=[chL "river",chL "-"]
  ·rw[decide_eq_true c1];simp only[d3,bd,if_false];rw[aQ,bN,aA];simp only[aC,aE,gP,eI (eI gw),w_c,gk,bB];obtain⟨rest,er⟩:∃rest,ws=chL "river"::chL "-"::rest:=⟨ws.drop 2,(List.take_append_drop 2 ws).symm.trans (by rw[c1];rfl)⟩
   by_cases c2:ws.length≤41
   ·have:decide ((41:Int)<(ws.length:Int))=false:=by simp only[decide_eq_false_iff_not];lia
    rw[this];simp only[bd,if_false,dl];refine .inl ⟨_,rfl,(Pre.app _).snoc _,⟨rest,er,?_⟩,rfl⟩;rw[er]at c2;simp only[cr]at c2;lia
   ·have:decide ((41:Int)<(ws.length:Int))=true:=by simp only[decide_eq_true_eq];lia
    rw[this];simp only[if_true,cH,w_c];refine .inr ⟨_,rfl,qf (λg=>?_) _ (P2.trans ((Pre.app _).snoc _))⟩;obtain⟨b,A,k,e1,_⟩:=c0 g;refine c2 ?_;rw[e1];simp only[cr,bB];have:=k.2.1;lia
  ·rw[decide_eq_false c1];simp only[fQ,if_true,cH,w_c];refine .inr ⟨_,rfl,qf (λg=>c1 ?_) _ (P2.trans ((Pre.app _).snoc _))⟩;obtain⟨b,A,k,e1,_⟩:=c0 g;rw[e1];rfl
 rintro _ h3 ⟨p3,⟨rest,er,few⟩,rfl⟩;have gw3:=p3.get gw;have gl3:=p3.get (p2.get gl);have P3:=P2.trans p3;have lw:ws.length=rest.length+2:=by rw[er];simp
 refine jq (R:=λσ h'=>h3=h'/\(∀(k:Nat) (w:List Nat),rest[k]?=some w->0≤bu w (k:Int))/\∃u,σ=[some (.str (mkS t)),some (.ref ld),some (.ref wd),u,none,none]) ?_ ?_
 ·rw[ku];refine dv (xT (n:=rest.length) (i:=2) (j:=(ws.length:Int)) (df (by simp)) (df (by simp[gw3])) ⟨by decide,by decide⟩ ⟨by lia,by lia⟩ (by lia)) ?_;refine ja (λk σ h'=>h3=h'/\(∀(j:Nat) (w:List Nat),j<k->rest[j]?=some w->0≤bu w (j:Int))/\∃u,σ=[some (.str (mkS t)),some (.ref ld),some (.ref wd),u,none,none]) (λ_ _ _ _=>rfl) (λk x σ h' hx J=>?_) (λσ h' J=>?_) ⟨rfl,λj w hj=>absurd hj (Nat.not_lt_zero _),_,rfl⟩
  ·obtain⟨rfl,ok,u,rfl⟩:=J;have hk:k<rest.length:=by
    have:=(bT.mp hx).1
    rwa [iw]at this
   rw[pM hk]at hx;cases hx;obtain⟨w,ew⟩:∃w,rest[k]?=some w:=⟨_,oq hk⟩;have hw:=hW w (by rw[er];simp[dR ew])
   have g1:atN (ws.map λx=>MV.str (mkS x)) (2+(k:Int))=some (.str (mkS w)):=by
    rw[show(2+(k:Int))=((k+2:Nat):Int) by lia,ig,bX,er,aE,aE,ew];rfl
   have e2:(2+(k:Int))-2=(k:Int):=by lia
   simp only[dI,iF,jr];rw[cN,bA,aQ,cy];simp only[bo,bi,aQ,aA,w_c,dm,gw3,g1,sU,e2,aC,aE];refine r8 hw.1 (by lia) ?_;simp only[w_c,w_lt];by_cases c:0≤bu w (k:Int)
   ·have:decide (bu w (k:Int)<0)=false:=by simp only[decide_eq_false_iff_not];lia
    rw[this];simp only[bd,if_false,dl];refine⟨by trivial,λj w' hj ej=>?_,_,rfl⟩;by_cases z:j=k
    ·subst z;rw[ew]at ej;cases ej;exact c
    ·exact ok j w' (by lia) ej
   ·have:decide (bu w (k:Int)<0)=true:=by simp only[decide_eq_true_eq];lia
    rw[this];simp only[if_true,cH,w_c];refine .inr ⟨_,rfl,qf (λg=>c ?_) _ P3⟩;obtain⟨b,A,kk,e1,_⟩:=c0 g;rw[er]at e1;simp only[List.cons.injEq,true_and]at e1;rw[e1,bX]at ew;cases eb:b[k]? with
    |none=>rw[eb]at ew;cases ew
    |some p=>
      rw[eb]at ew;cases ew;have hp:=kk.1 k p eb;have:=(bT.mp eb).1;have:=kk.2.1;rw[rW (by lia) (by lia) (by lia)]
      lia
  ·obtain⟨rfl,ok,u,rfl⟩:=J;refine .inl ⟨_,rfl,rfl,λk w ew=>ok k w ?_ ew,u,rfl⟩;rw[iw];exact(bT.mp ew).1
 rintro _ _ ⟨rfl,hr,u,rfl⟩;obtain⟨wf,er0⟩:=Ed (ws:=ws) (rest:=rest) (l:=l0) (by rw[hws,er]) hr;have nW:((ws.length:Int)-1)=((rest.length+1:Nat):Int):=by lia
 refine aL (R:=λσ h'=>∃rd,Pre h3 h'/\h'[rd]?=some (.lst ((lr.map λl=>dM l (rest.length+1)).map iG))/\σ=[some (.str (mkS t)),some (.ref ld),some (.ref wd),u,some (.ref rd),none]) ?_ ?_
 ·rw[bH];have ct:fk ((l0::lr).map λx=>MV.str (mkS x)) (some 1) none=lr.map λx=>.str (mkS x):=by rw[nv];rfl
  have e1:du (eSl (af 1) (some (eC (.int 1))) none) [some (.str (mkS t)),some (.ref ld),some (.ref wd),u,none,none] h3=.ok ⟨(lr.map λx=>MV.str (mkS x)).map λv=>[v],[(h3.length,lr.map λx=>MV.str (mkS x))]⟩ (h3++[.lst (lr.map λx=>MV.str (mkS x))]):=by
   refine gj (df ?_) bp;simp only[jv,aA,jc,jD,w_c,kD,gl3,ct,aC,aE]
   first|exact⟨trivial,rfl⟩|exact⟨trivial,trivial⟩|exact⟨rfl,rfl⟩
  refine gR lr (λl=>[.str (mkS l)]) (λ_=>true) (λl=>iG (dM l (rest.length+1))) e1 (by simp) (λh' p=>gu (p.get bp)) (by lia) (λv hv h5 p5=>?_) (λv hv _ h5 p5=>?_) λh5 p5=>?_
  ·simp[eE,aZ,Pre.refl]
  ·have gw5:=p5.get (eI (g:=[MO.lst (lr.map λx=>MV.str (mkS x))]) gw3);have hv':=hL v (by simp[hv]);simp only[aN,dQ,iz,fJ,cy,bo,bi,aQ,bN,aA,w_c,gP,gw5,sU,bB,nW,aC,aE];exact C8 hv'.1 (by lia) λh' p=>⟨rfl,p⟩
  ·rw[ik];refine⟨_,rfl,h5.length,((Pre.app _).trans p5).snoc _,?_,rfl⟩;rw[bp,cb];rfl
 rintro _ h4 ⟨rd,p4,gr,rfl⟩;have P4:=P3.trans p4;have n1:1≤rest.length+1:=by lia
 have n41:rest.length+1≤41:=by lia
 have sk:∀x,some x∈lr.map (λl=>dM l (rest.length+1))->PySem.PyData.strOk x.nm=true:=λx hx=>by
  obtain⟨l,hl,e⟩:=cx.mp hx;obtain⟨_,⟨⟨_,_,hc⟩,_⟩,_⟩:=(we e).line n1 n41;have:x.nm=mkS x.nm.cps.toList:=(ky _).symm;rw[this];exact tF λc h=>by have:=hc c h;lia
 refine jq (R:=λσ h'=>h4=h'/\(∀l∈lr,dM l (rest.length+1)≠none)/\lr.length≤40/\σ=[some (.str (mkS t)),some (.ref ld),some (.ref wd),u,some (.ref rd),none]) ?_ ?_
 ·rw[cN,bA,eV,bA,aQ];simp only[w_c,aA,aC,aE];have ei:mT .non (.ref rd) h4=.ok (.bl (decide (none∈lr.map λl=>dM l (rest.length+1)))) h4:=by
   unfold mT;dsimp only;rw[gr];dsimp only;have:dat h4 6 .non=some .none:=rfl;rw[this];dsimp only;rw[if_pos (by decide),w9 _ sk]
  refine dv ei ?_;dsimp only;by_cases c:none∈lr.map λl=>dM l (rest.length+1)
  ·rw[decide_eq_true c];simp only[if_true,cH,w_c];refine .inr ⟨_,rfl,qf (λg=>?_) _ P4⟩;obtain⟨b,A,k,e1,e2,e3⟩:=c0 g;rw[er]at e1;simp only[List.cons.injEq,true_and]at e1;have lb:rest.length=b.length:=by rw[e1];simp
   obtain⟨l,hl,e⟩:=cx.mp c;rw[e2]at hl;obtain⟨x,hx,rfl⟩:=cx.mp hl;rw[lb,e3 x hx]at e;cases e
  ·rw[decide_eq_false c];simp only[bd,if_false];rw[aQ,bN,aA];simp only[aC,aE,gP,gr,w_c,gk,bB];have ok:∀l∈lr,dM l (rest.length+1)≠none:=λl hl z=>c (cx.mpr ⟨l,hl,z⟩);by_cases c2:lr.length≤40
   ·have:decide ((40:Int)<(lr.length:Int))=false:=by simp only[decide_eq_false_iff_not];lia
    rw[this];simp only[bd,if_false,dl];exact .inl ⟨_,rfl,by trivial,ok,c2,by trivial⟩
   ·have:decide ((40:Int)<(lr.length:Int))=true:=by simp only[decide_eq_true_eq];lia
    rw[this];simp only[if_true,cH,w_c];refine .inr ⟨_,rfl,qf (λg=>c2 ?_) _ P4⟩;obtain⟨b,A,k,e1,e2,e3⟩:=c0 g;rw[e2,bB];exact k.2.2.2.2.1
 rintro _ _ ⟨rfl,ok,l40,rfl⟩;obtain⟨A,eA,eL,hA⟩:=zH n1 n41 lr ok;have lA:A.length=lr.length:=by
  have:=congrArg eF eL;simpa using this.symm
 have eR:(lr.map λl=>dM l (rest.length+1)).map iG=A.map Rt.row:=by rw[eA,cb];rfl
 rw[eR]at gr;have okA:∀x∈A,PySem.PyData.strOk x.nm=true:=λx hx=>sk x (by rw[eA];exact cx.mpr ⟨x,hx,rfl⟩);refine aL (R:=λσ h'=>∃nd,Pre h4 h'/\h'[nd]?=some (.lst ((A.map λx=>x.nm).map .str))/\σ=[some (.str (mkS t)),some (.ref ld),some (.ref wd),u,some (.ref rd),some (.ref nd)]) ?_ ?_
 ·rw[bH];have e1:du (af 4) [some (.str (mkS t)),some (.ref ld),some (.ref wd),u,some (.ref rd),none] h4=.ok ⟨(A.map Rt.row).map λv=>[v],[(rd,A.map Rt.row)]⟩ h4:=gj (df (by simp)) gr;have r0:∀x:Rt,∃ys,x.row=.tup ys/\atN ys 0=some (.str x.nm):=λx=>⟨_,rfl,rfl⟩;refine gR A (λx=>[x.row]) (λ_=>true) (λx=>.str x.nm) e1 (by simp) (λh' p=>gu (p.get gr)) (by lia) (λv hv h5 p5=>?_) (λv hv _ h5 p5=>?_) λh5 p5=>?_
  ·simp[eE,aZ,Pre.refl]
  ·obtain⟨ys,ey,e0⟩:=r0 v;simp only[aN,dQ,iz,fJ,aQ,aA,w_c,aC,aE,ey,uY,e0];exact⟨by trivial,.refl⟩
  ·rw[ik];refine⟨_,rfl,h5.length,p5.snoc _,?_,rfl⟩;rw[bp,cb];rfl
 rintro _ h5 ⟨nd,p5,gn,rfl⟩;have P5:=P4.trans p5;have gr5:=p5.get gr;rw[cH,zp,bA,aQ,bN,aA];simp only[aC,aE];refine Ea gn (by simp;lia) ?_;simp only[bN,aA,gP,gn,lO,bB,aC,aE];have nd0:=uh (A.map λx=>x.nm) [] List.nodup_nil;simp only[jZ,Nat.zero_add,fJ,bB]at nd0;have bk:Names A->aged A=A->iq (mkS t):=λnA sA=>EZ es er0 eL ⟨wf,by simpa using few,λx hx=>⟨(hA x hx).1,by simpa using(hA x hx).2⟩,nA,by lia,sA⟩;have back:iq (mkS t)->Names A/\aged A=A:=λg=>by
  obtain⟨b,A',k,e1,e2,e3⟩:=c0 g;rw[er]at e1;simp only[List.cons.injEq,true_and]at e1;have lb:rest.length=b.length:=by rw[e1];simp
  have:A=A':=by
   have ez:A.map some=A'.map some:=by
    rw[←eA,e2,cb];refine fZ λx hx=>?_;show dM (bf x).cps.toList (rest.length+1)=some x;rw[lb];exact e3 x hx
   have:=congrArg (List.filterMap id) ez;simpa[List.filterMap_map] using this
  rw[this];exact⟨k.2.2.2.1,k.2.2.2.2.2⟩
 by_cases nA:Names A
 ·have:decide (((((A.map λx=>x.nm).foldl dZ []).length:Nat):Int)=(A.length:Int))=true:=by
   simp only[decide_eq_true_eq];have:=nd0.2.mpr nA;lia
  rw[this];simp only[if_true];rw[aQ,aA];simp only[cy,bo,bi,aA,aC,aE];refine xO gr5 nA (by lia) λh6 p6=>?_;have p7:=p6.snoc (MO.lst ((aged A).map Rt.row));have pm:=i5 nA (by lia:A.length<64);refine ER (f:=Rt.row) (g:=Rt.data) C5 (p7.get gr5) bp (λx=>wk _ 4 x) (λx hx=>?_) (λx=>by simp[Rt.data,PySem.PyData.depth,PySem.PyData.depthAll]) ?_
  ·have:x∈A:=by
    rcases hx with hx|hx
    ·exact hx
    ·exact pm.mem_iff.mp hx
   simp[Rt.data,PySem.PyData.canLay0,PySem.PyData.canLayAll0,okA x this]
  by_cases sA:A=aged A
  ·rw[decide_eq_true sA];exact qt (bk nA sA.symm) _ (P5.trans p7)
  ·rw[decide_eq_false sA];exact qf (λg=>sA (back g).2.symm) _ (P5.trans p7)
 ·have:decide (((((A.map λx=>x.nm).foldl dZ []).length:Nat):Int)=(A.length:Int))=false:=by
   simp only[decide_eq_false_iff_not];intro z;exact nA (nd0.2.mp (by lia))
  rw[this];simp only[bd,if_false];exact qf (λg=>nA (back g).1) _ P5
end
section
variable {h:MH}{Q:MV->MH->Prop}{E:Nat->MH->Prop}
theorem xo{σ:MSt}{v n:Nat}{l:List Nat}{T:Str}{P:Nat->Bool}(sv:σ[v]?=some (some (.str (mkS l))))(sl:σ.length=n)(ha:Asc l)(hT:∀c,c<128->(PySem.Builtin.Str.occurrences T ⟨#[c]⟩ 0 T.length 1).isEmpty=!P c)(few:l.length≤100000)(q:∀h',Pre h h'->Q (.bl (l.all P)) h') :
  wp (eUn kB (cZ (i6 (af v)) none (aj kY (af n) (eC (.str T)))) σ) h Q E:=by
 rw[bN];have e1:(af v) σ h=.ok (.str (mkS l)) h:=df (by simp[sv]);refine gR (h1:=h) l (λc=>[.str ⟨#[c]⟩]) (λ_=>true) (λc=>.bl (P c)) (by rw[rq e1 (ut ha),cE]) rfl (λh' p'=>rfl) few (λx _ h2 p2=>?_) (λx hx _ h2 p2=>?_) λh2 p2=>?_
 ·simp[eE,aZ,Pre.refl]
 ·have en:(σ++[some (.str ⟨#[x]⟩)])[n]?=some (some (.str ⟨#[x]⟩)):=by rw[ic (by lia),sl];simp
  simp only[aN,dQ,aQ,aA,en,w_c,y8,hT x (ha x hx),Bool.not_not];exact⟨by trivial,.refl⟩
 ·rw[ik];have eb:(l.map λc=>MV.bl (P c))=(l.map P).map MV.bl:=by rw[cb];rfl
  rw[eb];refine zJ bp ?_;have:(l.map P).all id=l.all P:=by rw[List.all_map];rfl
  rw[this];exact q _ (p2.snoc _)
theorem q0{w:List Nat}{most:Int}(ha:Asc w)(hl:w.length≤100000)(hm:most=40∨most=1000000∨most=9999)(qx:∀h',Pre h h'->E 212 h')(q:∀(n:Nat) h',(n:Int)≤most->Pre h h'->Q (.int n) h'):wp (iU [.str (mkS w),.int most]) h Q E:=by
 have ln:=dB w;have l10:(ah (toString most)).length≤10/\most.natAbs.log2<1000:=by
  rcases hm with rfl|rfl|rfl <;> exact⟨by decide,by decide⟩
 have lo2:(ah (toString most)).length≤100000:=by lia
 unfold iU;refine cF (by rfl) ?_;change wp (le [some (.str (mkS w)),some (.int most),none]) _ _ _;unfold le;refine aL (R:=λσ h'=>Pre h h'/\w≠[]/\w.length≤10/\Digs w/\σ=[some (.str (mkS w)),some (.int most),none]) ?_ ?_
 ·rw[cN,bA,eV,bA,aQ,bN,aA];simp only[aC];rw[f6,ln];refine⟨hl,?_⟩;rw[w_c,w_lt];by_cases c1:(w.length:Int)<1
  ·rw[decide_eq_true c1];simp only[if_true,gG,bo,bi,w_c];exact⟨by simp,qx h .refl⟩
  rw[decide_eq_false c1];simp only[bd,if_false];rw[eV,bA,aQ,bN,aA];simp only[aC];rw[f6,ln];refine⟨hl,?_⟩;rw[bN,bN,aA];simp only[aC,aE];rw[rz];refine⟨l10.2,?_⟩;rw[f6];refine⟨lo2,?_⟩;rw[gk];by_cases c2:((ah (toString most)).length:Int)<(w.length:Int)
  ·rw[decide_eq_true c2];simp only[if_true,gG,bo,bi,w_c];exact⟨by simp,qx h .refl⟩
  rw[decide_eq_false c2];simp only[bd,if_false];rw[w_not,bA];refine xo (v:=0) (P:=λc=>decide (48≤c/\c<58)) rfl rfl ha vV hl λh' p=>?_;by_cases c3:Digs w
  ·have:w.all (λc=>decide (48≤c/\c<58))=true:=eY.mpr λc hc=>decide_eq_true (c3 c hc);rw[this];simp only[d3,bd,if_false,dl];exact⟨_,rfl,p,λz=>c1 (by rw[z];decide),by lia,c3,rfl⟩
  ·have:w.all (λc=>decide (48≤c/\c<58))=false:=by
    rw[nZ];exact λz=>c3 λc hc=>of_decide_eq_true (eY.mp z c hc)
   rw[this];simp only[fQ,if_true,gG,bo,bi,w_c];exact⟨by simp,qx h' p⟩
 rintro _ h1 ⟨p1,ne,l10,hd,rfl⟩;refine aL (R:=λσ h'=>h1=h'/\σ=[some (.str (mkS w)),some (.int most),some (.int (dval w))]) ?_ ?_
 ·rw[bH,bN,aA];exact uu ne hd (by lia) ⟨_,rfl,by trivial,by trivial⟩
 rintro _ _ ⟨rfl,rfl⟩;refine aL (R:=λσ h'=>h1=h'/\(dval w:Int)≤most/\σ=[some (.str (mkS w)),some (.int most),some (.int (dval w))]) ?_ ?_
 ·rw[cN,bA,aQ,aA];simp only[aA,aC,aE,gk];by_cases c:most<(dval w:Int)
  ·rw[decide_eq_true c];simp only[if_true,gG,bo,bi,w_c];exact⟨by simp,qx h1 p1⟩
  ·rw[decide_eq_false c];simp only[bd,if_false,dl];exact⟨_,rfl,by trivial,by lia,by trivial⟩
 rintro _ _ ⟨rfl,hm,rfl⟩;simp only[cH,aA,aC,aE];exact q _ h1 hm p1
theorem Ds{a:List Nat}(ha:Asc a)(hl:a.length≤100000)(qx:∀h',Pre h h'->E 212 h')(q:∀h',Word a->Pre h h'->Q (.str (mkS a)) h'):wp (lQ [.str (mkS a)]) h Q E:=by
 have ln:=dB a;unfold lQ;refine cF (by rfl) ?_;change wp (k8 [some (.str (mkS a))]) _ _ _;unfold k8;refine aL (R:=λσ h'=>Pre h h'/\Word a/\σ=[some (.str (mkS a))]) ?_ ?_
 ·rw[cN,bA,eV,bA,aQ,bN,aA];simp only[aC];rw[f6,ln];refine⟨hl,?_⟩;rw[w_c,w_lt];by_cases c1:(a.length:Int)<1
  ·rw[decide_eq_true c1];simp only[if_true,gG,bo,bi,w_c];exact⟨by simp,qx h .refl⟩
  rw[decide_eq_false c1];simp only[bd,if_false];rw[eV,bA,aQ,bN,aA];simp only[aC];rw[f6,ln];refine⟨hl,?_⟩;rw[w_c,gk];by_cases c2:(8:Int)<(a.length:Int)
  ·rw[decide_eq_true c2];simp only[if_true,gG,bo,bi,w_c];exact⟨by simp,qx h .refl⟩
  rw[decide_eq_false c2];simp only[bd,if_false];rw[w_not,bA];refine xo (v:=0) (P:=λc=>decide (97≤c/\c<123)) rfl rfl ha xw hl λh' p=>?_;by_cases c3:∀c∈a,97≤c/\c<123
  ·have:a.all (λc=>decide (97≤c/\c<123))=true:=eY.mpr λc hc=>decide_eq_true (c3 c hc);rw[this];simp only[d3,bd,if_false,dl];exact⟨_,rfl,p,⟨by lia,by lia,c3⟩,rfl⟩
  ·have:a.all (λc=>decide (97≤c/\c<123))=false:=by
    rw[nZ];exact λz=>c3 λc hc=>of_decide_eq_true (eY.mp z c hc)
   rw[this];simp only[fQ,if_true,gG,bo,bi,w_c];exact⟨by simp,qx h' p⟩
 rintro _ h1 ⟨p1,wa,rfl⟩;simp only[cH,aA,aC];exact q h1 wa p1
theorem Ej{a:List Nat}(w:Word a):iO (mkS a)=true:=by
 unfold iO;rw[dB,cE];simp only[eP,decide_eq_true_eq,eY];exact⟨by have:=w.2.1;lia,λc hc=>by have:=w.2.2 c hc;lia⟩
end
section
variable {h:MH}{bk r d:Nat}{rs:List Rid}{b:List Nat}{Q:MV->MH->Prop}{E:Nat->MH->Prop}
open Classical in
theorem CV(B:cD h bk r d rs)(R:cU h r b){l:List Nat}(ha:Asc l)(hl:l.length≤90000)(hz:rs.length<900)(qx:∀h',E 212 h')
  (q:∀h' a x,x.rd->x.pt<b.length+1->Off [d] h h'->h.length≤a->cD h' bk r d (rs++[(x,a)])->Q .non h'):wp (ma [.ref bk,.str (mkS l)]) h Q E:=by
 unfold ma;refine cF (by rfl) ?_;change wp (kZ [some (.ref bk),some (.str (mkS l)),none,none,none,none,none,none]) _ _ _;unfold kZ;have hw:∀w∈aJ 32 l,Asc w/\w.length≤90000:=λw hw=>⟨λc hc=>ha c ((fH 32 l w hw).1 c hc),bV (fH 32 l w hw).2 hl⟩;refine aL (R:=λσ h'=>∃wd,Pre h h'/\h'[wd]?=some (.lst ((aJ 32 l).map λx=>.str (mkS x)))/\σ=[some (.ref bk),some (.str (mkS l)),some (.ref wd),none,none,none,none,none]) ?_ ?_
 ·rw[bH];refine ir (c:=32) (s:=mkS l) (df (by simp)) rfl (by rw[dB];lia) (by decide) ?_;rw[cE];exact⟨_,rfl,h.length,Pre.app _,bp,rfl⟩
 rintro _ h1 ⟨wd,p1,gw,rfl⟩;refine aL (R:=λσ h'=>Pre h1 h'/\(∃a p m d,aJ 32 l=[a,chL "at",p,chL "wants",m,chL "since",d])/\σ=[some (.ref bk),some (.str (mkS l)),some (.ref wd),none,none,none,none,none]) ?_ ?_
 ·rw[cN];refine vM rfl gw (λw hx=>(hw w hx).1) λh2 p2=>?_;by_cases c:∃a p m d,aJ 32 l=[a,chL "at",p,chL "wants",m,chL "since",d]
  ·rw[decide_eq_true c];simp only[d3,bd,if_false,dl];exact⟨_,rfl,p2,c,rfl⟩
  ·rw[decide_eq_false c];simp only[fQ,if_true,gG,bo,bi,w_c];exact⟨by simp,qx _⟩
 rintro _ h2 ⟨p2,⟨a,p,m,dd,es⟩,rfl⟩;have gw2:=p2.get gw;rw[es]at gw2 hw;simp only[aN,dQ]at gw2;obtain⟨w0,_,w2,_,w4,_,w6⟩:=@at7 (.str (mkS a)) (.str (mkS (chL "at"))) (.str (mkS p)) (.str (mkS (chL "wants"))) (.str (mkS m)) (.str (mkS (chL "since"))) (.str (mkS dd));obtain⟨ha1,ha2⟩:=hw a (by simp);obtain⟨hp1,hp2⟩:=hw p (by simp);obtain⟨hm1,hm2⟩:=hw m (by simp);obtain⟨hd1,hd2⟩:=hw dd (by simp);refine aL (R:=λσ h'=>Pre h2 h'/\Word a/\σ=[some (.ref bk),some (.str (mkS l)),some (.ref wd),some (.str (mkS a)),none,none,none,none]) ?_ ?_
 ·simp only[bH,cy,bo,bi,aQ,aA,w_c,dm,gw2,w0,aC,aE];exact Ds ha1 (by lia) (λh' _=>qx h') λh' wa p=>⟨_,rfl,p,wa,rfl⟩
 rintro _ h3 ⟨p3,wa,rfl⟩;have gw3:=p3.get gw2;refine aL (R:=λσ h'=>Pre h3 h'/\∃pt:Nat,pt≤40/\σ=[some (.ref bk),some (.str (mkS l)),some (.ref wd),some (.str (mkS a)),some (.int pt),none,none,none]) ?_ ?_
 ·simp only[bH,cy,bo,bi,aQ,aA,w_c,dm,gw3,w2,aC,aE];exact q0 hp1 (by lia) (.inl rfl) (λh' _=>qx h') λn h' hn p=>⟨_,rfl,p,n,by lia,rfl⟩
 rintro _ h4 ⟨p4,pt,hpt,rfl⟩;have gw4:=p4.get gw3;refine aL (R:=λσ h'=>Pre h4 h'/\∃am:Nat,(am:Int)≤1000000/\σ=[some (.ref bk),some (.str (mkS l)),some (.ref wd),some (.str (mkS a)),some (.int pt),some (.int am),none,none]) ?_ ?_
 ·simp only[bH,cy,bo,bi,aQ,aA,w_c,dm,gw4,w4,aC,aE];exact q0 hm1 (by lia) (.inr (.inl rfl)) (λh' _=>qx h') λn h' hn p=>⟨_,rfl,p,n,hn,rfl⟩
 rintro _ h5 ⟨p5,am,ham,rfl⟩;have gw5:=p5.get gw4;refine aL (R:=λσ h'=>Pre h5 h'/\∃dt:Nat,(dt:Int)≤9999/\σ=[some (.ref bk),some (.str (mkS l)),some (.ref wd),some (.str (mkS a)),some (.int pt),some (.int am),some (.int dt),none]) ?_ ?_
 ·simp only[bH,cy,bo,bi,aQ,aA,w_c,dm,gw5,w6,aC,aE];exact q0 hd1 (by lia) (.inr (.inr rfl)) (λh' _=>qx h') λn h' hn p=>⟨_,rfl,p,n,hn,rfl⟩
 rintro _ h6 ⟨p6,dt,hdt,rfl⟩;have P:=p1.trans (p2.trans (p3.trans (p4.trans (p5.trans p6))));have B6:=B.pre P;have R6:=R.pre P;refine pL ?_;rw[gO,B6.meth (by decide) rfl];simp only[bo,bi,aA,aC,aE];by_cases c1:mkS a∈(bg rs).map (·.nm)
 ·rw[Cc B6 c1 (Ej wa)];exact⟨by decide,qx _⟩
 by_cases c2:pt<b.length+1
 ·refine xh (x:=⟨mkS a,pt,am,dt⟩) B6 R6 c1 c2 hz λh' a' f la B'=>?_;refine q h' a' ⟨mkS a,pt,am,dt⟩ ⟨⟨by show 1≤(mkS a).length;rw[dB];exact wa.1,by show(mkS a).length≤8;rw[dB];exact wa.2.1,by show ∀c∈(mkS a).cps.toList,_;rw[cE];exact wa.2.2⟩,hpt,⟨by show(0:Int)≤(am:Int);lia,ham⟩,⟨by show(0:Int)≤(dt:Int);lia,hdt⟩⟩ c2 (P.off.trans f) (by have:=P.len;lia) B'
 ·rw[FT B6 R6 c1 (.inr (by lia))];exact⟨by decide,qx _⟩
theorem Ec{xs:List MV}(hx:∀v∈xs,v=.non∨∃n:Nat,v=.int n):uv xs∨∃b,xs=rows b/\Wf b/\b.length<40:=by
 cases xs with
 |nil=>exact .inl (.inl rfl)
 |cons x ys=>
   by_cases c40:40<(x::ys).length
   ·exact .inl (.inr (.inl c40))
   rcases hx x dn with rfl|⟨n,rfl⟩
   ·by_cases c:∃k v,1≤k/\(MV.non::ys)[k]?=some v/\ng k v
    ·exact .inl (.inr (.inr (.inr c)))
    ·have one:∀(k:Nat) (v:MV),ys[k]?=some v->∃n:Nat,v=.int n/\n≤k:=λk v ev=>by
      rcases hx v (cS _ (dR ev)) with rfl|⟨n,rfl⟩
      ·exact absurd ⟨k+1,.non,by lia,by rw[aE];exact ev,(trivial:ng (k+1) .non)⟩ c
      ·refine⟨n,rfl,?_⟩;apply Classical.byContradiction;intro z;exact c ⟨k+1,.int n,by lia,by rw[aE];exact ev,by show(n:Int)<0∨((k+1:Nat):Int)≤(n:Int);lia⟩
     refine .inr ⟨ys.map (λv=>match v with
      |.int i=>i.toNat
      | _=>0),?_,λk x hk=>?_,by simp only [bB];simp only [cr] at c40;lia⟩
     ·unfold rows nats;rw[cb];congr 1
      conv=>lhs;rw[←qW ys]
      refine fZ λv hv=>?_;obtain⟨k,ek⟩:=mX.mp hv;obtain⟨n,rfl,_⟩:=one k v ek;simp
     ·rw[bX]at hk;cases ev:ys[k]? with
      |none=>rw[ev]at hk;cases hk
      |some v=>
        rw[ev]at hk;obtain⟨n,rfl,hn⟩:=one k v ev;simp at hk;lia
   ·exact .inl (.inr (.inr (.inl ⟨n,rfl⟩)))
theorem zY{a:Nat}{xs:List MV}(ha:h[a]?=some (.lst xs))(rv:xs.all oX=true)(bad:uv xs)(q:∀h',E 101 h'):wp (ki [.ref h.length,.ref a]) (h++[.ins 1 []]) Q E:=by
 unfold ki;refine cF (by rfl) ?_;change wp (mj [some (.ref h.length),some (.ref a)]) _ _ _;unfold mj;rw[gX,gO,cy];simp only[bo,bi,aA,aC,aE];exact Co (eI ha) rv bad (q _)
theorem Cp{l:List Nat}(ha:Asc l)(hl:l.length≤90000)(qx:∀h',E 212 h')(q:∀h' r' b,Pre h h'->h.length≤r'->cU h' r' b->Q (.ref r') h'):wp (lX [.str (mkS l)]) h Q E:=by
 unfold lX;refine cF (by rfl) ?_;change wp (lF [some (.str (mkS l)),none,none,none]) _ _ _;unfold lF;have hw:∀w∈aJ 32 l,Asc w/\w.length≤90000:=λw hw=>⟨λc hc=>ha c ((fH 32 l w hw).1 c hc),bV (fH 32 l w hw).2 hl⟩;have lw:=sG 32 l;obtain⟨w0,wr,es⟩:∃w0 wr,aJ 32 l=w0::wr:=mM (jB 32 l);rw[es]at hw lw;simp only[cr]at lw;refine aL (R:=λσ h'=>∃wd,Pre h h'/\h'[wd]?=some (.lst ((w0::wr).map λx=>.str (mkS x)))/\σ=[some (.str (mkS l)),some (.ref wd),none,none]) ?_ ?_
 ·rw[bH];refine ir (c:=32) (s:=mkS l) (df (by simp)) rfl (by rw[dB];lia) (by decide) ?_;rw[cE,es];exact⟨_,rfl,h.length,Pre.app _,bp,rfl⟩
 rintro _ h1 ⟨wd,p1,gw,rfl⟩;have x0:atN ((w0::wr).map λx=>MV.str (mkS x)) 0=some (.str (mkS w0)):=rfl;refine aL (R:=λσ h'=>h1=h'/\σ=[some (.str (mkS l)),some (.ref wd),none,none]) ?_ ?_
 ·rw[cN];simp only[bA,aQ,aA,w_c,dm,gw,x0,rj,aC,aE];by_cases c:mkS w0=ah "river"
  ·rw[decide_eq_true c];simp only[d3,bd,if_false,dl];exact⟨_,rfl,by trivial,by trivial⟩
  ·rw[decide_eq_false c];simp only[fQ,if_true,gG,bo,bi,w_c];exact⟨by simp,qx _⟩
 rintro _ _ ⟨rfl,rfl⟩;have ct:fk ((w0::wr).map λx=>MV.str (mkS x)) (some 1) none=wr.map λx=>.str (mkS x):=by rw[nv];rfl
 refine aL (R:=λσ h'=>∃a xs,Pre h1 h'/\h'[a]?=some (.lst xs)/\xs.length=wr.length/\(∀v∈xs,v=.non∨∃n:Nat,v=.int n)/\σ=[some (.str (mkS l)),some (.ref wd),some (.ref a),none]) ?_ ?_
 ·rw[bH];have e1:du (eSl (af 1) (some (eC (.int 1))) none) [some (.str (mkS l)),some (.ref wd),none,none] h1=.ok ⟨(wr.map λx=>MV.str (mkS x)).map λv=>[v],[(h1.length,wr.map λx=>MV.str (mkS x))]⟩ (h1++[.lst (wr.map λx=>MV.str (mkS x))]):=by
   refine gj (df ?_) bp;simp only[jv,aA,jc,jD,w_c,kD,gw,ct,aC,aE]
   first|exact⟨trivial,rfl⟩|exact⟨trivial,trivial⟩|exact⟨rfl,rfl⟩
  refine Ci wr (λw=>[.str (mkS w)]) (λ_ v=>v=.non∨∃n:Nat,v=.int n) e1 (by simp) (λh' p=>gu (p.get bp)) (by lia) (λw hwr h2 p2=>?_) λxs h2 p2 F=>?_
  ·obtain⟨hw1,hw2⟩:=hw w (cS _ hwr);simp only[aN,dQ,iz,fJ];rw[Hi,bA,aQ];simp only[aA,w_c,yk,aC,aE];by_cases c:mkS w=ah "-"
   ·rw[decide_eq_true c];simp only[if_true];exact⟨.inl (by trivial),.refl⟩
   ·rw[decide_eq_false c];simp only[bd,if_false,cy,bo,bi,aA,w_c,aC,aE];exact q0 hw1 (by lia) (.inl rfl) (λh' _=>qx h') λn h' _ p=>⟨.inr ⟨n,rfl⟩,p⟩
  ·refine⟨_,rfl,h2.length,xs,((Pre.app _).trans p2).snoc _,bp,F.1,λv hv=>?_,rfl⟩;obtain⟨i,ei⟩:=mX.mp hv;have li:i<wr.length:=by rw[←F.1];exact(bT.mp ei).1
   exact F.2 i _ v (oq li) ei
 rintro _ h2 ⟨a,xs,p2,ga,lx,hx,rfl⟩;refine pL ?_;simp only[cH,qk,bo,bi,aA,aC,aE];rcases Ec hx with bad|⟨b,rfl,wf,few⟩
 ·refine zY ga (eY.mpr λv hv=>?_) bad λh'=>⟨by decide,qx _⟩
  rcases hx v hv with rfl|⟨n,rfl⟩ <;> rfl
 ·refine wm ga wf few λh' p R=>⟨rfl,q h' h2.length b ((p1.trans p2).trans p) ?_ R⟩;have:=p1.len;have:=p2.len;lia
end
theorem Dk{h:MH}{t:List Nat}{Q:MV->MH->Prop}{E:Nat->MH->Prop}(ha:Asc t)(hl:t.length≤90000)(bad:¬iq (mkS t))(qx:∀h',E 212 h'):wp (kK [.str (mkS t)]) h Q E:=by
 unfold kK;refine cF (by rfl) ?_;change wp (k6 [some (.str (mkS t)),none,none,none]) _ _ _;unfold k6;obtain⟨l0,lr,es⟩:∃l0 lr,aJ 10 t=l0::lr:=mM (jB 10 t);have hL:∀l∈l0::lr,Asc l/\l.length≤90000:=λl hx=>by
  rw[←es]at hx;exact⟨λc hc=>ha c ((fH 10 t l hx).1 c hc),bV (fH 10 t l hx).2 hl⟩
 refine aL (R:=λσ h'=>∃ld,Pre h h'/\h'[ld]?=some (.lst ((l0::lr).map λx=>.str (mkS x)))/\σ=[some (.str (mkS t)),some (.ref ld),none,none]) ?_ ?_
 ·rw[bH];refine ir (c:=10) (s:=mkS t) (df (by simp)) rfl (by rw[dB];lia) (by decide) ?_;rw[cE,es];exact⟨_,rfl,h.length,Pre.app _,bp,rfl⟩
 rintro _ h1 ⟨ld,p1,gl,rfl⟩;refine aL (R:=λσ h'=>h1=h'/\lr.length≤40/\σ=[some (.str (mkS t)),some (.ref ld),none,none]) ?_ ?_
 ·rw[cN];simp only[bA,aQ,bN,aA,w_c,gP,gl,n4,gk,bB,cr,aC,aE];by_cases c:(1+40:Int)<((lr.length+1:Nat):Int)
  ·rw[decide_eq_true c];simp only[if_true,gG,bo,bi,w_c];exact⟨by simp,qx _⟩
  ·rw[decide_eq_false c];simp only[bd,if_false,dl];exact⟨_,rfl,by trivial,by lia,by trivial⟩
 rintro _ _ ⟨rfl,l40,rfl⟩;have x0:atN ((l0::lr).map λx=>MV.str (mkS x)) 0=some (.str (mkS l0)):=rfl;refine aL (R:=λσ h'=>∃bk r d b,Pre h1 h'/\cD h' bk r d []/\cU h' r b/\h1.length≤d/\σ=[some (.str (mkS t)),some (.ref ld),some (.ref bk),none]) ?_ ?_
 ·simp only[bH,qk,cy,bo,bi,aQ,aA,w_c,dm,gl,x0,aC,aE];obtain⟨a0,b0⟩:=hL l0 (by simp);refine Cp a0 b0 qx λh2 r' b p2 lr R2=>?_;exact yU λh3 p3 B3=>⟨rfl,_,rfl,h2.length,r',h2.length+1,b,p2.trans p3,B3,R2.pre p3,by have:=p2.len;lia,rfl⟩
 rintro _ h2 ⟨bk,r,d,b,p2,B2,R2,ld2,rfl⟩;have gl2:=p2.get gl;have ct:fk ((l0::lr).map λx=>MV.str (mkS x)) (some 1) none=lr.map λx=>.str (mkS x):=by rw[nv];rfl
 have e1:du (eSl (af 1) (some (eC (.int 1))) none) [some (.str (mkS t)),some (.ref ld),some (.ref bk),none] h2=.ok ⟨(lr.map λx=>MV.str (mkS x)).map λv=>[v],[(h2.length,lr.map λx=>MV.str (mkS x))]⟩ (h2++[.lst (lr.map λx=>MV.str (mkS x))]):=by
  refine gj (df ?_) bp;simp only[jv,aA,jc,jD,w_c,kD,gl2,ct,aC,aE]
  first|exact⟨trivial,rfl⟩|exact⟨trivial,trivial⟩|exact⟨rfl,rfl⟩
 refine aL (R:=λσ h'=>(∃rs,cD h' bk r d rs/\cU h' r b/\(∀x∈rs,x.1.rd/\x.1.pt<b.length+1)/\rs.length≤40)/\∃u,σ=[some (.str (mkS t)),some (.ref ld),some (.ref bk),u]) ?_ ?_
 ·rw[ku];refine dv e1 ?_;have p3:Pre h2 (h2++[.lst (lr.map λx=>MV.str (mkS x))]):=Pre.app _;have g3:(h2++[MO.lst (lr.map λx=>MV.str (mkS x))])[h2.length]?=some (.lst (lr.map λx=>MV.str (mkS x))):=bp;generalize h2.length=sl at g3;generalize h2++[MO.lst (lr.map λx=>MV.str (mkS x))]=h3 at p3 g3;refine ja (λk σ h'=>(∃rs,cD h' bk r d rs/\cU h' r b/\(∀x∈rs,x.1.rd/\x.1.pt<b.length+1)/\rs.length=k/\h'[sl]?=some (.lst (lr.map λx=>MV.str (mkS x))))/\∃u,σ=[some (.str (mkS t)),some (.ref ld),some (.ref bk),u]) (λk σ h' J=>?_) (λk v σ h' hv J=>?_) (λσ h' J=>?_) ⟨⟨[],B2.pre p3,R2.pre p3,by simp,rfl,g3⟩,_,rfl⟩
  ·obtain⟨⟨rs,_,_,_,_,e⟩,_⟩:=J;exact gu e
  ·obtain⟨⟨rs,B,R,hr,er,gs⟩,u,rfl⟩:=J;rw[bX,bX]at hv;cases ek:lr[k]? with
   |none=>rw[ek]at hv;cases hv
   |some x=>
     rw[ek]at hv;cases hv;have hk:=(bT.mp ek).1;obtain⟨hx1,hx2⟩:=hL x (cS _ (dR ek));simp only[dI,iF,jr,gO,cy,bo,bi,aA,aC,aE];refine CV B R hx1 (by lia) (by lia) qx λh4 a y y1 y2 f4 la4 B4=>?_
     have nd:∀n∈[d],∀ys,h'[n]?≠some (.lst ys):=λn hn ys z=>by rw[dC.mp hn,B.dc]at z;cases z
     refine⟨⟨rs++[(y,a)],B4,R.off f4 λn hn ob e=>?_,λz hz=>?_,by simp[er],f4.get gs λz=>nd _ z _ gs⟩,_,rfl⟩
     ·rw[dC.mp hn,B.dc]at e;cases e
      constructor <;> (intro _ z;cases z)
     ·rcases c6.mp hz with hz|hz
      ·exact hr z hz
      ·rw[dC.mp hz];exact⟨y1,y2⟩
  ·obtain⟨⟨rs,B,R,hr,er,gs⟩,i⟩:=J;rw[bB,bB]at er;exact⟨σ,rfl,⟨rs,B,R,hr,by lia⟩,i⟩
 rintro _ h3 ⟨⟨rs,B,R,hr,er⟩,u,rfl⟩;have hr':∀x∈bg rs,x.rd/\x.pt<b.length+1:=λx hx=>by
  obtain⟨y,hy,rfl⟩:=cx.mp hx;exact hr y hy
 have sm:∀x∈bg rs,x.small:=λx hx=>by
  obtain⟨⟨l1,l8,hn⟩,p40,⟨a0,a1⟩,⟨d0,d1⟩⟩:=(hr' x hx).1;exact⟨by lia,by lia,⟨a0,by lia⟩,⟨d0,by lia⟩⟩
 have hz:(bg rs).length<64:=by simp[bg];lia
 have pm:=i5 B.nm hz;have nA:Names (aged (bg rs)):=(List.Perm.nodup_iff (pm.map λx:Rt=>x.nm)).mpr B.nm;have lA:(aged (bg rs)).length=rs.length:=by rw[pm.length_eq];simp[bg]
 have sA:aged (aged (bg rs))=aged (bg rs):=C3 nA (by lia) pm;refine aL (R:=λσ h'=>False) ?_ (λ_ _ z=>z.elim);rw[cN,bA,aQ,cy];simp only[bo,bi,aA,aC,aE];refine uR B R (by lia) sm λh' p=>?_;simp only[rj];by_cases c:cI b (aged (bg rs))=mkS t
 ·exact absurd ⟨b,aged (bg rs),⟨R.wf,R.few,λx hx=>hr' x (pm.mem_iff.mp hx),nA,by lia,sA⟩,c.symm⟩ bad
 ·rw[decide_eq_false c];simp only[fQ,if_true,gG,bo,bi,w_c];exact⟨by simp,qx _⟩
def Rows(ls:List (List Nat))(n:Nat):Prop:=(∀l∈ls,Asc l)/\(ls.map eF).sum+ls.length≤n
theorem Gw{ls:List (List Nat)}{l:List Nat}(h:l∈ls):l.length≤(ls.map eF).sum:=by
 induction ls with
 |nil=>cases h
 |cons x ls ih=>
   rw[aN,gq];rcases bE.mp h with rfl|h
   ·lia
   ·have:=ih h;lia
theorem GR{ls:List (List Nat)}{w:List Nat}:∀(i:Nat),((ls.set i w).map eF).sum≤(ls.map eF).sum+w.length:=by
 induction ls with
 |nil=>intro i;simp
 |cons x ls ih=>
   intro i;cases i with
   |zero=>simp;lia
   |succ i=>have:=ih i;simp only[iF,aN,gq];lia
theorem Rows.set{ls:List (List Nat)}{n k i:Nat}{w:List Nat}(r:Rows ls n)(hw:Asc w)(lw:w.length≤k):Rows (ls.set i w) (n+k):=by
 refine⟨λl hl=>?_,?_⟩
 ·rcases List.mem_or_eq_of_mem_set hl with h|rfl
  ·exact r.1 l h
  ·exact hw
 ·have:=GR (ls:=ls) (w:=w) i;have:=r.2;rw[uW];lia
theorem v7{ls:List (List Nat)}{n c:Nat}(r:Rows ls n)(hc:c<128):Asc (fI c ls)/\(fI c ls).length≤n:=by
 have fl:∀ls:List (List Nat),(∀l∈ls,Asc l)->Asc (ls.map λy=>c::y).flatten/\(ls.map λy=>c::y).flatten.length=(ls.map eF).sum+ls.length:=by
  intro ls
  induction ls with
  |nil=>exact λ_=>⟨λd hd=>by simp at hd,by simp⟩
  |cons x ls ih=>
    intro h;obtain⟨i1,i2⟩:=ih λl hl=>h l (cS _ hl);refine⟨λd hd=>?_,?_⟩
    ·rw[aN,f8]at hd;rcases c6.mp hd with hd|hd
     ·rcases bE.mp hd with rfl|hd
      ·exact hc
      ·exact h x dn d hd
     ·exact i1 d hd
    ·rw[aN,f8,cQ,i2];simp only[cr,aN,gq];lia
 obtain⟨r1,r2⟩:=r;cases ls with
 |nil=>exact⟨λd hd=>by simp[fI]at hd,by simp[fI]⟩
 |cons x ls=>
   obtain⟨i1,i2⟩:=fl ls λl hl=>r1 l (cS _ hl);refine⟨λd hd=>?_,?_⟩
   ·rcases c6.mp (show d∈x++(ls.map λy=>c::y).flatten from hd) with hd|hd
    ·exact r1 x dn d hd
    ·exact i1 d hd
   ·show(x++(ls.map λy=>c::y).flatten).length≤n;rw[cQ,i2];simp only[cr,aN,gq]at r2;lia
theorem AE{c:Nat}{sep:Str}(hs:sep.cps.toList=[c]):∀ls:List (List Nat),PySem.Txt.join sep (ls.map mkS)=mkS (fI c ls)
 |[]=>by
   refine g7 ?_;rw[cE];rfl
 |x::ls=>by
   refine g7 ?_;rw[aN,kX hs,cE,cE,tO]
theorem F2(ls:List (List Nat)):((ls.map mkS).map (·.length)).sum=(ls.map eF).sum:=by
 rw[cb];exact congrArg List.sum (fZ λl _=>dB l)
theorem BQ{c n:Nat}{l:List Nat}(ha:Asc l)(hl:l.length≤n):Rows (aJ c l) (n+1):=by
 refine⟨λw hw d hd=>ha d ((fH c l w hw).1 d hd),?_⟩;have:∀l:List Nat,((aJ c l).map eF).sum+(aJ c l).length=l.length+1:=by
  intro l
  induction l with
  |nil=>rfl
  |cons x l ih=>
    by_cases h:x=c
    ·subst h;have e:aJ x (x::l)=[]::aJ x l:=by simp[aJ]
     rw[e];simp only[aN,gq,cr,jZ];lia
    ·rw[oO l h];cases e:aJ c l with
     |nil=>exact absurd e (jB c l)
     |cons q qs=>
       rw[e]at ih;simp only[aN,gq,cr]at ih ⊢;lia
 rw[this l];lia
section
variable {h:MH}{Q:MV->MH->Prop}{E:Nat->MH->Prop}
theorem yh{a c n:Nat}{ls:List (List Nat)}{sep:Str}(hs:sep.cps.toList=[c])(hc:c<128)(g:h[a]?=some (.lst (ls.map λx=>.str (mkS x))))(r:Rows ls n)(hn:n≤100000)(q:∀t,Asc t->t.length≤n->Q (.str (mkS t)) h):wp (oG (.str sep) (.ref a)) h Q E:=by
 have l1:sep.length=1:=by rw[cW,hs];rfl
 refine o5 (ss:=ls.map mkS) (by rw[g,cb];rfl) (by lia) ?_ ?_
 ·rw[F2,bB];have:=r.2;lia
 ·rw[AE hs];obtain⟨j1,j2⟩:=v7 r hc;exact q _ j1 j2
theorem wv(a b:List Nat):mkS a++mkS b=mkS (a++b):=g7 (by rw[dU,cE,cE,cE])
theorem ofS(s:String):ah s=mkS (chL s):=(ky _).symm
theorem CD{w:List Nat}{c:Int}(ha:Asc w)(hl:w.length≤90000)(q:∀t h',Asc t->t.length≤w.length+400->Pre h h'->Q (.str (mkS t)) h'):wp (oz [.str (mkS w),.int c]) h Q E:=by
 unfold oz;refine cF (by rfl) ?_;change wp (pB [some (.str (mkS w)),some (.int c),none]) _ _ _;unfold pB;obtain⟨n,hn,n1,n2⟩:∃n:Int,8+c/16%300=n/\8≤n/\n<308:=⟨_,rfl,by lia,by lia⟩
 have en:(iQ (ah "9") n).cps.toList=bF n.toNat 57:=A1 57 (by lia);have e9:iQ (ah "9") n=mkS (bF n.toNat 57):=g7 (by rw[en,cE]);have lw:=dB w;have m9:(ah "9").length=1:=rfl;have m0:(ah "0").length=1:=rfl;have mp:(ah "+").length=1:=rfl;have mb:(ah " ").length=1:=rfl;have md:(ah ".").length=1:=rfl
 let L1:List (List Nat):=[chL "",chL "-",chL "0"++w,chL "+"++w,w++chL " ",chL "At",chL "at",chL "1000001",chL "10000",chL "-1",chL "a b",chL "A"]
 let L2:List (List Nat):=[chL "abcdefghi",w++chL ".",chL "1_0",bF n.toNat 57]
 have k1:L1.map (λx=>MV.str (mkS x))=[.str (ah ""),.str (ah "-"),.str (ah "0"++mkS w),.str (ah "+"++mkS w),.str (mkS w++ah " "),.str (ah "At"),.str (ah "at"),.str (ah "1000001"),.str (ah "10000"),.str (ah "-1"),.str (ah "a b"),.str (ah "A")]:=by
  simp only[L1,aN,dQ,ofS,wv]
 have k2:L2.map (λx=>MV.str (mkS x))=[.str (ah "abcdefghi"),.str (mkS w++ah "."),.str (ah "1_0"),.str (iQ (ah "9") n)]:=by
  simp only[L2,aN,dQ,e9];simp only[ofS,wv]
 refine aL (R:=λσ h'=>∃a,Pre h h'/\h'[a]?=some (.lst (L1.map λx=>.str (mkS x)))/\σ=[some (.str (mkS w)),some (.int c),some (.ref a)]) ?_ ?_
 ·simp only[bH,jl,bo,bi,aQ,aA,w_c,oM,aC,aE,lw,m0,mp,mb];refine⟨by lia,by lia,by lia,by simp,_,rfl,h.length,Pre.app _,?_,rfl⟩;rw[bp,k1]
 rintro _ h1 ⟨a,p1,ga,rfl⟩;refine aL (R:=λσ h'=>∃a,Pre h h'/\h'[a]?=some (.lst ((L1++L2).map λx=>.str (mkS x)))/\σ=[some (.str (mkS w)),some (.int c),some (.ref a)]) ?_ ?_
 ·simp only[bH,jl,bo,bi,aQ,aA,w_c,oM,Dj,n4,ui,jE,hn,aC,aE,lw,md,m9];refine⟨by lia,⟨by decide,by decide⟩,by decide,⟨by lia,by lia,by lia⟩,by simp,?_⟩;rw[tW,eI ga,bp];refine⟨by simp[L1],_,rfl,_,(p1.snoc _).snoc _,?_,rfl⟩;rw[bp,gA,k2]
 rintro _ h2 ⟨a2,p2,ga2,rfl⟩;obtain⟨k,hk,hk2⟩:∃k:Nat,c%16=(k:Int)/\k<16:=⟨(c%16).toNat,by lia,by lia⟩
 have len:(L1++L2).length=16:=rfl;obtain⟨t,et⟩:∃t,(L1++L2)[k]?=some t:=⟨_,oq (by rw[len];exact hk2)⟩
 have g1:atN ((L1++L2).map λx=>MV.str (mkS x)) (k:Int)=some (.str (mkS t)):=by rw[ig,bX,et];rfl
 simp only[cH,aQ,aA,w_c,jE,hk,dm,ga2,g1,aC,aE];refine⟨by decide,?_⟩;have mem:=dR et;have A0:∀s:String,(chL s).all (λc=>decide (c<128))=true->(chL s).length≤400->Asc (chL s)/\(chL s).length≤w.length+400:=λs h1 h2=>⟨λc hc=>of_decide_eq_true (eY.mp h1 c hc),by lia⟩
 have ap:∀{x y:List Nat},Asc x->Asc y->Asc (x++y):=λhx hy c hc=>(c6.mp hc).elim (hx c) (hy c);have fin:Asc t/\t.length≤w.length+400:=by
  simp only[L1,L2,iz,fJ,bE,fG,or_false]at mem;rcases mem with rfl|rfl|rfl|rfl|rfl|rfl|rfl|rfl|rfl|rfl|rfl|rfl|rfl|rfl|rfl|rfl
  ·exact A0 "" (by decide) (by decide)
  ·exact A0 "-" (by decide) (by decide)
  ·exact⟨ap (by decide) ha,by rw[cQ,show(chL "0").length=1 from rfl];lia⟩
  ·exact⟨ap (by decide) ha,by rw[cQ,show(chL "+").length=1 from rfl];lia⟩
  ·exact⟨ap ha (by decide),by rw[cQ,show(chL " ").length=1 from rfl];lia⟩
  ·exact A0 "At" (by decide) (by decide)
  ·exact A0 "at" (by decide) (by decide)
  ·exact A0 "1000001" (by decide) (by decide)
  ·exact A0 "10000" (by decide) (by decide)
  ·exact A0 "-1" (by decide) (by decide)
  ·exact A0 "a b" (by decide) (by decide)
  ·exact A0 "A" (by decide) (by decide)
  ·exact A0 "abcdefghi" (by decide) (by decide)
  ·exact⟨ap ha (by decide),by rw[cQ,show(chL ".").length=1 from rfl];lia⟩
  ·exact A0 "1_0" (by decide) (by decide)
  ·exact⟨λc hc=>by rw[List.eq_of_mem_replicate hc];decide,by rw[List.length_replicate];lia⟩
 exact q t h2 fin.1 fin.2 p2
theorem Rows.mono{ls:List (List Nat)}{n m:Nat}(r:Rows ls n)(h:n≤m):Rows ls m:=⟨r.1,bV r.2 h⟩
theorem Rows.mem{ls:List (List Nat)}{n:Nat}{l:List Nat}(r:Rows ls n)(h:l∈ls):Asc l/\l.length≤n:=⟨r.1 l h,by have:=Gw h;have:=r.2;lia⟩
theorem Rows.ins{ls:List (List Nat)}{n m k:Nat}{l:List Nat}(r:Rows ls n)(hl:Asc l)(hm:l.length≤m):Rows (eU ls k l) (n+m+1):=by
 obtain⟨r1,r2⟩:=r;rw[←List.take_append_drop k ls]at r1 r2;unfold eU;refine⟨λx hx=>?_,?_⟩
 ·rcases c6.mp hx with hx|hx
  ·exact r1 x (gp _ hx)
  ·rcases bE.mp hx with rfl|hx
   ·exact hl
   ·exact r1 x (cK _ hx)
 ·simp only[gA,List.sum_append,cQ,aN,gq,cr]at r2 ⊢;lia
theorem ql{α:Type}{l:List α}{k:Nat}(h:k<l.length):∃x,l[k]?=some x/\x∈l:=⟨l[k],oq h,List.getElem_mem h⟩
theorem oY{ls:List (List Nat)}{k:Nat}{x:List Nat}(e:ls[k]?=some x):atN (ls.map λx=>MV.str (mkS x)) (k:Int)=some (.str (mkS x)):=by rw[ig,bX,e];rfl
theorem zy{ls:List (List Nat)}(ne:ls≠[]):∃x,x∈ls/\atN (ls.map λx=>MV.str (mkS x)) (-1)=some (.str (mkS x)):=by
 have lp:=lm.mpr ne;obtain⟨x,ex,mx⟩:=ql (l:=ls) (k:=ls.length-1) (by lia);refine⟨x,mx,?_⟩;rw[AW (by simpa using lp),bB,bX,ex];rfl
theorem EF{n:Nat}(h:0<n):ixN n (-1)=some (n-1):=by
 unfold ixN;rw[if_neg (by decide),if_pos (by lia)];congr 1
 lia
theorem Df{l:Nat}{ls:List (List Nat)}{way c o:Int}(gl:h[l]?=some (.lst (ls.map λx=>.str (mkS x))))(ne:ls≠[])(r:Rows ls 3000)(q:∀t h',Asc t->t.length≤70000->Pre h h'->Q (.str (mkS t)) h'):wp (su [.ref l,.int way,.int c,.int o]) h Q E:=by
 unfold su;refine cF (by rfl) ?_;change wp (rV [some (.ref l),some (.int way),some (.int c),some (.int o),none,none,none,none,none]) _ _ _;unfold rV;have lp:=lm.mpr ne;obtain ⟨k,hk,hk2⟩:∃k:Nat,c % (ls.length:Int)=(k:Int)/\k < ls.length:=⟨(c % (ls.length:Int)).toNat,by
  have:=fU c (show(ls.length:Int)≠0 by lia)
  lia,by
  have:=ii c (show(0:Int)<(ls.length:Int) by lia);have:=fU c (show(ls.length:Int)≠0 by lia)
  lia⟩
 obtain⟨x,ex,mx⟩:=ql hk2;obtain⟨z,mz,ez⟩:=zy ne;obtain⟨xa,xl⟩:=r.mem mx;obtain⟨za,zl⟩:=r.mem mz;refine aL (R:=λσ h'=>h'=h++[.lst (ls.map λx=>.str (mkS x))]/\σ=[some (.ref l),some (.int way),some (.int c),some (.int o),some (.ref h.length),none,none,none,none]) ?_ ?_
 ·simp only[bH,bN,aA,Hh,gl,aC,aE];exact⟨_,rfl,by trivial,by trivial⟩
 rintro _ _ ⟨rfl,rfl⟩;have g1:(h++[MO.lst (ls.map λx=>MV.str (mkS x))])[h.length]?=some (.lst (ls.map λx=>.str (mkS x))):=bp;have p1:Pre h (h++[.lst (ls.map λx=>.str (mkS x))]):=Pre.app _;generalize h++[MO.lst (ls.map λx=>MV.str (mkS x))]=h1 at g1 p1;generalize hra:h.length=ra at g1;refine aL (R:=λσ h'=>h1=h'/\σ=[some (.ref l),some (.int way),some (.int c),some (.int o),some (.ref ra),some (.int k),none,none,none]) ?_ ?_
 ·simp only[bH,aQ,bN,aA,gP,g1,jE,bB,hk,aC,aE];exact⟨by lia,_,rfl,by trivial,by trivial⟩
 rintro _ _ ⟨rfl,rfl⟩;refine aL (R:=λσ h'=>Pre h h'/\h'[ra]?=some (.lst (ls.map λx=>.str (mkS x)))/\∃wa,ra≠wa/\h.length≤wa/\h'[wa]?=some (.lst ((aJ 32 x).map λx=>.str (mkS x)))/\σ=[some (.ref l),some (.int way),some (.int c),some (.int o),some (.ref ra),some (.int k),some (.ref wa),none,none]) ?_ ?_
 ·rw[bH];refine ir (c:=32) (s:=mkS x) (df (by simp only[aQ,aA,w_c,dm,g1,oY ex,aC,aE];trivial)) rfl (by rw[dB];lia) (by decide) ?_;rw[cE];have:=d5 g1;exact⟨_,rfl,p1.snoc _,eI g1,h1.length,by lia,p1.len,bp,rfl⟩
 rintro _ h2 ⟨p2,gr2,wa,nw,lwa,gw,rfl⟩;have lra:h.length≤ra:=by lia
 refine aL (R:=λσ h'=>Pre h h'/\(∃rs,rs≠[]/\rs.length=ls.length/\Rows rs 9402/\h'[ra]?=some (.lst (rs.map λx=>.str (mkS x))))/\∃u6 u7,σ=[some (.ref l),some (.int way),some (.int c),some (.int o),some (.ref ra),some (.int k),u6,u7,none]) ?_ ?_
 ·rw[cN];have skip:Pre h h2/\(∃rs,rs≠[]/\rs.length=ls.length/\Rows rs 9402/\h2[ra]?=some (.lst (rs.map λx=>.str (mkS x)))):=⟨p2,ls,ne,rfl,r.mono (by lia),gr2⟩
  simp only[bA,eV,aQ,aA,w_c,lO,aC,aE];have main:wp ((aB (aS 7 (aj cR (aj fF (af 2) (eC (.int 7))) (eUn bL (af 6)))) (aB (ib (af 6) (af 7) (bO oz (ao (aj oIx (af 6) (af 7)) (ao (af 3) aD)))) (ib (af 4) (af 5) (iD (eC (.str (ah " "))) (af 6))))) [some (.ref l),some (.int way),some (.int c),some (.int o),some (.ref ra),some (.int k),some (.ref wa),none,none]) h2 (λf h1=>∃σ1,f=.next σ1/\Pre h h1/\(∃rs,rs≠[]/\rs.length=ls.length/\Rows rs 9402/\h1[ra]?=some (.lst (rs.map λx=>.str (mkS x))))/\∃u6 u7,σ1=[some (.ref l),some (.int way),some (.int c),some (.int o),some (.ref ra),some (.int k),u6,u7,none]) E:=by
   have rw0:=BQ (c:=32) xa xl;have nws:=jB 32 x;generalize aJ 32 x=ws at gw rw0 nws;have wp0:=lm.mpr nws;obtain ⟨j,hj,hj2⟩:∃j:Nat,c / 7 % (ws.length:Int)=(j:Int)/\j < ws.length:=⟨(c / 7 % (ws.length:Int)).toNat,by
    have:=fU (c/7) (show(ws.length:Int)≠0 by lia)
    lia,by
    have:=ii (c/7) (show(0:Int)<(ws.length:Int) by lia);have:=fU (c/7) (show(ws.length:Int)≠0 by lia)
    lia⟩
   obtain⟨w,ew,mw⟩:=ql hj2;obtain⟨wA,wL⟩:=rw0.mem mw;refine aL (R:=λσ h'=>h2=h'/\σ=[some (.ref l),some (.int way),some (.int c),some (.int o),some (.ref ra),some (.int k),some (.ref wa),some (.int j),none]) ?_ ?_
   ·simp only[bH,aQ,bN,aA,w_c,gP,gw,jE,ui,bB,hj,aC,aE];exact⟨⟨by decide,by decide⟩,by lia,_,rfl,by trivial,by trivial⟩
   rintro _ _ ⟨rfl,rfl⟩;refine aL (R:=λσ h'=>Pre h h'/\h'[ra]?=some (.lst (ls.map λx=>.str (mkS x)))/\(∃ws',Rows ws' 6402/\h'[wa]?=some (.lst (ws'.map λx=>.str (mkS x))))/\σ=[some (.ref l),some (.int way),some (.int c),some (.int o),some (.ref ra),some (.int k),some (.ref wa),some (.int j),none]) ?_ ?_
   ·rw[oW,cy];simp only[bo,bi,aQ,aA,dm,gw,oY ew,aC,aE];refine CD wA (by lia) λt h3 tA tL p3=>?_;have gw3:=p3.get gw;have gr3:=p3.get gr2;simp only[rX,gw3,bB,sX hj2];refine⟨d5 gw3,_,rfl,(p2.trans p3).set lwa,rc gr3 (Ne.symm nw),⟨ws.set j t,(rw0.set (k:=3401) tA (by lia)).mono (by lia),?_⟩,rfl⟩;rw[lR (d5 gw3),qw]
   rintro _ h3 ⟨p3,gr3,⟨ws',rws,gw3⟩,rfl⟩;rw[oW,mO];simp only[w_c,aA,aC,aE];refine yh (c:=32) rfl (by decide) gw3 rws (by lia) λt tA tL=>?_;simp only[aA,aC,aE,rX,gr3,bB,sX hk2];refine⟨d5 gr3,_,rfl,p3.set lra,⟨ls.set k t,?_,by simp,(r.set tA tL).mono (by lia),?_⟩,_,_,rfl⟩
   ·intro z;have:=congrArg eF z;simp at this;exact ne this
   ·rw[lR (d5 gr3),qw]
  by_cases c0:way=0
  ·rw[decide_eq_true c0];simp only[if_true];exact main
  ·rw[decide_eq_false c0];simp only[bd,if_false];by_cases c1:way=1
   ·rw[decide_eq_true c1];simp only[if_true];exact main
   ·rw[decide_eq_false c1];simp only[bd,if_false,dl];exact⟨_,rfl,skip.1,skip.2,_,_,rfl⟩
 rintro _ h3 ⟨p3,⟨rs,nrs,lrs,rrs,gr⟩,u6,u7,rfl⟩;have gl3:=p3.get gl;refine aL (R:=λσ h'=>Pre h h'/\(∃rs,rs≠[]/\rs.length=ls.length/\Rows rs 15402/\h'[ra]?=some (.lst (rs.map λx=>.str (mkS x))))/\σ=[some (.ref l),some (.int way),some (.int c),some (.int o),some (.ref ra),some (.int k),u6,u7,none]) ?_ ?_
 ·rw[cN];simp only[bA,aQ,aA,w_c,lO,aC,aE];by_cases c2:way=2
  ·rw[decide_eq_true c2];simp only[if_true];have kl:k<rs.length:=by lia
   refine aL (R:=λσ h'=>h'=h3.set ra (.lst ((rs.set k z).map λx=>.str (mkS x)))/\σ=[some (.ref l),some (.int way),some (.int c),some (.int o),some (.ref ra),some (.int k),u6,u7,none]) ?_ ?_
   ·rw[oW];simp only[aQ,bN,w_c,jJ,aA,dm,gl3,ez,rX,gr,bB,sX kl,aC,aE];refine⟨d5 gr,_,rfl,?_,rfl⟩;rw[qw]
   rintro _ _ ⟨rfl,rfl⟩;have gr4:=lR (o:=MO.lst ((rs.set k z).map λx=>.str (mkS x))) (d5 gr);have p4:=p3.set (n:=ra) (o:=MO.lst ((rs.set k z).map λx=>.str (mkS x))) lra;have gl4:=p4.get gl;generalize h3.set ra (MO.lst ((rs.set k z).map λx=>.str (mkS x)))=h4 at gr4 p4 gl4;rw[oW];simp only[aQ,bN,w_c,jJ,aA,dm,gl4,oY ex,rX,gr4,bB,uW,EF (show 0<rs.length by lia),aC,aE];refine⟨d5 gr4,_,rfl,p4.set lra,⟨(rs.set k z).set (rs.length-1) x,?_,by simp[lrs],((rrs.set za zl).set xa xl).mono (by lia),?_⟩,rfl⟩
   ·intro y;have:=congrArg eF y;simp at this;exact nrs this
   ·rw[lR (d5 gr4),←qw]
  ·rw[decide_eq_false c2];simp only[bd,if_false,dl];exact⟨_,rfl,p3,⟨rs,nrs,lrs,rrs.mono (by lia),gr⟩,rfl⟩
 clear gr rrs nrs lrs rs p3 gl3 h3
 rintro _ h3 ⟨p3,⟨rs,nrs,lrs,rrs,gr⟩,rfl⟩;refine aL (R:=λσ h'=>Pre h h'/\(∃rs,rs≠[]/\Rows rs 30805/\h'[ra]?=some (.lst (rs.map λx=>.str (mkS x))))/\σ=[some (.ref l),some (.int way),some (.int c),some (.int o),some (.ref ra),some (.int k),u6,u7,none]) ?_ ?_
 ·rw[cN];simp only[bA,aQ,aA,w_c,lO,aC,aE];by_cases c2:way=3
  ·rw[decide_eq_true c2];simp only[if_true];obtain⟨y,my,ey⟩:=zy nrs;obtain⟨yA,yL⟩:=rrs.mem my;have few:rs.length≤15402:=by have:=rrs.2;lia
   rw[gO];refine Cf (xs:=rs.map λx=>.str (mkS x)) (k:=(k:Int)) (x:=.str (mkS y)) rfl gr (df (by simp)) (df (by simp only[aQ,bN,w_c,jJ,aA,dm,gr,ey,aC,aE];trivial)) ⟨by rw[bB];lia,by lia,by lia⟩ ?_;refine⟨_,rfl,p3.set lra,⟨eU rs (kr rs.length k) y,?_,(rrs.ins yA yL).mono (by lia),?_⟩,rfl⟩
   ·unfold eU;simp
   ·rw[lR (d5 gr),bB];unfold eU;simp only[gA,aN,List.map_take,List.map_drop]
  ·rw[decide_eq_false c2];simp only[bd,if_false,dl];exact⟨_,rfl,p3,⟨rs,nrs,rrs.mono (by lia),gr⟩,rfl⟩
 clear gr rrs nrs lrs rs p3 h3
 rintro _ h3 ⟨p3,⟨rs,nrs,rrs,gr⟩,rfl⟩;refine aL (R:=λσ h'=>Pre h h'/\(∃rs,Rows rs 30805/\h'[ra]?=some (.lst (rs.map λx=>.str (mkS x))))/\σ=[some (.ref l),some (.int way),some (.int c),some (.int o),some (.ref ra),some (.int k),u6,u7,none]) ?_ ?_
 ·rw[cN];simp only[bA,aQ,aA,w_c,lO,aC,aE];by_cases c2:way=4
  ·rw[decide_eq_true c2];simp only[if_true];obtain⟨y,ys,rfl⟩:=mM nrs;rw[gO,G7,EC];simp only[aA,w_c,gr,aN,aC,aE];refine Eb (by rw[gr];rfl) ⟨_,rfl,p3.set lra,⟨ys,⟨λl hl=>rrs.1 l (cS _ hl),?_⟩,?_⟩,rfl⟩
   ·have:=rrs.2;simp only[aN,gq,cr]at this;lia
   ·exact lR (d5 gr)
  ·rw[decide_eq_false c2];simp only[bd,if_false,dl];exact⟨_,rfl,p3,⟨rs,rrs,gr⟩,rfl⟩
 clear gr rrs nrs rs p3 h3
 rintro _ h3 ⟨p3,⟨rs,rrs,gr⟩,rfl⟩;refine aL (R:=λσ h'=>h3=h'/\∃t,Asc t/\t.length≤30805/\σ=[some (.ref l),some (.int way),some (.int c),some (.int o),some (.ref ra),some (.int k),u6,u7,some (.str (mkS t))]) ?_ ?_
 ·rw[bH,mO];simp only[w_c,aA,aC,aE];exact yh (c:=10) rfl (by decide) gr rrs (by lia) λt tA tL=>⟨_,rfl,rfl,t,tA,tL,rfl⟩
 rintro _ _ ⟨rfl,t,tA,tL,rfl⟩;refine aL (R:=λσ h'=>Pre h h'/\∃t u,Asc t/\t.length≤70000/\σ=[some (.ref l),some (.int way),some (.int c),some (.int o),some (.ref ra),some (.int k),u6,u,some (.str (mkS t))]) ?_ ?_
 ·rw[cN];simp only[bA,eV,aQ,aA,w_c,lO,aC,aE];have main:wp ((aB (aS 7 (aj cR (af 3) (aj bG (eUn bL (af 8)) (eC (.int 1))))) (aS 8 (aj bG (aj bG (eSl (af 8) none (some (af 7))) (aj oIx (eJ (ao (eC (.str (ah " "))) (ao (eC (.str (ah "\n"))) aD))) (aj cR (af 2) (eC (.int 2))))) (eSl (af 8) (some (af 7)) none)))) [some (.ref l),some (.int way),some (.int c),some (.int o),some (.ref ra),some (.int k),u6,u7,some (.str (mkS t))]) h3 (λf h1=>∃σ1,f=.next σ1/\Pre h h1/\∃t u,Asc t/\t.length≤70000/\σ1=[some (.ref l),some (.int way),some (.int c),some (.int o),some (.ref ra),some (.int k),u6,u,some (.str (mkS t))]) E:=by
   have lt:=dB t;refine aL (R:=λσ h'=>h3=h'/\∃j:Int,σ=[some (.ref l),some (.int way),some (.int c),some (.int o),some (.ref ra),some (.int k),u6,some (.int j),some (.str (mkS t))]) ?_ ?_
   ·simp only[bH,aQ,bN,aA,w_c,f6,n4,jE,lt,aC,aE];exact⟨by lia,by lia,_,rfl,by trivial,_,rfl⟩
   rintro _ _ ⟨rfl,j,rfl⟩;obtain⟨e,he,he2⟩:∃e:Nat,c%2=(e:Int)/\e<2:=⟨(c%2).toNat,by lia,by lia⟩
   obtain⟨y,ey,my⟩:=ql (l:=[chL " ",chL "\n"]) (k:=e) he2;have yy:Asc y/\y.length≤1:=by
    simp only[bE,fG,or_false]at my;rcases my with rfl|rfl <;> exact⟨by decide,by decide⟩
   have ea:=oY ey;have el:[MV.str (ah " "),.str (ah "\n")]=[chL " ",chL "\n"].map λx=>MV.str (mkS x):=by simp only[aN,dQ,←ofS]
   have sl1:=pb (mkS t) none (some j);have sl2:=pb (mkS t) (some j) none;have sm1:=@q8 (mkS t) none (some j);have sm2:=@q8 (mkS t) (some j) none;rw[cE]at sm1 sm2;rw[lt]at sl1 sl2;simp only[bH,aQ,jv,aA,jc,jD,w_c,AR,lt,jl,bo,bi,jE,he,aC,aE];refine⟨by lia,by simp,by decide,?_⟩;rw[dm,bp];simp only[el,ea,oM,dB];generalize PySem.Txt.slice (mkS t) none (some j)=s1 at sl1 sm1 ⊢;generalize PySem.Txt.slice (mkS t) (some j) none=s2 at sl2 sm2 ⊢;have e1:s1.length=s1.cps.toList.length:=cW _;have e2:s2.length=s2.cps.toList.length:=cW _;have e3:(s1++mkS y).length=s1.length+y.length:=by rw[mQ,dB y]
   refine⟨by lia,by lia,by lia,_,rfl,p3.snoc _,s1.cps.toList++y++s2.cps.toList,some (.int j),λd hd=>?_,by simp only[cQ];lia,?_⟩
   ·rcases c6.mp hd with hd|hd
    ·rcases c6.mp hd with hd|hd
     ·exact tA d (sm1 hd)
     ·exact yy.1 d hd
    ·exact tA d (sm2 hd)
   ·have:s1++mkS y++s2=mkS (s1.cps.toList++y++s2.cps.toList):=g7 (by rw[dU,dU,cE,cE]);rw[this];rfl
  by_cases c0:way=5
  ·rw[decide_eq_true c0];simp only[if_true];exact main
  ·rw[decide_eq_false c0];simp only[bd,if_false];by_cases c1:way=6
   ·rw[decide_eq_true c1];simp only[if_true];exact main
   ·rw[decide_eq_false c1];simp only[bd,if_false,dl];exact⟨_,rfl,p3,t,u7,tA,by lia,rfl⟩
 rintro _ h4 ⟨p4,t',u,tA',tL',rfl⟩;simp only[cH,aA,aC,aE];exact q t' h4 tA' tL' p4
end
end L2.Rv
namespace L2.Rv
open PySem (Str)
theorem name8(c:Int)(k:Nat):1≤(dX c k).length/\(dX c k).length≤8:=by
 have e:=congrArg eF (BP c k);rw[←cW]at e;have ls:(dG c).length=(c%8).toNat:=by simp[dG]
 simp only[cQ,cr,jZ,pN,lG]at e;have:(c%8).toNat≤7:=by lia
 lia
theorem AK{ns:List Int}{st:Int}{count size:Nat}{r:Rt}(s1:1≤size)(s8:size≤8)(h:r∈dq ns st count size):r.rd:=by
 have p:=D8 s1 h;have am:=GJ h;obtain⟨k,_,rfl⟩:=cx.mp h;refine⟨⟨(name8 _ _).1,(name8 _ _).2,λc hc=>G4 hc⟩,by lia,am,?_⟩;simp only[t9,mL];split <;> lia
theorem rC{i:Int}(h0:0≤i):Asc (txt i).cps.toList:=λc hc=>by have:=iJ h0 c hc;lia
theorem CA{x:Rt}(s:x.rd):Asc (bf x).cps.toList:=by
 obtain⟨⟨_,_,n1⟩,_,⟨a0,_⟩,⟨d0,_⟩⟩:=s;have ap:∀{x y:List Nat},Asc x->Asc y->Asc (x++y):=λhx hy c hc=>(c6.mp hc).elim (hx c) (hy c);unfold bf;simp only[dU];exact ap (ap (ap (ap (ap (ap (ap (by decide) λc hc=>by have:=n1 c hc;lia) (by decide)) (rC (by lia))) (by decide)) (rC a0)) (by decide)) (rC d0)
theorem DT{x:Rt}(s:x.rd):(bf x).length≤60:=by
 obtain⟨⟨_,n8,_⟩,p40,⟨a0,a1⟩,⟨d0,d1⟩⟩:=s;have t1:=fL (i:=(x.pt:Int)) (by lia) (by lia);have t2:=fL (i:=x.am) a0 (by lia);have t3:=fL (i:=x.dt) d0 (by lia);have e0:PySem.Str.empty.length=0:=rfl;have e1:(ah " at ").length=4:=rfl;have e2:(ah " wants ").length=7:=rfl;have e3:(ah " since ").length=7:=rfl;unfold bf;simp only[mQ,e0,e1,e2,e3];lia
theorem Cn(b:List Nat):Asc (bZ b).cps.toList:=λc hc=>by
 unfold bZ at hc;rw[jN]at hc;have a0:Asc (ah "river").cps.toList:=by decide
 have a1:Asc (ah " ").cps.toList:=by decide
 have a2:Asc (ah "-").cps.toList:=by decide
 rcases c6.mp hc with hc|hc
 ·exact a0 c hc
 ·obtain⟨l,hl,hc⟩:=List.mem_flatten.mp hc;obtain⟨y,hy,rfl⟩:=cx.mp hl;rcases c6.mp hc with z|z
  ·exact a1 c z
  ·rcases bE.mp hy with rfl|hy
   ·exact a2 c z
   ·obtain⟨p,_,rfl⟩:=cx.mp hy;exact rC (by lia) c z
theorem Dg{h:MH}{t:List Nat}{Q:MV->MH->Prop}{E:Nat->MH->Prop}(ha:Asc t)(hl:t.length≤90000)(bad:¬iq (mkS t))(q:∀h',Q (.bl true) h'):wp (qh [.str (mkS t)]) h Q E:=by
 unfold qh;refine cF (by rfl) ?_;change wp (qb [some (.str (mkS t)),none,none,none]) _ _ _;unfold qb;refine aL (R:=λσ h'=>σ=[some (.str (mkS t)),some (.bl false),none,none]) (by simp) ?_;rintro _ h1 rfl;refine aL (R:=λσ h'=>∃u v,σ=[some (.str (mkS t)),some (.bl true),u,v]) ?_ ?_
 ·rw[C4,gO,cy];simp only[bo,bi,aA,aC];refine Dk ha hl bad λh2=>⟨by decide,?_⟩
  simp;exact⟨_,rfl,_,_,rfl⟩
 rintro _ h2 ⟨u,v,rfl⟩;simp only[cH,aA,aC,aE];exact q h2
theorem law_true:∀ns:List Int,ns.length≤63->∃h',n6 [.scr ns] []=.ok (.bl true) h':=by
 intro ns hns
 suffices w:wp (n6 [.scr ns]) [] (λv _=>v=.bl true) noE by
  obtain⟨v,h',e,rfl⟩:=jg w;exact⟨h',e⟩
 unfold n6;refine cF (by rfl) ?_;obtain⟨size,hsz,s1,s8⟩:∃size:Nat,1+cell ns 0%8=(size:Int)/\1≤size/\size≤8:=⟨(1+cell ns 0%8).toNat,by lia,by lia,by lia⟩
 obtain⟨count,hc,c1,c4⟩:∃count:Nat,1+cell ns 0/8%4=(count:Int)/\1≤count/\count≤4:=⟨(1+cell ns 0/8%4).toNat,by lia,by lia,by lia⟩
 have bl:=ya ns 2 size;have bw:=Da ns 2 size;generalize hb:gJ ns 2 size=b at bl bw;have hn:size=b.length+1:=by lia
 have few:b.length<40:=by lia
 clear bl hns
 change wp (qL [some (.scr ns),none,none,none,none,none,none]) _ _ _;unfold qL;refine aL (R:=λσ h=>σ=[some (.scr ns),some (.int size),none,none,none,none,none]/\h=[]) (by simp[kL,hsz]) ?_;rintro _ _ ⟨rfl,rfl⟩
 clear hsz
 refine aL (R:=λσ h=>∃a,h[a]?=some (.lst (rows b))/\σ=[some (.scr ns),some (.int size),some (.ref a),none,none,none,none]) ?_ ?_
 ·simp;refine BC (by decide) s1 (by lia) λh1 p1 l1=>?_;rw[hb];simp
 rintro _ h1 ⟨a,ha1,rfl⟩;refine aL (R:=λσ h=>∃l,Pre h1 h/\h[l]?=some (.lst ((dq ns 18 count size).map Rt.row))/\σ=[some (.scr ns),some (.int size),some (.ref a),some (.ref l),none,none,none]) ?_ ?_
 ·simp only[bH,cy,bo,bi,aA,w_c,aQ,aC,aE,kL (show(0:Int)≤0 by decide),ui,jE,n4,hc];refine⟨by decide,by decide,?_⟩;exact BJ (by decide) s1 (by lia) λh3 p3 l3=>⟨_,rfl,h3.length,p3.snoc _,bp,rfl⟩
 rintro _ h3 ⟨l,p3,hl3,rfl⟩
 clear hc
 have ha3:=p3.get ha1;have nm:Names (dq ns 18 count size):=EM (by lia);have rl:(dq ns 18 count size).length=count:=uI _ _ _ _;have rd:∀x∈dq ns 18 count size,x.rd:=λx hx=>AK s1 s8 hx;generalize hrts:dq ns 18 count size=rts at nm rl rd hl3;have sm:∀x∈rts,x.small:=λx hx=>by
  obtain⟨⟨l1,l8,hn⟩,p40,⟨a0,a1⟩,⟨d0,d1⟩⟩:=rd x hx;exact⟨by lia,by lia,⟨a0,by lia⟩,⟨d0,by lia⟩⟩
 have pm:=i5 nm (by lia);have lA:(aged rts).length=count:=by rw[pm.length_eq,rl]
 have hA:∀x∈aged rts,x.rd/\x.small:=λx hx=>⟨rd x (pm.mem_iff.mp hx),sm x (pm.mem_iff.mp hx)⟩;have lines:=Et (Q:=λv h'=>Pre h3 h'/\v=.str (cI b (aged rts))) (E:=noE) ha3 bw few hl3 nm (by lia) sm λh' p=>⟨p,rfl⟩
 generalize aged rts=A at lA hA lines;obtain⟨lT,r0⟩:(cI b A).length≤100000/\Rows (aJ 10 (cI b A).cps.toList) 3000:=by
  have e:aJ 10 (cI b A).cps.toList=(bZ b).cps.toList::A.map λx=>(bf x).cps.toList:=by
   unfold cI;rw[kX (c:=10) rfl];unfold fI;rw[lu sY (λy hy=>?_),cb]
   ·rfl
   ·obtain⟨z,hz,rfl⟩:=cx.mp hy;obtain⟨x,hx,rfl⟩:=cx.mp hz;exact uX (hA x hx).1
  have rl':=nS few λx hx=>by
   obtain⟨k,hk,e⟩:=ly hx;have:=bw k x (by rw[←e];simp)
   lia
  have s:=rm (f:=bf) (n:=60) (l:=A) λx hx=>DT (hA x hx).1;have s2:((A.map λx=>(bf x).cps.toList).map eF).sum=((A.map bf).map (·.length)).sum:=by
   rw[cb,cb];exact congrArg List.sum (fZ λx _=>(cW _).symm)
  rw[cW]at rl';have r:Rows (aJ 10 (cI b A).cps.toList) 3000:=by
   rw[e];refine⟨λl hl=>?_,?_⟩
   ·rcases bE.mp hl with rfl|hl
    ·exact Cn b
    ·obtain⟨x,hx,rfl⟩:=cx.mp hl;exact CA (hA x hx).1
   ·rw[aN,gq,s2,cr,bB]
    lia
  refine⟨?_,r⟩;have:=(v7 (c:=10) r (by decide)).2;rw[nF]at this;rw[cW]
  lia
 refine aL (R:=λσ h=>∃ll,Pre h3 h/\h[ll]?=some (.lst ((aJ 10 (cI b A).cps.toList).map λx=>.str (mkS x)))/\σ=[some (.scr ns),some (.int size),some (.ref a),some (.ref l),some (.ref ll),none,none]) ?_ ?_
 ·rw[bH];refine Fd (c:=10) rfl (by decide) ?_;simp only[cy,bo,bi,aA,aC,aE];refine zL lines λv h4 z=>?_;obtain⟨p4,rfl⟩:=z;exact⟨_,rfl,lT,_,rfl,h4.length,p4.snoc _,bp,rfl⟩
 rintro _ h4 ⟨ll,p4,gl4,rfl⟩;have ne:=jB 10 (cI b A).cps.toList;generalize aJ 10 (cI b A).cps.toList=ls at gl4 r0 ne;refine aL (R:=λσ h=>h4=h/\σ=[some (.scr ns),some (.int size),some (.ref a),some (.ref l),some (.ref ll),some (.int (cell ns 35)),none]) ?_ ?_
 ·simp only[bH,cy,bo,bi,aA,w_c,aC,aE,kL (show(0:Int)≤35 by decide)];exact⟨_,rfl,by trivial,by trivial⟩
 rintro _ _ ⟨rfl,rfl⟩;refine aL (R:=λσ h=>∃t,Asc t/\t.length≤70000/\σ=[some (.scr ns),some (.int size),some (.ref a),some (.ref l),some (.ref ll),some (.int (cell ns 35)),some (.str (mkS t))]) ?_ ?_
 ·simp only[bH,cy,bo,bi,aA,w_c,aQ,jE,aC,aE,kL (show(0:Int)≤34 by decide),kL (show(0:Int)≤36 by decide)];refine⟨by decide,?_⟩;exact Df gl4 ne r0 λt h' tA tL p=>⟨_,rfl,t,tA,tL,rfl⟩
 rintro _ h5 ⟨t,tA,tL,rfl⟩;by_cases g:iq (mkS t)
 ·refine aL (R:=λσ h=>σ=[some (.scr ns),some (.int size),some (.ref a),some (.ref l),some (.ref ll),some (.int (cell ns 35)),some (.str (mkS t))]) ?_ ?_
  ·rw[cN,bA,w_not,bA,cy];simp only[bo,bi,aA,aC,aE];refine wg tA (by lia) (λ_ h' _=>?_) (λz=>absurd g z);simp only[d3,bd,if_false,dl];exact⟨_,rfl,rfl⟩
  rintro _ h6 rfl;obtain⟨b',A',⟨wf',few',hA',nA',lA',sA'⟩,et⟩:=g;rw[et];rw[cH,aQ,cy,bo,cy];simp only[bo,bi,aA,aC,aE];refine F7 wf' few' hA' nA' lA' sA' λh' bk r d rs f' B R er ld _=>?_;have sm':∀x∈bg rs,x.small:=λx hx=>by
   rw[er]at hx;obtain⟨⟨l1,l8,hn⟩,p40,⟨a0,a1⟩,⟨d0,d1⟩⟩:=(hA' x hx).1;exact⟨by lia,by lia,⟨a0,by lia⟩,⟨d0,by lia⟩⟩
  have lr:rs.length≤40:=by
   have:=congrArg eF er;simp[bg]at this
   lia
  refine uR B R (by lia) sm' λh'' p=>?_;rw[er,sA'];simp
 ·refine wS ?_;rw[cN,bA,w_not,bA,cy];simp only[bo,bi,aA,aC,aE];refine wg tA (by lia) (λz=>absurd z g) (λ_ h' _=>?_);simp only[fQ,if_true,cH,cy,bo,bi,aA,aC,aE];exact Dg tA (by lia) g λh''=>⟨_,rfl,rfl⟩
end L2.Rv
namespace PySem.W.Fast
theorem tw6479867690758531697:True:=⟨⟩
theorem tw10344032956745748680:True:=⟨⟩
theorem tw905675267740681095:True:=⟨⟩
theorem tw13404934882471371826:True:=⟨⟩
theorem tw15886935970231002751:True:=⟨⟩
theorem tw17930395742695219425:True:=⟨⟩
theorem tw2435047551248538044:True:=⟨⟩
theorem tw467434016364316448:True:=⟨⟩
theorem tw16641198884952978638:True:=⟨⟩
theorem tw2770034158160117496:True:=⟨⟩
theorem tw6718525663044494877:True:=⟨⟩
theorem tw9526578647527698611:True:=⟨⟩
theorem tw7546599064009029239:True:=⟨⟩
theorem tw10570439098326802961:True:=⟨⟩
theorem tw15327890729291473042:True:=⟨⟩
theorem tw4656712529178338281:True:=⟨⟩
theorem tw16250919756798342372:True:=⟨⟩
theorem tw579410381539856782:True:=⟨⟩
theorem tw6719771589952009103:True:=⟨⟩
theorem tw10270998463401293111:True:=⟨⟩
theorem tw3686814424549236334:True:=⟨⟩
theorem tw6361601947688367187:True:=⟨⟩
theorem tw13999697626387203344:True:=⟨⟩
theorem tw6556604919966078399:True:=⟨⟩
theorem tw3421741981876700566:True:=⟨⟩
theorem tw3622038864226063719:True:=⟨⟩
theorem tw1054854964361580667:True:=⟨⟩
theorem tw7766311931702181799:True:=⟨⟩
theorem tw10878348342019254890:True:=⟨⟩
theorem tw4341684778719318664:True:=⟨⟩
theorem tw5695477701263705776:True:=⟨⟩
theorem tw6467039428314990245:True:=⟨⟩
theorem tw8269084424775211210:True:=⟨⟩
theorem tw3907090055670451022:True:=⟨⟩
theorem tw10645815250148484200:True:=⟨⟩
theorem tw10380837386976381339:True:=⟨⟩
theorem tw11756212746728390182:True:=⟨⟩
theorem tw13784801687893464925:True:=⟨⟩
theorem tw9665518547000962389:True:=⟨⟩
theorem tw478766429858803594:True:=⟨⟩
theorem tw3499448847345834663:True:=⟨⟩
theorem tw13536583726834036302:True:=⟨⟩
theorem tw1507974015867624360:True:=⟨⟩
theorem tw7915626142863596340:True:=⟨⟩
theorem tw7560573181350409377:True:=⟨⟩
theorem tw18366950104893539555:True:=⟨⟩
theorem tw17989608302264953788:True:=⟨⟩
theorem tw209400506544102359:True:=⟨⟩
theorem tw16940398492398194038:True:=⟨⟩
theorem tw6442534380031140021:True:=⟨⟩
theorem tw2721763137648337780:True:=⟨⟩
theorem tw12663416686590584222:True:=⟨⟩
theorem tw7164710465966952853:True:=⟨⟩
theorem tw2701698575195423889:True:=⟨⟩
theorem tw16410857045563385291:True:=⟨⟩
theorem tw1458930324184209834:True:=⟨⟩
theorem tw6065235077617750938:True:=⟨⟩
theorem tw248542466144247485:True:=⟨⟩
theorem tw13522464437642388405:True:=⟨⟩
theorem tw10121667497465855435:True:=⟨⟩
theorem tw10247818508165488197:True:=⟨⟩
theorem tw8876282032723930387:True:=⟨⟩
theorem tw17774106433480243540:True:=⟨⟩
theorem tw3947051038685810089:True:=⟨⟩
theorem tw12494638326547542580:True:=⟨⟩
theorem tw4382949647691476358:True:=⟨⟩
theorem tw14654588111832776102:True:=⟨⟩
theorem tw11807380583805198959:True:=⟨⟩
theorem tw8510099443248280034:True:=⟨⟩
theorem tw11401594209765561973:True:=⟨⟩
theorem tw14823213399833090193:True:=⟨⟩
theorem tw14727636272001286526:True:=⟨⟩
theorem tw17015611164936616584:True:=⟨⟩
theorem tw15579337961762066599:True:=⟨⟩
theorem tw17610975236555709284:True:=⟨⟩
theorem tw17195190138575568581:True:=⟨⟩
theorem tw18430339367195419753:True:=⟨⟩
theorem tw2752522857216386230:True:=⟨⟩
theorem tw3353197098622944373:True:=⟨⟩
theorem tw8244257290216996835:True:=⟨⟩
theorem tw16699528612892914743:True:=⟨⟩
theorem tw16687514570115818936:True:=⟨⟩
theorem tw2092092583219520742:True:=⟨⟩
theorem tw14332757778958505065:True:=⟨⟩
theorem tw4513119542793887014:True:=⟨⟩
theorem tw5707949463550655404:True:=⟨⟩
theorem tw18372957966292340766:True:=⟨⟩
theorem tw8266598951530037280:True:=⟨⟩
theorem tw12483729642093886681:True:=⟨⟩
theorem tw9427666100866514313:True:=⟨⟩
theorem tw12795275767846210454:True:=⟨⟩
theorem tw12858498860734580192:True:=⟨⟩
theorem tw10100268608208380747:True:=⟨⟩
theorem tw681871135443675184:True:=⟨⟩
theorem tw11290401064740331757:True:=⟨⟩
theorem tw15239400835274932993:True:=⟨⟩
theorem tw5032505451589246135:True:=⟨⟩
theorem tw11936150946880059150:True:=⟨⟩
theorem tw11936823250930263574:True:=⟨⟩
theorem tw6788035538533125579:True:=⟨⟩
theorem tw13257294495015518782:True:=⟨⟩
theorem tw1635306941262596691:True:=⟨⟩
theorem tw17807265469593051678:True:=⟨⟩
theorem tw5639222508651757942:True:=⟨⟩
theorem tw2011001804557110539:True:=⟨⟩
theorem tw10936487771287480488:True:=⟨⟩
theorem tw8195274109547743869:True:=⟨⟩
theorem tw6289747336850285471:True:=⟨⟩
theorem tw5848970232658590550:True:=⟨⟩
theorem tw2214155743816280834:True:=⟨⟩
theorem tw11704048147850715452:True:=⟨⟩
theorem tw1424214997010423521:True:=⟨⟩
theorem tw2828799043152071484:True:=⟨⟩
theorem tw11656764904367139031:True:=⟨⟩
theorem tw12326194305358739392:True:=⟨⟩
theorem tw522703360341518764:True:=⟨⟩
theorem tw7359277294906998039:True:=⟨⟩
theorem tw11037836865071116574:True:=⟨⟩
theorem tw12033488251583990604:True:=⟨⟩
theorem tw17211553745907475017:True:=⟨⟩
theorem tw14590197203227652747:True:=⟨⟩
theorem tw145702297058806540:True:=⟨⟩
theorem tw7776458602091768295:True:=⟨⟩
theorem tw12481108443599829975:True:=⟨⟩
theorem tw6630047131093065239:True:=⟨⟩
theorem tw5865840195105817249:True:=⟨⟩
theorem tw1840832488122812219:True:=⟨⟩
theorem tw12052484930330127374:True:=⟨⟩
theorem tw9111203959303079634:True:=⟨⟩
theorem tw13135520640813362286:True:=⟨⟩
theorem tw632437285881519819:True:=⟨⟩
theorem tw11042511357970097885:True:=⟨⟩
theorem tw7302952601522968505:True:=⟨⟩
theorem tw2387199316686040914:True:=⟨⟩
theorem tw11729155879840471558:True:=⟨⟩
theorem tw4972782813218895737:True:=⟨⟩
theorem tw17340745408350320767:True:=⟨⟩
theorem tw17313151857792903162:True:=⟨⟩
theorem tw12600279900841044993:True:=⟨⟩
theorem tw12504246832371504335:True:=⟨⟩
theorem tw2417293834686975780:True:=⟨⟩
theorem tw18174157144040996154:True:=⟨⟩
theorem tw16832218465312114281:True:=⟨⟩
theorem tw13189952572622588892:True:=⟨⟩
theorem tw7287353007278855031:True:=⟨⟩
theorem tw6667197838574636061:True:=⟨⟩
theorem tw3776325936197509808:True:=⟨⟩
theorem tw5373203359132888790:True:=⟨⟩
theorem tw3961012264882183184:True:=⟨⟩
theorem tw6411496020933036534:True:=⟨⟩
theorem tw2618250116652819073:True:=⟨⟩
theorem tw14510509085727572566:True:=⟨⟩
theorem tw14643793609411889356:True:=⟨⟩
theorem tw8066992259178549247:True:=⟨⟩
theorem tw3963522150856902673:True:=⟨⟩
theorem tw494656528455078679:True:=⟨⟩
theorem tw14304481915724192174:True:=⟨⟩
theorem tw7259010264974450752:True:=⟨⟩
theorem tw8914777433155058110:True:=⟨⟩
theorem tw5480403823649729605:True:=⟨⟩
theorem tw8502546067852458652:True:=⟨⟩
theorem tw3442587763810987227:True:=⟨⟩
theorem tw11433122068486904900:True:=⟨⟩
theorem tw4021307796466530074:True:=⟨⟩
theorem tw11341373563062694425:True:=⟨⟩
theorem tw1478795037422411306:True:=⟨⟩
theorem tw13221814444210314085:True:=⟨⟩
theorem tw12304484744721950733:True:=⟨⟩
theorem tw12195681571062364226:True:=⟨⟩
theorem tw17049773303766200391:True:=⟨⟩
theorem tw2134488422094121952:True:=⟨⟩
theorem tw46267029124309656:True:=⟨⟩
theorem tw10537634618331344678:True:=⟨⟩
theorem tw16423355199685217794:True:=⟨⟩
theorem tw16065582455888006934:True:=⟨⟩
theorem tw3976649139232919968:True:=⟨⟩
theorem tw1918480692175608354:True:=⟨⟩
theorem tw14988769558629723907:True:=⟨⟩
theorem tw10567328945759074690:True:=⟨⟩
theorem tw2747021113107248519:True:=⟨⟩
theorem tw17591985450443737907:True:=⟨⟩
theorem tw15228699091655825263:True:=⟨⟩
theorem tw18277872155920335457:True:=⟨⟩
theorem tw15570323843865227967:True:=⟨⟩
theorem tw13240087124573402700:True:=⟨⟩
theorem tw8756186883176814215:True:=⟨⟩
theorem tw4547201656708168038:True:=⟨⟩
theorem tw2244603150112213650:True:=⟨⟩
theorem tw6594488200655530427:True:=⟨⟩
theorem tw18221325961837115665:True:=⟨⟩
theorem tw14415034925755426321:True:=⟨⟩
theorem tw5745571102808034376:True:=⟨⟩
theorem tw11271433852392020497:True:=⟨⟩
theorem tw5558244494443255597:True:=⟨⟩
theorem tw8669389944159537635:True:=⟨⟩
theorem tw17180644485315305199:True:=⟨⟩
theorem tw6018465206624428597:True:=⟨⟩
theorem tw1291637765425031969:True:=⟨⟩
theorem tw3370672503722885201:True:=⟨⟩
theorem tw6066960867517893096:True:=⟨⟩
theorem tw5243991473926841909:True:=⟨⟩
theorem tw12259602306177831838:True:=⟨⟩
theorem tw4608598790240158128:True:=⟨⟩
theorem tw4307789268430064703:True:=⟨⟩
theorem tw2510712166195475727:True:=⟨⟩
theorem tw15327340798830136756:True:=⟨⟩
theorem tw14927418784127725845:True:=⟨⟩
theorem tw1343019920775098551:True:=⟨⟩
theorem tw15704228177743315023:True:=⟨⟩
theorem tw2182171157023557755:True:=⟨⟩
theorem tw18041632719590580643:True:=⟨⟩
theorem tw16095951485823581903:True:=⟨⟩
theorem tw11644624162650011252:True:=⟨⟩
theorem tw6887955067539304250:True:=⟨⟩
theorem tw13886352772171326743:True:=⟨⟩
theorem tw5527557097376703586:True:=⟨⟩
theorem tw17167544076784078738:True:=⟨⟩
theorem tw6605977086872428863:True:=⟨⟩
theorem tw12920466300717803521:True:=⟨⟩
theorem tw17446679641105636159:True:=⟨⟩
theorem tw10921545636882796671:True:=⟨⟩
theorem tw7625854479962301162:True:=⟨⟩
theorem tw7354942231671878547:True:=⟨⟩
theorem tw2810181600091791369:True:=⟨⟩
theorem tw10915522569002348806:True:=⟨⟩
theorem tw6155217547597625567:True:=⟨⟩
theorem tw8089383345090577950:True:=⟨⟩
theorem tw1881356058693700151:True:=⟨⟩
theorem tw16153701540154636744:True:=⟨⟩
theorem tw6005209515098111031:True:=⟨⟩
theorem tw9286368331483396747:True:=⟨⟩
theorem tw18306009000488398798:True:=⟨⟩
theorem tw14177164528559489693:True:=⟨⟩
theorem tw9478741937716041232:True:=⟨⟩
theorem tw16757071254635693682:True:=⟨⟩
theorem tw7934218277018172689:True:=⟨⟩
theorem tw6511662168163705327:True:=⟨⟩
theorem tw3826747414916425998:True:=⟨⟩
theorem tw3621222654501389521:True:=⟨⟩
theorem tw3618213021123174602:True:=⟨⟩
theorem tw16482248294800761444:True:=⟨⟩
theorem tw14502164320589903422:True:=⟨⟩
theorem tw11442407997304031200:True:=⟨⟩
theorem tw6473687514838417108:True:=⟨⟩
theorem tw14395592980037955399:True:=⟨⟩
theorem tw14373893057312250276:True:=⟨⟩
theorem tw13347598380364918071:True:=⟨⟩
theorem tw9842132569871346380:True:=⟨⟩
theorem tw6893201271550950885:True:=⟨⟩
theorem tw2535722326718400768:True:=⟨⟩
theorem tw11175267233562702985:True:=⟨⟩
theorem tw3505335790590577560:True:=⟨⟩
theorem tw17245797181223793433:True:=⟨⟩
theorem tw14323403851781998823:True:=⟨⟩
theorem tw4830101518707884962:True:=⟨⟩
theorem tw12016554766551179224:True:=⟨⟩
theorem tw16184941055500978474:True:=⟨⟩
end PySem.W.Fast
open PySem PySem.W PyProof.Rows
set_option maxRecDepth 100000 in
set_option maxHeartbeats 0 in
theorem PySem.Challenge.cw_riverdue_k27_texts_refused_holds : PySem.Challenge.rw_riverdue_k27_texts_refused.Holds := by
 w_on; o_law; o_head (PySem.W.kHook L2.Rv.KQ L2.Rv.KQa (fun _ => by kernel_rfl)); (case hw => w_witness2)
 refine L2.Rv.walk (l := PySem.Challenge.rw_riverdue_k27_texts_refused) (K := L2.Rv.KD L2.Rv.KQ 138) (tb := 138) rfl rfl (fun w h Y => ⟨L2.Rv.KD_in (PySem.W.kIn_of Y), PySem.W.kIn_of Y 138 _ (by kernel_rfl)⟩) (fun w => L2.Rv.KD_none) ?F
 case F => exact fun w mg fa h KX G hmg => L2.Rv.all_mk KX G hmg L2.Rv.law_true
