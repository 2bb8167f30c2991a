import PyProof.Rows.All
import Wide.All
import OpenK.AllK
import Wide.FinOn
import Lean
import PyProof.EqAt
import PyProof.EqKinds
import PyProof.TupleCall
import PyProof.ExcArgs
import KE.KSortAsk
import PySem.Str
import PyProof.EqLayable
import PyProof.Rows.EqDataRows
import PyProof.StrBlockI
import KE.KSortTup
import KE.KDictSum
import KE.KLam
import PyProof.StrLawsRepr
import PyProof.FString4
import PyProof.ListRange
import PyProof.StrOps2
import PyProof.DictItems
import KE.KPairComp
import PyProof.AttrMissHeap
import KE.KDictOf
import PyProof.DictWalks
import PyProof.StrBlockL
import PyProof.StrLawsIn
import KE.IntText
import PyProof.StrLoop
import PyProof.StrWalks
import PyProof.ConsumeWalk
import KE.KIntText
import PyProof.Rows.SetFrom
import PyProof.Rows.StrIntSpec
import PySem.Challenge.RW_riverdue_k28_each_refusal_alone
set_option linter.all false
set_option maxRecDepth 100000
set_option maxHeartbeats 4000000
noncomputable section
open List renaming getElem?_cons_zero->aR,getElem?_cons_succ->aS,getElem?_eq_some_iff->bM,replicate->br,lookup_cons->bI,mem_cons->bu,getElem?_map->bZ,mem_append_right->cM,map_cons->bD,size_toArray->cG,getElem?_append_left->eJ,not_mem_nil->cW,mem_singleton->dF,mem_of_getElem?->dZ,length_map->c6,mem_cons_of_mem->d5,mem_map->cO,getElem?_set_self->fY,range->cK,mem_cons_self->fu,length_cons->eR,getElem?_append_right->iO,replicate_succ->fZ,map_map->dJ,mem_append_left->gB,getElem?_set_ne->ip,getD_eq_getElem?_getD->j4,getElem?_replicate->ji,mem_append->fJ,length_append->gX,set_cons_succ->gZ,set_cons_zero->hG,getElem?_range->iB,map_congr_left->iP,lookup->eL,mem_iff_getElem?->jY,nodup_cons->ig,all_eq_true->iS,getElem?_eq_none_iff->mE,filter_cons_of_neg->mY,filter_cons_of_pos->mw,map_nil->gq,nodup_append->j9,ext_getElem?->j6,nil_append->i7,getElem?_eq_none->nQ,forIn_nil->i6,pairwise_iff_getElem->qF,drop_eq_getElem_cons->o6,flatten_cons->lO,length_nil->kh,forIn_cons->j7,map_append->jQ,all_cons->i3,any_cons->jj,range'->ij,cons_append->kQ,mem_range->jP,find?_cons->lW,cons_lt_cons_iff->qw,length_take->nI,mem_filter->mU,of_mem_zip->mh,zip_cons_cons->rP,filter->jX,length_replicate->tE,filter_cons->pV,drop_length->pR,foldl->jF,filterMap_cons->uv,lookup_nil->pH,forIn_toArray->uj,append_assoc->uo,length_drop->vb,append_nil->ug,foldl_cons->vy,range_succ->uI,filter_map->tP,length->o9
open PySem.Str renaming ofString->aA
open PySem.Heap renaming get?_push_of_some->bG,lt_size->bo,get?_push_size->cT,get?_update_other->dP,get?_update_self->fi,get?_none_of_le->jf,size_push->iV,size_update->kK,get?_update_ne->rg,SameBut->jR
open Bool renaming false_ne_true->bW,false_eq_true->c9,and_eq_true->d7,eq_iff_iff->lF,not_true->lC,not_false->oS,or_eq_true->ul
open Nat renaming le_refl->aU,lt_of_lt_of_le->cN,le_trans->cB,ne_of_lt->dj,ne_of_gt->dB,zero_le->fg,lt_irrefl->gU,le_of_not_lt->kJ,le_add_right->nH,lt_of_le_of_lt->pK,lt_succ_of_lt->qT,le_of_lt->kP,lt_succ_self->qY,not_lt_zero->oX,le_of_eq->mQ,not_lt_of_le->uA,beq->i5
open PySem.F renaming excBase_ValueError->dD,slot_dict_get->ud
open Option renaming isSome_iff_exists->li,isSome_map->uL
open Array renaming getElem?_eq_getElem->n8,length_toList->pU,toList_inj->tR
open Classical renaming propDecidable->sL
open Int renaming toNat_natCast->t6
open PySem renaming Value->af,Shared->aj,Addr->ae,Program->bi,World->aQ,Around->aX,Expr->aw,Stmt->aP,Heap->aH,Obj->aB,FuncData->bc,sizeLine->aV,rawInt->cE,model->av,eval->aG,wpAny->aq,wpAny_bind->ak,wpAny_pure->aL,wpAny_mono->bv,starEach->aJ,compareOp->dL,mainGlobals->dz,wpAny_field->cX,backTo->cL
set_option Elab.async false
namespace L2
open PySem PySem.Spec PyProof.Rows
theorem bK{α β γ:Type}{p q r s:α->β->γ->Prop}{t:Prop}(e:∃a b c,p a b c/\q a b c/\r a b c/\s a b c)(f:∀a b c,p a b c->q a b c->r a b c->s a b c->t):t:=e.elim λa e=>e.elim λb e=>e.elim λc e=>f a b c e.1 e.2.1 e.2.2.1 e.2.2.2
theorem bp{α β:Type}{p q r:α->β->Prop}{t:Prop}(e:∃a b,p a b/\q a b/\r a b)(f:∀a b,p a b->q a b->r a b->t):t:=e.elim λa e=>e.elim λb e=>f a b e.1 e.2.1 e.2.2
abbrev Key:=Sum Int Str
noncomputable def i9:Key->af->Bool
 |.inl k,v=>Value.isInt k v
 |.inr x,v=>Value.isStrOf x v
noncomputable def Ix(w:aQ):Key->Int
 |.inl k=>hashInt k
 |.inr x=>hashStr w x
theorem gL:∀{k:Key}{v:af},i9 k v=true->(∃i t,k=Sum.inl i/\v=Value.int i t)∨(∃x t,k=Sum.inr x/\v=Value.str x t)
 |.inl i,v,h=>by
   obtain⟨t,e⟩:=Value.isInt_shape (k:=i) (v:=v) h;exact .inl ⟨i,t,rfl,e⟩
 |.inr x,v,h=>by
   obtain⟨t,e⟩:=Value.isStrOf_shape (x:=x) (v:=v) h;exact .inr ⟨x,t,rfl,e⟩
theorem Bl(i:Int)(t:Tok):i9 (.inl i) (.int i t)=true:=by simp[i9,Value.isInt]
theorem D8(x:Str)(t:Tok):i9 (.inr x) (.str x t)=true:=by simp[i9,Value.isStrOf]
theorem GB(a b:Int):decide ((Sum.inl a:Key)=Sum.inl b)=(a == b):=by
 by_cases e:a=b
 ·subst e;simp
 ·have h:¬(Sum.inl a:Key)=Sum.inl b:=λq=>e (Sum.inl.inj q);rw[decide_eq_false h];exact(beq_eq_false_iff_ne.mpr e).symm
theorem BY(a b:Str):decide ((Sum.inr a:Key)=Sum.inr b)=decide (a=b):=by
 by_cases e:a=b
 ·subst e;simp
 ·have h:¬(Sum.inr a:Key)=Sum.inr b:=λq=>e (Sum.inr.inj q);rw[decide_eq_false h,decide_eq_false e]
theorem B5(a:Int)(b:Str):decide ((Sum.inl a:Key)=Sum.inr b)=false:=decide_eq_false (λq=>nomatch q)
theorem Cp(a:Str)(b:Int):decide ((Sum.inr a:Key)=Sum.inl b)=false:=decide_eq_false (λq=>nomatch q)
noncomputable def de(prog:bi)(w:aQ):PySem.KeyKind prog w Key where
 is:=i9
 hash:=Ix w
 inj:=λv a b ha hb=>by
  rcases gL ha with⟨i,t,rfl,rfl⟩|⟨x,t,rfl,rfl⟩
  ·rcases gL hb with⟨j,u,rfl,e⟩|⟨y,u,rfl,e⟩
   ·injection e with e1 _;rw[e1]
   ·exact nomatch e
  ·rcases gL hb with⟨j,u,rfl,e⟩|⟨y,u,rfl,e⟩
   ·exact nomatch e
   ·injection e with e1 _;rw[e1]
 byValue:=λk v h=>by
  rcases gL h with⟨i,t,rfl,rfl⟩|⟨x,t,rfl,rfl⟩ <;> rfl
 pyHash:=λhv h=>by
  rcases gL hv with⟨i,t,rfl,rfl⟩|⟨x,t,rfl,rfl⟩
  ·exact wpAny_pyHash_int h
  ·exact wpAny_pyHash_str h
 eqBool:=λhu hv h=>by
  rcases gL hu with⟨i,t,rfl,rfl⟩|⟨x,t,rfl,rfl⟩
  ·rcases gL hv with⟨j,u,rfl,rfl⟩|⟨y,u,rfl,rfl⟩
   ·rw[GB]at h;exact wpAny_eqBool_int h
   ·rw[B5]at h;exact SeqAt.EqAt.int_str i t y u _ _ _ _ h
  ·rcases gL hv with⟨j,u,rfl,rfl⟩|⟨y,u,rfl,rfl⟩
   ·rw[Cp]at h;exact SeqAt.EqAt.str_int x t j u _ _ _ _ h
   ·rw[BY]at h;exact wpAny_eqBool_str h
 «strs»:=λk x t v h=>by
  rcases gL h with⟨i,u,rfl,e⟩|⟨y,u,rfl,e⟩
  ·exact nomatch e
  ·injection e with e1 _;subst e1;cases v <;> rfl
theorem AM(prog:bi)(w:aQ)(i:Int)(t:Tok):(de prog w).is (.inl i) (.int i t)=true:=Bl i t
theorem Iy(prog:bi)(w:aQ)(x:Str)(t:Tok):(de prog w).is (.inr x) (.str x t)=true:=D8 x t
inductive V where
 |non|bl (b:Bool)|int (i:Int)|str (x:Str)|byt (b:Array UInt8)|flt (b:UInt64)|ref (a:ae)|ty (n:String)
 deriving DecidableEq
def aN:V->af->Prop
 |.non,u=>u=Value.none
 |.bl b,u=>u=Value.bool b
 |.int i,u=>∃t,u=Value.int i t
 |.str x,u=>∃t,u=Value.str x t
 |.byt b,u=>∃t,u=Value.bytes b t
 |.flt b,u=>∃t,u=Value.float b t
 |.ref a,u=>u=Value.ref a
 |.ty n,u=>u=Value.type n
abbrev Vals:List V->List af->Prop:=Paired aN
theorem Vals.length{xs:List V}{us:List af}(r:Vals xs us):xs.length=us.length:=Paired.length r
theorem Vals.get:∀{xs:List V}{us:List af}{i:Nat}{x:V},Vals xs us->xs[i]?=some x->∃u,us[i]?=some u/\aN x u
 |_,_,_,_,.nil,e=>by simp at e
 |_,_,0,_,.cons r _,e=>by simp at e;subst e;exact⟨_,rfl,r⟩
 |_,_,i+1,x,.cons _ t,e=>by
   obtain⟨u,h1,h2⟩:=Vals.get (i:=i) (x:=x) t (by simpa using e);exact⟨u,by simpa using h1,h2⟩
theorem Vals.set{x:V}{u:af}(r:aN x u):∀{xs:List V}{us:List af}(i:Nat),Vals xs us->Vals (xs.set i x) (us.set i u)
 |_,_,_,.nil=>.nil
 |_,_,0,.cons _ t=>.cons r t
 |_,_,i+1,.cons q t=>.cons q (Vals.set r i t)
theorem Vals.append:∀{xs ys:List V}{us ws:List af},Vals xs us->Vals ys ws->Vals (xs++ys) (us++ws)
 |_,_,_,_,.nil,s=>s
 |_,_,_,_,.cons r t,s=>.cons r (Vals.append t s)
theorem Vals.take:∀{xs:List V}{us:List af}(n:Nat),Vals xs us->Vals (xs.take n) (us.take n)
 |_,_,0,_=>.nil
 |_,_,_+1,.nil=>.nil
 |_,_,n+1,.cons r t=>.cons r (Vals.take n t)
theorem Vals.drop:∀{xs:List V}{us:List af}(n:Nat),Vals xs us->Vals (xs.drop n) (us.drop n)
 |_,_,0,r=>r
 |_,_,_+1,.nil=>.nil
 |_,_,n+1,.cons _ t=>Vals.drop n t
def dW:Option V->Option af->Prop
 |some v,some u=>aN v u
 |none,none=>True
 |_,_=>False
def KV{κ:Type}:List (κ×V)->List (κ×af)->Prop:=Paired λ(p:κ×V) (q:κ×af)=>p.1=q.1/\aN p.2 q.2
noncomputable def kV:Key->V
 |.inl i=>.int i
 |.inr x=>.str x
inductive HO where
  |lst (xs:List V)
  |tup (xs:List V)
  |dK (kvs:List (Key×V))|dT (kvs:List (List Key×V))
  |set (S:Int->Bool) (n:Nat)
  |ins (C dx:ae) (fs:List (Str×V))
  |own (x:ae)
  |xd (fs:List (Str×V))
  |met (f x:ae)
  |rng (lo hi:Int)
  |frz (o:aB) (u:HO)
  |tbl (ps:Array af)
  |ext (φ:aH->Prop)
abbrev Hp:=ae->Option HO
noncomputable def upd(H:Hp)(a:ae)(o:HO):Hp:=λb=>if b=a then some o else H b
theorem dh{H:Hp}{a:ae}{o:HO}:upd H a o a=some o:=by unfold upd;rw[if_pos rfl]
theorem aY{H:Hp}{a b:ae}{o:HO}(h:b≠a):upd H a o b=H b:=by unfold upd;rw[if_neg h]
theorem EY{H:Hp}{a b:ae}{o u:HO}(h:H a=some o)(h':H b=some u)(d:o≠u):a≠b:=by
 intro e;subst e;rw[h]at h';exact d (Option.some.inj h')
theorem dE{H:Hp}{a b:ae}{o:HO}(h:H a=some o)(h':H b=none):a≠b:=by
 intro e;subst e;rw[h]at h';cases h'
section
variable (P:bi)(w:aQ)
def cA(H:Hp)(h:aH)(a:ae):HO->Prop
 |.lst xs=>xs.length≤aV/\∃(its:List af) (n:Nat),Vals xs its/\h.get? a=some { cls:=.type "list",data:=.seq its.toArray n }
 |.tup xs=>xs.length≤aV/\∃its:List af,Vals xs its/\IsTup h a its.toArray
 |.dK kvs=>kvs.length≤aV/\(a == sysModules)=false/\∃vs,KV kvs vs/\h.DictOf (de P w) a vs
 |.dT kvs=>kvs.length≤aV/\(a == sysModules)=false/\∃xs:List (List Key×ae×af),
   Paired (λ(p:List Key×V) (q:List Key×ae×af)=>p.1=q.1/\H q.2.1=some (.tup (p.1.map kV))/\aN p.2 q.2.2) kvs xs /\
   ∃o es ep,h.get? a=some o/\o.ExactDict/\o.data=.dict es ep/\es.toList=xs.map (entryOfKey (tupleKind (de P w)))/\(xs.map (·.1)).Nodup
 |.set S n=>h.SetOf (intKind P w) a S n
 |.ins C dx fs=>H dx=some (.own a)/\fs.length≤1000/\dx≠a/\h.get? a=some (PySem.W.instObj C dx) /\
   ∃mA,h.Ns1 dx mA/\(∀f,dW (fs.lookup f) (mA f))/\PySem.Within mA (fs.map (·.1))
 |.own _=>∃o,h.get? a=some o
 |.xd fs=>∃mA,h.Ns1 a mA/\∀f,dW (fs.lookup f) (mA f)
 |.rng lo hi=>∃t u v,h.get? a=some { cls:=.type "range",data:=.fields #[.int lo t,.int hi u,.int 1 v] }
 |.frz o u=>h.get? a=some o/\cA H h a u
 |.tbl ps=>h.get? a=some { cls:=.none,data:=.fields ps }
 |.met f x=>h.get? a=some (PySem.W.methodObj (.ref f) (.ref x))
 |.ext φ=>φ h/\(∃o,h.get? a=some o)/\∀h1 h2:aH,φ h1->(∀o,h1.get? a=some o->h2.get? a=some o)->φ h2
def HOk(H:Hp)(h:aH):Prop:=∀a o,H a=some o->cA P w H h a o
end
section
variable {P:bi}{w:aQ}{H H':Hp}{h h':aH}{a:ae}{o:HO}
theorem cA.lt(x:cA P w H h a o):a<h.objs.size:=by
 cases o with
 |lst xs=>obtain⟨_,_,_,_,e⟩:=x;exact bo e
 |tup xs=>obtain⟨_,_,_,p⟩:=x;exact p.lt
 |dK kvs=>obtain⟨_,_,_,_,o,_,_,e,_⟩:=x;exact bo e
 |dT kvs=>obtain⟨_,_,_,_,o,_,_,e,_⟩:=x;exact bo e
 |set S n=>obtain⟨o,_,_,_,e,_⟩:=x;exact bo e
 |ins C dx fs=>obtain⟨_,_,_,e,_⟩:=x;exact bo e
 |own y=>obtain⟨_,e⟩:=x;exact bo e
 |xd fs=>obtain⟨_,⟨_,_,_,e,_⟩,_⟩:=x;exact bo e
 |rng lo hi=>obtain⟨_,_,_,e⟩:=x;exact bo e
 |frz ob u=>obtain⟨e,_⟩:=x;exact bo e
 |tbl ps=>exact bo (show h.get? a=some _ from x)
 |met f y=>exact bo (show h.get? a=some _ from x)
 |ext φ=>obtain⟨_,⟨_,e⟩,_⟩:=x;exact bo e
theorem Paired.mapP{α β:Type}{F G:α->β->Prop}:∀{l₁:List α}{l₂:List β},Paired F l₁ l₂->(∀a b,F a b->G a b)->Paired G l₁ l₂
 |_,_,.nil,_=>.nil
 |_,_,.cons r t,f=>.cons (f _ _ r) (Paired.mapP t f)
theorem Paired.imp'{α β:Type}{F G:α->β->Prop}(f:∀a b,F a b->G a b){l₁:List α}{l₂:List β}(r:Paired F l₁ l₂):Paired G l₁ l₂:=Paired.mapP r f
theorem cA.stay(x:cA P w H h a o)(k:∀b u,(b=a∨H b=some (.own a))->h.get? b=some u->h'.get? b=some u)
  (ho:∀b,H b=some (.own a)->H' b=some (.own a)) (ht:∀b xs,H b=some (.tup xs)->H' b=some (.tup xs)):cA P w H' h' a o:=by
 induction o with
 |lst xs=>obtain⟨z,its,n,r,e⟩:=x;exact⟨z,its,n,r,k _ _ (.inl rfl) e⟩
 |tup xs=>obtain⟨z,its,r,ob,e,c⟩:=x;exact⟨z,its,r,ob,k _ _ (.inl rfl) e,c⟩
 |dK kvs=>obtain⟨z,y,vs,r,ob,es,ep,e,c⟩:=x;exact⟨z,y,vs,r,ob,es,ep,k _ _ (.inl rfl) e,c⟩
 |dT kvs=>
   obtain⟨z,y,xs,r,ob,es,ep,e,c⟩:=x;exact⟨z,y,xs,Paired.mapP r λp q z=>⟨z.1,ht _ _ z.2.1,z.2.2⟩,ob,es,ep,k _ _ (.inl rfl) e,c⟩
 |set S n=>obtain⟨ob,es,ep,t,e,c⟩:=x;exact⟨ob,es,ep,t,k _ _ (.inl rfl) e,c⟩
 |ins C dx fs=>
   obtain⟨d,z,ne,e,mA,⟨od,es,ep,e2,c⟩,r⟩:=x;exact⟨ho _ d,z,ne,k _ _ (.inl rfl) e,mA,⟨od,es,ep,k _ _ (.inr d) e2,c⟩,r⟩
 |own y=>obtain⟨ob,e⟩:=x;exact⟨ob,k _ _ (.inl rfl) e⟩
 |xd fs=>obtain⟨mA,⟨od,es,ep,e,c⟩,r⟩:=x;exact⟨mA,⟨od,es,ep,k _ _ (.inl rfl) e,c⟩,r⟩
 |rng lo hi=>obtain⟨t,u,v,e⟩:=x;exact⟨t,u,v,k _ _ (.inl rfl) e⟩
 |frz ob u ih=>obtain⟨e,q⟩:=x;exact⟨k _ _ (.inl rfl) e,ih q⟩
 |tbl ps=>
   have e:h.get? a=some { cls:=.none,data:=.fields ps }:=x;show h'.get? a=some { cls:=.none,data:=.fields ps };exact k a _ (.inl rfl) e
 |met f y=>
   have e:h.get? a=some (PySem.W.methodObj (.ref f) (.ref y)):=x;show h'.get? a=some (PySem.W.methodObj (.ref f) (.ref y));exact k a _ (.inl rfl) e
 |ext φ=>obtain⟨p,⟨o,e⟩,st⟩:=x;exact⟨st _ _ p λo q=>k _ _ (.inl rfl) q,⟨o,k _ _ (.inl rfl) e⟩,st⟩
theorem HOk.lt(x:HOk P w H h)(e:H a=some o):a<h.objs.size:=(x a o e).lt
theorem HOk.fresh(x:HOk P w H h)(e:h.objs.size≤a):H a=none:=by
 cases q:H a with
 |none=>rfl
 |some u=>exact absurd (cN (x.lt q) e) (gU _)
theorem HOk.kept(x:HOk P w H h)(k:∀b u,h.get? b=some u->h'.get? b=some u):HOk P w H h':=λa o e=>
 (x a o e).stay (λb u _ q=>k b u q) (λ_ q=>q) λ_ _ q=>q
theorem HOk.laid(x:HOk P w H h)(k:∀b u,h.get? b=some u->h'.get? b=some u)(hp:h.objs.size≤a)(new:cA P w (upd H a o) h' a o):HOk P w (upd H a o) h':=λb u e=>by
 have hn:=x.fresh hp;by_cases hb:b=a
 ·subst hb;rw[dh]at e;cases e;exact new
 ·rw[aY hb]at e;exact(x b u e).stay (λc v _ q=>k c v q) (λc q=>by rw[aY (dE q hn)];exact q) λc xs q=>by rw[aY (dE q hn)];exact q
end
def Rd(H:Hp)(a:ae)(u:HO):Prop:=H a=some u∨∃o,H a=some (.frz o u)
theorem Rd.ok{P:bi}{w:aQ}{H:Hp}{h:aH}{a:ae}{u:HO}(r:Rd H a u)(x:HOk P w H h):cA P w H h a u:=by
 rcases r with r|⟨o,r⟩
 ·exact x a u r
 ·obtain⟨_,q⟩:=x a _ r;exact q
def Mut:Option HO->Prop
 |some (.lst _)=>True
 |some (.dK _)=>True
 |some (.dT _)=>True
 |some (.set _ _)=>True
 |some (.ins _ _ _)=>True
 |some (.ext _)=>True
 |_=>False
section
variable {P:bi}{w:aQ}{H:Hp}{h h':aH}{x e:ae}{o':HO}
theorem HOk.write(ok:HOk P w H h)(mu:Mut (H x))(he:e=x∨H e=some (.own x))(k:∀b u,b≠e->h.get? b=some u->h'.get? b=some u)(heo:∃u,h'.get? e=some u)
  (new:cA P w (upd H x o') h' x o'):HOk P w (upd H x o') h':=λb u q=>by
 have nown:∀c y,H c=some (.own y)->c≠x:=λc y r z=>by subst z;rw[r]at mu;exact mu
 have ntup:∀c xs,H c=some (.tup xs)->c≠x:=λc xs r z=>by subst z;rw[r]at mu;exact mu
 by_cases hb:b=x
 ·subst hb;rw[dh]at q;cases q;exact new
 ·rw[aY hb]at q;by_cases hbe:b=e
  ·have q':H b=some (.own x):=by
    rcases he with z|z
    ·exact absurd (hbe.trans z) hb
    ·rw[hbe];exact z
   rw[q]at q';cases q';obtain⟨v,hv⟩:=heo;exact⟨v,by rw[hbe];exact hv⟩
  ·refine(ok b u q).stay (λc v hc r=>k c v ?_ r) (λc r=>by rw[aY (nown c b r)];exact r) λc xs r=>by rw[aY (ntup c xs r)];exact r
   rcases hc with rfl|hc
   ·exact hbe
   ·rintro rfl;rcases he with z|z
    ·exact nown c b hc z
    ·rw[hc]at z;cases z;exact hb rfl
end
structure Un(fs ex:List ae)(H H':Hp)(h h':aH):Prop where
 keep:∀b o,h.get? b=some o->H b=none->b∉fs->b∉ex->h'.get? b=some o
 slot:∀b o,h.get? b=some o->H b=none->b∈fs->b∉ex->∃sl,h'.get? b=some { o with slots:=sl }
 free:∀b o,h.get? b=some o->H b=none->b∉ex->H' b=none
 there:∀b o,h.get? b=some o->b∉ex->∃o',h'.get? b=some o'
 tups:∀b xs,H b=some (.tup xs)->H' b=some (.tup xs)
 frzs:∀b o u,H b=some (.frz o u)->H' b=some (.frz o u)
 tbls:∀b ps,H b=some (.tbl ps)->∃more,H' b=some (.tbl (ps++more))
section
variable {fs fs' ex ex':List ae}{H H1 H2:Hp}{h h1 h2 h':aH}{a x e:ae}{o:HO}
theorem Un.any(u:Un fs ex H H1 h h1){b:ae}{ob:aB}(q:h.get? b=some ob)(n:H b=none)(hx:b∉ex):∃sl,h1.get? b=some { ob with slots:=sl }:=by
 by_cases hb:b∈fs
 ·exact u.slot b ob q n hb hx
 ·exact⟨ob.slots,u.keep b ob q n hb hx⟩
theorem Un.kept(k:∀b u,h.get? b=some u->h'.get? b=some u):Un fs ex H H h h':=
 ⟨λb ob q _ _ _=>k b ob q,λb ob q _ _ _=>⟨ob.slots,k b ob q⟩,λ_ _ _ n _=>n,λb ob q _=>⟨ob,k b ob q⟩,λ_ _ q=>q,λ_ _ _ q=>q,λ_ ps q=>⟨#[],by rw[q];simp⟩⟩
theorem Un.refl:Un fs ex H H h h:=Un.kept λ_ _ q=>q
theorem Un.laid(k:∀b u,h.get? b=some u->h'.get? b=some u)(hp:h.objs.size≤a)(hn:H a=none):Un fs ex H (upd H a o) h h' where
 keep:=λb u q _ _ _=>k b u q
 slot:=λb u q _ _ _=>⟨u.slots,k b u q⟩
 free:=λb u q n _=>by rw[aY (dj (cN (bo q) hp))];exact n
 there:=λb u q _=>⟨u,k b u q⟩
 tups:=λb xs q=>by rw[aY (dE q hn)];exact q
 frzs:=λb u xs q=>by rw[aY (dE q hn)];exact q
 tbls:=λb ps q=>⟨#[],by rw[aY (dE q hn),q];simp⟩
theorem Un.write(mu:Mut (H x))(he:e=x∨H e=some (.own x))(k:∀b u,b≠e->h.get? b=some u->h'.get? b=some u)(heo:∃u,h'.get? e=some u):Un fs ex H (upd H x o) h h':=by
 have hx:∀b,H b=none->b≠x:=λb n z=>by subst z;rw[n]at mu;exact mu
 have hb:∀b,H b=none->b≠e:=λb n z=>by
  subst z;rcases he with r|r
  ·exact hx b n r
  ·rw[n]at r;cases r
 have hm:∀b u,H b=some u->¬Mut (some u)->b≠x:=λb u q nm z=>by subst z;rw[q]at mu;exact nm mu
 refine ⟨λb u q n _ _=>k b u (hb b n) q,λb u q n _ _=>⟨u.slots,k b u (hb b n) q⟩,λb u q n _=>by rw [aY (hx b n)];exact n,λb u q _=>?_,
  λb xs q=>by rw [aY (hm b _ q λz=>z)];exact q,λb u xs q=>by rw [aY (hm b _ q λz=>z)];exact q,λb ps q=>⟨#[],by rw [aY (hm b _ q λz=>z),q];simp⟩⟩
 by_cases hbe:b=e
 ·subst hbe;exact heo
 ·exact⟨u,k b u hbe q⟩
end
noncomputable def trk(h:aH)(H:Hp):List ae:=(cK h.objs.size).filter λa=>(H a).isSome
noncomputable def ir(h:aH)(H:Hp):aH:=PySem.W.hideAll h (trk h H)
theorem GQ(h:aH)(H:Hp):(ir h H).objs.size=h.objs.size:=PySem.W.hideAll_size _ _
theorem IV{h:aH}{H:Hp}{b:ae}{o:aB}(e:h.get? b=some o)(n:H b=none):(ir h H).get? b=some o:=
 PySem.W.hideAll_get _ e λhm=>by
  have q:(H b).isSome=true:=(mU.mp hm).2;rw[n]at q;simp at q
theorem FV{h:aH}{H:Hp}{b:ae}{o:aB}(e:(ir h H).get? b=some o):h.get? b=some o/\H b=none:=by
 have e':h.get? b=some o:=PySem.W.of_hideAll (trk h H) e;refine⟨e',?_⟩;cases q:H b with
 |none=>rfl
 |some x=>
   have hm:b∈trk h H:=mU.mpr ⟨jP.mpr (bo e'),by simp[q]⟩;have z:(ir h H).get? b=none:=PySem.W.hideAll_none (trk h H) hm;rw[z]at e;cases e
structure Mod(K:PySem.W.Frag)(mg:Str->Option af)(base:aH):Prop where
 kin:K.In base
 glob:base.Ns dz mg
 blt:∃mb,base.Ns builtinsNs mb/\∀x:Str,x≠"__name__"->mb x=bootBuiltins x
 nolimit:base.NoLimit
structure Cx where
 prog:bi
 w:aQ
 K:PySem.W.Frag
 mg:Str->Option af
 base:aH
 A:aX
 N:List Str
 s₀:aj
 H₀:Hp
 env:Env
 outer:List Env
 stack:List Env
 ex:List ae
 fn:Str->Bool
 calm:Bool
 pn:List (ae×aB)
 xe:af->aj->Prop
noncomputable def frs(l:List Env):List ae:=l.filterMap (·.frame)
noncomputable abbrev Cx.fs(X:Cx):List ae:=frs X.outer
def Vis(sc:Scope)(x:Str):Prop:=sc.names.lookup x=some .local∨sc.names.lookup x=some .cell∨sc.names.lookup x=some .free
def Loc(sc:Scope)(x:Str):Prop:=sc.names.lookup x=some .local∨sc.names.lookup x=some .cell
def Look(env:Env)(h:aH)(m:Str->Option af)(x:Str)(u:af):Prop:=
 (env.kindOf x=some .local/\m x=some u)∨((env.kindOf x=some .cell∨env.kindOf x=some .free)/\∃c,env.cells.lookup x=some c/\h.IsCell c (some u))
structure Cx.Ok(X:Cx):Prop where
 mod:Mod X.K X.mg X.base
 kind:X.env.scope.kind=.function
 glob:X.env.globals=dz
 blt:X.env.builtins=builtinsNs
 above:X.s₀.heap.objs.size≤X.env.locals
 inj:∀x y c,X.env.cells.lookup x=some c->X.env.cells.lookup y=some c->x=y
 has:∀x,(X.env.kindOf x=some .cell∨X.env.kindOf x=some .free)->∃c,X.env.cells.lookup x=some c
 cab:∀x c,X.fn x=true->X.env.cells.lookup x=some c->X.s₀.heap.objs.size≤c
 hd:X.calm=true->X.A.handled=none
 frames:X.A.frames=some X.stack
 stk:X.stack=X.outer∨(X.stack=X.env::X.outer/\X.env.frame=some X.env.locals)
 exf:∀b∈X.ex,b≠X.env.locals/\∀x c,X.env.cells.lookup x=some c->c≠b
 bs:∀b o,X.base.get? b=some o->X.s₀.heap.get? b=some o/\X.H₀ b=none
 bsz:X.base.objs.size≤X.s₀.heap.objs.size
 noex:∀b o,X.base.get? b=some o->b∉X.ex
 exfs:∀b∈X.ex,b∉X.fs
 funs:X.s₀.heap.FunFrames X.base X.outer
 frf:∀b∈X.fs,X.H₀ b=none
structure Inv(X:Cx)(pins:List (ae×aB))(σ:List (Option V))(H:Hp)(s:aj):Prop where
 ok:X.Ok
 os:s.os=X.s₀.os
 bare:AllBare s.gens
 base:Un X.fs X.ex X.H₀ H X.s₀.heap s.heap
 loc:∃m,s.heap.Ns X.env.locals m/\∀(i:Nat) (x:Str) (v:V),X.N[i]?=some x->σ[i]?=some (some v)->Vis X.env.scope x->∃u,aN v u/\Look X.env s.heap m x u
 cell:∀x c,X.env.cells.lookup x=some c->∃v,s.heap.IsCell c v
 free:H X.env.locals=none
 freeC:∀x c,X.env.cells.lookup x=some c->H c=none
 pin:∀p∈X.pn++pins,s.heap.get? p.1=some p.2/\H p.1=none/\p.1≠X.env.locals/\p.1∉X.fs/\∀v,p.2.data≠.cell v
 hok:HOk X.prog X.w H s.heap
 len:σ.length=X.N.length
section
variable {X:Cx}{pins:List (ae×aB)}{σ:List (Option V)}{H H':Hp}{s:aj}{h':aH}
theorem Cx.Ok.nofr(ok:X.Ok){b:ae}{o:aB}(e:X.base.get? b=some o):b∉X.fs:=λhb=>by
 have:=(ok.funs.mem hb).1;rw[e]at this;cases this
theorem Inv.bs(I:Inv X pins σ H s):∀b o,X.base.get? b=some o->s.heap.get? b=some o/\H b=none:=λb o e=>
 ⟨I.base.keep b o (I.ok.bs b o e).1 (I.ok.bs b o e).2 (I.ok.nofr e) (I.ok.noex b o e),I.base.free b o (I.ok.bs b o e).1 (I.ok.bs b o e).2 (I.ok.noex b o e)⟩
theorem Inv.bk(I:Inv X pins σ H s):∀b o,X.base.get? b=some o->s.heap.get? b=some o:=λb o e=>(I.bs b o e).1
theorem Inv.mod(I:Inv X pins σ H s):Mod X.K X.mg X.base:=I.ok.mod
theorem Inv.kIn(I:Inv X pins σ H s):X.K.In s.heap:=I.ok.mod.kin.keeps I.bk
theorem Inv.nolimit(I:Inv X pins σ H s):s.heap.NoLimit:=I.ok.mod.nolimit.keeps I.bk
theorem Inv.lt(I:Inv X pins σ H s):X.env.locals<s.heap.objs.size:=let ⟨_,hn,_⟩:=I.loc;hn.lt
theorem Inv.sz(I:Inv X pins σ H s):X.s₀.heap.objs.size≤s.heap.objs.size:=cB I.ok.above (kP I.lt)
theorem Inv.nofs(I:Inv X pins σ H s){a:ae}(h:s.heap.objs.size≤a):a∉X.fs:=λhb=>by
 obtain⟨_,o,ho,_⟩:=I.ok.funs.mem hb;exact absurd (cN (bo ho) (cB I.sz h)) (gU _)
theorem Inv.cne(I:Inv X pins σ H s):∀x c,X.env.cells.lookup x=some c->c≠X.env.locals:=λx c e z=>by
 obtain⟨v,o,ho,hd⟩:=I.cell x c e;obtain⟨m,⟨o',es,ep,ho',hd',_⟩,_⟩:=I.loc;rw[z,ho']at ho;cases ho;rw[hd']at hd;cases hd
theorem Inv.funs(I:Inv X pins σ H s):s.heap.FunFrames X.base X.outer:=by
 have all:∀(l:List Env),(∀b∈frs l,b∈X.fs)->X.s₀.heap.FunFrames X.base l->s.heap.FunFrames X.base l:=by
  intro l
  induction l with
  |nil=>intro _ _;trivial
  |cons env r ih=>
    intro hs hl;obtain⟨hk,⟨L,o,hf,hn,ho,hd⟩,hr⟩:=hl;have hL:L∈X.fs:=hs L (by unfold frs;rw[uv,hf];exact fu);obtain⟨sl,e⟩:=I.base.slot L o ho (I.ok.frf L hL) hL λz=>I.ok.exfs L z hL;exact⟨hk,⟨L,_,hf,hn,e,hd⟩,ih (λb hb=>hs b (by unfold frs;rw[uv,hf];exact d5 _ hb)) hr⟩
 exact all X.outer (λ_ hb=>hb) I.ok.funs
theorem Inv.stack(I:Inv X pins σ H s):s.heap.FunFrames X.base X.stack:=by
 rcases I.ok.stk with e|⟨e,hf⟩
 ·rw[e];exact I.funs
 ·rw[e];obtain⟨m,hn,_⟩:=I.loc;refine .cons (by rw[I.ok.kind];decide) hf hn ?_ I.funs;exact jf (cB I.ok.bsz I.ok.above)
theorem Inv.stkSub(I:Inv X pins σ H s):∀b∈frs X.stack,b∈X.env.locals::X.fs:=λb hb=>by
 rcases I.ok.stk with e|⟨e,hf⟩
 ·rw[e]at hb;exact d5 _ hb
 ·rw[e]at hb;unfold frs at hb;rw[uv,hf]at hb;exact hb
theorem Inv.stkFree(I:Inv X pins σ H s):∀b∈frs X.stack,H b=none:=λb hb=>by
 rcases bu.mp (I.stkSub b hb) with e|hb
 ·rw[e];exact I.free
 ·obtain⟨_,o,ho,_⟩:=I.ok.funs.mem hb;exact I.base.free b o ho (I.ok.frf b hb) λz=>I.ok.exfs b z hb
theorem Inv.step{g':Array GenState}{t':Nat}{d':Drawn}{ch:List ae}(I:Inv X pins σ H s)
  (hch:∀b∈ch,(b∈X.ex∨X.s₀.heap.objs.size≤b)/\b≠X.env.locals/\(∀x c,X.env.cells.lookup x=some c->c≠b)/\∀p∈X.pn++pins,p.1≠b)
  (keep:∀b o,b≠X.env.locals->b∉X.fs->b∉ch->s.heap.get? b=some o->H b=none->h'.get? b=some o)
  (slot:∀b o,b≠X.env.locals->b∈X.fs->b∉ch->s.heap.get? b=some o->H b=none->∃sl,h'.get? b=some { o with slots:=sl }) (free:∀b o,b∉ch->s.heap.get? b=some o->H b=none->H' b=none)
  (there:∀b o,b∉ch->s.heap.get? b=some o->∃o',h'.get? b=some o')
  (tups:∀b xs,H b=some (.tup xs)->H' b=some (.tup xs)) (frzs:∀b o u,H b=some (.frz o u)->H' b=some (.frz o u)) (tbls:∀b ps,H b=some (.tbl ps)->∃more,H' b=some (.tbl (ps++more)))
  (ns:∀m,s.heap.Ns X.env.locals m->h'.Ns X.env.locals m) (hok:HOk X.prog X.w H' h') (hg:AllBare g') :
  Inv X pins σ H' { s with heap:=h',gens:=g',drawn:=d',toks:=t' }:=by
 have neL:∀b o,X.s₀.heap.get? b=some o->b≠X.env.locals:=λb o e=>dj (cN (bo e) I.ok.above);have neC:∀b o,X.s₀.heap.get? b=some o->b∉X.ex->b∉ch:=λb o e hx hb=>by
  rcases(hch b hb).1 with z|z
  ·exact hx z
  ·exact absurd (cN (bo e) z) (gU _)
 have cellK:∀x c,X.env.cells.lookup x=some c->∀v,s.heap.IsCell c v->h'.IsCell c v:=λx c e v e0=>e0.elim λo e1=>e1.elim λho hd=>by
  have nch:c∉ch:=λz=>(hch c z).2.2.1 x c e rfl;by_cases hc:c∈X.fs
  ·obtain⟨sl,q⟩:=slot c o (I.cne x c e) hc nch ho (I.freeC x c e);exact⟨_,q,hd⟩
  ·exact⟨o,keep c o (I.cne x c e) hc nch ho (I.freeC x c e),hd⟩
 refine⟨I.ok,I.os,hg,⟨λb o e n hb hx=>?_,λb o e n hb hx=>?_,λb o e n hx=>?_,λb o e hx=>?_,λb xs e=>tups b xs (I.base.tups b xs e),λb o xs e=>frzs b o xs (I.base.frzs b o xs e),λb ps e=>?_⟩,?_,λx c e=>?_,?_,λx c e=>?_,λp hp=>?_,hok,I.len⟩
 ·exact keep b o (neL b o e) hb (neC b o e hx) (I.base.keep b o e n hb hx) (I.base.free b o e n hx)
 ·obtain⟨sl,e1⟩:=I.base.slot b o e n hb hx;obtain⟨sl',e2⟩:=slot b _ (neL b o e) hb (neC b o e hx) e1 (I.base.free b o e n hx);exact⟨sl',e2⟩
 ·obtain⟨o',e1⟩:=I.base.there b o e hx;exact free b o' (neC b o e hx) e1 (I.base.free b o e n hx)
 ·obtain⟨o',e1⟩:=I.base.there b o e hx;exact there b o' (neC b o e hx) e1
 ·obtain⟨m1,e1⟩:=I.base.tbls b ps e;obtain⟨m2,e2⟩:=tbls b _ e1;exact⟨m1++m2,by rw[e2,Array.append_assoc]⟩
 ·obtain⟨m,hn,hl⟩:=I.loc;refine⟨m,ns m hn,λi x v e1 e2 e3=>?_⟩;obtain⟨u,r,l⟩:=hl i x v e1 e2 e3;refine⟨u,r,?_⟩;rcases l with l|⟨k,c,e,z⟩
  ·exact .inl l
  ·exact .inr ⟨k,c,e,cellK x c e _ z⟩
 ·obtain⟨v,z⟩:=I.cell x c e;exact⟨v,cellK x c e v z⟩
 ·obtain⟨m,⟨o,_,_,ho,_⟩,_⟩:=I.loc;exact free _ o (λz=>(hch _ z).2.1 rfl) ho I.free
 ·obtain⟨v,o,ho,hd⟩:=I.cell x c e;exact free c o (λz=>(hch c z).2.2.1 x c e rfl) ho (I.freeC x c e)
 ·obtain⟨e,n,ne,nf,d⟩:=I.pin p hp;have nch:p.1∉ch:=λz=>(hch p.1 z).2.2.2 p hp rfl;exact⟨keep p.1 p.2 ne nf nch e n,free p.1 p.2 nch e n,ne,nf,d⟩
theorem Inv.un{t':Nat}(I:Inv X pins σ H s)(u:Un X.fs [] H H' s.heap h')(hok:HOk X.prog X.w H' h'):Inv X pins σ H' { s with heap:=h',toks:=t' }:=by
 obtain⟨m,⟨o,es,ep,ho,r⟩,_⟩:=id I.loc;obtain⟨sl,hL⟩:=u.any ho I.free (by simp);exact I.step (g':=s.gens) (d':=s.drawn) (ch:=[]) (λ_ z=>nomatch z) (λb o _ hb _ e n=>u.keep b o e n hb (by simp)) (λb o _ hb _ e n=>u.slot b o e n hb (by simp)) (λb o _ e n=>u.free b o e n (by simp)) (λb o _ e=>u.there b o e (by simp)) u.tups u.frzs u.tbls (λm' hm=>by
  obtain ⟨o',es',ep',ho',r'⟩:=hm;rw [ho] at ho';cases ho';exact ⟨_,es',ep',hL,r'⟩) hok I.bare
theorem Inv.call{g':Array GenState}{t':Nat}{d':Drawn}{ch:List ae}(I:Inv X pins σ H s)(u:Un (frs X.stack) ch H H' s.heap h')(hok:HOk X.prog X.w H' h')(hg:AllBare g')
  (hch:∀b∈ch,(b∈X.ex∨X.s₀.heap.objs.size≤b)/\b≠X.env.locals/\(∀x c,X.env.cells.lookup x=some c->c≠b)/\∀p∈X.pn++pins,p.1≠b) :
  Inv X pins σ H' { s with heap:=h',gens:=g',drawn:=d',toks:=t' }:=by
 obtain ⟨m,⟨o,es,ep,ho,r⟩,_⟩:=id I.loc;obtain ⟨sl,hL⟩:=u.any ho I.free λz=>(hch _ z).2.1 rfl;exact I.step (ch:=ch) hch (λb o hL hb hc e n=>u.keep b o e n (λz=>(bu.mp (I.stkSub b z)).elim hL hb) hc) (λb o _ _ hc e n=>u.any e n hc) (λb o hc e n=>u.free b o e n hc) (λb o hc e=>u.there b o e hc) u.tups u.frzs u.tbls (λm' hm=>by
  obtain ⟨o',es',ep',ho',r'⟩:=hm;rw [ho] at ho';cases ho';exact ⟨_,es',ep',hL,r'⟩) hok hg
theorem Inv.turned{t':Nat}{it:ae}(I:Inv X pins σ H s)(k:∀b o,b≠it->s.heap.get? b=some o->h'.get? b=some o)(hn:H it=none)(hL:it≠X.env.locals)
  (h1:it∈X.ex∨X.s₀.heap.objs.size≤it) (h2:∀x c,X.env.cells.lookup x=some c->c≠it) (h3:∀p∈X.pn++pins,p.1≠it):Inv X pins σ H { s with heap:=h',toks:=t' }:=by
 have nit:∀b u,H b=some u->b≠it:=λb u e z=>by rw[z,hn]at e;cases e
 refine I.step (g':=s.gens) (d':=s.drawn) (ch:=[it]) (λb hb=>?_) (λb o _ _ hc e _=>k b o (λz=>hc (by simp[z])) e) (λb o _ _ hc e _=>⟨o.slots,k b o (λz=>hc (by simp[z])) e⟩) (λ_ _ _ _ n=>n)
  (λb o hc e=>⟨o,k b o (λz=>hc (by simp[z])) e⟩) (λ_ _ e=>e) (λ_ _ _ e=>e) (λb ps e=>⟨#[],by rw[e];simp⟩) (λm hm=>?_) (λb u e=>?_) I.bare
 ·have e:b=it:=by simpa using hb
  subst e;exact⟨h1,hL,h2,h3⟩
 ·obtain⟨o,es,ep,ho,r⟩:=hm;exact⟨o,es,ep,k _ o (Ne.symm hL) ho,r⟩
 ·refine(I.hok b u e).stay (λc v hc q=>k c v ?_ q) (λ_ q=>q) λ_ _ q=>q;rcases hc with z|z
  ·rw[z];exact nit b u e
  ·exact nit c _ z
theorem Inv.tok(I:Inv X pins σ H s)(t:Nat):Inv X pins σ H { s with toks:=t }:=I.un (h':=s.heap) (t':=t) Un.refl I.hok
theorem Inv.kept{t':Nat}(I:Inv X pins σ H s)(k:∀b u,s.heap.get? b=some u->h'.get? b=some u):Inv X pins σ H { s with heap:=h',toks:=t' }:=I.un (Un.kept k) (I.hok.kept k)
theorem Inv.laid{a:ae}{o:HO}{t':Nat}(I:Inv X pins σ H s)(k:∀b u,s.heap.get? b=some u->h'.get? b=some u)(hp:s.heap.objs.size≤a)(new:cA X.prog X.w (upd H a o) h' a o) :
  Inv X pins σ (upd H a o) { s with heap:=h',toks:=t' }:=I.un (Un.laid k hp (I.hok.fresh hp)) (I.hok.laid k hp new)
theorem Inv.write{x e:ae}{o:HO}{t':Nat}(I:Inv X pins σ H s)(mu:Mut (H x))(he:e=x∨H e=some (.own x))(k:∀b u,b≠e->s.heap.get? b=some u->h'.get? b=some u)(heo:∃u,h'.get? e=some u)
  (new:cA X.prog X.w (upd H x o) h' x o):Inv X pins σ (upd H x o) { s with heap:=h',toks:=t' }:=I.un (Un.write mu he k heo) (I.hok.write mu he k heo new)
theorem Inv.pins_of{pins':List (ae×aB)}(I:Inv X pins σ H s)(h:∀p∈pins',s.heap.get? p.1=some p.2/\H p.1=none/\p.1≠X.env.locals/\p.1∉X.fs/\∀v,p.2.data≠.cell v):Inv X pins' σ H s:=
 ⟨I.ok,I.os,I.bare,I.base,I.loc,I.cell,I.free,I.freeC,λp hp=>(fJ.mp hp).elim (λz=>I.pin p (gB _ z)) (h p),I.hok,I.len⟩
theorem zS{N:List Str}(hN:N.Nodup){i j:Nat}{x:Str}(a:N[i]?=some x)(b:N[j]?=some x):i=j:=by
 obtain⟨h1,e1⟩:=bM.mp a;obtain⟨h2,e2⟩:=bM.mp b;exact(List.getElem_inj hN).mp (e1.trans e2.symm)
theorem Dv{M:Model}{A:aX}{E:af->aj->Prop}{i:Nat}{x:Str}{v:V}{u:af}{Q:Unit->aj->Prop}(I:Inv X pins σ H s)(hN:X.N.Nodup)(hi:X.N[i]?=some x)(hx:Loc X.env.scope x)(r:aN v u)
  (h:∀s',Inv X pins (σ.set i (some v)) H s'->(∃a,jR a s.heap s'.heap/\(a=X.env.locals∨X.env.cells.lookup x=some a))->Q () s') (hf:X.fn x=true∨X.env.scope.names.lookup x=some .local:=by first|exact .inl rfl|exact .inr rfl|assumption):aq M A (storeName X.env x u) Q E s:=by
 obtain⟨m,hn,hl⟩:=id I.loc;have hcls:(X.env.scope.kind == .class||(X.env.scope.kind == .module&&X.env.locals != X.env.globals))=false:=by rw[I.ok.kind];rfl
 have hiσ:i<σ.length:=by rw[I.len];exact(bM.mp hi).1
 have cne:=I.cne;have tracked:∀{a:ae}{h':aH},(∃o,s.heap.get? a=some o/\H a=none)->jR a s.heap h'->HOk X.prog X.w H h':=λ{a h'} ha hs b ob e=>by
  obtain⟨_,_,hfree⟩:=ha;refine(I.hok b ob e).stay (λc w' hc q=>(hs.2 c ?_).trans q) (λ_ q=>q) λ_ _ q=>q;rintro rfl;rcases hc with rfl|hc
  ·rw[hfree]at e;cases e
  ·rw[hfree]at hc;cases hc
 rcases hx with hk|hk
 ·refine wpAny_storeName_local hk hn (λh' hn' hs=>?_) hcls;obtain⟨oL,_,_,hoL,_⟩:=id hn;refine h _ ⟨I.ok,I.os,I.bare,⟨λb o e n hb hx=>?_,λb o e n hb hx=>?_,I.base.free,λb o e hx=>?_,I.base.tups,I.base.frzs,I.base.tbls⟩,⟨_,hn',λj y v' e1 e2 e3=>?_⟩,λy c e=>?_,I.free,I.freeC,λp hp=>?_,tracked ⟨oL,hoL,I.free⟩ hs,by simpa using I.len⟩ ⟨_,hs,.inl rfl⟩
  ·exact(hs.2 b (dj (cN (bo e) I.ok.above))).trans (I.base.keep b o e n hb hx)
  ·obtain⟨sl,e1⟩:=I.base.slot b o e n hb hx;exact⟨sl,(hs.2 b (dj (cN (bo e) I.ok.above))).trans e1⟩
  ·obtain⟨o',e1⟩:=I.base.there b o e hx;exact⟨o',(hs.2 b (dj (cN (bo e) I.ok.above))).trans e1⟩
  ·by_cases hj:j=i
   ·subst hj;rw[hi]at e1;cases e1;rw[fY hiσ]at e2;cases e2;exact⟨u,r,.inl ⟨hk,by simp⟩⟩
   ·rw[ip (Ne.symm hj)]at e2;obtain⟨u',r',q⟩:=hl j y v' e1 e2 e3;refine⟨u',r',?_⟩;rcases q with⟨k,e⟩|⟨k,c,e,z⟩
    ·refine .inl ⟨k,?_⟩;have:y≠x:=λe=>hj (zS hN e1 (e▸hi));simp[this,e]
    ·exact .inr ⟨k,c,e,z.sameBut hs (cne y c e)⟩
  ·obtain⟨w',z⟩:=I.cell y c e;exact⟨w',z.sameBut hs (cne y c e)⟩
  ·obtain⟨e,n,ne,nf,d⟩:=I.pin p hp;exact⟨(hs.2 p.1 ne).trans e,n,ne,nf,d⟩
 ·have hfn:X.fn x=true:=by
   rcases hf with z|z
   ·exact z
   ·rw[z]at hk;cases hk
  obtain⟨c,hc⟩:=I.ok.has x (.inl hk);obtain⟨w',z⟩:=I.cell x c hc;refine wpAny_storeName_cell I.ok.kind hk hc z (λh' hc' hs=>?_);obtain⟨oc,hoc,hocd⟩:=id z;refine h { s with heap:=h' } ⟨I.ok,I.os,I.bare,⟨λb o e n hb hx=>?_,λb o e n hb hx=>?_,I.base.free,λb o e hx=>?_,I.base.tups,I.base.frzs,I.base.tbls⟩,⟨m,hn.sameBut hs (Ne.symm (cne x c hc)),λj y v' e1 e2 e3=>?_⟩,λy c' e=>?_,I.free,I.freeC,λp hp=>?_,tracked ⟨oc,hoc,I.freeC x c hc⟩ hs,by simpa using I.len⟩ ⟨c,hs,.inr hc⟩
  ·exact(hs.2 b (dj (cN (bo e) (I.ok.cab x c hfn hc)))).trans (I.base.keep b o e n hb hx)
  ·obtain⟨sl,e1⟩:=I.base.slot b o e n hb hx;exact⟨sl,(hs.2 b (dj (cN (bo e) (I.ok.cab x c hfn hc)))).trans e1⟩
  ·obtain⟨o',e1⟩:=I.base.there b o e hx;exact⟨o',(hs.2 b (dj (cN (bo e) (I.ok.cab x c hfn hc)))).trans e1⟩
  ·by_cases hj:j=i
   ·subst hj;rw[hi]at e1;cases e1;rw[fY hiσ]at e2;cases e2;exact⟨u,r,.inr ⟨.inl hk,c,hc,hc'⟩⟩
   ·rw[ip (Ne.symm hj)]at e2;obtain⟨u',r',q⟩:=hl j y v' e1 e2 e3;refine⟨u',r',?_⟩;rcases q with q|⟨k,c',e,z'⟩
    ·exact .inl q
    ·refine .inr ⟨k,c',e,z'.sameBut hs ?_⟩;rintro rfl;exact hj (zS hN e1 (I.ok.inj _ _ _ e hc▸hi))
  ·by_cases hcc:c'=c
   ·subst hcc;exact⟨_,hc'⟩
   ·obtain⟨w2,z2⟩:=I.cell y c' e;exact⟨w2,z2.sameBut hs hcc⟩
  ·obtain⟨e,n,ne,nf,d⟩:=I.pin p hp;refine⟨(hs.2 p.1 ?_).trans e,n,ne,nf,d⟩;intro q;rw[q,hoc]at e;have q':oc=p.2:=Option.some.inj e;exact d w' (by rw[←q'];exact hocd)
theorem mX{M:Model}{A:aX}{E:af->aj->Prop}{i:Nat}{x:Str}{v:V}{u:af}{Q:Unit->aj->Prop}(I:Inv X pins σ H s)(hN:X.N.Nodup)(hi:X.N[i]?=some x)(hx:Loc X.env.scope x)(r:aN v u)
  (h:∀s',Inv X pins (σ.set i (some v)) H s'->Q () s') (hf:X.fn x=true∨X.env.scope.names.lookup x=some .local:=by first|exact .inl rfl|exact .inr rfl|assumption):aq M A (storeName X.env x u) Q E s:=
 Dv I hN hi hx r (λs' I' _=>h s' I') hf
theorem Inv.call'{s':aj}{ch:List ae}(I:Inv X pins σ H s)(ho:s'.os=s.os)(u:Un (frs X.stack) ch H H' s.heap s'.heap)(hok:HOk X.prog X.w H' s'.heap)(hg:AllBare s'.gens)
  (hch:∀b∈ch,(b∈X.ex∨X.s₀.heap.objs.size≤b)/\b≠X.env.locals/\(∀x c,X.env.cells.lookup x=some c->c≠b)/\∀p∈X.pn++pins,p.1≠b):Inv X pins σ H' s':=by
 obtain⟨h',g',d',t',o'⟩:=s';have e:o'=s.os:=ho;subst e;exact I.call (g':=g') (t':=t') (d':=d') u hok hg hch
end
abbrev XK:=af->Option ae->Hp->Prop
abbrev St:=List (Option V)
abbrev VK:=V->Hp->Prop
abbrev TE:=St->Hp->VK->Prop
abbrev TT:=St->Hp->(Bool->Hp->Prop)->Prop
abbrev TA:=St->Hp->(List V->Hp->Prop)->Prop
structure Ends where
 nx:St->Hp->Prop
 rt:VK
 bk:St->Hp->Prop:=λ_ _=>False
 ct:St->Hp->Prop:=λ_ _=>False
abbrev TS:=Ends->St->Hp->Prop
def EP(X:Cx)(pins:List (ae×aB))(σ:St)(Q:VK)(u:af)(s':aj):Prop:=∃v H',Inv X pins σ H' s'/\aN v u/\Q v H'
def TP(X:Cx)(pins:List (ae×aB))(σ:St)(Q:Bool->Hp->Prop)(b:Bool)(s':aj):Prop:=∃H',Inv X pins σ H' s'/\Q b H'
def AP(X:Cx)(pins:List (ae×aB))(σ:St)(Q:List V->Hp->Prop)(us:List af)(s':aj):Prop:=∃vs H',Inv X pins σ H' s'/\Vals vs us/\Q vs H'
def SP(X:Cx)(pins:List (ae×aB))(D:Ends)(f:Flow)(s':aj):Prop:=
 match f with
 |.next=>∃σ' H',Inv X pins σ' H' s'/\D.nx σ' H'
 |.brk=>∃σ' H',Inv X pins σ' H' s'/\D.bk σ' H'
 |.cont=>∃σ' H',Inv X pins σ' H' s'/\D.ct σ' H'
 |.ret u=>∃v σ' H',Inv X pins σ' H' s'/\aN v u/\D.rt v H'
def PE(X:Cx)(e:aw)(t:TE):Prop:=
 ∀(pins:List (ae×aB)) (s:aj) (σ:St) (H:Hp) (Q:VK),Inv X pins σ H s->t σ H Q->aq (av X.prog X.w) X.A (aG e X.env) (EP X pins σ Q) X.xe s
def PT(X:Cx)(e:aw)(t:TT):Prop:=
 ∀(pins:List (ae×aB)) (s:aj) (σ:St) (H:Hp) (Q:Bool->Hp->Prop),Inv X pins σ H s->t σ H Q->aq (av X.prog X.w) X.A (isTrue e X.env (aG e X.env)) (TP X pins σ Q) X.xe s
def PW(X:Cx)(e:aw)(t:TT):Prop:=
 ∀(whole:Sem af) (pins:List (ae×aB)) (s:aj) (σ:St) (H:Hp) (Q:Bool->Hp->Prop),Inv X pins σ H s->t σ H Q->aq (av X.prog X.w) X.A (isTrue e X.env whole) (TP X pins σ Q) X.xe s
theorem PW.pt{X:Cx}{e:aw}{t:TT}(h:PW X e t):PT X e t:=h _
def PA(X:Cx)(es:List aw)(t:TA):Prop:=
 ∀(pos:Pos) (pins:List (ae×aB)) (s:aj) (σ:St) (H:Hp) (Q:List V->Hp->Prop),Inv X pins σ H s->t σ H Q->aq (av X.prog X.w) X.A (spliced (cL pos (aJ es X.env))) (AP X pins σ Q) X.xe s
def PS(X:Cx)(st:aP)(t:TS):Prop:=
 ∀(pins:List (ae×aB)) (s:aj) (σ:St) (H:Hp) (D:Ends),Inv X pins σ H s->t D σ H->aq (av X.prog X.w) X.A (exec st X.env) (SP X pins D) X.xe s
def PSs(X:Cx)(st:List aP)(t:TS):Prop:=
 ∀(pins:List (ae×aB)) (s:aj) (σ:St) (H:Hp) (D:Ends),Inv X pins σ H s->t D σ H->aq (av X.prog X.w) X.A (execs st X.env) (SP X pins D) X.xe s
theorem thn{α:Type}{t:Sem α}{Q Q':α->aj->Prop}{M:Model}{A:aX}{E:af->aj->Prop}{s:aj}(h:aq M A t Q E s)(hQ:∀a s,Q a s->Q' a s):aq M A t Q' E s:=bv h hQ λ_ _ x=>x
section
variable {X:Cx}
def HV(i:Nat):TE:=λσ H Q=>∃v,σ[i]?=some (some v)/\Q v H
def tC(v:V):TE:=λ_ H Q=>Q v H
theorem Ih{i:Nat}{x:Str}{pos:Pos}(hN:X.N[i]?=some x)(hv:Vis X.env.scope x)(hd:(x == ("__debug__":Str))=false:=by decide)(hcd:(x == ("__classdict__":Str))=false:=by decide):PE X (.Name x pos) (HV i):=by
 intro pins s σ H Q I h;obtain⟨v,e,h⟩:=h;obtain⟨m,hn,hl⟩:=I.loc;obtain⟨u,r,l⟩:=hl i x v hN e hv;have fin:EP X pins σ Q u s:=⟨v,H,I,r,h⟩;rcases l with⟨hk,hm⟩|⟨hk,c,hc,hcell⟩
 ·exact wpAny_Name (wpAny_loadName_local I.ok.kind hk hn hm fin) hd
 ·rcases hk with hk|hk
  ·exact wpAny_Name (wpAny_loadName_cell I.ok.kind hk hc hcell fin) hd
  ·exact wpAny_Name (wpAny_loadName_free I.ok.kind hk hc hcell fin hcd) hd
theorem xB{i j pos}:PE X (.Constant (.int i) j pos) (tC (.int i)):=λ_ _ _ H _ I h=>wpAny_Constant_int ⟨.int i,H,I.tok _,⟨_,rfl⟩,h⟩
theorem G5{b j pos}:PE X (.Constant (.bool b) j pos) (tC (.bl b)):=λ_ _ _ H _ I h=>Constant_bool ⟨.bl b,H,I,rfl,h⟩
theorem tW{j pos}:PE X (.Constant .none j pos) (tC .non):=λ_ _ _ H _ I h=>Constant_none ⟨.non,H,I,rfl,h⟩
theorem xn{x j pos}:PE X (.Constant (.str x) j pos) (tC (.str x)):=λ_ _ _ H _ I h=>Calls.Constant_str ⟨.str x,H,I.tok _,⟨_,rfl⟩,h⟩
def Gl(X:Cx)(x:Str):Prop:=X.env.kindOf x=some .globalImplicit
theorem iw{E:af->aj->Prop}{pins:List (ae×aB)}{s:aj}{σ:St}{H:Hp}{x:Str}{u:af}{pos:Pos}{Q:af->aj->Prop}(I:Inv X pins σ H s)(hg:Gl X x)(hm:X.mg x=some u)(h:Q u s)
  (hd:(x == ("__debug__":Str))=false:=by decide):aq (av X.prog X.w) X.A (aG (.Name x pos) X.env) Q E s:=
 Calls.Name_function_global I.ok.kind hg (Calls.loadGlobal_global (by rw[I.ok.glob];exact I.mod.glob.keeps I.bk) hm h) hd
theorem gJ{E:af->aj->Prop}{pins:List (ae×aB)}{s:aj}{σ:St}{H:Hp}{x:Str}{u:af}{pos:Pos}{Q:af->aj->Prop}(I:Inv X pins σ H s)(hg:Gl X x)(hm:X.mg x=none)(hv:bootBuiltins x=some u)(h:Q u s)
  (hn:x≠"__name__":=by decide) (hd:(x == ("__debug__":Str))=false:=by decide):aq (av X.prog X.w) X.A (aG (.Name x pos) X.env) Q E s:=by
 obtain⟨mb,h1,h2⟩:=I.mod.blt;exact Calls.Name_function_global I.ok.kind hg (Calls.loadGlobal_builtin (by rw[I.ok.glob];exact I.mod.glob.keeps I.bk) hm (by rw[I.ok.blt];exact h1.keeps I.bk) ((h2 x hn).trans hv) h) hd
theorem fk{x:Str}{v:V}{u:af}{pos:Pos}(hg:Gl X x)(hm:X.mg x=some u)(r:aN v u)(hd:(x == ("__debug__":Str))=false:=by decide):PE X (.Name x pos) (tC v):=
 λ_ _ _ H _ I h=>iw I hg hm ⟨v,H,I,r,h⟩ hd
theorem Bm{x:Str}{v:V}{u:af}{pos:Pos}(hg:Gl X x)(hm:X.mg x=none)(hv:bootBuiltins x=some u)(r:aN v u)(hn:x≠"__name__":=by decide)(hd:(x == ("__debug__":Str))=false:=by decide):PE X (.Name x pos) (tC v):=
 λ_ _ _ H _ I h=>gJ I hg hm hv ⟨v,H,I,r,h⟩ hn hd
variable {a b:aw}{ta tb:TE}{pos:Pos}
def tB(t:TE):TT:=λσ H Q=>t σ H λx H1=>∃c,x=.bl c/\Q c H1
theorem C6{e:aw}{t:TE}(h:PE X e t)(he:∀whole,isTrue e X.env whole=(do let v ←whole;standAt e.pos;holding [v] (truthy v)):=by intro _;rfl):PT X e (tB t):=by
 intro pins s σ H Q I hw;refine isTrue_plain (thn (h pins s σ H _ I hw) λv s1 e0=>bp e0 λx H1 I1 r1 q1=>?_) (he _);obtain⟨d,rfl,q⟩:=q1;cases r1;exact wpAny_truthy_bool ⟨H1,I1,q⟩
variable {tA tB':TT}{rest:List aw}
def E4(t u:TT):TT:=λσ H Q=>t σ H λc H1=>if c=true then u σ H1 Q else Q false H1
def tOr(t u:TT):TT:=λσ H Q=>t σ H λc H1=>if c=true then Q true H1 else u σ H1 Q
def IB(t:TT):TT:=λσ H Q=>t σ H λc H1=>Q (!c) H1
theorem A2(ha:PT X a tA):PW X (.BoolOp .And [a] pos) tA:=by
 intro wh pins s σ H Q I h;refine isTrue_and (thn (ha pins s σ H Q I h) λc s1 e=>?_);cases c with
 |true=>exact isTrue_and_nil e
 |false=>exact e
theorem Ck(ha:PT X a tA):PW X (.BoolOp .Or [a] pos) tA:=by
 intro wh pins s σ H Q I h;refine isTrue_or (thn (ha pins s σ H Q I h) λc s1 e=>?_);cases c with
 |false=>exact isTrue_or_nil e
 |true=>exact e
theorem Fa(ha:PT X a tA)(hb:PW X (.BoolOp .And (b::rest) pos) tB'):PW X (.BoolOp .And (a::b::rest) pos) (E4 tA tB'):=by
 intro wh pins s σ H Q I h;refine isTrue_and (thn (ha pins s σ H _ I h) λc s1 e0=>e0.elim λH1 e1=>e1.elim λI1 q1=>?_);cases c with
 |true=>exact hb wh pins s1 σ H1 Q I1 q1
 |false=>exact⟨H1,I1,q1⟩
theorem Dr(ha:PT X a tA)(hb:PW X (.BoolOp .Or (b::rest) pos) tB'):PW X (.BoolOp .Or (a::b::rest) pos) (tOr tA tB'):=by
 intro wh pins s σ H Q I h;refine isTrue_or (thn (ha pins s σ H _ I h) λc s1 e0=>e0.elim λH1 e1=>e1.elim λI1 q1=>?_);cases c with
 |true=>exact⟨H1,I1,q1⟩
 |false=>exact hb wh pins s1 σ H1 Q I1 q1
theorem Ia(ha:PT X a tA):PT X (.UnaryOp .Not a pos) (IB tA):=by
 intro pins s σ H Q I h;exact isTrue_not (ha pins s σ H (λc H1=>Q (!c) H1) I h)
def AO(ta tb:TE):TE:=λσ H Q=>ta σ H λx H1=>∃c,x=.bl c/\if c=true then tb σ H1 Q else Q (.bl false) H1
theorem D0{op}{t:TE}(h:PE X a t):PE X (.BoolOp op [a] pos) t:=λpins s σ H Q I hw=>BoolOp_one (h pins s σ H Q I hw)
theorem Ie(ha:PE X a ta)(hb:PE X (.BoolOp .And (b::rest) pos) tb):PE X (.BoolOp .And (a::b::rest) pos) (AO ta tb):=by
 intro pins s σ H Q I h;refine BoolOp_and (thn (ha pins s σ H _ I h) λv s1 e0=>bp e0 λx H1 I1 r1 q1=>?_);obtain⟨c,rfl,q1⟩:=q1;cases r1;refine wpAny_truthy_bool ?_;cases c with
 |true=>exact hb pins s1 σ H1 Q I1 q1
 |false=>exact⟨.bl false,H1,I1,rfl,q1⟩
def tIf(t:TT)(ta tb:TE):TE:=λσ H Q=>t σ H λc H1=>if c=true then ta σ H1 Q else tb σ H1 Q
theorem EA{c:aw}(hc:PT X c tA)(ha:PE X a ta)(hb:PE X b tb):PE X (.IfExp c a b pos) (tIf tA ta tb):=by
 intro pins s σ H Q I h;refine wpAny_IfExp (thn (hc pins s σ H _ I h) λd s1 e0=>e0.elim λH1 e1=>e1.elim λI1 q1=>?_);cases d with
 |true=>exact ha pins s1 σ H1 Q I1 q1
 |false=>exact hb pins s1 σ H1 Q I1 q1
end
def SqL(K:PySem.W.Frag)(H:Hp)(a:ae)(xs:List V):Prop:=
 Rd H a (.lst xs) ∨
  ∃(o:aB) (its:Array af) (n:Nat),K.lookup a=some o/\o.cls=.type "list"/\o.dict=none/\o.data=.seq its n/\its.size≤aV/\Vals xs its.toList
def SqT(K:PySem.W.Frag)(H:Hp)(a:ae)(xs:List V):Prop:=
 Rd H a (.tup xs) ∨
  ∃(o:aB) (its:Array af) (n:Nat),K.lookup a=some o/\o.cls=.type "tuple"/\o.data=.seq its n/\its.size≤aV/\Vals xs its.toList
noncomputable def EJ:af->Option V
 |.none=>some .non
 |.bool b=>some (.bl b)
 |.int i _=>some (.int i)
 |.str x _=>some (.str x)
 |.bytes b _=>some (.byt b)
 |.float b _=>some (.flt b)
 |.ref a=>some (.ref a)
 |.type n=>some (.ty n)
 |_=>none
theorem aN.abs{x:V}{u:af}(r:aN x u):EJ u=some x:=by
 cases x with
 |non=>cases r;rfl
 |bl _=>cases r;rfl
 |int _=>obtain⟨t,rfl⟩:=r;rfl
 |str _=>obtain⟨t,rfl⟩:=r;rfl
 |byt _=>obtain⟨t,rfl⟩:=r;rfl
 |flt _=>obtain⟨t,rfl⟩:=r;rfl
 |ref _=>cases r;rfl
 |ty _=>cases r;rfl
theorem aN.inj{x y:V}{u:af}(r:aN x u)(q:aN y u):x=y:=Option.some.inj (r.abs.symm.trans q.abs)
theorem Vals.inj:∀{xs ys:List V}{us:List af},Vals xs us->Vals ys us->xs=ys
 |_,_,_,.nil,.nil=>rfl
 |_,_,_,.cons r t,.cons r' t'=>by rw[r.inj r',Vals.inj t t']
section
variable {X:Cx}{pins:List (ae×aB)}{σ:St}{H:Hp}{s:aj}{a:ae}{xs ys:List V}
theorem SqL.of{K:PySem.W.Frag}(h:H a=some (.lst xs)):SqL K H a xs:=.inl (.inl h)
theorem SqT.of{K:PySem.W.Frag}(h:H a=some (.tup xs)):SqT K H a xs:=.inl (.inl h)
theorem Inv.list(I:Inv X pins σ H s)(h:SqL X.K H a xs):∃its:List af,Vals xs its/\PlainL s.heap a its.toArray/\xs.length≤aV:=by
 rcases h with h|⟨o,its,n,hk,hc,hd,hs,hz,r⟩
 ·obtain⟨z,its,n,r,e⟩:=h.ok I.hok;exact⟨its,r,⟨_,n,e,rfl,rfl,rfl⟩,z⟩
 ·refine⟨its.toList,r,⟨o,n,I.kIn a o hk,hc,hd,by simpa using hs⟩,?_⟩;have e:=r.length;simp only[pU]at e;lia
theorem Inv.tuple(I:Inv X pins σ H s)(h:SqT X.K H a xs):∃its:List af,Vals xs its/\IsTup s.heap a its.toArray/\xs.length≤aV:=by
 rcases h with h|⟨o,its,n,hk,hc,hs,hz,r⟩
 ·obtain⟨z,its,r,p⟩:=h.ok I.hok;exact⟨its,r,p,z⟩
 ·refine⟨its.toList,r,⟨o,I.kIn a o hk,hc,n,by simpa using hs⟩,?_⟩;have e:=r.length;simp only[pU]at e;lia
theorem Inv.list_inj(I:Inv X pins σ H s)(h:SqL X.K H a xs)(h':SqL X.K H a ys):xs=ys:=by
 obtain⟨its,r,⟨o,n,e,_,_,d⟩,_⟩:=I.list h;obtain⟨its',r',⟨o',n',e',_,_,d'⟩,_⟩:=I.list h';rw[e]at e';cases e';rw[d]at d';injection d' with d1 _;have:its=its':=by simpa using congrArg Array.toList d1
 subst this;exact r.inj r'
end
noncomputable abbrev Cx.wish(X:Cx)(E:af->aj->Prop):Cx:={ X with xe:=E }
theorem Cx.Ok.wish{X:Cx}(ok:X.Ok)(E:af->aj->Prop):(X.wish E).Ok:=
 ⟨ok.mod,ok.kind,ok.glob,ok.blt,ok.above,ok.inj,ok.has,ok.cab,ok.hd,ok.frames,ok.stk,ok.exf,ok.bs,ok.bsz,ok.noex,ok.exfs,ok.funs,ok.frf⟩
theorem Cx.Ok.unwish{X:Cx}{E:af->aj->Prop}(ok:(X.wish E).Ok):X.Ok:=
 ⟨ok.mod,ok.kind,ok.glob,ok.blt,ok.above,ok.inj,ok.has,ok.cab,ok.hd,ok.frames,ok.stk,ok.exf,ok.bs,ok.bsz,ok.noex,ok.exfs,ok.funs,ok.frf⟩
section
variable {X:Cx}{pins:List (ae×aB)}{σ:St}{H:Hp}{s:aj}{E:af->aj->Prop}
theorem Inv.wish(I:Inv X pins σ H s)(E:af->aj->Prop):Inv (X.wish E) pins σ H s:=⟨I.ok.wish E,I.os,I.bare,I.base,I.loc,I.cell,I.free,I.freeC,I.pin,I.hok,I.len⟩
theorem Inv.unwish(I:Inv (X.wish E) pins σ H s):Inv X pins σ H s:=⟨I.ok.unwish,I.os,I.bare,I.base,I.loc,I.cell,I.free,I.freeC,I.pin,I.hok,I.len⟩
theorem SP.unwish{D:Ends}{f:Flow}{s':aj}(h:SP (X.wish E) pins D f s'):SP X pins D f s':=by
 cases f with
 |next=>obtain⟨σ',H',I,q⟩:=h;exact⟨σ',H',I.unwish,q⟩
 |brk=>obtain⟨σ',H',I,q⟩:=h;exact⟨σ',H',I.unwish,q⟩
 |cont=>obtain⟨σ',H',I,q⟩:=h;exact⟨σ',H',I.unwish,q⟩
 |ret u=>obtain⟨v,σ',H',I,r,q⟩:=h;exact⟨v,σ',H',I.unwish,r,q⟩
end
section
variable {X:Cx}{st:aP}{rest:List aP}{t u:TS}{e:aw}{te:TE}{pos:Pos}
def Ee:TS:=λD σ H=>D.nx σ H
def CI(t u:TS):TS:=λD σ H=>t { D with nx:=u D } σ H
theorem Fz:PSs X [] Ee:=λ_ _ σ H _ I h=>wpAny_execs_nil ⟨σ,H,I,h⟩
theorem CZ(h1:PS X st t)(h2:PSs X rest u):PSs X (st::rest) (CI t u):=by
 intro pins s σ H D I h;refine wpAny_execs_cons (thn (h1 pins s σ H { D with nx:=u D } I h) λf s1 q=>?_);cases f with
 |next=>
   obtain⟨σ',H',I',q⟩:=q;exact h2 pins s1 σ' H' D I' q
 |ret v=>exact q
 |brk=>exact q
 |cont=>exact q
theorem Fy(h1:PS X st t):PSs X [st] t:=by
 intro pins s σ H D I h;refine wpAny_execs_cons (thn (h1 pins s σ H D I h) λf s1 q=>?_);cases f with
 |next=>exact wpAny_execs_nil q
 |ret v=>exact q
 |brk=>exact q
 |cont=>exact q
theorem Inv.quiet{pins:List (ae×aB)}{σ:St}{H:Hp}{s:aj}(I:Inv X pins σ H s):interactive X.env=false:=by simp[interactive,I.ok.kind]
def Eb(te:TE):TS:=λD σ H=>te σ H λ_ H1=>D.nx σ H1
theorem EK(he:PE X e te)(hs:swapsWith e none pos.line X.env=pure false:=by rfl):PS X (.Expr e pos) (Eb te):=by
 intro pins s σ H D I h;exact wpAny_Expr_any (thn (he pins s σ H _ I h) λv s1 e0=>bp e0 λx H1 I1 r1 q1=>⟨σ,H1,I1,q1⟩) I.quiet hs
def Cw(te:TE):TS:=λD σ H=>te σ H D.rt
theorem Cq(he:PE X e te):PS X (.Return (some e) pos) (Cw te):=by
 intro pins s σ H D I h;exact wpAny_Return_some (thn (he pins s σ H _ I h) λv s1 e0=>bp e0 λx H1 I1 r1 q1=>⟨x,σ,H1,I1,r1,q1⟩)
def GX(c:TT)(t u:TS):TS:=λD σ H=>c σ H λb H1=>if b=true then t D σ H1 else u D σ H1
theorem GR{c:aw}{a b:List aP}{tc:TT}(hc:PT X c tc)(ha:PSs X a t)(hb:PSs X b u):PS X (.If c a b pos) (GX tc t u):=by
 intro pins s σ H D I h;refine wpAny_If (thn (hc pins s σ H _ I h) λd s1 e0=>e0.elim λH1 e1=>e1.elim λI1 q1=>?_);cases d with
 |true=>exact ha pins s1 σ H1 D I1 q1
 |false=>exact hb pins s1 σ H1 D I1 q1
end
abbrev TG:=V->St->Hp->(St->Hp->Prop)->Prop
abbrev TGs:=List V->St->Hp->(St->Hp->Prop)->Prop
def PG(X:Cx)(target:aw)(t:TG):Prop:=
 ∀(pins:List (ae×aB)) (s:aj) (σ:St) (H:Hp) (v:V) (u:af) (Q:St->Hp->Prop),Inv X pins σ H s->aN v u->t v σ H Q ->
  aq (av X.prog X.w) X.A (assign target X.env u) (λ_ s'=>∃σ' H',Inv X pins σ' H' s'/\Q σ' H') X.xe s
def PGs(X:Cx)(ts:List aw)(t:TGs):Prop:=
 ∀(pins:List (ae×aB)) (s:aj) (σ:St) (H:Hp) (vs:List V) (us:List af) (Q:St->Hp->Prop),Inv X pins σ H s->Vals vs us->t vs σ H Q ->
  aq (av X.prog X.w) X.A (assignInOrder ((assignEach ts X.env).map (·.2)) us) (λ_ s'=>∃σ' H',Inv X pins σ' H' s'/\Q σ' H') X.xe s
abbrev TSet:=V->V->V->Hp->(Hp->Prop)->Prop
def PSet(X:Cx)(t:TSet):Prop:=
 ∀(pins:List (ae×aB)) (s:aj) (σ:St) (H:Hp) (o i v:V) (ov iv u:af) (Q:Hp->Prop),Inv X pins σ H s->aN o ov->aN i iv->aN v u->t o i v H Q ->
  aq (av X.prog X.w) X.A (setItem ov iv u) (λ_ s'=>∃H',Inv X pins σ H' s'/\Q H') X.xe s
abbrev TIp:=V->V->Hp->VK->Prop
def PIp(X:Cx)(op:Operator)(t:TIp):Prop:=
 ∀(pins:List (ae×aB)) (s:aj) (σ:St) (H:Hp) (x y:V) (v u:af) (Q:VK),Inv X pins σ H s->aN x v->aN y u->t x y H Q ->
  aq (av X.prog X.w) X.A (inplaceOp op v u) (EP X pins σ Q) X.xe s
section
variable {X:Cx}{pos:Pos}
def rh(i:Nat):TG:=λv σ H Q=>Q (σ.set i (some v)) H
theorem za{i:Nat}{x:Str}(hN:X.N.Nodup)(hi:X.N[i]?=some x)(hx:Loc X.env.scope x)(hf:X.fn x=true∨X.env.scope.names.lookup x=some .local:=by first|exact .inl rfl|exact .inr rfl|assumption):PG X (.Name x pos) (rh i):=by
 intro pins s σ H v u Q I r h;exact wpAny_assign_Name (mX I hN hi hx r (λs' I'=>⟨_,H,I',h⟩) hf)
def zm:TGs:=λvs σ H Q=>vs=[]/\Q σ H
def wA(t:TG)(u:TGs):TGs:=λvs σ H Q=>∃v r,vs=v::r/\t v σ H λσ' H'=>u r σ' H' Q
theorem Iw:PGs X [] zm:=by
 intro pins s σ H vs us Q I r h;obtain⟨e,h⟩:=h;subst e;cases r;exact assignInOrder_nil ⟨σ,H,I,h⟩
theorem Gv{e:aw}{es:List aw}{t:TG}{u:TGs}(h1:PG X e t)(h2:PGs X es u)
  (hs:(assignEach (e::es) X.env).map (·.2)=assign e X.env::(assignEach es X.env).map (·.2):=by rfl):PGs X (e::es) (wA t u):=by
 intro pins s σ H vs us Q I r h;obtain⟨v,vr,e1,h⟩:=h;subst e1;cases r with
 |cons r rr=>
   rw[hs];refine assignInOrder_cons (thn (h1 pins s σ H _ _ _ I r h) λ_ s1 e0=>e0.elim λσ1 e1=>e1.elim λH1 e2=>e2.elim λI1 q1=>?_);exact h2 pins s1 σ1 H1 _ _ Q I1 rr q1
def zu(K:PySem.W.Frag)(n:Nat)(t:TGs):TG:=λv σ H Q=>∃a xs,v=.ref a/\SqT K H a xs/\xs.length=n/\t xs σ H Q
theorem FC{es:List aw}{k:Nat}{t:TGs}{n:Nat}(hc:X.calm=true)(h:PGs X es t)
  (hn:(assignEach es X.env).length=n:=by rfl) (hst:(assignEach es X.env).findIdx? (·.1)=none:=by rfl):PG X (.Tuple es k pos) (zu X.K n t):=by
 intro pins s σ H v u Q I r hw;obtain⟨a,xs,e1,hq,hl,hw⟩:=hw;subst e1;cases r;obtain⟨its,rv,ht,hz⟩:=I.tuple hq;refine assign_Tuple_tuple (I.ok.hd hc) ht (by simp[hn,←hl,rv.length]) hst λh' hx=>?_
 have I1:Inv X pins σ H { s with heap:=h' }:=I.kept (t':=s.toks) λb o e=>hx b o (dj (bo e)) e;exact h pins _ σ H xs _ Q I1 (by simpa using rv) hw
def xC(to ti:TE)(t:TSet):TG:=λv σ H Q=>to σ H λo H1=>ti σ H1 λi H2=>t o i v H2 λH3=>Q σ H3
theorem lG{o i:aw}{to ti:TE}{t:TSet}(ho:PE X o to)(hi:PE X i ti)(hs:PSet X t)
  (ha:∀v,assign (.Subscript o i pos) X.env v=(do
   let ov ←holding [v] (aG o X.env)
   let iv ←holding [v,ov] (aG i X.env)
   standAt pos
   holding [v,ov,iv] (setItem ov iv v)
   release [v,ov,iv] []):=by intro _;rfl):PG X (.Subscript o i pos) (xC to ti t):=by
 intro pins s σ H v u Q I r h;rw[ha];refine ak (wpAny_holding (thn (ho pins s σ H _ I h) λov s1 e0=>bp e0 λx H1 I1 r1 q1=>?_));refine ak (wpAny_holding (thn (hi pins s1 σ H1 _ I1 q1) λiv s2 e0=>bp e0 λy H2 I2 r2 q2=>?_));refine ak (wpAny_standAt (ak (wpAny_holding (thn (hs pins s2 σ H2 x y v ov iv u _ I2 r1 r2 r q2) λ_ s3 e0=>e0.elim λH3 e1=>e1.elim λI3 q3=>?_))));exact wpAny_release ⟨σ,H3,I3,q3⟩
def Az(te:TE)(g:TG):TS:=λD σ H=>te σ H λx H1=>g x σ H1 D.nx
theorem GZ{tg e:aw}{te:TE}{g:TG}(he:PE X e te)(hg:PG X tg g)(hs:swapsWithSole [tg] e pos.line X.env=pure false:=by rfl)(hw:swappedStores [tg] e X.env=pure none:=by rfl)
  (h1:(assignEach [tg] X.env).map (·.2)=[assign tg X.env]:=by rfl):PS X (.Assign [tg] e pos) (Az te g):=by
 intro pins s σ H D I h;refine wpAny_Assign_stores (thn (he pins s σ H _ I h) λv s1 e0=>bp e0 λx H1 I1 r1 q1=>?_) hs hw;rw[h1];exact thn (hg pins s1 σ H1 x v _ I1 r1 q1) λ_ s2 q=>q
theorem FE{i:Nat}{x:Str}{e:aw}{te:TE}{pos':Pos}(hN:X.N.Nodup)(hi:X.N[i]?=some x)(hx:Loc X.env.scope x)(he:PE X e te)(hs:swapsWith e (some (.Name x pos')) pos.line X.env=pure false:=by rfl)(hf:X.fn x=true∨X.env.scope.names.lookup x=some .local:=by first|exact .inl rfl|exact .inr rfl|assumption) :
  PS X (.Assign [.Name x pos'] e pos) (Az te (rh i)):=by
 intro pins s σ H D I h;refine wpAny_Assign_Name (thn (he pins s σ H _ I h) λv s1 e0=>bp e0 λy H1 I1 r1 q1=>?_) hs;exact mX I1 hN hi hx r1 (λs2 I2=>⟨_,H1,I2,q1⟩) hf
def BN(to ti te:TE)(tget:V->V->Hp->VK->Prop)(tip:TIp)(tset:TSet):TS:=λD σ H=>to σ H λo H1=>ti σ H1 λi H2=>tget o i H2 λx H3=>te σ H3 λy H4=>tip x y H4 λz H5=>tset o i z H5 λH6=>D.nx σ H6
def PGet(X:Cx)(t:V->V->Hp->VK->Prop):Prop:=
 ∀(pins:List (ae×aB)) (s:aj) (σ:St) (H:Hp) (o i:V) (ov iv:af) (Q:VK),Inv X pins σ H s->aN o ov->aN i iv->t o i H Q ->
  aq (av X.prog X.w) X.A (getItem ov iv) (EP X pins σ Q) X.xe s
theorem Gq{o i e:aw}{to ti te:TE}{tget:V->V->Hp->VK->Prop}{tip:TIp}{tset:TSet}{op:Operator}{tpos:Pos}(ho:PE X o to)(hi:PE X i ti)(hg:PGet X tget)(he:PE X e te)(hp:PIp X op tip)(hs:PSet X tset)
  (ha:∀ov iv new,augStore i ov iv new=(do holding [new,ov,iv] (setItem ov iv new);release [new,ov,iv] [];pure .next):=by intros;rfl):PS X (.AugAssign (.Subscript o i tpos) op e pos) (BN to ti te tget tip tset):=by
 intro pins s σ H D I h;refine wpAny_AugAssign_SubscriptAny (thn (ho pins s σ H _ I h) λov s1 e0=>bp e0 λx1 H1 I1 r1 q1=>?_) ha;refine thn (hi pins s1 σ H1 _ I1 q1) λiv s2 e0=>bp e0 λx2 H2 I2 r2 q2=>?_;refine thn (hg pins s2 σ H2 x1 x2 ov iv _ I2 r1 r2 q2) λold s3 e0=>bp e0 λx3 H3 I3 r3 q3=>?_;refine thn (he pins s3 σ H3 _ I3 q3) λv s4 e0=>bp e0 λx4 H4 I4 r4 q4=>?_;refine thn (hp pins s4 σ H4 x3 x4 old v _ I4 r3 r4 q4) λnew s5 e0=>bp e0 λx5 H5 I5 r5 q5=>?_;exact thn (hs pins s5 σ H5 x1 x2 x5 ov iv new _ I5 r1 r2 r5 q5) λ_ s6 e0=>e0.elim λH6 e1=>e1.elim λI6 q6=>⟨σ,H6,I6,q6⟩
def ipI(f:Int->Int->Int):TIp:=λx y H Q=>∃i j,x=.int i/\y=.int j/\Q (.int (f i j)) H
theorem FH:PIp X .Add (ipI λi j=>i+j):=by
 intro pins s σ H x y v u Q I r1 r2 h;obtain⟨i,j,e1,e2,q⟩:=h;subst e1;subst e2;obtain⟨t,rfl⟩:=r1;obtain⟨t',rfl⟩:=r2;exact iadd_int ⟨.int _,H,I.tok _,⟨_,rfl⟩,q⟩
theorem C8:PIp X .Sub (ipI λi j=>i-j):=by
 intro pins s σ H x y v u Q I r1 r2 h;obtain⟨i,j,e1,e2,q⟩:=h;subst e1;subst e2;obtain⟨t,rfl⟩:=r1;obtain⟨t',rfl⟩:=r2;exact isub_int ⟨.int _,H,I.tok _,⟨_,rfl⟩,q⟩
end
section
variable {X:Cx}{pos:Pos}
def D1(c:TT)(tb:TS):TS:=λD σ H=>∃W:Nat->St->Hp->Prop,(∃m,W m σ H)/\∀m σ H,W m σ H ->
 c σ H λb H1=>if b=true then ∃N:St->Hp->Prop,(∀σ' H',N σ' H'->∃m',m'<m/\W m' σ' H')/\tb { D with nx:=N,ct:=N,bk:=D.nx } σ H1 else D.nx σ H1
theorem Fs{c:aw}{body:List aP}{tc:TT}{tb:TS}(hp:PassesOwn (av X.prog X.w) X.A X.env X.xe)(hc:PT X c tc)(hb:PSs X body tb):PS X (.While c body [] pos) (D1 tc tb):=by
 intro pins s σ H D I h;obtain⟨W,⟨m0,w0⟩,turn⟩:=h;refine wpAny_While (codeAny_whileLoop (λn s'=>∃σ' H',Inv X pins σ' H' s'/\W n σ' H') ?_ m0 ⟨σ,H,I,w0⟩);rintro n s1 ⟨σ1,H1,I1,w1⟩;refine wpAny_passesOwn hp (thn (hc pins s1 σ1 H1 _ I1 (turn n σ1 H1 w1)) λb s2 e0=>e0.elim λH2 e1=>e1.elim λI2 q2=>?_);cases b with
 |true=>
   obtain⟨N,hN,q2⟩:=q2;rw[if_pos rfl];refine wpAny_passesOwn hp (thn (hb pins s2 σ1 H2 _ I2 q2) λf s3 q3=>?_);cases f with
   |next=>
     obtain⟨σ3,H3,I3,n3⟩:=q3;obtain⟨m',hm,w3⟩:=hN σ3 H3 n3;exact⟨m',hm,σ3,H3,I3,w3⟩
   |cont=>
     obtain⟨σ3,H3,I3,n3⟩:=q3;obtain⟨m',hm,w3⟩:=hN σ3 H3 n3;exact⟨m',hm,σ3,H3,I3,w3⟩
   |brk=>exact q3
   |ret v=>exact q3
 |false=>
   rw[if_neg bW];exact wpAny_execs_nil ⟨σ1,H2,I2,q2⟩
end
structure It where
 go:Nat->Hp->Prop
 yld:Nat->Hp->V->Hp->Prop
 stop:Nat->Hp->Prop
def eX(X:Cx)(pins:List (ae×aB))(H:Hp)(b:ae):Prop:=
 H b=none/\b≠X.env.locals/\b∉X.fs/\(b∈X.ex∨X.s₀.heap.objs.size≤b)/\(∀x c,X.env.cells.lookup x=some c->c≠b)/\∀p∈X.pn++pins,p.1≠b
theorem Inv.fpOk{X:Cx}{pins:List (ae×aB)}{σ:St}{H H':Hp}{s:aj}{b:ae}(I:Inv X pins σ H s)(hb:s.heap.objs.size≤b)(hn:H' b=none):eX X pins H' b:=by
 refine⟨hn,dB (cN I.lt hb),I.nofs hb,.inr (cB I.sz hb),λx c e z=>?_,λp hp z=>?_⟩
 ·obtain⟨v,q⟩:=I.cell x c e;exact absurd (cN q.lt (by rw[z];exact hb)) (gU _)
 ·exact absurd (cN (bo (I.pin p hp).1) (by rw[z];exact hb)) (gU _)
structure Turn(P:bi)(w:aQ)(K:PySem.W.Frag)(tg:aw)(J:It)(fp:List ae)(it:ae)(tn:Nat->aH->Prop):Prop where
 mem:it∈fp
 obj:∀i h,tn i h->∀b∈fp,∃o,h.get? b=some o/\∀v,o.data≠.cell v
 keep:∀i h h',tn i h->(∀b∈fp,∀o,h.get? b=some o->h'.get? b=some o)->tn i h'
 item:∀(X:Cx),X.prog=P->X.w=w->X.K=K->X.calm=true->∀(i:Nat) (pins:List (ae×aB)) (s:aj) (σ:St) (H:Hp) (E:af->aj->Prop),Inv X pins σ H s->(∀b∈fp,eX X pins H b)->tn i s.heap->J.go i H ->
  aq (av P w) X.A (pyNext (.ref it)) (λr s1=>∃u,r=some u /\
   aq (av P w) X.A (letOwnedTupleGo tg (.ref it) u) (λ_ s2=>∃x H',Inv X pins σ H' s2/\aN x u/\J.yld i H x H'/\tn (i + 1) s2.heap/\∀b∈fp,H' b=none) E s1) E s
 done:∀(X:Cx),X.prog=P->X.w=w->X.K=K->X.calm=true->∀(i:Nat) (pins:List (ae×aB)) (s:aj) (σ:St) (H:Hp) (E:af->aj->Prop),Inv X pins σ H s->(∀b∈fp,eX X pins H b)->tn i s.heap->J.stop i H ->
  aq (av P w) X.A (pyNext (.ref it)) (λr s1=>r=none/\Inv X pins σ H s1) E s
 self:∀(A:aX) (i:Nat) (s:aj) (Q:af->aj->Prop) (E:af->aj->Prop),tn i s.heap->Q (.ref it) s->aq (av P w) A (pyIter (.ref it)) Q E s
abbrev TI:=St->Hp->(It->Hp->Prop)->Prop
def PIE(X:Cx)(pins:List (ae×aB))(σ:St)(tg:aw)(R:It->Hp->Prop)(itv:af)(s2:aj):Prop:=
 ∃(it:ae) (fp:List ae) (tn:Nat->aH->Prop) (J:It) (H':Hp),itv=.ref it/\Inv X pins σ H' s2/\Turn X.prog X.w X.K tg J fp it tn/\tn 0 s2.heap/\(∀b∈fp,eX X pins H' b)/\R J H'
def PI(X:Cx)(tg iter:aw)(wi:TI):Prop:=
 ∀(pins:List (ae×aB)) (s:aj) (σ:St) (H:Hp) (R:It->Hp->Prop),Inv X pins σ H s->wi σ H R ->
  aq (av X.prog X.w) X.A (aG iter X.env) (λv s1=>aq (av X.prog X.w) X.A (pyIter v) (PIE X pins σ tg R) X.xe s1) X.xe s
theorem rk{M:Model}{A:aX}{E:af->aj->Prop}{s:aj}{tg:aw}{it:ae}{u:af}{o:aB}{n:String}{vs:Array af}{Q:Unit->aj->Prop}(ho:s.heap.get? it=some o)(hc:o.cls=.type n)(hd:o.data=.fields vs)
  (hn:["enumerate","zip","dict_itemiterator","dict_reverseitemiterator","odict_iterator","itertools.zip_longest","itertools.pairwise"].contains n=false) (hQ:Q () s):aq M A (letOwnedTupleGo tg (.ref it) u) Q E s:=by
 unfold letOwnedTupleGo;cases tg <;> first
  |exact aL hQ
  | (cases u <;> first
    |exact aL hQ
    | (refine ak (wpAny_load ho ?_)
       rw[hc,hd];show aq M A (if(["enumerate","zip","dict_itemiterator","dict_reverseitemiterator","odict_iterator","itertools.zip_longest","itertools.pairwise"].contains n&&vs[0]? == some (cE _))=true then _ else _) Q E s;rw[if_neg (by intro h;rw[hn,Bool.false_and]at h;cases h)];exact aL hQ))
noncomputable def Itl(K:PySem.W.Frag)(a:ae):It:=
 ⟨λi H=>∃xs x,SqL K H a xs/\xs[i]?=some x,λi H x H'=>H'=H/\∀xs,SqL K H a xs->xs[i]?=some x,λi H=>∃xs,SqL K H a xs/\xs.length≤i⟩
noncomputable def Itr(lo:Int)(n:Nat):It:=⟨λi _=>i<n,λi H x H'=>H'=H/\x=.int (lo+i),λi _=>n≤i⟩
theorem Cv{P:bi}{w:aQ}{K:PySem.W.Frag}{tg:aw}(a it:ae):Turn P w K tg (Itl K a) [it] it (λi h=>h.IsListIter it a i) where
 mem:=by simp
 obj:=λi h st b hb=>by
  have e:b=it:=by simpa using hb
  subst e;obtain⟨o,e,c,d⟩:=st;exact⟨o,e,λv z=>by rw[d]at z;cases z⟩
 keep:=λi h h' st k=>st.at λo e=>k it (by simp) o e
 item:=by
  intro X hP hw hK hc i pins s σ H E I hf st hg;subst hP hw hK;obtain⟨xs,x,hq,hx⟩:=hg;obtain⟨its,rv,p,hz⟩:=I.list hq;obtain⟨u,hu,ru⟩:=rv.get hx;obtain⟨f0,f1,f2,f3,f4,f5⟩:=hf it (by simp);refine wpAny_pyNext_list_item st p.isList (x:=u) (by simpa using hu) λh' st' sb=>?_;have I1:Inv X pins σ H { s with heap:=h' }:=I.turned (t':=s.toks) (λb o hb e=>(sb.2 b hb).trans e) f0 f1 f3 f4 f5;obtain⟨o,e,c,d⟩:=id st';exact⟨u,rfl,rk (s:={ s with heap:=h' }) e c d (by decide) ⟨x,H,I1,ru,⟨rfl,λys hy=>by rw[I.list_inj hy hq];exact hx⟩,st',λb hb=>(hf b hb).1⟩⟩
 done:=by
  intro X hP hw hK hc i pins s σ H E I hf st hg;subst hP hw hK;obtain⟨xs,hq,hx⟩:=hg;obtain⟨its,rv,p,hz⟩:=I.list hq;obtain⟨f0,f1,f2,f3,f4,f5⟩:=hf it (by simp);have hl:=rv.length;exact wpAny_pyNext_list_end (I.ok.hd hc) st p.isList (by simp;lia) λh' eb=>⟨rfl,I.turned (t':=s.toks) (λb o hb e=>eb b o hb e) f0 f1 f3 f4 f5⟩
 self:=λ_ _ _ _ _ st h=>wpAny_pyIter_listiter st h
theorem EW{P:bi}{w:aQ}{K:PySem.W.Frag}{tg:aw}(it:ae)(lo:Int)(n:Nat):Turn P w K tg (Itr lo n) [it] it (λi h=>IsRangeIter h it (lo+(i:Nat)*1) ((n:Int)-(i:Nat)) 1) where
 mem:=by simp
 obj:=λi h st b hb=>by
  have e:b=it:=by simpa using hb
  subst e;exact ⟨_,st,λv z=>by
   have z':Data.fields _=Data.cell v:=z;cases z'⟩
 keep:=λi h h' st k=>k it (by simp) _ st
 item:=by
  intro X hP hw hK hc i pins s σ H E I hf st hg;subst hP hw hK;obtain⟨f0,f1,f2,f3,f4,f5⟩:=hf it (by simp);have W:=Walks.range (prog:=X.prog) (w:=X.w) (I.ok.hd hc) it lo 1 n;refine W.item i s _ _ hg st λv h' tk hv st' kk=>?_;obtain⟨t,rfl⟩:=hv;have I1:Inv X pins σ H { s with heap:=h',toks:=tk }:=I.turned (λb o hb e=>kk b o (by simpa using hb) e) f0 f1 f3 f4 f5;refine⟨_,rfl,rk (s:={ s with heap:=h',toks:=tk }) (n:="range_iterator") st' rfl rfl (by decide) ⟨.int (lo+i),H,I1,⟨t,?_⟩,⟨rfl,rfl⟩,st',λb hb=>(hf b hb).1⟩⟩;rw[Int.mul_one]
 done:=by
  intro X hP hw hK hc i pins s σ H E I hf st hg;subst hP hw hK;obtain⟨f0,f1,f2,f3,f4,f5⟩:=hf it (by simp);exact wpAny_pyNext_range_end (I.ok.hd hc) st (by have:n≤i:=hg;lia) λh' eb=>⟨rfl,I.turned (t':=s.toks) (λb o hb e=>eb b o hb e) f0 f1 f3 f4 f5⟩
 self:=λ_ _ _ _ _ st h=>wpAny_pyIter_rangeiter st h
section
variable {X:Cx}{tg:aw}
def fB(K:PySem.W.Frag)(tl:TE):TI:=λσ H R=>tl σ H λx H1=>∃a,x=.ref a/\(∃xs,SqL K H1 a xs)/\R (Itl K a) H1
theorem xW{l:aw}{tl:TE}(hl:PE X l tl):PI X tg l (fB X.K tl):=by
 intro pins s σ H R I h;refine thn (hl pins s σ H _ I h) λv s1 e0=>bp e0 λx H1 I1 r1 q1=>?_;obtain⟨a,e,⟨xs,hq⟩,q⟩:=q1;subst e;cases r1;obtain⟨its,rv,p,hz⟩:=I1.list hq;refine wpAny_pyIter_list p.isList ?_;refine⟨s1.heap.objs.size,[s1.heap.objs.size],_,_,H1,rfl,I1.kept (t':=s1.toks) λb o e=>bG _ e,Cv a _,⟨_,cT _ rfl,rfl,rfl⟩,λb hb=>?_,q⟩;have e:b=s1.heap.objs.size:=by simpa using hb
 subst e;exact I1.fpOk (aU _) (I1.hok.fresh (aU _))
theorem yu{pins:List (ae×aB)}{σ:St}{H:Hp}{s:aj}{R:It->Hp->Prop}{E:af->aj->Prop}{lo hi:Int}{t u v:Tok}{tk:Nat}(I:Inv X pins σ H s)(h1:-(2 ^ 62)≤lo)(h2:lo<2 ^ 62)(h3:-(2 ^ 62)≤hi)(h4:hi<2 ^ 62)
  (q:R (Itr lo (hi-lo).toNat) H):aq (av X.prog X.w) X.A (pyIter (.ref s.heap.objs.size)) (PIE X pins σ tg R) E { s with heap:=s.heap.push { cls:=.type "range",data:=.fields #[.int lo t,.int hi u,.int 1 v] },toks:=tk }:=by
 refine wpAny_pyIter_range (IsRange.new ..) (small_one h1 h2 h3 h4) ?_;have I1:Inv X pins σ H { s with heap:=s.heap.push { cls:=.type "range",data:=.fields #[.int lo t,.int hi u,.int 1 v] },toks:=tk }:=I.kept λb o e=>bG _ e;refine ⟨(s.heap.push { cls:=.type "range",data:=.fields #[.int lo t,.int hi u,.int 1 v] }).objs.size,[(s.heap.push { cls:=.type "range",data:=.fields #[.int lo t,.int hi u,.int 1 v] }).objs.size],_,_,H,rfl,
  I1.kept (t':=tk) λb o e=>bG _ e,EW _ lo (hi - lo).toNat,?_,λb hb=>?_,q⟩
 ·have e1:lo+((0:Nat):Int)*1=lo:=by simp
  have e2:(((hi-lo).toNat:Nat):Int)-((0:Nat):Int)=Builtin.Range.rangeSize lo hi 1:=by rw[rangeSize_one];split <;> lia
  show IsRangeIter _ _ (lo+((0:Nat):Int)*1) ((((hi-lo).toNat:Nat):Int)-((0:Nat):Int)) 1;rw[e1,e2];exact cT _ rfl
 ·have e:b=(s.heap.push { cls:=.type "range",data:=.fields #[.int lo t,.int hi u,.int 1 v] }).objs.size:=by simpa using hb
  subst e;exact I1.fpOk (aU _) (I1.hok.fresh (aU _))
def jC(ta:TA):TI:=λσ H R=>ta σ H λvs H1=>∃j:Int,vs=[.int j]/\-(2 ^ 62)≤j/\j<2 ^ 62/\R (Itr 0 j.toNat) H1
def lN(ta:TA):TI:=λσ H R=>ta σ H λvs H1=>∃i j:Int,vs=[.int i,.int j]/\(-(2 ^ 62)≤i/\i<2 ^ 62/\-(2 ^ 62)≤j/\j<2 ^ 62)/\R (Itr i (j-i).toNat) H1
theorem CB{a:aw}{ta:TA}{p pos:Pos}(hg:Gl X "range")(hm:X.mg "range"=none)(ha:PA X [a] ta)(hs:aJ [a] X.env=[(false,aG a X.env)]:=by rfl):PI X tg (.Call (.Name "range" p) [a] [] pos) (jC ta):=by
 intro pins s σ H R I h;refine Call_ (gJ I hg hm boot_range (PyProof.Rows.callWith_type1 (thn (ha pos pins s σ H _ I h) λus s1 e0=>bp e0 λvs H1 I1 r1 q1=>?_) hs rfl));obtain⟨j,e,q1,q2,q⟩:=q1;subst e;cases r1 with
 |cons r rr=>
   cases rr;obtain⟨t,rfl⟩:=r;exact call_range_1 (yu I1 (by lia) (by lia) q1 q2 (by simpa using q))
theorem AJ{a b:aw}{ta:TA}{p pos:Pos}(hg:Gl X "range")(hm:X.mg "range"=none)(ha:PA X [a,b] ta)(hs:aJ [a,b] X.env=[(false,aG a X.env),(false,aG b X.env)]:=by rfl)(hs2:aJ [b] X.env=[(false,aG b X.env)]:=by rfl) :
  PI X tg (.Call (.Name "range" p) [a,b] [] pos) (lN ta):=by
 intro pins s σ H R I h;refine Call_ (gJ I hg hm boot_range (PyProof.Rows.callWith_type1 (thn (ha pos pins s σ H _ I h) λus s1 e0=>bp e0 λvs H1 I1 r1 q1=>?_) (by rw[hs,hs2]) (by rw[hs2];rfl)));obtain⟨i,j,e,⟨q1,q2,q3,q4⟩,q⟩:=q1;subst e;cases r1 with
 |cons r rr=>
   cases rr with
   |cons r' rr=>
     cases rr;obtain⟨t,rfl⟩:=r;obtain⟨t',rfl⟩:=r';exact call_range_2 (yu I1 q1 q2 q3 q4 q)
def FX(wi:TI)(g:TG)(tb:TS):TS:=λD σ H=>wi σ H λJ H1=>∃W:Nat->Nat->St->Hp->Prop,(∃m,W 0 m σ H1)/\∀i m σ H,W i m σ H ->
 (J.stop i H/\D.nx σ H)∨(J.go i H/\∃N:St->Hp->Prop,(∀σ' H',N σ' H'->∃m',m'<m/\W (i+1) m' σ' H')/\∀x H',J.yld i H x H'->g x σ H' λσ2 H2=>tb { D with nx:=N,ct:=N,bk:=D.nx } σ2 H2)
noncomputable def i4(fp:List ae)(h:aH):List (ae×aB):=fp.filterMap λb=>(h.get? b).map λo=>(b,o)
theorem qf{fp:List ae}{h:aH}{b:ae}{o:aB}(hb:b∈fp)(e:h.get? b=some o):(b,o)∈i4 fp h:=List.mem_filterMap.mpr ⟨b,hb,by rw[e];rfl⟩
theorem BA{fp:List ae}{h:aH}{p:ae×aB}(hp:p∈i4 fp h):p.1∈fp/\h.get? p.1=some p.2:=by
 obtain⟨b,hb,e⟩:=List.mem_filterMap.mp hp;cases q:h.get? b with
 |none=>rw[q]at e;cases e
 |some o=>
   rw[q]at e;have e':(b,o)=p:=Option.some.inj e;subst e';exact⟨hb,q⟩
theorem Inv.pinned{pins:List (ae×aB)}{σ:St}{H:Hp}{s:aj}{fp:List ae}(I:Inv X pins σ H s)(hf:∀b∈fp,eX X pins H b)(ho:∀b∈fp,∃o,s.heap.get? b=some o/\∀v,o.data≠.cell v):Inv X (pins++i4 fp s.heap) σ H s:=
 I.pins_of λp hp=>(fJ.mp hp).elim (λz=>I.pin p (cM _ z)) λz=>by
  obtain⟨hb,e⟩:=BA z;obtain⟨f0,f1,f2,_⟩:=hf p.1 hb;obtain⟨o,e',d⟩:=ho p.1 hb;rw[e]at e';cases e';exact⟨e,f0,f1,f2,d⟩
theorem Inv.unpinned{pins pl:List (ae×aB)}{σ:St}{H:Hp}{s:aj}(I:Inv X (pins++pl) σ H s):Inv X pins σ H s:=I.pins_of λp hp=>I.pin p (cM _ (gB _ hp))
theorem AU{iter:aw}{body:List aP}{wi:TI}{g:TG}{tb:TS}{pos:Pos}(hp:PassesOwn (av X.prog X.w) X.A X.env X.xe)(hc:X.calm=true)(hi:PI X tg iter wi)(hg:PG X tg g)(hb:PSs X body tb)
  (hs:∀x,foldedSetIterable iter X.env x=pure x:=by intro _;rfl):PS X (.For tg iter body [] pos) (FX wi g tb):=by
 intro pins s σ H D I h;refine wpAny_For (thn (hi pins s σ H _ I h) λv s1 h1=>thn h1 λitv s2 h2=>?_) hs;obtain⟨it,fp,tn,J,H2,e,I2,T,st2,f2,W,⟨m0,w0⟩,turn⟩:=h2;subst e;have stat:∀{H':Hp},(∀b∈fp,H' b=none)->∀b∈fp,eX X pins H' b:=λhn b hb=>⟨hn b hb,(f2 b hb).2⟩;refine codeAny_forLoop_any (λn s'=>∃i σ' H',Inv X pins σ' H' s'/\tn i s'.heap/\(∀b∈fp,H' b=none)/\W i n σ' H') ?_ m0 ⟨0,σ,H2,I2,st2,λb hb=>(f2 b hb).1,w0⟩;rintro n s3 ⟨i,σ3,H3,I3,st3,fr3,w3⟩;rcases turn i n σ3 H3 w3 with⟨stop,qn⟩|⟨go,N,hN,step⟩
 ·refine wpAny_passesOwn hp (thn (T.done X rfl rfl rfl hc i pins s3 σ3 H3 X.xe I3 (stat fr3) st3 stop) λr s4 e0=>e0.elim λhr I4=>?_);subst hr;exact wpAny_execs_nil ⟨σ3,H3,I4,qn⟩
 ·refine wpAny_passesOwn hp (thn (T.item X rfl rfl rfl hc i pins s3 σ3 H3 X.xe I3 (stat fr3) st3 go) λr s4 e0=>e0.elim λu e1=>e1.elim λhr h4=>?_);subst hr;refine wpAny_passesOwn hp (thn h4 λ_ s5 e0=>bp e0 λx H5 I5 r5 e4=>e4.elim λy5 e5=>e5.elim λst5 fr5=>?_);have I5':=I5.pinned (stat fr5) (T.obj _ _ st5);refine wpAny_passesOwn hp (thn (hg _ s5 σ3 H5 x u _ I5' r5 (step x H5 y5)) λ_ s6 e0=>e0.elim λσ6 e1=>e1.elim λH6 e2=>e2.elim λI6 q6=>?_);refine wpAny_passesOwn hp (thn (hb _ s6 σ6 H6 _ I6 q6) λf s7 q7=>?_);have again:∀{σ7:St}{H7:Hp},Inv X (pins++i4 fp s5.heap) σ7 H7 s7->N σ7 H7->∃m,m<n/\∃i σ' H',Inv X pins σ' H' s7/\tn i s7.heap/\(∀b∈fp,H' b=none)/\W i m σ' H':=λ{σ7 H7} I7 n7=>by
   obtain⟨m',hm,w7⟩:=hN σ7 H7 n7;refine⟨m',hm,i+1,σ7,H7,I7.unpinned,T.keep _ _ _ st5 λb hb o e=>(I7.pin (b,o) (cM _ (cM _ (qf hb e)))).1,λb hb=>?_,w7⟩;obtain⟨o,e,d⟩:=T.obj _ _ st5 b hb;exact(I7.pin (b,o) (cM _ (cM _ (qf hb e)))).2.1
  cases f with
  |next=>obtain⟨σ7,H7,I7,n7⟩:=q7;exact again I7 n7
  |cont=>obtain⟨σ7,H7,I7,n7⟩:=q7;exact again I7 n7
  |brk=>obtain⟨σ7,H7,I7,q7⟩:=q7;exact⟨σ7,H7,I7.unpinned,q7⟩
  |ret v=>obtain⟨x7,σ7,H7,I7,r7,q7⟩:=q7;exact⟨x7,σ7,H7,I7.unpinned,r7,q7⟩
end
abbrev R2:=V->V->Hp->VK->Prop
def OpR(X:Cx)(f:af->af->Sem af)(r:R2):Prop:=
 ∀(pins:List (ae×aB)) (s:aj) (σ:St) (H:Hp) (x y:V) (v u:af) (Q:VK),Inv X pins σ H s->aN x v->aN y u->r x y H Q ->
  aq (av X.prog X.w) X.A (f v u) (EP X pins σ Q) X.xe s
def UnR(X:Cx)(f:af->Sem af)(r:V->Hp->VK->Prop):Prop:=
 ∀(pins:List (ae×aB)) (s:aj) (σ:St) (H:Hp) (x:V) (v:af) (Q:VK),Inv X pins σ H s->aN x v->r x H Q ->
  aq (av X.prog X.w) X.A (f v) (EP X pins σ Q) X.xe s
def dR(X:Cx)(f:af)(r:List V->Hp->VK->Prop):Prop:=
 ∀(pins:List (ae×aB)) (s:aj) (σ:St) (H:Hp) (xs:List V) (us:List af) (Q:VK),Inv X pins σ H s->Vals xs us->r xs H Q ->
  aq (av X.prog X.w) X.A (call f us) (EP X pins σ Q) X.xe s
def tOp(r:R2)(ta tb:TE):TE:=λσ H Q=>ta σ H λx H1=>tb σ H1 λy H2=>r x y H2 Q
def tUn(r:V->Hp->VK->Prop)(ta:TE):TE:=λσ H Q=>ta σ H λx H1=>r x H1 Q
def rI(C:Int->Int->Prop)(g:Int->Int->V):R2:=λx y H Q=>∃i j,x=.int i/\y=.int j/\C i j/\Q (g i j) H
def rI0(g:Int->Int->V):R2:=λx y H Q=>∃i j,x=.int i/\y=.int j/\Q (g i j) H
def rU(g:Int->V):V->Hp->VK->Prop:=λx H Q=>∃i,x=.int i/\Q (g i) H
section
variable {X:Cx}{a b c:aw}{ta tb tc:TE}{pos:Pos}
theorem uM(ha:PE X a ta)(hb:PE X b tb){pins:List (ae×aB)}{s:aj}{σ:St}{H:Hp}{R:V->V->Hp->Prop}(I:Inv X pins σ H s)
  (h:ta σ H λx H1=>tb σ H1 λy H2=>R x y H2) {Q:af->aj->Prop} {f:af->af->Sem af}
  (hf:∀v u s2 x y H2,Inv X pins σ H2 s2->aN x v->aN y u->R x y H2->aq (av X.prog X.w) X.A (f v u) Q X.xe s2) :
  aq (av X.prog X.w) X.A (aG a X.env) (λv s₁=>aq (av X.prog X.w) X.A (aG b X.env) (λu s₂=>aq (av X.prog X.w) X.A (f v u) Q X.xe s₂) X.xe s₁) X.xe s:=by
 refine thn (ha pins s σ H _ I h) λv s1 e0=>bp e0 λx H1 I1 r1 q1=>?_;refine thn (hb pins s1 σ H1 _ I1 q1) λu s2 e0=>bp e0 λy H2 I2 r2 q2=>?_;exact hf v u s2 x y H2 I2 r1 r2 q2
theorem F1{op:Operator}{r:R2}(ho:OpR X (binaryOp op) r)(ha:PE X a ta)(hb:PE X b tb):PE X (.BinOp a op b pos) (tOp r ta tb):=by
 intro pins s σ H Q I h;exact wpAny_BinOp (uM ha hb I h λv u s2 x y H2 I2 rx ry q=>ho pins s2 σ H2 x y v u Q I2 rx ry q)
theorem vE{op:UnaryOp}{r:V->Hp->VK->Prop}(ho:UnR X (unaryOp op) r)(ha:PE X a ta):PE X (.UnaryOp op a pos) (tUn r ta):=by
 intro pins s σ H Q I h;exact UnaryOp_ (thn (ha pins s σ H _ I h) λv s1 e0=>bp e0 λx H1 I1 r1 q1=>ho pins s1 σ H1 x v Q I1 r1 q1)
theorem opI{f:af->af->Sem af}{C:Int->Int->Prop}{g:Int->Int->Int}
  (rule:∀(i j:Int) (t u:Tok) (s:aj) (Q:af->aj->Prop) (E:af->aj->Prop),C i j->Q (.int (g i j) s.toks) { s with toks:=s.toks+1 }->aq (av X.prog X.w) X.A (f (.int i t) (.int j u)) Q E s) :
  OpR X f (rI C λi j=>.int (g i j)):=by
 intro pins s σ H x y v u Q I rx ry h;obtain⟨i,j,rfl,rfl,hc,q⟩:=h;obtain⟨t,rfl⟩:=rx;obtain⟨t',rfl⟩:=ry;exact rule i j t t' s _ _ hc ⟨.int (g i j),H,I.tok _,⟨_,rfl⟩,q⟩
theorem yk{f:af->af->Sem af}{g:Int->Int->Int}
  (rule:∀(i j:Int) (t u:Tok) (s:aj) (Q:af->aj->Prop) (E:af->aj->Prop),Q (.int (g i j) s.toks) { s with toks:=s.toks+1 }->aq (av X.prog X.w) X.A (f (.int i t) (.int j u)) Q E s) :
  OpR X f (rI0 λi j=>.int (g i j)):=by
 intro pins s σ H x y v u Q I rx ry h;obtain⟨i,j,rfl,rfl,q⟩:=h;obtain⟨t,rfl⟩:=rx;obtain⟨t',rfl⟩:=ry;exact rule i j t t' s _ _ ⟨.int (g i j),H,I.tok _,⟨_,rfl⟩,q⟩
theorem tZ{f:af->af->Sem af}{g:Int->Int->Bool}
  (rule:∀(i j:Int) (t u:Tok) (s:aj) (Q:af->aj->Prop) (E:af->aj->Prop),Q (.bool (g i j)) s->aq (av X.prog X.w) X.A (f (.int i t) (.int j u)) Q E s) :
  OpR X f (rI0 λi j=>.bl (g i j)):=by
 intro pins s σ H x y v u Q I rx ry h;obtain⟨i,j,rfl,rfl,q⟩:=h;obtain⟨t,rfl⟩:=rx;obtain⟨t',rfl⟩:=ry;exact rule i j t t' s _ _ ⟨.bl (g i j),H,I,rfl,q⟩
def CMul(i j:Int):Prop:=(-(2 ^ 64)<i/\i<2 ^ 64)∨(-(2 ^ 64)<j/\j<2 ^ 64)
theorem CMul.ok{i j:Int}(h:CMul i j):IntMulOk i j:=by
 rcases h with⟨h1,h2⟩|⟨h1,h2⟩
 ·exact .of_left (intBits_le_64 h1 h2)
 ·exact .of_right (intBits_le_64 h1 h2)
theorem Bt:OpR X (binaryOp .Add) (rI0 λi j=>.int (i+j)):=yk λ_ _ _ _ _ _ _ q=>add_int q
theorem oG:OpR X (binaryOp .Sub) (rI0 λi j=>.int (i-j)):=yk λ_ _ _ _ _ _ _ q=>sub_int q
theorem DK:OpR X (binaryOp .Mult) (rI CMul λi j=>.int (i*j)):=opI λ_ _ _ _ _ _ _ hc q=>mul_int q hc.ok
theorem lJ:OpR X (binaryOp .Mod) (rI (λ_ j=>0<j) λi j=>.int (i%j)):=opI λi j _ _ _ _ _ hc q=>by
 have h1:(0:Int)<j:=hc;exact mod_int' (by lia) (by rw[Int.fmod_eq_emod_of_nonneg i (by lia)];exact q)
theorem unI{f:af->Sem af}{g:Int->Int}
  (rule:∀(i:Int) (t:Tok) (s:aj) (Q:af->aj->Prop) (E:af->aj->Prop),Q (.int (g i) s.toks) { s with toks:=s.toks+1 }->aq (av X.prog X.w) X.A (f (.int i t)) Q E s) :
  UnR X f (rU λi=>.int (g i)):=by
 intro pins s σ H x v Q I rx h;obtain⟨i,rfl,q⟩:=h;obtain⟨t,rfl⟩:=rx;exact rule i t s _ _ ⟨.int (g i),H,I.tok _,⟨_,rfl⟩,q⟩
theorem wY:UnR X (unaryOp .USub) (rU λi=>.int (-i)):=unI λ_ _ _ _ _ q=>neg_int q
end
noncomputable def scal:V->V->Bool
 |.non,.non=>true|.non,.int _=>true|.int _,.non=>true|.non,.bl _=>true|.bl _,.non=>true|.non,.str _=>true|.str _,.non=>true
 |.int _,.int _=>true|.bl _,.bl _=>true|.str _,.str _=>true|.byt _,.byt _=>true
 |.int _,.str _=>true|.str _,.int _=>true|.bl _,.str _=>true|.str _,.bl _=>true
 |_,_=>false
def rEq:R2:=λx y H Q=>scal x y=true/\Q (.bl (decide (x=y))) H
def rNe:R2:=λx y H Q=>scal x y=true/\Q (.bl (!decide (x=y))) H
theorem xk{i j:Int}:decide (V.int i=V.int j)=(i == j):=by
 rw[lF];simp
theorem zJ{i j:Bool}:decide (V.bl i=V.bl j)=(i == j):=by
 rw[lF];simp
theorem vU{i j:Str}:decide (V.str i=V.str j)=(i == j):=by
 rw[lF];simp
theorem zg{i j:Array UInt8}:decide (V.byt i=V.byt j)=(i.toList == j.toList):=by
 rw[lF];cases i;cases j;simp
section
variable {X:Cx}{a b c:aw}{ta tb tc:TE}{pos:Pos}
theorem cH{pins:List (ae×aB)}{σ:St}{H:Hp}{s:aj}{Q:VK}{k k':Bool}(I:Inv X pins σ H s)(q:Q (.bl k) H)(e:k=k'):EP X pins σ Q (.bool k') s:=by
 subst e;exact⟨.bl k,H,I,rfl,q⟩
theorem GV:OpR X (dL .Eq) rEq:=by
 intro pins s σ H x y v u Q I rx ry h;obtain⟨hs,q⟩:=h;cases x with
 |non=>
   cases rx;cases y with
   |non=>cases ry;exact PySem.EqNone.eq_none_none (cH I q (by simp))
   |bl j=>cases ry;exact PySem.EqNone.eq_none_bool (cH I q (by simp))
   |int j=>obtain⟨t',rfl⟩:=ry;exact PySem.EqNone.eq_none_int (cH I q (by simp))
   |str j=>obtain⟨t',rfl⟩:=ry;exact PySem.EqNone.eq_none_str (cH I q (by simp))
   |_=>exact absurd (show false=true from hs) bW
 |bl i=>
   cases rx;cases y with
   |non=>cases ry;exact PySem.EqNone.eq_bool_none (cH I q (by simp))
   |bl j=>cases ry;exact eq_bool (cH I q zJ)
   |str j=>obtain⟨t',rfl⟩:=ry;exact PySem.EqMixed.eq_bool_str (cH I q (by simp))
   |_=>exact absurd (show false=true from hs) bW
 |int i=>
   obtain⟨t,rfl⟩:=rx;cases y with
   |non=>cases ry;exact PySem.EqNone.eq_int_none (cH I q (by simp))
   |int j=>obtain⟨t',rfl⟩:=ry;exact eq_int (cH I q xk)
   |str j=>obtain⟨t',rfl⟩:=ry;exact PySem.EqMixed.eq_int_str (cH I q (by simp))
   |_=>exact absurd (show false=true from hs) bW
 |str i=>
   obtain⟨t,rfl⟩:=rx;cases y with
   |non=>cases ry;exact PySem.EqNone.eq_str_none (cH I q (by simp))
   |bl j=>cases ry;exact PySem.EqMixed.eq_str_bool (cH I q (by simp))
   |int j=>obtain⟨t',rfl⟩:=ry;exact PySem.EqMixed.eq_str_int (cH I q (by simp))
   |str j=>obtain⟨t',rfl⟩:=ry;exact eq_str (cH I q vU)
   |_=>exact absurd (show false=true from hs) bW
 |byt i=>
   obtain⟨t,rfl⟩:=rx;cases y with
   |byt j=>obtain⟨t',rfl⟩:=ry;exact PySem.W.eq_bytes (cH I q zg)
   |_=>exact absurd (show false=true from hs) bW
 |_=>cases y <;> exact absurd (show false=true from hs) bW
theorem Fe:OpR X (dL .NotEq) rNe:=by
 intro pins s σ H x y v u Q I rx ry h;obtain⟨hs,q⟩:=h;cases x with
 |non=>
   cases rx;cases y with
   |non=>cases ry;exact PySem.EqNone.ne_none_none (cH I q (by simp))
   |bl j=>cases ry;exact PySem.EqNone.ne_none_bool (cH I q (by simp))
   |int j=>obtain⟨t',rfl⟩:=ry;exact PySem.EqNone.ne_none_int (cH I q (by simp))
   |str j=>obtain⟨t',rfl⟩:=ry;exact PySem.EqNone.ne_none_str (cH I q (by simp))
   |_=>exact absurd (show false=true from hs) bW
 |bl i=>
   cases rx;cases y with
   |non=>cases ry;exact PySem.EqNone.ne_bool_none (cH I q (by simp))
   |bl j=>cases ry;exact ne_bool (cH I q (congrArg not zJ))
   |str j=>obtain⟨t',rfl⟩:=ry;exact PySem.EqMixed.ne_bool_str (cH I q (by simp))
   |_=>exact absurd (show false=true from hs) bW
 |int i=>
   obtain⟨t,rfl⟩:=rx;cases y with
   |non=>cases ry;exact PySem.EqNone.ne_int_none (cH I q (by simp))
   |int j=>obtain⟨t',rfl⟩:=ry;exact ne_int (cH I q (congrArg not xk))
   |str j=>obtain⟨t',rfl⟩:=ry;exact PySem.EqMixed.ne_int_str (cH I q (by simp))
   |_=>exact absurd (show false=true from hs) bW
 |str i=>
   obtain⟨t,rfl⟩:=rx;cases y with
   |non=>cases ry;exact PySem.EqNone.ne_str_none (cH I q (by simp))
   |bl j=>cases ry;exact PySem.EqMixed.ne_str_bool (cH I q (by simp))
   |int j=>obtain⟨t',rfl⟩:=ry;exact PySem.EqMixed.ne_str_int (cH I q (by simp))
   |str j=>obtain⟨t',rfl⟩:=ry;exact ne_str (cH I q (congrArg not vU))
   |_=>exact absurd (show false=true from hs) bW
 |byt i=>
   obtain⟨t,rfl⟩:=rx;cases y with
   |byt j=>obtain⟨t',rfl⟩:=ry;exact PySem.W.ne_bytes (cH I q (congrArg not zg))
   |_=>exact absurd (show false=true from hs) bW
 |_=>cases y <;> exact absurd (show false=true from hs) bW
theorem iX:OpR X (dL .Lt) (rI0 λi j=>.bl (decide (i<j))):=tZ λ_ _ _ _ _ _ _ q=>lt_int q
theorem jt:OpR X (dL .Gt) (rI0 λi j=>.bl (decide (j<i))):=tZ λ_ _ _ _ _ _ _ q=>gt_int q
theorem ww:OpR X (dL .GtE) (rI0 λi j=>.bl (decide (j≤i))):=tZ λ_ _ _ _ _ _ _ q=>ge_int q
theorem E2:OpR X (dL .In) (λx y H Q=>∃i j,x=.str i/\y=.str j/\Q (.bl (!(Builtin.Str.occurrences j i 0 j.length 1).isEmpty)) H):=by
 intro pins s σ H x y v u Q I rx ry h;obtain⟨i,j,rfl,rfl,q⟩:=h;obtain⟨t,rfl⟩:=rx;obtain⟨t',rfl⟩:=ry;exact in_str (cH I q rfl)
theorem B8:OpR X (dL .Is) (λx y H Q=>y=.non/\Q (.bl (decide (x=.non))) H):=by
 intro pins s σ H x y v u Q I rx ry h;obtain⟨rfl,q⟩:=h;cases ry;refine is_none_gen (cH I q ?_);cases x <;> first
  |(cases rx;rfl)
  |(obtain⟨t,rfl⟩:=rx;rfl)
theorem HL:OpR X (dL .IsNot) (λx y H Q=>y=.non/\Q (.bl (!decide (x=.non))) H):=by
 intro pins s σ H x y v u Q I rx ry h;obtain⟨rfl,q⟩:=h;cases ry;refine isnot_none_gen (cH I q ?_);cases x <;> first
  |(cases rx;rfl)
  |(obtain⟨t,rfl⟩:=rx;rfl)
theorem OpR.or{f:af->af->Sem af}{r r':R2}(h:OpR X f r)(h':OpR X f r'):OpR X f (λx y H Q=>r x y H Q∨r' x y H Q):=by
 intro pins s σ H x y v u Q I rx ry q;rcases q with q|q
 ·exact h pins s σ H x y v u Q I rx ry q
 ·exact h' pins s σ H x y v u Q I rx ry q
theorem bV(b:aw){op:CmpOp}(h:op≠.In:=by decide)(h2:op≠.NotIn:=by decide):behindInMarks op b=false:=by
 have e1:(op == CmpOp.In)=false:=by cases op <;> first|rfl|exact absurd rfl h
 have e2:(op == CmpOp.NotIn)=false:=by cases op <;> first|rfl|exact absurd rfl h2
 cases b <;> simp[behindInMarks,e1,e2]
theorem Ib{op:CmpOp}{r:R2}(ho:OpR X (dL op) r)(ha:PE X a ta)(hb:PE X b tb)(hm:behindInMarks op b=false):PE X (.Compare a [op] [b] pos) (tOp r ta tb):=by
 intro pins s σ H Q I h;exact wpAny_Compare1 (uM ha hb I h λv u s2 x y H2 I2 rx ry q=>ho pins s2 σ H2 x y v u Q I2 rx ry q) hm
def A5(t:TE):TT:=λσ H Q=>t σ H λx H'=>∃k,x=.bl k/\Q k H'
theorem tX{op:CmpOp}{r:R2}(ho:OpR X (dL op) r)(ha:PE X a ta)(hb:PE X b tb)(hm:behindInMarks op b=false):PT X (.Compare a [op] [b] pos) (A5 (tOp r ta tb)):=by
 intro pins s σ H Q I h;refine wpAny_isTrue_Compare1 (thn (ha pins s σ H _ I h) λv s1 e0=>bp e0 λx H1 I1 r1 q1=>thn (hb pins s1 σ H1 _ I1 q1) λu s2 e0=>bp e0 λy H2 I2 r2 q2=>
  thn (ho pins s2 σ H2 x y v u _ I2 r1 r2 q2) λc s3 e0=>bp e0 λz H3 I3 r3 e4=>e4.elim λk e5=>e5.elim λe q3=>?_) hm
 subst e;cases r3;exact wpAny_truthy_bool ⟨H3,I3,q3⟩
theorem lD:(aV:Nat)<2 ^ 63:=by rw[sizeLine_eq];decide
theorem D6:OpR X (binaryOp .Add) (λx y H Q=>∃i j,x=.str i/\y=.str j/\i.length+j.length≤aV/\Q (.str (i++j)) H):=by
 intro pins s σ H x y v u Q I rx ry h;obtain⟨i,j,rfl,rfl,hz,q⟩:=h;obtain⟨t,rfl⟩:=rx;obtain⟨t',rfl⟩:=ry;exact add_str (λt' tk=>⟨.str (i++j),H,I.tok _,⟨_,rfl⟩,q⟩) hz
theorem vals1{x:V}{us:List af}(r:Vals [x] us):∃u,us=[u]/\aN x u:=by
 cases r with
 |cons r1 r2=>cases r2;exact⟨_,rfl,r1⟩
theorem vals2{x y:V}{us:List af}(r:Vals [x,y] us):∃u w',us=[u,w']/\aN x u/\aN y w':=by
 cases r with
 |cons r1 r2=>
   cases r2 with
   |cons r3 r4=>cases r4;exact⟨_,_,rfl,r1,r3⟩
theorem C4:dR X (.type "str") (λxs H Q=>∃i,xs=[.int i]/\i.natAbs.log2<1920/\Q (.str (toString i)) H):=by
 intro pins s σ H xs us Q I r h;obtain⟨i,rfl,hz,q⟩:=h;obtain⟨u,rfl,t,rfl⟩:=vals1 r;exact PySem.P.str_of_int hz ⟨.str _,H,I.tok _,⟨_,rfl⟩,q⟩
def wR(K:PySem.W.Frag)(x:V)(H:Hp)(n:Nat):Prop:=
 match x with
 |.str y=>y.length≤aV/\n=y.length
 |.byt y=>y.size≤aV/\n=y.size
 |.ref p=>(∃xs,SqL K H p xs/\n=xs.length)∨∃xs,SqT K H p xs/\n=xs.length
 |_=>False
theorem C5:dR X (.builtin "len") (λxs H Q=>∃x n,xs=[x]/\wR X.K x H n/\Q (.int n) H):=by
 intro pins s σ H xs us Q I r h;obtain⟨x,n,rfl,e,q⟩:=h;obtain⟨u,rfl,rx⟩:=vals1 r;have hl:=lD;have hs:aV=16777216:=sizeLine_eq;cases x with
 |str y=>
   obtain⟨t,rfl⟩:=rx;obtain⟨hy,e'⟩:y.length≤aV/\n=y.length:=e;subst e';exact len_str (by lia) ⟨.int _,H,I.tok _,⟨_,rfl⟩,q⟩
 |byt y=>
   obtain⟨t,rfl⟩:=rx;obtain⟨hy,e'⟩:y.size≤aV/\n=y.size:=e;subst e';exact PySem.W.len_bytes (by lia) ⟨.int _,H,I.tok _,⟨_,rfl⟩,q⟩
 |ref p=>
   cases rx;have e':(∃xs,SqL X.K H p xs/\n=xs.length)∨∃xs,SqT X.K H p xs/\n=xs.length:=e;rcases e' with⟨xs,hx,e'⟩|⟨xs,hx,e'⟩
   ·subst e';obtain⟨its,r',pl,hz⟩:=I.list hx;have hlen:=r'.length;exact Calls.call_len_list pl.isList (by simp only[cG];lia) ⟨.int xs.length,H,I.tok _,⟨_,by simp only[cG];rw[hlen]⟩,q⟩
   ·subst e';obtain⟨its,r',pl,hz⟩:=I.tuple hx;have hlen:=r'.length;exact len_tuple pl (by simp only[cG];lia) ⟨.int xs.length,H,I.tok _,⟨_,by simp only[cG];rw[hlen]⟩,q⟩
 |_=>exact(show False from e).elim
end
structure km(h:aH)(x dx C:ae)(mA:Str->Option af):Prop where
 obj:h.get? x=some (PySem.W.instObj C dx)
 ns:h.Ns1 dx mA
 ne:dx≠x
theorem BM{h:aH}{dx:ae}{mA:Str->Option af}(n:h.Ns1 dx mA):∃od,h.get? dx=some od/\∀name,PySem.W.lookIn name od=some (mA name):=by
 obtain⟨o,es,ep,ho,hd,hk,_,hm⟩:=n;refine⟨o,ho,λname=>?_⟩;have e:=hm name;unfold nsFind findBy at e;rw[←Array.find?_toList]at e;unfold PySem.W.lookIn;rw[hd];dsimp only;split
 ·rename_i y q;rw[q]at e;exact congrArg some e
 ·rename_i q;rw[q]at e;have a:es.toList.any (·.refKey)=false:=by
   rw[List.any_eq_false];intro y hy;obtain⟨z,t,hkey⟩:=hk y (Array.mem_toList_iff.mp hy);simp[DictEntry.refKey,hkey]
  have a':¬es.toList.any (·.refKey)=true:=by rw[a];exact bW
  rw[if_neg a'];exact congrArg some e
theorem km.look{h:aH}{x dx C:ae}{mA:Str->Option af}(I:km h x dx C mA):∃od,PySem.W.InstAt h x (PySem.W.instObj C dx) C (some od)/\∀name,PySem.W.lookIn name od=some (mA name):=
 let ⟨od,ho,hl⟩:=BM I.ns
 ⟨od,⟨I.obj,rfl,rfl,ho⟩,hl⟩
section
variable {prog:bi}{w:aQ}{A:aX}{E:af->aj->Prop}{s:aj}{K:PySem.W.Frag}{x dx C f:ae}{mA:Str->Option af}{name:Str}{v:af}
theorem IY{expr:Bool}{Q:af->aj->Prop}(X:K.In s.heap)(I:km s.heap x dx C mA)(hg:PySem.W.plainGet K C name=true)(hh:PySem.W.hasDictIn K C=true)
  (ha:PySem.W.findIn K (.ref C) name=some none) (hv:mA name=some v) (hv':PySem.W.handedIn v=true) (h:Q v { s with toks:=s.toks+1 }) :
  aq (av prog w) A (getAttr (.ref x) name expr) Q E s:=by
 obtain⟨od,J,hl⟩:=I.look;exact PySem.W.get_value X J (PySem.W.plainGet_of hg).1 (PySem.W.findObj_own hh ha rfl (by rw[hl,hv])) hv' h
theorem A9{pl:Sem Bool}{Q:af×List af->aj->Prop}(X:K.In s.heap)(I:km s.heap x dx C mA)(hg:PySem.W.plainGet K C name=true)
  (hf:PySem.W.findIn K (.ref C) name=some (some (.ref f))) (ht:PySem.W.isFn K (.ref f)=true) (hv:mA name=none) (h:Q (.ref f,[.ref x]) s) :
  aq (av prog w) A (getMethod (.ref x) name pl) Q E s:=by
 obtain⟨od,J,hl⟩:=I.look;exact PySem.W.method_fn X J (PySem.W.plainGet_of hg).1 (PySem.W.plainGet_of hg).2 hf (beq_iff_eq.mp ht) (by show(PySem.W.lookIn name od).map (·.isSome)=some false;rw[hl,hv];rfl) h
theorem FU{ns:List Str}{Q:Unit->aj->Prop}(X:K.In s.heap)(I:km s.heap x dx C mA)
  (hs:PySem.W.findIn K (.ref C) "__setattr__"=some (some (.builtin "object.__setattr__"))) (hp:PySem.W.plainOver K C=true) (ht:PySem.W.takerIn K C name=some none) (hh:PySem.W.hasDictIn K C=true)
  (hw:PySem.Within mA ns) (hsz:ns.length≤aV)
  (h:∀h',km h' x dx C (λy=>if y=name then some v else mA y)->jR dx s.heap h'->Q () { s with heap:=h',toks:=s.toks+2 }) :
  aq (av prog w) A (setAttr (.ref x) name v) Q E s:=by
 obtain⟨od,J,hl⟩:=I.look;refine PySem.W.set_plain X J hs (PySem.W.osa_open (s:={ s with toks:=s.toks+1 }) (r:=none) X J hp ht λb=>?_);obtain⟨cd,hc,hd'⟩:=PySem.W.any_some hh;have hx:s.heap.get? x=some ⟨.ref C,some dx,.plain,#[]⟩:=I.obj;refine ak (aL (ak (ak (wpAny_loadPart hx (ak (PySem.W.Looks.here (s:={ s with toks:=s.toks+1 }) (PySem.W.looks_clsIn X hc) ?_))))));rw[hd'];refine aL (a:=some dx) (ak (aL (ak ?_)));refine wpAny_nsSet1 (s:={ s with toks:=s.toks+1 }) I.ns λh' hn2 hs2=>?_;obtain⟨oD,esD,epD,hoD,hdD,hcD⟩:=hn2.count (PySem.Within.cons name v hw);refine ak (wpAny_lookBehind hoD (by rw[hdD];exact pastItsLine_dict (cB hcD (by rw[eR];lia))) ?_);exact aL (h _ ⟨(hs2.2 _ (Ne.symm I.ne)).trans I.obj,hn2,I.ne⟩ hs2)
theorem Cs{R:Result->aj->Prop}{vs:List af}{kw:List (Str×af)}(X:K.In s.heap)(hm:PySem.W.makesIn K C=true)
  (hi:PySem.W.findIn K (.ref C) "__init__"=some (some (.ref f))) (hf:PySem.W.typeIn K (.ref f)=some (.type "function"))
  (h:codeAny (av prog w) (A.under (.builtin "type.__call__" ⟨.ref C::vs,kw⟩)) (.call (.ref f) ⟨.ref (s.heap.objs.size + 1)::vs,kw⟩) (PySem.W.InitBack (s.heap.objs.size + 1) R)
   { s with heap:=(s.heap.push PySem.W.emptyDict).push (PySem.W.instObj C s.heap.objs.size) }) :
  codeAny (av prog w) A (.call (.ref C) ⟨vs,kw⟩) R s:=by
 obtain⟨hh,g,d,t,os⟩:=s;exact PySem.W.make_core (PySem.W.makes_of X hm) (PySem.W.looks_findIn X hi) (λself=>PySem.W.bind_fn X self hf) (.inl rfl) h
end
noncomputable def putF(f:Str)(v:V):List (Str×V)->List (Str×V)
 |[]=>[(f,v)]
 |(g,x)::r=>if g=f then(g,v)::r else(g,x)::putF f v r
theorem zn(f g:Str)(v:V):∀fs:List (Str×V),(putF f v fs).lookup g=if g=f then some v else fs.lookup g
 |[]=>by
   show eL g [(f,v)]=_;by_cases h:g=f
   ·have hb:(g == f)=true:=beq_iff_eq.mpr h;simp only[eL,hb,if_pos h]
   ·have hb:(g == f)=false:=beq_eq_false_iff_ne.mpr h;simp only[eL,hb,if_neg h]
 |(k,x)::r=>by
   have ih:=zn f g v r;rw[show putF f v ((k,x)::r)=(if k=f then(k,v)::r else(k,x)::putF f v r) from rfl];by_cases hk:k=f
   ·rw[if_pos hk];by_cases h:g=k
    ·have hb:(g == k)=true:=beq_iff_eq.mpr h;simp only[eL,hb,if_pos (h.trans hk)]
    ·have hb:(g == k)=false:=beq_eq_false_iff_ne.mpr h;simp only[eL,hb,if_neg (λe:g=f=>h (e.trans hk.symm))]
   ·rw[if_neg hk];by_cases h:g=k
    ·have hb:(g == k)=true:=beq_iff_eq.mpr h;simp only[eL,hb,if_neg (λe:g=f=>hk (h.symm.trans e))]
    ·have hb:(g == k)=false:=beq_eq_false_iff_ne.mpr h;simp only[eL,hb];exact ih
theorem sW(f:Str)(v:V):∀fs:List (Str×V),f∈(putF f v fs).map (·.1)/\∀g,g∈fs.map (·.1)->g∈(putF f v fs).map (·.1)
 |[]=>⟨by simp[putF],λg h=>by simp at h⟩
 |(k,x)::r=>by
   obtain⟨i1,i2⟩:=sW f v r;rw[show putF f v ((k,x)::r)=(if k=f then(k,v)::r else(k,x)::putF f v r) from rfl];by_cases hk:k=f
   ·rw[if_pos hk];subst hk;exact⟨by simp,λg h=>by simpa using h⟩
   ·rw[if_neg hk];refine⟨?_,λg h=>?_⟩
    ·rw[bD];exact d5 _ i1
    ·rw[bD]at h ⊢;rcases bu.mp h with e|e
     ·exact bu.mpr (.inl e)
     ·exact d5 _ (i2 g e)
theorem wH(f:Str)(v:V):∀fs:List (Str×V),(putF f v fs).length≤fs.length+1
 |[]=>by simp[putF]
 |(k,x)::r=>by
   have ih:=wH f v r;rw[show putF f v ((k,x)::r)=(if k=f then(k,v)::r else(k,x)::putF f v r) from rfl];by_cases hk:k=f
   ·rw[if_pos hk,eR,eR];lia
   ·rw[if_neg hk,eR,eR];lia
theorem dW.some_of{v:V}{o:Option af}(r:dW (some v) o):∃u,o=some u/\aN v u:=by
 cases o with
 |none=>exact(show False from r).elim
 |some u=>exact⟨u,rfl,r⟩
theorem dW.none_of{o:Option af}(r:dW none o):o=none:=by
 cases o with
 |none=>rfl
 |some u=>exact(show False from r).elim
theorem Ip{v:V}{u:af}(r:aN v u):PySem.W.handedIn u=true:=by
 cases v with
 |non=>cases(show u=Value.none from r);rfl
 |bl b=>cases(show u=Value.bool b from r);rfl
 |int i=>obtain⟨t,e⟩:=(show ∃t,u=Value.int i t from r);cases e;rfl
 |str x=>obtain⟨t,e⟩:=(show ∃t,u=Value.str x t from r);cases e;rfl
 |byt b=>obtain⟨t,e⟩:=(show ∃t,u=Value.bytes b t from r);cases e;rfl
 |flt b=>obtain⟨t,e⟩:=(show ∃t,u=Value.float b t from r);cases e;rfl
 |ref a=>cases(show u=Value.ref a from r);rfl
 |ty n=>cases(show u=Value.type n from r);rfl
section
variable {P:bi}{w:aQ}{H H':Hp}{h h':aH}{a C dx:ae}{fs fs':List (Str×V)}
theorem qd(hok:HOk P w H h)(e:H a=some (.ins C dx fs)):∃mA,km h a dx C mA/\(∀f,dW (fs.lookup f) (mA f))/\PySem.Within mA (fs.map (·.1))/\fs.length≤1000/\H dx=some (.own a):=by
 obtain⟨d,z,ne,ob,mA,n,r,q⟩:=(show cA P w H h a (.ins C dx fs) from hok a _ e);exact⟨mA,⟨ob,n,ne⟩,r,q,z,d⟩
end
structure Cls(K:PySem.W.Frag)(C:ae):Prop where
 pg:PySem.W.plainGet K C Str.empty=true
 hd:PySem.W.hasDictIn K C=true
 po:PySem.W.plainOver K C=true
 sa:PySem.W.findIn K (.ref C) "__setattr__"=some (some (.builtin "object.__setattr__"))
theorem Cls.get{K:PySem.W.Frag}{C:ae}(c:Cls K C)(f:Str):PySem.W.plainGet K C f=true:=c.pg
def cZ(K:PySem.W.Frag)(C:ae)(f:Str):Prop:=PySem.W.findIn K (.ref C) f=some none
theorem cZ.taker{K:PySem.W.Frag}{C:ae}{f:Str}(n:cZ K C f):PySem.W.takerIn K C f=some none:=by
 unfold PySem.W.takerIn;rw[show PySem.W.findIn K (.ref C) f=some none from n];rfl
structure Meth(K:PySem.W.Frag)(C:ae)(m:Str)(f:ae):Prop where
 at_:PySem.W.findIn K (.ref C) m=some (some (.ref f))
 fn:PySem.W.isFn K (.ref f)=true
 kp:PySem.W.keepIn K (.ref f)=true
section
variable {X:Cx}{pins:List (ae×aB)}{σ:St}{H:Hp}{s:aj}{a C dx:ae}{fs:List (Str×V)}{f:Str}{v:V}{A:aX}{E:af->aj->Prop}
theorem y9{b:Bool}{Q:af->aj->Prop}(I:Inv X pins σ H s)(e:H a=some (.ins C dx fs))(c:Cls X.K C)(n:cZ X.K C f)(l:fs.lookup f=some v)
  (h:∀u s',Inv X pins σ H s'->aN v u->Q u s'):aq (av X.prog X.w) A (getAttr (.ref a) f b) Q E s:=by
 obtain⟨mA,O,r,_,_,_⟩:=qd I.hok e;obtain⟨u,hu,ru⟩:=dW.some_of (v:=v) (o:=mA f) (by rw[←l];exact r f);exact IY I.kIn O (c.get f) c.hd n hu (Ip ru) (h u _ (I.tok _) ru)
theorem yw{m:Str}{g:ae}{pl:Sem Bool}{Q:af×List af->aj->Prop}(I:Inv X pins σ H s)(e:H a=some (.ins C dx fs))(c:Cls X.K C)(k:Meth X.K C m g)(l:fs.lookup m=none)
  (h:Q (.ref g,[.ref a]) s):aq (av X.prog X.w) A (getMethod (.ref a) m pl) Q E s:=by
 obtain⟨mA,O,r,_,_,_⟩:=qd I.hok e;have hn:mA m=none:=dW.none_of (by rw[←l];exact r m);exact A9 I.kIn O (c.get m) k.at_ k.fn hn h
theorem zR{y:V}{u:af}{Q:Unit->aj->Prop}(I:Inv X pins σ H s)(e:H a=some (.ins C dx fs))(c:Cls X.K C)(n:cZ X.K C f)(hl:fs.length<1000)(ry:aN y u)
  (h:∀s',Inv X pins σ (upd H a (.ins C dx (putF f y fs))) s'->Q () s'):aq (av X.prog X.w) A (setAttr (.ref a) f u) Q E s:=by
 obtain⟨mA,O,r,wi,_,ho⟩:=qd I.hok e;have hz:(fs.map (·.1)).length≤aV:=by rw[c6,sizeLine_eq];lia
 refine FU I.kIn O c.sa c.po n.taker c.hd wi hz λh' O' sb=>h _ ?_;have hd:∃o,h'.get? dx=some o:=let ⟨o,_,_,e',_⟩:=O'.ns;⟨o,e'⟩;refine I.write (x:=a) (e:=dx) (by rw[e];exact True.intro) (.inr ho) (λb q hb z=>(sb.2 b hb).trans z) hd ?_;refine⟨by rw[aY O.ne];exact ho,?_,O.ne,O'.obj,_,O'.ns,λg=>?_,λg hg=>?_⟩
 ·have:=wH f y fs;lia
 ·show dW ((putF f y fs).lookup g) (if g=f then some u else mA g);rw[zn];by_cases q:g=f
  ·rw[if_pos q,if_pos q];exact ry
  ·rw[if_neg q,if_neg q];exact r g
 ·by_cases q:g=f
  ·rw[q];exact(sW f y fs).1
  ·refine(sW f y fs).2 g (wi g λz=>hg ?_);show(if g=f then some u else mA g)=none;rw[if_neg q];exact z
theorem Inv.made(I:Inv X pins σ H s):Inv X pins σ (upd (upd H s.heap.objs.size (.own (s.heap.objs.size+1))) (s.heap.objs.size+1) (.ins C s.heap.objs.size []))
  { s with heap:=(s.heap.push PySem.W.emptyDict).push (PySem.W.instObj C s.heap.objs.size) }:=by
 have e1:(s.heap.push PySem.W.emptyDict).get? s.heap.objs.size=some PySem.W.emptyDict:=cT s.heap rfl;have e2:((s.heap.push PySem.W.emptyDict).push (PySem.W.instObj C s.heap.objs.size)).get? (s.heap.objs.size+1)=some (PySem.W.instObj C s.heap.objs.size):=by
  have:=cT (s.heap.push PySem.W.emptyDict) (o:=PySem.W.instObj C s.heap.objs.size) rfl
  rwa [iV]at this
 have e3:(s.heap.push PySem.W.emptyDict).Ns s.heap.objs.size (λ_=>none):=⟨PySem.W.emptyDict,#[],_,e1,rfl,(λe he=>absurd he (by simp)),λ_=>rfl⟩
 have I1:=I.laid (a:=s.heap.objs.size) (o:=.own (s.heap.objs.size+1)) (h':=s.heap.push PySem.W.emptyDict) (t':=s.toks) (λb u q=>bG _ q) (aU _) ⟨_,e1⟩;refine I1.laid (a:=s.heap.objs.size+1) (o:=.ins C s.heap.objs.size []) (t':=s.toks) (λb u q=>bG _ q) (mQ (iV _ _)) ?_;have ne:s.heap.objs.size≠s.heap.objs.size+1:=dj (qY _);refine⟨by rw[aY ne,dh],fg _,ne,e2,λ_=>none,(Heap.Ns1.of_empty e3).at λo q=>bG _ q,λ_=>True.intro,λy hy=>absurd rfl hy⟩
theorem FY{prog:bi}{w:aQ}{env:Env}{e:aw}{f:Str}{pos:Pos}{s:aj}{Q:af->aj->Prop}(hb:attributeBase e f env (aG e env)=aG e env)
  (h:aq (av prog w) A (aG e env) (λo s₁=>aq (av prog w) A (getAttr o f true) Q E s₁) E s):aq (av prog w) A (aG (.Attribute e f pos) env) Q E s:=
 Attribute_any_ h (by rw[arm_eval_Attribute,hb])
end
def BH(K:PySem.W.Frag)(ta:TE)(f:Str):TE:=λσ H Q=>ta σ H λx H1=>∃a C dx fs v,x=.ref a/\H1 a=some (.ins C dx fs)/\Cls K C/\cZ K C f/\fs.lookup f=some v/\Q v H1
def dN(K:PySem.W.Frag)(ta tv:TE)(f:Str):TS:=λD σ H=>tv σ H λy H1=>ta σ H1 λx H2=>∃a C dx fs,x=.ref a/\H2 a=some (.ins C dx fs)/\Cls K C/\cZ K C f/\fs.length<1000 /\
 D.nx σ (upd H2 a (.ins C dx (putF f y fs)))
def ot(X:Cx)(op:Operator)(rd:V->V->Hp->VK->Prop):Prop:=
 ∀(pins:List (ae×aB)) (s:aj) (σ:St) (H:Hp) (x y:V) (u v:af) (Q:VK),Inv X pins σ H s->aN x u->aN y v->rd x y H Q->aq (av X.prog X.w) X.A (inplaceOp op u v) (EP X pins σ Q) X.xe s
def Ii(K:PySem.W.Frag)(ta tv:TE)(rd:V->V->Hp->VK->Prop)(f:Str):TS:=λD σ H=>ta σ H λx H1=>∃a C dx fs v,x=.ref a/\H1 a=some (.ins C dx fs)/\Cls K C/\cZ K C f/\fs.lookup f=some v /\
 tv σ H1 λy H2=>rd v y H2 λz H3=>∃dx' fs',H3 a=some (.ins C dx' fs')/\fs'.length<1000/\D.nx σ (upd H3 a (.ins C dx' (putF f z fs')))
section
variable {X:Cx}{o e value:aw}{f:Str}{pos pos' tpos:Pos}{ta tv:TE}
theorem Ej(he:PE X e ta)(hb:attributeBase e f X.env (aG e X.env)=aG e X.env):PE X (.Attribute e f pos) (BH X.K ta f):=by
 intro pins s σ H Q I h;refine FY hb (thn (he pins s σ H _ I h) λu s1 e0=>bp e0 λx H1 I1 rx e4=>e4.elim λa e5=>e5.elim λC e6=>e6.elim λdx e7=>e7.elim λfs e8=>e8.elim λv e9=>e9.elim λex e10=>e10.elim λea e11=>e11.elim λc e12=>e12.elim λn e13=>e13.elim λl q=>?_);subst ex;obtain rfl:u=Value.ref a:=rx;exact y9 I1 ea c n l λu' s2 I2 ru=>⟨v,H1,I2,ru,q⟩
theorem GN(ha:PE X o ta)(hv:PE X value tv)(hs:swapsWith value (some (.Attribute o f pos')) pos.line X.env=pure false):PS X (.Assign [.Attribute o f pos'] value pos) (dN X.K ta tv f):=by
 intro pins s σ H D I h;refine plainObj_wpAny_Assign_Attribute (thn (hv pins s σ H _ I h) λu s1 e0=>bp e0 λy H1 I1 ry q=>thn (ha pins s1 σ H1 _ I1 q) λov s2 e0=>bp e0 λx H2 I2 rx e4=>e4.elim λa e5=>e5.elim λC e6=>e6.elim λdx e7=>e7.elim λfs e8=>e8.elim λex e9=>e9.elim λea e10=>e10.elim λc e11=>e11.elim λn e12=>e12.elim λl q2=>?_) hs;subst ex;obtain rfl:ov=Value.ref a:=rx;exact zR I2 ea c n l ry λs3 I3=>⟨σ,_,I3,q2⟩
theorem Cc{op:Operator}{rd:V->V->Hp->VK->Prop}(ha:PE X o ta)(hv:PE X value tv)(hop:ot X op rd):PS X (.AugAssign (.Attribute o f tpos) op value pos) (Ii X.K ta tv rd f):=by
 intro pins s σ H D I h;refine wpAny_AugAssign_AttributeAny (thn (ha pins s σ H _ I h) λov s1 e0=>bp e0 λx H1 I1 rx e4=>e4.elim λa e5=>e5.elim λC e6=>e6.elim λdx e7=>e7.elim λfs e8=>e8.elim λv e9=>e9.elim λex e10=>e10.elim λea e11=>e11.elim λc e12=>e12.elim λn e13=>e13.elim λl q=>?_);subst ex;obtain rfl:ov=Value.ref a:=rx;refine y9 I1 ea c n l λu s2 I2 ru=>thn (hv pins s2 σ H1 _ I2 q) λw3 s3 e0=>bp e0 λy H2 I3 ry q3=>thn (hop pins s3 σ H2 v y u w3 _ I3 ru ry q3) λw4 s4 e0=>bp e0 λz H3 I4 rz e4=>e4.elim λdx' e5=>e5.elim λfs' e6=>e6.elim λea' e7=>e7.elim λl' q4=>?_;exact zR I4 ea' c n l' rz λs5 I5=>⟨σ,_,I5,q4⟩
def rN:V->V->Hp->VK->Prop:=λx y H Q=>∃i j,x=.int i/\y=.int j/\Q (.int (i+j)) H
def D7:V->V->Hp->VK->Prop:=λx y H Q=>∃i j,x=.int i/\y=.int j/\Q (.int (i-j)) H
theorem BF:ot X .Add rN:=by
 rintro pins s σ H x y u v Q I rx ry ⟨i,j,rfl,rfl,q⟩;obtain⟨t,rfl⟩:=(show ∃t,u=Value.int i t from rx);obtain⟨t',rfl⟩:=(show ∃t',v=Value.int j t' from ry);exact PyProof.Rows.iadd_int ⟨.int (i+j),H,I.tok _,⟨_,rfl⟩,q⟩
theorem A6:ot X .Sub D7:=by
 rintro pins s σ H x y u v Q I rx ry ⟨i,j,rfl,rfl,q⟩;obtain⟨t,rfl⟩:=(show ∃t,u=Value.int i t from rx);obtain⟨t',rfl⟩:=(show ∃t',v=Value.int j t' from ry);exact PyProof.Rows.isub_int ⟨.int (i-j),H,I.tok _,⟨_,rfl⟩,q⟩
end
section
variable {X:Cx}{pins:List (ae×aB)}{σ:St}{H:Hp}{s:aj}{A:aX}{E:af->aj->Prop}{Q:af->aj->Prop}{c:af}{b:Bool}
inductive fP(K:PySem.W.Frag)(H:Hp):V->af->Prop where
 |non:fP K H .non (.type "NoneType")
 |bl (x:Bool):fP K H (.bl x) (.type "bool")
 |int (i:Int):fP K H (.int i) (.type "int")
 |str (x:Str):fP K H (.str x) (.type "str")
 |flt (x:UInt64):fP K H (.flt x) (.type "float")
 |lst {a:ae} {xs:List V} (e:H a=some (.lst xs)):fP K H (.ref a) (.type "list")
 |frz {a:ae} {o:aB} {xs:List V} (e:H a=some (.frz o (.lst xs))):fP K H (.ref a) (.type "list")
 |tup {a:ae} {xs:List V} (e:H a=some (.tup xs)):fP K H (.ref a) (.type "tuple")
 |dK {a:ae} {kvs:List (Key×V)} (e:H a=some (.dK kvs)):fP K H (.ref a) (.type "dict")
 |dT {a:ae} {kvs:List (List Key×V)} (e:H a=some (.dT kvs)):fP K H (.ref a) (.type "dict")
 |ins {a C dx:ae} {fs:List (Str×V)} (e:H a=some (.ins C dx fs)) (cl:Cls K C) (ha:PySem.W.findIn K (.ref C) "__class__"=some (some (.builtin "object.__class__")))
   (hn:PySem.W.specialIn K (.builtin "object.__class__") "__get__"=some (some (.builtin "getset_descriptor.__get__"))) (htk:PySem.W.takesIn K (.builtin "object.__class__")=some true)
   (hm:PySem.W.mroIn K C (.type "object")=some true):fP K H (.ref a) (.ref C)
theorem Eh{x:V}{u t:af}(I:Inv X pins σ H s)(rx:aN x u)(ty:fP X.K H x t)(e:PySem.W.kitOne X.K t c=some b)(h:∀tk,Q (.bool b) { s with toks:=tk }) :
  aq (av X.prog X.w) A (call (.builtin "isinstance") [u,c]) Q E s:=by
 cases ty with
 |non=>cases(show u=Value.none from rx);exact PySem.W.kia_one PySem.W.kitx_none I.kIn True.intro e (λz=>nomatch z) h
 |bl y=>cases(show u=Value.bool y from rx);exact PySem.W.kia_one PySem.W.kitx_bool I.kIn True.intro e (λz=>nomatch z) h
 |int i=>obtain⟨t,q⟩:=(show ∃t,u=Value.int i t from rx);cases q;exact PySem.W.kia_one PySem.W.kitx_int I.kIn True.intro e (λz=>nomatch z) h
 |str y=>obtain⟨t,q⟩:=(show ∃t,u=Value.str y t from rx);cases q;exact PySem.W.kia_one PySem.W.kitx_str I.kIn True.intro e (λz=>nomatch z) h
 |flt y=>obtain⟨t,q⟩:=(show ∃t,u=Value.float y t from rx);cases q;exact PySem.W.kia_one PySem.W.kitx_float I.kIn True.intro e (λz=>nomatch z) h
 |@lst a xs ea=>
   cases(show u=Value.ref a from rx);obtain⟨_,_,n,_,h1⟩:=(show cA X.prog X.w H s.heap a (.lst xs) from I.hok a _ ea);exact PySem.W.kia_one PySem.W.kitx_list I.kIn ⟨_,h1,rfl⟩ e (λz=>nomatch z) h
 |@frz a ob xs ea=>
   cases(show u=Value.ref a from rx);obtain⟨_,_,_,n,_,h1⟩:=(show cA X.prog X.w H s.heap a (.frz ob (.lst xs)) from I.hok a _ ea);exact PySem.W.kia_one PySem.W.kitx_list I.kIn ⟨_,h1,rfl⟩ e (λz=>nomatch z) h
 |@tup a xs ea=>
   cases(show u=Value.ref a from rx);obtain⟨_,_,_,p⟩:=(show cA X.prog X.w H s.heap a (.tup xs) from I.hok a _ ea);obtain⟨o,h1,h2,_⟩:=p;exact PySem.W.kia_one PySem.W.kitx_tuple I.kIn ⟨o,h1,h2⟩ e (λz=>nomatch z) h
 |@dK a kvs ea=>
   cases(show u=Value.ref a from rx);obtain⟨_,_,vs,_,p⟩:=(show cA X.prog X.w H s.heap a (.dK kvs) from I.hok a _ ea);obtain⟨o,es,ep,h1,h2,_⟩:=p;exact PySem.W.kia_one PySem.W.kitx_dict I.kIn ⟨o,h1,h2.1⟩ e (λz=>nomatch z) h
 |@dT a kvs ea=>
   cases(show u=Value.ref a from rx);obtain⟨_,_,xs,_,o,es,ep,h1,h2,_⟩:=(show cA X.prog X.w H s.heap a (.dT kvs) from I.hok a _ ea);exact PySem.W.kia_one PySem.W.kitx_dict I.kIn ⟨o,h1,h2.1⟩ e (λz=>nomatch z) h
 |@ins a C dx fs ea cl ha hn htk hm=>
   cases(show u=Value.ref a from rx);obtain⟨mA,O,_⟩:=qd I.hok ea;obtain⟨od,J,_⟩:=O.look;exact PySem.W.kia_one (PySem.W.kitx_own (cl.get _) cl.hd ha hn htk hm) I.kIn J e (λz=>nomatch z) h
end
structure Room(k:Nat)(A:aX):Prop where
 hd:A.handled=none
 dp:A.depth+3*k+5<recursionLimit
 un:A.units+16*k+200<cLine
theorem Room.mono{j k:Nat}{A:aX}(r:Room k A)(h:j≤k):Room j A:=⟨r.hd,by have:=r.dp;lia,by have:=r.un;lia⟩
theorem Room.deeper{k:Nat}{A:aX}(r:Room (k+1) A)(env:Env):Room k (A.deeper env):=
 ⟨r.hd,by have:=r.dp;show A.depth+1+3*k+5<_;lia,by have:=r.un;show A.units+3+16*k+200<_;lia⟩
theorem ES{A:aX}{C:ae}{us:List af}{kw:List (Str×af)}:(A.under (.builtin "type.__call__" ⟨.ref C::us,kw⟩)).depth=A.depth+1:=by
 first|rfl|simp[Around.under,Code.weight,Code.isCreation,Code.isGuard,Code.isCaller,Code.frames,Code.isFrame,guardIds]
theorem BO{A:aX}{C:ae}{us:List af}{kw:List (Str×af)}:(A.under (.builtin "type.__call__" ⟨.ref C::us,kw⟩)).units=A.units+1:=by
 first|rfl|simp[Around.under,Code.cUnits,Code.frames,Code.isFrame]
theorem Room.make{k:Nat}{A:aX}(r:Room (k+1) A)(C:ae)(us:List af)(kw:List (Str×af)):Room k (A.under (.builtin "type.__call__" ⟨.ref C::us,kw⟩)):=
 ⟨r.hd,by have:=r.dp;rw[ES];lia,by have:=r.un;rw[BO];lia⟩
theorem Room.depth{k:Nat}{A:aX}(r:Room k A):A.depth<recursionLimit:=by have:=r.dp;lia
theorem Room.units{k:Nat}{A:aX}(r:Room k A):A.units+64<cLine:=by have:=r.un;lia
def qi:TA:=λ_ H Q=>Q [] H
def mf(ta:TE)(tr:TA):TA:=λσ H Q=>ta σ H λx H1=>tr σ H1 λxs H2=>Q (x::xs) H2
section
variable {X:Cx}{e:aw}{es:List aw}{te:TE}{t:TA}{pos:Pos}
theorem oq:PA X [] qi:=λ_ _ _ _ H Q I h=>Calls.spliced_nil ⟨[],H,I,.nil,h⟩
theorem fH(ha:PE X e te)(hr:PA X es t)(hs:aJ (e::es) X.env=(false,aG e X.env)::aJ es X.env:=by rfl):PA X (e::es) (mf te t):=by
 intro pos pins s σ H Q I h;rw[hs];show aq _ _ (spliced ((false,aG e X.env)::cL pos (aJ es X.env))) _ _ s;refine Calls.spliced_cons (thn (ha pins s σ H _ I h) λu s1 e0=>bp e0 λx H1 I1 r1 q1=>?_);exact thn (hr pos pins s1 σ H1 _ I1 q1) λus s2 e0=>bp e0 λxs H2 I2 r2 q2=>⟨x::xs,H2,I2,.cons r1 r2,q2⟩
def Fo(t:TA):TE:=λσ H Q=>t σ H λxs H1=>xs.length≤aV/\∀p,H1 p=none->Q (.ref p) (upd H1 p (.tup xs))
def F9(t:TA):TE:=λσ H Q=>t σ H λxs H1=>xs.length≤aV/\∀p,H1 p=none->Q (.ref p) (upd H1 p (.lst xs))
theorem Hf{x1}(h:PA X es t):PE X (.Tuple es x1 pos) (Fo t):=by
 intro pins s σ H Q I hq;refine wpAny_Tuple_spliced (thn (h pos pins s σ H _ I hq) λus s1 e0=>bp e0 λxs H1 I1 r e4=>e4.elim λz q=>⟨by rw[←r.length];exact z,?_⟩);have hf:H1 s1.heap.objs.size=none:=I1.hok.fresh (aU _);refine⟨.ref s1.heap.objs.size,upd H1 s1.heap.objs.size (.tup xs),I1.laid (t':=s1.toks) (λb u e=>bG _ e) (aU _) ?_,rfl,q _ hf⟩;exact⟨z,us,r,⟨_,cT _ rfl,rfl,_,rfl⟩⟩
theorem CA(h:PA X es t):PE X (.List es pos) (F9 t):=by
 intro pins s σ H Q I hq;refine wpAny_List_spliced (thn (h pos pins s σ H _ I hq) λus s1 e0=>bp e0 λxs H1 I1 r e4=>e4.elim λz q=>⟨by rw[←r.length];exact z,?_⟩);have hf:H1 s1.heap.objs.size=none:=I1.hok.fresh (aU _);refine⟨.ref s1.heap.objs.size,upd H1 s1.heap.objs.size (.lst xs),I1.laid (t':=s1.toks) (λb u e=>bG _ e) (aU _) ?_,rfl,q _ hf⟩;exact⟨z,us,0,r,cT _ rfl⟩
end
abbrev Sp:=List V->Hp->VK->XK->Prop
abbrev CXT:=List Env->Hp->aj->XK->af->aj->Prop
structure Env0(P:bi)(w:aQ)(K:PySem.W.Frag)(mg:Str->Option af)(base:aH)(A:aX)(outer:List Env)(s:aj)(H:Hp):Prop where
 frames:A.frames=some outer
 mod:Mod K mg base
 bs:∀b o,base.get? b=some o->s.heap.get? b=some o/\H b=none
 bsz:base.objs.size≤s.heap.objs.size
 funs:s.heap.FunFrames base outer
 frf:∀b∈frs outer,H b=none
 hok:HOk P w H s.heap
 bare:AllBare s.gens
def CE(outer:List Env)(P:bi)(w:aQ)(H:Hp)(s:aj)(Q:VK)(u:af)(s':aj):Prop:=
 ∃v H',s'.os=s.os/\AllBare s'.gens/\Un (frs outer) [] H H' s.heap s'.heap/\HOk P w H' s'.heap/\aN v u/\Q v H'
def CR(CX:CXT)(outer:List Env)(P:bi)(w:aQ)(H:Hp)(s:aj)(Q:VK)(E:XK)(r:Result)(s':aj):Prop:=
 match r with
 |.ok (.ret u)=>CE outer P w H s Q u s'
 |.ok _=>False
 |.error e=>CX outer H s E e s'
structure iE(P:bi)(w:aQ)(K:PySem.W.Frag)(mg:Str->Option af)(base:aH)(CX:CXT)(k:Nat)(f:ae)(fd:bc)(ps:List Str)(sp:Sp):Prop where
 len:∀vs H Q E,sp vs H Q E->vs.length=ps.length
 run:∀(A:aX) (outer:List Env) (s:aj) (H:Hp) (args:Args) (us:List af) (vs:List V) (Q:VK) (E:XK),Room k A->Env0 P w K mg base A outer s H->BindsTo s fd args (ps.zip us)->Vals vs us->sp vs H Q E ->
  codeAny (av P w) A (.call (.ref f) args) (CR CX outer P w H s Q E) s
theorem iE.imp{P:bi}{w:aQ}{K:PySem.W.Frag}{mg:Str->Option af}{base:aH}{CX:CXT}{k:Nat}{f:ae}{fd:bc}{ps:List Str}{sp sp':Sp}(F:iE P w K mg base CX k f fd ps sp)
  (h:∀vs H Q E,sp' vs H Q E->sp vs H Q E):iE P w K mg base CX k f fd ps sp':=
 ⟨λvs H Q E q=>F.len vs H Q E (h _ _ _ _ q),λA outer s H args us vs Q E hr he hb hv hs=>F.run A outer s H args us vs Q E hr he hb hv (h _ _ _ _ hs)⟩
theorem Env0.make{P:bi}{w:aQ}{K:PySem.W.Frag}{mg:Str->Option af}{base:aH}{A:aX}{outer:List Env}{s:aj}{H:Hp}(e:Env0 P w K mg base A outer s H)(C:ae)(us:List af)(kw:List (Str×af)) :
  Env0 P w K mg base (A.under (.builtin "type.__call__" ⟨.ref C::us,kw⟩)) outer s H:=⟨by first|exact e.frames|(simpa[Around.under,Code.envs,Code.isFrame,pushEnvs] using e.frames),e.mod,e.bs,e.bsz,e.funs,e.frf,e.hok,e.bare⟩
section
variable {X:Cx}{pins:List (ae×aB)}{σ:St}{H:Hp}{s s':aj}
theorem Inv.env0(I:Inv X pins σ H s):Env0 X.prog X.w X.K X.mg X.base X.A X.stack s H:=
 ⟨I.ok.frames,I.ok.mod,I.bs,cB I.ok.bsz I.sz,I.stack,I.stkFree,I.hok,I.bare⟩
theorem Inv.after{Q:VK}{u:af}(I:Inv X pins σ H s)(h:CE X.stack X.prog X.w H s Q u s'):EP X pins σ Q u s':=by
 obtain⟨v,H',os,bare,un,hok,r,q⟩:=h;obtain⟨hh,g,d,t,os'⟩:=s';obtain rfl:os'=s.os:=os;exact⟨v,H',I.call (h':=hh) (g':=g) (d':=d) (t':=t) (ch:=[]) un hok bare (λb z=>absurd z (by simp)),r,q⟩
end
def Binds(K:PySem.W.Frag)(fd:bc)(ps:List Str)(ds:List af):Prop:=
 ∀(s:aj) (us:List af),K.In s.heap->(us++ds).length=ps.length->BindsTo s fd ⟨us,[]⟩ (ps.zip (us++ds))
theorem Binds.all{K:PySem.W.Frag}{fd:bc}{ps:List Str}(h:∀us:List af,us.length=ps.length->bindArgs fd ⟨us,[]⟩=pure (ps.zip us)):Binds K fd ps []:=λs us _ hl=>by
 rw[ug]at hl ⊢;exact .of_eq (h us hl)
section
variable {X:Cx}{CX:CXT}{k:Nat}{f C:ae}{fd:bc}{ps:List Str}{sp:Sp}{dvs:List V}{ds:List af}{E:XK}{x m:Str}{p pos apos:Pos}{e o:aw}{es:List aw}{ta:TE}{t:TA}
structure Mk(K:PySem.W.Frag)(C f:ae):Prop where
 makes:PySem.W.makesIn K C=true
 init:PySem.W.findIn K (.ref C) "__init__"=some (some (.ref f))
 fn:PySem.W.isFn K (.ref f)=true
 kp:PySem.W.keepIn K (.ref C)=true
end
section
variable {X:Cx}{CX:CXT}{k:Nat}{f C:ae}{fd:bc}{ps ks:List Str}{sp:Sp}{E:XK}{x m:Str}{p pos apos kpos:Pos}{e o:aw}{es:List aw}{kws:List Keyword}{te ta:TE}{t tk:TA}{nm:Option Str}
variable {g:List af->List af->List af}{gV:List V->List V->List V}
end
structure bF(N P:List Str)(sc:Scope):Prop where
 kind:sc.kind=.function
 co:sc.isCoroutine=false
 gen:sc.isGenerator=false
 nd:N.Nodup
 pre:N.take P.length=P
 par:∀x∈P,sc.names.lookup x=some .local∨sc.names.lookup x=some .cell
 nofree:∀y∈sc.names,y.2≠.free
theorem AB{kindOf:Str->Option NameKind}{x:Str}:∀{binds:List (Str×af)}{m:Str->Option af},(∀v,(x,v)∉binds)->bindL kindOf binds m x=m x
 |[],_,_=>rfl
 |(n,v)::r,m,h=>by
   unfold bindL;rw[AB λw hw=>h w (d5 _ hw)];split
   ·have:x≠n:=by rintro rfl;exact h v fu
    simp[this]
   ·rfl
theorem yi{kindOf:Str->Option NameKind}{x:Str}:∀{binds:List (Str×af)}{m:Str->Option af},(∀v,(x,v)∉binds)->bindC kindOf binds m x=m x
 |[],_,_=>rfl
 |(n,v)::r,m,h=>by
   unfold bindC;rw[yi λw hw=>h w (d5 _ hw)];split
   ·rfl
   ·have:x≠n:=by rintro rfl;exact h v fu
    simp[this]
theorem wr{kindOf:Str->Option NameKind}{x:Str}{v:af}:∀{P:List Str}{vs:List af}{i:Nat}{m:Str->Option af},P.Nodup->P[i]?=some x->vs[i]?=some v->kindOf x=some .local ->
  bindL kindOf (P.zip vs) m x=some v
 |[],_,_,_,_,h,_,_=>by simp at h
 |_::_,[],_,_,_,_,h,_=>by simp at h
 |p::P,w::vs,0,m,nd,h1,h2,hk=>by
   simp at h1 h2;subst h1;subst h2;show bindL kindOf ((p,w)::P.zip vs) m p=_;unfold bindL;rw[AB λv hv=>(ig.mp nd).1 (mh hv).1,if_pos hk];simp
 |p::P,w::vs,i+1,m,nd,h1,h2,hk=>by
   show bindL kindOf ((p,w)::P.zip vs) m x=_;unfold bindL;exact wr (i:=i) (ig.mp nd).2 (by simpa using h1) (by simpa using h2) hk
theorem zP{kindOf:Str->Option NameKind}{x:Str}{v:af}:∀{P:List Str}{vs:List af}{i:Nat}{m:Str->Option af},P.Nodup->P[i]?=some x->vs[i]?=some v->kindOf x≠some .local ->
  bindC kindOf (P.zip vs) m x=some v
 |[],_,_,_,_,h,_,_=>by simp at h
 |_::_,[],_,_,_,_,h,_=>by simp at h
 |p::P,w::vs,0,m,nd,h1,h2,hk=>by
   simp at h1 h2;subst h1;subst h2;show bindC kindOf ((p,w)::P.zip vs) m p=_;unfold bindC;rw[yi λv hv=>(ig.mp nd).1 (mh hv).1,if_neg hk];simp
 |p::P,w::vs,i+1,m,nd,h1,h2,hk=>by
   show bindC kindOf ((p,w)::P.zip vs) m x=_;unfold bindC;exact zP (i:=i) (ig.mp nd).2 (by simpa using h1) (by simpa using h2) hk
noncomputable def start(N:List Str)(vs:List V):St:=vs.map some++br (N.length-vs.length) none
noncomputable def gR(CX:CXT)(P:bi)(w:aQ)(K:PySem.W.Frag)(mg:Str->Option af)(base:aH)(N:List Str)(qual:Str)(scope:Scope)(f:ae)(cd:af)(A:aX)(outer:List Env)(s:aj)(H:Hp)(E:XK):Cx where
 prog:=P
 w:=w
 K:=K
 mg:=mg
 base:=base
 A:=A.deeper (envOfC qual scope s.heap.objs.size f cd)
 N:=N
 s₀:=s
 H₀:=H
 env:=envOfC qual scope s.heap.objs.size f cd
 outer:=outer
 stack:=envOfC qual scope s.heap.objs.size f cd::outer
 ex:=[]
 calm:=true
 fn:=λ_=>true
 pn:=[]
 xe:=λe s'=>aq (av P w) (A.deeper (envOfC qual scope s.heap.objs.size f cd)) (leaving (envOfC qual scope s.heap.objs.size f cd) e) (λ_ s''=>CX outer H s E e s'') (λe' s''=>CX outer H s E e' s'') s'
theorem yX{sc:Scope}{n:Nat}{x:Str}(h:sc.names.lookup x=some .cell):∃c,(cellsFrom n sc.names []).lookup x=some c:=by
 have q:=PySem.W.cellsFrom_some sc.names n [] (.inl h);exact li.mp q
theorem vA{CX:CXT}{P:bi}{w:aQ}{K:PySem.W.Frag}{mg:Str->Option af}{base:aH}{N ps:List Str}{qual:Str}{scope:Scope}{f:ae}{cd:af}{A:aX}{outer:List Env}{s s1:aj}{H:Hp}{E:XK}{us:List af}{vs:List V}
  (S:bF N ps scope) (hd:A.handled=none) (e0:Env0 P w K mg base A outer s H) (hl:vs.length=ps.length) (r:Vals vs us)
  (x:InCallC s s.heap.objs.size (bindL (envOfC qual scope s.heap.objs.size f cd).kindOf (ps.zip us) λ_=>none) (cellsFrom (s.heap.objs.size+1) scope.names []) (bindC (envOfC qual scope s.heap.objs.size f cd).kindOf (ps.zip us) λ_=>none) s1) :
  Inv (gR CX P w K mg base N qual scope f cd A outer s H E) [] (start N vs) H s1:=by
 have hpl:ps.length≤N.length:=by have:=congrArg o9 S.pre;rw[nI]at this;lia
 obtain⟨h1,tk,rfl,hk⟩:=x.done;have noA:∀b:ae,b∉(gR CX P w K mg base N qual scope f cd A outer s H E).ex:=λb z=>absurd (show b∈([]:List ae) from z) (by simp);refine ⟨⟨e0.mod,S.kind,rfl,rfl,aU _,λy z c h1 h2=>?_,λy hy=>?_,λy c _ h=>?_,λ_=>hd,Around.frames_deeper e0.frames,.inr ⟨rfl,rfl⟩,λb z=>absurd z (noA b),e0.bs,e0.bsz,λb _ _=>noA b,λb z=>absurd z (noA b),e0.funs,e0.frf⟩,
  rfl,e0.bare,Un.kept hk,⟨_,x.toInCall.ns,λi y v h1 h2 h3=>?_⟩,λy c h=>⟨_,x.cell y c h⟩,e0.hok.fresh (aU _),λy c h=>?_,λp hp=>absurd (show p∈([]:List (ae × aB)) from hp) (by simp),e0.hok.kept hk,?_⟩
 ·exact name_of_addr x.apart (PySem.mem_of_lookup h1) (PySem.mem_of_lookup h2)
 ·have hy:scope.names.lookup y=some .cell∨scope.names.lookup y=some .free:=hy;rcases hy with hy|hy
  ·exact yX hy
  ·exact absurd rfl (S.nofree _ (PySem.mem_of_lookup hy))
 ·exact kP (x.above y c (PySem.mem_of_lookup h))
 ·have hi:i<vs.length:=by
   unfold start at h2;by_cases hi:i<vs.length
   ·exact hi
   ·rw[iO (by simpa using hi)]at h2;rw[ji]at h2;split at h2 <;> cases h2
  have ha:vs[i]?=some v:=by
   unfold start at h2;rw[eJ (by simpa using hi),bZ]at h2;cases e:vs[i]? with
   |none=>rw[e]at h2;cases h2
   |some a=>rw[e]at h2;cases h2;rfl
  obtain⟨u,hu,rv⟩:=r.get ha;have hp:ps[i]?=some y:=by
   rw[←S.pre,List.getElem?_take_of_lt (by lia)];exact h1
  have ndP:ps.Nodup:=by rw[←S.pre];exact S.nd.sublist (List.take_sublist _ _)
  refine⟨u,rv,?_⟩;rcases S.par y (dZ hp) with k|k
  ·exact .inl ⟨k,wr ndP hp hu k⟩
  ·obtain⟨c,e⟩:=yX (n:=s.heap.objs.size+1) k;refine .inr ⟨.inl k,c,e,?_⟩;have q:=x.cell y c e;rw[zP ndP hp hu (by show scope.names.lookup y≠_;rw[k];decide)]at q;exact q
 ·exact e0.hok.fresh (kP (x.above y c (PySem.mem_of_lookup h)))
 ·unfold start;show _=N.length;rw[gX,c6,tE];lia
theorem A3{CX:CXT}{P:bi}{w:aQ}{K:PySem.W.Frag}{mg:Str->Option af}{base:aH}{k:Nat}{f:ae}{name qual:Str}{params:Arguments}{body:List aP}{scope:Scope}{dV kV doc pm cdv ct oc:af}{an od:Option ae}
  {osl:Array (Option af)} {N ps:List Str} {sp:Sp} (lk:K.lookup f=some ⟨oc,od,.func (PySem.W.fnOf name qual params body scope dV kV doc pm an cdv ct),osl⟩) (hcd:PySem.W.codeIn K cdv qual=true) (S:bF N ps scope)
  (len:∀vs H Q E,sp vs H Q E->vs.length=ps.length)
  (hbody:∀(A:aX) (outer:List Env) (s:aj) (H:Hp) (vs:List V) (Q:VK) (E:XK),Room k (A.deeper (envOfC qual scope s.heap.objs.size f cdv))->sp vs H Q E ->
   ∃t,PSs (gR CX P w K mg base N qual scope f cdv A outer s H E) body t/\t { nx:=λ_ H'=>Q .non H',rt:=Q } (start N vs) H) :
  iE P w K mg base CX (k+1) f (PySem.W.fnOf name qual params body scope dV kV doc pm an cdv ct) ps sp:=by
 refine⟨len,λA outer s H args us vs Q E hr e0 hb r hsp=>?_⟩;have hl:=len _ _ _ _ hsp;have KX:K.In s.heap:=e0.mod.kin.keeps λb o e=>(e0.bs b o e).1;have lim:s.heap.NoLimit:=e0.mod.nolimit.keeps λb o e=>(e0.bs b o e).1;have hkind:∀y∈ps.zip us,scope.names.lookup y.1=some .local∨(scope.names.lookup y.1=some .cell/\((cellsFrom (s.heap.objs.size+1) scope.names []).lookup y.1).isSome=true):=λ⟨n,v⟩ hy=>by
  rcases S.par n (mh hy).1 with q|q
  ·exact .inl q
  ·exact .inr ⟨q,PySem.W.cellsFrom_some _ _ _ (.inl q)⟩
 refine codeAny_call_function hr.depth (KX _ _ lk) rfl S.co S.gen rfl (PySem.W.codeRec_of KX hcd) (hb _ _ _ _ ?_);refine wpAny_newFunctionEnv_cells S.kind hkind λenv he s1 x=>?_;subst he;refine⟨lim.keeps x.toInCall.keep,codeAny_func ?_⟩;obtain⟨t,ht,hq⟩:=hbody A outer s H vs Q E (hr.deeper _) hsp;have I:Inv (gR CX P w K mg base N qual scope f cdv A outer s H E) [] (start N vs) H s1:=vA S hr.hd e0 hl r x;refine bv (ht [] s1 (start N vs) H _ I hq) (λfl s' hs=>?_) λe s' hs=>hs;have fin:∀{σ':St}{H':Hp}{v:V}{u:af},Inv (gR CX P w K mg base N qual scope f cdv A outer s H E) [] σ' H' s'->aN v u->Q v H'->CE outer P w H s Q u s':=
  λ{σ' H' v u} J rv q=>⟨v,H',J.os,J.bare,J.base,J.hok,rv,q⟩
 cases fl with
 |ret u=>
   obtain⟨v,σ',H',J,rv,q⟩:=hs;exact fin J rv q
 |next=>
   obtain⟨σ',H',J,q⟩:=hs;exact fin (v:=V.non) (u:=Value.none) J rfl q
 |brk=>
   obtain⟨_,_,_,q⟩:=hs;exact False.elim q
 |cont=>
   obtain⟨_,_,_,q⟩:=hs;exact False.elim q
section
variable {X:Cx}{x:Str}{p pos:Pos}{e:aw}{es:List aw}{t:TA}{id T:String}{r:List V->Hp->VK->Prop}
def tCB(r:List V->Hp->VK->Prop)(t:TA):TE:=λσ H Q=>t σ H λvs H1=>r vs H1 Q
theorem sC(hc:dR X (.builtin id) r)(hg:Gl X x)(hm:X.mg x=none)(hv:bootBuiltins x=some (.builtin id))(ha:PA X (e::es) t)(hn:x≠"__name__":=by decide)(hdb:(x == ("__debug__":Str))=false:=by decide)
  (he:aJ (e::es) X.env=(false,aG e X.env)::aJ es X.env:=by rfl) (hpl:(cL pos (aJ es X.env)).any (·.1)=false:=by rfl):PE X (.Call (.Name x p) (e::es) [] pos) (tCB r t):=by
 intro pins s σ H Q I h;refine wpAny_Call_Name_kw (gJ I hg hm hv ?_ hn hdb);exact PyProof.Rows.callWith_builtin1 (thn (ha pos pins s σ H _ I h) λus s1 e0=>bp e0 λvs H1 I1 r1 q1=>hc pins s1 σ H1 vs us Q I1 r1 q1) he hpl
theorem CK(hc:dR X (.type T) r)(hg:Gl X x)(hm:X.mg x=none)(hv:bootBuiltins x=some (.type T))(ha:PA X (e::es) t)(hn:x≠"__name__":=by decide)(hdb:(x == ("__debug__":Str))=false:=by decide)
  (he:aJ (e::es) X.env=(false,aG e X.env)::aJ es X.env:=by rfl) (hpl:(cL pos (aJ es X.env)).any (·.1)=false:=by rfl):PE X (.Call (.Name x p) (e::es) [] pos) (tCB r t):=by
 intro pins s σ H Q I h;refine wpAny_Call_Name_kw (gJ I hg hm hv ?_ hn hdb);exact PyProof.Rows.callWith_type1 (thn (ha pos pins s σ H _ I h) λus s1 e0=>bp e0 λvs H1 I1 r1 q1=>hc pins s1 σ H1 vs us Q I1 r1 q1) he hpl
end
end L2
namespace HT
open PySem PyProof.Rows
section
open PySem.SeqAt
open PySem.AutoSeq1 (wpAny_loadPart')
open PySem.MeetsSeq PySem.MeetsSeq2 PySem.MeetsSeq3
end
section
variable {prog:bi}{w:aQ}{A:aX}{E:af->aj->Prop}{s:aj}
noncomputable def sIx(n d:Nat):Option Int->Nat
 |none=>d
 |some v=>if v<0 then(v+(n:Int)).toNat else min v.toNat n
theorem EV(n d:Nat)(hd:d≤n)(o:Option Int):sIx n d o≤n:=by
 cases o with
 |none=>exact hd
 |some v=>
   show(if v<0 then(v+(n:Int)).toNat else min v.toNat n)≤n;by_cases hv:v<0
   ·rw[if_pos hv];lia
   ·rw[if_neg hv];exact Nat.min_le_right _ _
theorem xH(v:Int)(n d:Nat):(if v<0 then max (v+(n:Int)) 0 else min v (n:Int))=((sIx n d (some v):Nat):Int):=by
 show(if v<0 then max (v+(n:Int)) 0 else min v (n:Int))=(((if v<0 then(v+(n:Int)).toNat else min v.toNat n):Nat):Int);by_cases hv:v<0
 ·simp only[if_pos hv];lia
 ·simp only[if_neg hv];lia
theorem FO(lo hi:Option Int)(n:Nat):Builtin.Slice.sliceAdjust lo hi 1 (n:Int)=(((sIx n 0 lo:Nat):Int),((sIx n n hi:Nat):Int)):=by
 have h1:¬((1:Int)<0):=by lia
 unfold Builtin.Slice.sliceAdjust;simp only[h1,if_false];refine Prod.ext ?_ ?_
 ·cases lo with
  |none=>rfl
  |some v=>exact xH v n 0
 ·cases hi with
  |none=>rfl
  |some v=>exact xH v n n
theorem Hq(i j:Nat):Builtin.Slice.slicePlaces (i:Int) (j:Int) 1=j-i:=by
 unfold Builtin.Slice.slicePlaces;have h1:(1:Int)>0:=by lia
 simp only[h1,if_true,Int.ediv_one];split <;> lia
theorem xg{v:af}{o:Option Int}{Q:Option Int->aj->Prop}(p:IsPart v o)(h:Q o s):aq (av prog w) A (Builtin.Slice.slicePartIndex v) Q E s:=by
 cases p with
 |none=>exact slicePart_none h
 |int i t=>exact slicePart_int h
theorem HQ{sl:ae}{vl vu:af}{lo hi:Option Int}{n:Nat}{Q:Int×Int×Nat->aj->Prop}(hs:s.heap.IsSliceOf sl vl vu .none)(pl:IsPart vl lo)(pu:IsPart vu hi)
  (h:Q (((sIx n 0 lo:Nat):Int),1,sIx n n hi-sIx n 0 lo) s):aq (av prog w) A (Builtin.Slice.sliceApplied (.ref sl) (pure (n:Int))) Q E s:=by
 obtain⟨os,hos,hcs,hds⟩:=id hs;unfold Builtin.Slice.sliceApplied Builtin.Slice.sliceFields;refine ak (ak (cX hos hds (x:=vl) rfl (ak (cX hos hds (x:=vu) rfl (ak (cX hos hds (x:=.none) rfl (aL ?_)))))));refine ak (slicePart_none ?_);show aq _ _ (if((1:Int) == 0)=true then _ else _) _ _ s;rw[if_neg (by decide)];refine ak (xg pl (ak (xg pu (ak (aL ?_)))));show aq _ _ (match Builtin.Slice.sliceAdjust lo hi 1 (n:Int) with|(lo,hi)=>pure (lo,(1:Int),Builtin.Slice.slicePlaces lo hi 1)) _ _ s;rw[FO lo hi n];show aq _ _ (pure (((sIx n 0 lo:Nat):Int),(1:Int),Builtin.Slice.slicePlaces ((sIx n 0 lo:Nat):Int) ((sIx n n hi:Nat):Int) 1)) _ _ s;rw[Hq];exact aL h
theorem E6(xs:Array af)(i k:Nat):((cK k).filterMap λ(m:Nat)=>xs[((i:Int)+(m:Int)*1).toNat]?).toArray=((xs.toList.drop i).take k).toArray:=by
 have e:(λ(m:Nat)=>xs[((i:Int)+(m:Int)*1).toNat]?)=λm=>xs[i+m]?:=by
  funext m;have:((i:Int)+(m:Int)*1).toNat=i+m:=by lia
  rw[this]
 rw[e];have:=pick_run xs i k;rw[List.filterMap_map]at this;have e2:((λx=>xs[x]?)∘λx=>i+x)=λm=>xs[i+m]?:=rfl;rw[e2]at this;rw[this]
theorem getItem_tuple_cut{t sl:ae}{items:Array af}{vl vu:af}{lo hi:Option Int}{Q:af->aj->Prop}(ht:IsTup s.heap t items)(hs:s.heap.IsSliceOf sl vl vu .none)(pl:IsPart vl lo)(pu:IsPart vu hi)
  (hw:¬(sIx items.size 0 lo=0/\sIx items.size items.size hi=items.size))
  (h:Q (.ref s.heap.objs.size) { s with heap:=s.heap.push { cls:=.type "tuple",data:=.seq ((items.toList.drop (sIx items.size 0 lo)).take (sIx items.size items.size hi-sIx items.size 0 lo)).toArray } })
  (hsz:items.size≤aV):aq (av prog w) A (getItem (.ref t) (.ref sl)) Q E s:=by
 have htake:sizeOk (.seq ((items.toList.drop (sIx items.size 0 lo)).take (sIx items.size items.size hi-sIx items.size 0 lo)).toArray):=by
  show((items.toList.drop (sIx items.size 0 lo)).take (sIx items.size items.size hi-sIx items.size 0 lo)).toArray.size≤aV;rw[cG,nI,vb,pU];lia
 have hj:sIx items.size items.size hi≤items.size:=EV _ _ (aU _) hi;obtain⟨os,hos,hcs,hds⟩:=id hs;have hTs:s.TypeIs (.ref sl) "slice":=⟨os,hos,hcs⟩
 unfold getItem
 try with_reducible refine wpAny_holding ?_
 first|refine ak (aL ?_)|skip
 refine ak (wpAny_sequenceKey ht.typeIs (by decide) ?_);refine ak (wpAny_callSpecial?_slot (name:=aA "__getitem__") ht.typeIs PyProof.Rows.slot_tuple_getitem
  (wpAny_call_entry PyProof.Rows.slot_tuple_getitem ht.typeIs entry_tuple_getitem ?_ (args_tuple_getitem _ _)))
 show aq _ _ (Builtin.Tuple.tupleItemsOf (.ref t) >>= _) _ _ s;refine ak (tupleItemsOf_ ht ?_);refine ak (wpAny_typeOf hTs ?_);rw[if_pos (by decide)];refine ak (HQ hs pl pu ?_);have hno:¬((((sIx items.size 0 lo:Nat):Int) == 0&&(1:Int) == 1&&(sIx items.size items.size hi-sIx items.size 0 lo) == items.size)=true):=by
  intro q;rw[d7,d7]at q;have q1:((sIx items.size 0 lo:Nat):Int)=0:=eq_of_beq q.1.1;have q2:sIx items.size items.size hi-sIx items.size 0 lo=items.size:=eq_of_beq q.2;exact hw ⟨by lia,by lia⟩
 show aq _ _ (if(((sIx items.size 0 lo:Nat):Int) == 0&&(1:Int) == 1&&(sIx items.size items.size hi-sIx items.size 0 lo) == items.size)=true then _ else _) _ _ s;rw[if_neg hno,E6]
 first
  |exact ak (m:=Builtin.Tuple.tupleExact _) (wpAny_newObj_type (aL ⟨_,rfl,aL h⟩) htake)
  |exact ak (m:=Builtin.Tuple.tupleExact _) (wpAny_newObj_type (ak (aL (aL ⟨_,rfl,aL h⟩))) htake)
  |exact ak (ak (m:=Builtin.Tuple.tupleExact _) (wpAny_newObj_type (aL (aL ⟨_,rfl,aL h⟩)) htake))
  |exact ak (ak (m:=Builtin.Tuple.tupleExact _) (wpAny_newObj_type (aL ⟨_,rfl,aL h⟩) htake))
end
end HT
namespace L2
open PySem PySem.Spec PyProof.Rows
abbrev TO:=St->Hp->(Option Int->Hp->Prop)->Prop
def PO(X:Cx)(e:Option aw)(t:TO):Prop:=
 ∀(pins:List (ae×aB)) (s:aj) (σ:St) (H:Hp) (Q:Option Int->Hp->Prop),Inv X pins σ H s->t σ H Q ->
  aq (av X.prog X.w) X.A (evalPart e X.env) (λu s'=>∃o H',Inv X pins σ H' s'/\IsPart u o/\Q o H') X.xe s
def Ah:TO:=λ_ H Q=>Q none H
def wz(t:TE):TO:=λσ H Q=>t σ H λx H1=>∃i,x=.int i/\Q (some i) H1
section
variable {X:Cx}{e:aw}{te:TE}{lo hi:Option aw}{tl th:TO}{pos p2:Pos}
theorem HU:PO X none Ah:=by
 intro pins s σ H Q I h;rw[evalPart_none];exact aL ⟨none,H,I,.none,h⟩
theorem Hx(h:PE X e te):PO X (some e) (wz te):=by
 intro pins s σ H Q I hw;rw[evalPart_some];refine thn (h pins s σ H _ I hw) λu s1 e0=>bp e0 λx H1 I1 r1 q1=>?_;obtain⟨i,rfl,q⟩:=q1;obtain⟨t,rfl⟩:=r1;exact⟨some i,H1,I1,.int i t,q⟩
def SlR(X:Cx)(r:V->Option Int->Option Int->Hp->VK->Prop):Prop:=
 ∀(pins:List (ae×aB)) (s:aj) (σ:St) (H:Hp) (x:V) (v vl vu:af) (lo hi:Option Int) (sl:ae) (Q:VK),Inv X pins σ H s->aN x v->s.heap.IsSliceOf sl vl vu .none->IsPart vl lo->IsPart vu hi->r x lo hi H Q ->
  ∃T id,typeLookup (.type T) "__getitem__"=pure (some (.builtin id))/\s.TypeIs v T/\aq (av X.prog X.w) X.A (getItem v (.ref sl)) (EP X pins σ Q) X.xe s
theorem SlR.or{r r':V->Option Int->Option Int->Hp->VK->Prop}(h:SlR X r)(h':SlR X r'):SlR X (λx lo hi H Q=>r x lo hi H Q∨r' x lo hi H Q):=by
 intro pins s σ H x v vl vu lo hi sl Q I rx hs pl pu q;rcases q with q|q
 ·exact h pins s σ H x v vl vu lo hi sl Q I rx hs pl pu q
 ·exact h' pins s σ H x v vl vu lo hi sl Q I rx hs pl pu q
def tSl(r:V->Option Int->Option Int->Hp->VK->Prop)(te:TE)(tl th:TO):TE:=λσ H Q=>te σ H λx H1=>tl σ H1 λl H2=>th σ H2 λu H3=>r x l u H3 Q
theorem Fr{r:V->Option Int->Option Int->Hp->VK->Prop}(hr:SlR X r)(he:PE X e te)(hl:PO X lo tl)(hu:PO X hi th):PE X (.Subscript e (.Slice lo hi none p2) pos) (tSl r te tl th):=by
 intro pins s σ H Q I h;refine Subscript_ (thn (he pins s σ H _ I h) λv s1 e0=>bp e0 λx H1 I1 r1 q1=>?_);refine wpAny_Slice (thn (hl pins s1 σ H1 _ I1 q1) λvl s2 e0=>bp e0 λl H2 I2 pl q2=>thn (hu pins s2 σ H2 _ I2 q2) λvu s3 e0=>bp e0 λu H3 I3 pu q3=>?_);rw[evalPart_none];refine aL ?_;have I4:Inv X pins σ H3 { s3 with heap:=s3.heap.push { cls:=.type "slice",data:=.fields #[vl,vu,.none] } }:=I3.kept (t':=s3.toks) λb ob q=>bG _ q;obtain⟨T,id,hT,ht,hg⟩:=hr pins { s3 with heap:=s3.heap.push { cls:=.type "slice",data:=.fields #[vl,vu,.none] } } σ H3 x v vl vu l u s3.heap.objs.size Q I4 r1 (Heap.IsSliceOf.new ..) pl pu q3;show aq (av X.prog X.w) X.A (subscriptTail e (.Slice lo hi none p2) v (.ref s3.heap.objs.size)) (EP X pins σ Q) X.xe { s3 with heap:=s3.heap.push { cls:=.type "slice",data:=.fields #[vl,vu,.none] } };exact tail_any (ops:=[.ref s3.heap.objs.size,v]) ht hT hg (by with_unfolding_all rfl)
noncomputable def jy(xs:List V)(lo hi:Option Int):List V:=(xs.drop (HT.sIx xs.length 0 lo)).take (HT.sIx xs.length xs.length hi-HT.sIx xs.length 0 lo)
theorem yq(xs:List V)(lo hi:Option Int):(jy xs lo hi).length≤xs.length:=by
 unfold jy;rw[nI,vb];lia
def yY(K:PySem.W.Frag):V->Option Int->Option Int->Hp->VK->Prop:=λx lo hi H Q=>∃a xs,x=.ref a/\SqT K H a xs /\
 ¬(HT.sIx xs.length 0 lo=0/\HT.sIx xs.length xs.length hi=xs.length)/\∀p,H p=none->Q (.ref p) (upd H p (.tup (jy xs lo hi)))
theorem Gc:SlR X (yY X.K):=by
 intro pins s σ H x v vl vu lo hi sl Q I rx hs pl pu h;obtain⟨a,xs,rfl,hx,hw,q⟩:=h;cases rx;obtain⟨its,r,ht,hz⟩:=I.tuple hx;have hlen:its.toArray.size=xs.length:=by rw[cG];exact r.length.symm
 refine⟨"tuple",_,PyProof.Rows.slot_tuple_getitem.lookup,ht.typeIs,?_⟩;refine HT.getItem_tuple_cut ht hs pl pu (by rw[hlen];exact hw) ?_ (by rw[hlen];exact hz);rw[hlen];refine⟨.ref s.heap.objs.size,_,I.laid (t':=s.toks) (o:=.tup (jy xs lo hi)) (λb ob q=>bG _ q) (aU _) ?_,rfl,q _ (I.hok.fresh (aU _))⟩;exact⟨cB (yq xs lo hi) hz,_,(r.drop (HT.sIx xs.length 0 lo)).take (HT.sIx xs.length xs.length hi-HT.sIx xs.length 0 lo),IsTup.new _ _⟩
end
noncomputable def ixN(n:Nat)(i:Int):Option Nat:=if 0≤i then(if i<n then some i.toNat else none) else if -(n:Int)≤i then some (i+n).toNat else none
noncomputable def atI{α:Type}(xs:List α)(i:Int):Option α:=(ixN xs.length i).bind λj=>xs[j]?
theorem zL{n:Nat}{i:Int}{j:Nat}(h:ixN n i=some j):seqIndex? i n=some j/\j<n/\-(n:Int)≤i/\i<n:=by
 unfold ixN at h;by_cases h0:0≤i
 ·rw[if_pos h0]at h;by_cases h1:i<n
  ·rw[if_pos h1]at h;have e:i.toNat=j:=Option.some.inj h;exact⟨by rw[seqIndex_of h0 h1,e],by lia,by lia,h1⟩
  ·rw[if_neg h1]at h;cases h
 ·rw[if_neg h0]at h;by_cases h1:-(n:Int)≤i
  ·rw[if_pos h1]at h;have e:(i+n).toNat=j:=Option.some.inj h;exact⟨by rw[seqIndex_neg (by lia) h1,e],by lia,h1,by lia⟩
  ·rw[if_neg h1]at h;cases h
theorem q8{α:Type}{xs:List α}{i:Int}{v:α}(h:atI xs i=some v):∃j,seqIndex? i xs.length=some j/\xs[j]?=some v/\j<xs.length/\-(xs.length:Int)≤i/\i<xs.length:=by
 unfold atI at h;cases e:ixN xs.length i with
 |none=>rw[e]at h;cases h
 |some j=>
   rw[e]at h;obtain⟨h1,h2,h3,h4⟩:=zL e;exact⟨j,h1,h,h2,h3,h4⟩
def xu(b:aw):Prop:=∀o i,subscripted b false o i=operate [o,i] (getItem o i)
def IxR(X:Cx)(r:R2):Prop:=
 ∀(value slice:aw) (pins:List (ae×aB)) (s:aj) (σ:St) (H:Hp) (x y:V) (v u:af) (Q:VK),Inv X pins σ H s->aN x v->aN y u->r x y H Q ->
  subscripted slice false v u=operate [v,u] (getItem v u)->aq (av X.prog X.w) X.A (subscriptTail value slice v u) (EP X pins σ Q) X.xe s
def MtR(X:Cx)(id:String)(r:V->List V->Hp->VK->Prop):Prop:=
 ∀(pins:List (ae×aB)) (s:aj) (σ:St) (H:Hp) (x:V) (xs:List V) (v:af) (us:List af) (Q:VK),Inv X pins σ H s->aN x v->Vals xs us->r x xs H Q ->
  aq (av X.prog X.w) X.A (call (.builtin id) (v::us)) (EP X pins σ Q) X.xe s
section
variable {X:Cx}{a b:aw}{ta tb:TE}{pos:Pos}
theorem IxR.or{r r':R2}(h:IxR X r)(h':IxR X r'):IxR X (λx y H Q=>r x y H Q∨r' x y H Q):=by
 intro value slice pins s σ H x y v u Q I rx ry q hs;rcases q with q|q
 ·exact h value slice pins s σ H x y v u Q I rx ry q hs
 ·exact h' value slice pins s σ H x y v u Q I rx ry q hs
theorem Fx{r:R2}(hr:IxR X r)(ha:PE X a ta)(hb:PE X b tb)(hs:xu b):PE X (.Subscript a b pos) (tOp r ta tb):=by
 intro pins s σ H Q I h;exact Subscript_ (uM ha hb I h λv u s2 x y H2 I2 rx ry q=>hr a b pins s2 σ H2 x y v u Q I2 rx ry q (hs _ _))
def vi(K:PySem.W.Frag):R2:=λx y H Q=>∃p xs i v,x=.ref p/\y=.int i/\SqL K H p xs/\atI xs i=some v/\Q v H
def zG(K:PySem.W.Frag):R2:=λx y H Q=>∃p xs i v,x=.ref p/\y=.int i/\SqT K H p xs/\atI xs i=some v/\Q v H
def wE:R2:=λx y H Q=>∃z i c,x=.str z/\y=.int i/\z.length≤aV/\atI z.cps.toList i=some c/\Q (.str ⟨#[c]⟩) H
theorem FI:IxR X (vi X.K):=by
 intro value slice pins s σ H x y v u Q I rx ry h hs;obtain⟨p,xs,i,z,rfl,rfl,hq,he,q⟩:=h;cases rx;obtain⟨t,rfl⟩:=ry;obtain⟨its,r,pl,hz⟩:=I.list hq;obtain⟨j,h1,h2,h3,h4,h5⟩:=q8 he;obtain⟨w,ew,rw'⟩:=r.get h2;have hl:=r.length;have hn:=lD;have fin:EP X pins σ Q w s:=⟨z,H,I,rw',q⟩
 by_cases h0:0≤i
 ·have hj:i.toNat=j:=by
   rw[seqIndex_of h0 h5]at h1;exact Option.some.inj h1
  exact item_listR pl.isList h0 (by lia) (by rw[hj];simpa using ew) fin hs
 ·have hj:(i+(its.toArray.size:Int)).toNat=j:=by
   rw[seqIndex_neg (by lia) h4]at h1;rw[cG,←hl];exact Option.some.inj h1
  exact subscriptTail_builtinR (x:=w) pl.isList.typeIs slot_list_getitem.lookup
   (wpAny_getItem_list_neg (Q:=λr s'=>r=w/\EP X pins σ Q r s') pl.isList (by lia) (by rw[cG] <;> lia) (by lia) (by rw[hj];simpa using ew) ⟨rfl,fin⟩) hs
theorem Fi:IxR X (zG X.K):=by
 intro value slice pins s σ H x y v u Q I rx ry h hs;obtain⟨p,xs,i,z,rfl,rfl,hq,he,q⟩:=h;cases rx;obtain⟨t,rfl⟩:=ry;obtain⟨its,r,pl,hz⟩:=I.tuple hq;obtain⟨j,h1,h2,h3,h4,h5⟩:=q8 he;obtain⟨w,ew,rw'⟩:=r.get h2;have hl:=r.length;have hn:=lD;have fin:EP X pins σ Q w s:=⟨z,H,I,rw',q⟩;exact subscriptTail_builtinR (x:=w) pl.typeIs slot_tuple_getitem.lookup
  (getItem_tuple (j:=j) (Q:=λr s'=>r=w/\EP X pins σ Q r s') pl (by lia) (by lia) (by rw[cG,←hl];exact h1) (by simpa using ew) ⟨rfl,fin⟩) hs
theorem FF:IxR X wE:=by
 intro value slice pins s σ H x y v u Q I rx ry h hs;obtain⟨z,i,c,rfl,rfl,hz,he,q⟩:=h;obtain⟨t,rfl⟩:=rx;obtain⟨t',rfl⟩:=ry;obtain⟨j,h1,h2,h3,h4,h5⟩:=q8 he;have hl:z.cps.toList.length=z.length:=by simp[Str.length]
 rw [hl] at h1 h4 h5;have hn:=lD;exact tail_any (typeIs_str s z t) slot_str_getitem.lookup (getItem_str (c:=c) (by
  have e1:decide (i < -(2 ^ 63:Int))=false:=decide_eq_false (by lia);have e2:decide (i≥2 ^ 63)=false:=decide_eq_false (by lia);rw [e1,e2,Bool.or_false]) (by rw [h1];simpa using h2) ⟨.str ⟨#[c]⟩,H,I.tok _,⟨_,rfl⟩,q⟩) hs
def rIx(K:PySem.W.Frag):R2:=λx y H Q=>vi K x y H Q∨zG K x y H Q∨wE x y H Q
theorem Ea:IxR X (rIx X.K):=FI.or (Fi.or FF)
theorem HX(its:List af)(n j:Nat)(u:af):Obj.mapSeq (·.setIfInBounds j u) { cls:=.type "list",data:=.seq its.toArray n }={ cls:=.type "list",data:=.seq (its.set j u).toArray n }:=by
 simp[Obj.mapSeq]
theorem Inv.lst{pins:List (ae×aB)}{σ:St}{H:Hp}{s:aj}{p:ae}{xs:List V}(I:Inv X pins σ H s)(h:H p=some (.lst xs)) :
  ∃(its:List af) (n:Nat),Vals xs its/\s.heap.get? p=some { cls:=.type "list",data:=.seq its.toArray n }/\xs.length≤aV:=by
 obtain⟨z,its,n,r,e⟩:=I.hok p _ h;exact⟨its,n,r,e,z⟩
theorem Inv.lstUpd{pins:List (ae×aB)}{σ:St}{H:Hp}{s:aj}{p:ae}{xs ys:List V}{its its':List af}{n n':Nat}{f:aB->aB}(I:Inv X pins σ H s)(h:H p=some (.lst xs))
  (ho:s.heap.get? p=some { cls:=.type "list",data:=.seq its.toArray n }) (hf:f { cls:=.type "list",data:=.seq its.toArray n }={ cls:=.type "list",data:=.seq its'.toArray n' }) (r:Vals ys its') (hz:ys.length≤aV) (t:Nat) :
  Inv X pins σ (upd H p (.lst ys)) { s with heap:=s.heap.update p f,toks:=t }:=by
 have e:(s.heap.update p f).get? p=some { cls:=.type "list",data:=.seq its'.toArray n' }:=by
  rw[fi f ho (by rw[hf] <;> rfl),hf]
 refine I.write (x:=p) (e:=p) (by rw[h];trivial) (.inl rfl) (λb u hb q=>(dP _ _ (Ne.symm hb)).trans q) ⟨_,e⟩ ?_;exact⟨hz,its',n',r,e⟩
def xS:V->V->V->Hp->(Hp->Prop)->Prop:=λo i v H Q=>∃p xs k j,o=.ref p/\i=.int k/\H p=some (.lst xs)/\ixN xs.length k=some j/\Q (upd H p (.lst (xs.set j v)))
theorem A8:PSet X xS:=by
 intro pins s σ H o i v ov iv u Q I ro ri rv h;obtain⟨p,xs,k,j,rfl,rfl,hp,hj,q⟩:=h;cases ro;obtain⟨t,rfl⟩:=ri;obtain⟨its,n,r,ho,hz⟩:=I.lst hp;obtain⟨h1,h2,h3,h4⟩:=zL hj;have hl:=r.length;have hn:=lD;have I':Inv X pins σ (upd H p (.lst (xs.set j v))) { s with heap:=s.heap.update p (Obj.mapSeq (·.setIfInBounds j u)) }:=
  I.lstUpd hp ho (HX its n j u) (r.set rv j) (by rw[List.length_set];exact hz) s.toks
 by_cases h0:0≤k
 ·have hk:k.toNat=j:=by
   rw[seqIndex_of h0 h4]at h1;exact Option.some.inj h1
  exact PySem.W.ki_setAt ho h0 (by lia) (by rw[cG,←hl];exact h4) (by rw[hk];exact⟨_,I',q⟩)
 ·have hk:(k+(its.toArray.size:Int)).toNat=j:=by
   rw[seqIndex_neg (by lia) h3]at h1;rw[cG,←hl];exact Option.some.inj h1
  exact PySem.W.ki_setBack ho (by lia) (by rw[cG,←hl];exact h3) (by lia) (by rw[hk];exact⟨_,I',q⟩)
theorem F5(lo hi:Option Int)(n:Nat):(sliceBounds lo hi none n).1=((HT.sIx n 0 lo:Nat):Int)/\(sliceBounds lo hi none n).2.1=((HT.sIx n n hi:Nat):Int)/\(sliceBounds lo hi none n).2.2=1:=by
 refine⟨?_,?_,rfl⟩
 ·cases lo with
  |none=>simp[sliceBounds,HT.sIx]
  |some i=>
    simp only[sliceBounds,HT.sIx,Option.getD_none,show(1:Int)>0 by decide,if_true];by_cases h:i<0
    ·simp only[h,if_true] <;> lia
    ·simp only[h,if_false] <;> lia
 ·cases hi with
  |none=>simp[sliceBounds,HT.sIx]
  |some i=>
    simp only[sliceBounds,HT.sIx,Option.getD_none,show(1:Int)>0 by decide,if_true];by_cases h:i<0
    ·simp only[h,if_true] <;> lia
    ·simp only[h,if_false] <;> lia
theorem DM(its:List af)(lo hi:Option Int):slicePick its.toArray lo hi none=((its.drop (HT.sIx its.length 0 lo)).take (HT.sIx its.length its.length hi-HT.sIx its.length 0 lo)).toArray:=by
 obtain⟨h1,h2,h3⟩:=F5 lo hi its.toArray.size;unfold slicePick;rw[h1,h2,h3];simp only[sliceRange_one,pick_run,cG] <;> rfl
def w8(K:PySem.W.Frag):V->Option Int->Option Int->Hp->VK->Prop:=λx lo hi H Q=>∃a xs,x=.ref a/\SqL K H a xs/\∀p,H p=none->Q (.ref p) (upd H p (.lst (jy xs lo hi)))
theorem BR:SlR X (w8 X.K):=by
 intro pins s σ H x v vl vu lo hi sl Q I rx hs pl pu h;obtain⟨a,xs,rfl,hx,q⟩:=h;cases rx;obtain⟨its,r,ht,hz⟩:=I.list hx;have hlen:=r.length;refine⟨"list",_,slot_list_getitem.lookup,ht.isList.typeIs,?_⟩
 refine wpAny_getItem_list_slice ht.isList hs pl pu .none (by simp) ?_ (by rw[cG] <;> lia);rw[DM,←hlen];refine⟨.ref s.heap.objs.size,_,I.laid (t':=s.toks) (o:=.lst (jy xs lo hi)) (λb ob q=>bG _ q) (aU _) ?_,rfl,q _ (I.hok.fresh (aU _))⟩;exact⟨cB (yq xs lo hi) hz,_,0,(r.drop (HT.sIx xs.length 0 lo)).take (HT.sIx xs.length xs.length hi-HT.sIx xs.length 0 lo),cT _ rfl⟩
noncomputable def g0:V->Bool
 |.non=>true
 |.bl _=>true
 |.int _=>true
 |.str _=>true
 |_=>false
noncomputable def eqV:V->V->Bool
 |.non,.non=>true
 |.bl a,.bl b=>a == b
 |.bl a,.int b=>(if a then 1 else 0) == b
 |.int a,.bl b=>a == (if b then 1 else 0)
 |.int a,.int b=>a == b
 |.str a,.str b=>a == b
 |_,_=>false
theorem CU{A:aX}{s:aj}{y x:V}{u v:af}(ry:aN y u)(rx:aN x v)(fy:g0 y=true)(fx:g0 x=true):SeqAt.EqAt A s u v (eqV y x):=by
 cases y with
 |non=>
   cases ry;cases x with
   |non=>cases rx;exact SeqAt.EqAt.same _
   |bl b=>cases rx;exact SeqAt.EqAt.none_bool b
   |int b=>obtain⟨t,rfl⟩:=rx;exact SeqAt.EqAt.none_int b t
   |str b=>obtain⟨t,rfl⟩:=rx;exact SeqAt.EqAt.none_str b t
   |_=>exact absurd (show false=true from fx) bW
 |bl a=>
   cases ry;cases x with
   |non=>cases rx;exact SeqAt.EqAt.bool_none a
   |bl b=>cases rx;exact SeqAt.EqAt.bool_bool a b
   |int b=>obtain⟨t,rfl⟩:=rx;exact SeqAt.EqAt.bool_int a b t
   |str b=>obtain⟨t,rfl⟩:=rx;exact SeqAt.EqAt.bool_str a b t
   |_=>exact absurd (show false=true from fx) bW
 |int a=>
   obtain⟨t',rfl⟩:=ry;cases x with
   |non=>cases rx;exact SeqAt.EqAt.int_none a t'
   |bl b=>cases rx;exact SeqAt.EqAt.int_bool a t' b
   |int b=>obtain⟨t,rfl⟩:=rx;exact SeqAt.EqAt.int_int a t' b t
   |str b=>obtain⟨t,rfl⟩:=rx;exact SeqAt.EqAt.int_str a t' b t
   |_=>exact absurd (show false=true from fx) bW
 |str a=>
   obtain⟨t',rfl⟩:=ry;cases x with
   |non=>cases rx;exact SeqAt.EqAt.str_none a t'
   |bl b=>cases rx;exact SeqAt.EqAt.str_bool a t' b
   |int b=>obtain⟨t,rfl⟩:=rx;exact SeqAt.EqAt.str_int a t' b t
   |str b=>obtain⟨t,rfl⟩:=rx;exact SeqAt.EqAt.str_str a t' b t
   |_=>exact absurd (show false=true from fx) bW
 |_=>exact absurd (show false=true from fy) bW
noncomputable def eqU(x:V)(u:af):Bool:=match u with
 |.none=>eqV .non x
 |.bool b=>eqV (.bl b) x
 |.int i _=>eqV (.int i) x
 |.str z _=>eqV (.str z) x
 |_=>false
theorem wO{x y:V}{u:af}(r:aN y u)(f:g0 y=true):eqU x u=eqV y x:=by
 cases y with
 |non=>cases r;rfl
 |bl b=>cases r;rfl
 |int i=>obtain⟨t,rfl⟩:=r;rfl
 |str z=>obtain⟨t,rfl⟩:=r;rfl
 |_=>exact absurd (show false=true from f) bW
theorem mB{x:V}:∀{xs:List V}{us:List af},Vals xs us->xs.all g0=true->us.any (eqU x)=xs.any λy=>eqV y x
 |_,_,.nil,_=>rfl
 |y::xs,u::us,.cons r t,f=>by
   rw[i3,d7]at f;rw[jj,jj,wO r f.1,mB t f.2]
theorem lX{A:aX}{s:aj}{x:V}{v:af}(rx:aN x v)(fx:g0 x=true):∀{xs:List V}{us:List af},Vals xs us->xs.all g0=true->∀u∈us,SeqAt.EqAt A s u v (eqU x u)
 |_,_,.nil,_=>λu hu=>by cases hu
 |y::xs,u::us,.cons r t,f=>λu' hu=>by
   rw[i3,d7]at f;rcases bu.mp hu with rfl|hu
   ·rw[wO r f.1];exact CU r rx f.1 fx
   ·exact lX rx fx t f.2 u' hu
noncomputable def inV(x:V)(xs:List V):Bool:=xs.any λy=>eqV y x
def rIn(K:PySem.W.Frag)(neg:Bool):R2:=λx y H Q=>∃p xs,y=.ref p/\(SqL K H p xs∨SqT K H p xs)/\g0 x=true/\xs.all g0=true/\Q (.bl (if neg then !inV x xs else inV x xs)) H
theorem EU:OpR X (dL .In) (rIn X.K false):=by
 intro pins s σ H x y v u Q I rx ry h;obtain⟨p,xs,rfl,hq,fx,fs,q⟩:=h;cases ry;rcases hq with hq|hq
 ·obtain⟨its,r,pl,hz⟩:=I.list hq;refine SeqAt.in_listAt (eqU x) pl.isList (λw hw=>lX rx fx r fs w (by simpa using hw)) ⟨.bl _,H,I,rfl,?_⟩;rw[show its.toArray.any (eqU x)=its.any (eqU x) by simp,mB r fs];exact q
 ·obtain⟨its,r,pl,hz⟩:=I.tuple hq;refine SeqAt.in_tupleAt (eqU x) pl (λw hw=>lX rx fx r fs w (by simpa using hw)) ⟨.bl _,H,I,rfl,?_⟩;rw[show its.toArray.any (eqU x)=its.any (eqU x) by simp,mB r fs];exact q
theorem Hu:OpR X (dL .NotIn) (rIn X.K true):=by
 intro pins s σ H x y v u Q I rx ry h;obtain⟨p,xs,rfl,hq,fx,fs,q⟩:=h;cases ry;rcases hq with hq|hq
 ·obtain⟨its,r,pl,hz⟩:=I.list hq;refine SeqAt.notIn_listAt (eqU x) pl.isList (λw hw=>lX rx fx r fs w (by simpa using hw)) ⟨.bl _,H,I,rfl,?_⟩;rw[show its.toArray.any (eqU x)=its.any (eqU x) by simp,mB r fs];exact q
 ·obtain⟨its,r,pl,hz⟩:=I.tuple hq;refine SeqAt.notIn_tupleAt (eqU x) pl (λw hw=>lX rx fx r fs w (by simpa using hw)) ⟨.bl _,H,I,rfl,?_⟩;rw[show its.toArray.any (eqU x)=its.any (eqU x) by simp,mB r fs];exact q
theorem dR.or{f:af}{r r':List V->Hp->VK->Prop}(h:dR X f r)(h':dR X f r'):dR X f (λxs H Q=>r xs H Q∨r' xs H Q):=by
 intro pins s σ H xs us Q I rs q;rcases q with q|q
 ·exact h pins s σ H xs us Q I rs q
 ·exact h' pins s σ H xs us Q I rs q
theorem Hj:dR X (.type "list") (λxs H Q=>∃p ys,xs=[.ref p]/\(SqL X.K H p ys∨SqT X.K H p ys)/\∀l,H l=none->Q (.ref l) (upd H l (.lst ys))):=by
 intro pins s σ H xs us Q I r h;obtain⟨p,ys,rfl,hq,q⟩:=h;obtain⟨u,rfl,rx⟩:=vals1 r;cases rx;have fin:∀(its:List af),Vals ys its->ys.length≤aV->∀(h':aH) (c':Nat),(∀b o',s.heap.get? b=some o'->h'.get? b=some o') ->
   h'.get? s.heap.objs.size=some { cls:=.type "list",dict:=none,data:=.seq its.toArray c',slots:=#[] }->EP X pins σ Q (.ref s.heap.objs.size) { s with heap:=h' }:=λits r' hz h' c' kp e=>
  ⟨.ref s.heap.objs.size,_,I.laid (t':=s.toks) kp (aU _) (show cA X.prog X.w _ h' _ (.lst ys) from⟨hz,its,c',r',e⟩),rfl,q _ (I.hok.fresh (aU _))⟩
 rcases hq with hq|hq
 ·obtain⟨its,r',pl,hz⟩:=I.list hq;have hlen:=r'.length;obtain⟨o,ho,hc,n,hd⟩:=pl.isList;exact call_list_seq p (.inl rfl) ho hc hd (λh' c' kp e=>fin its r' hz h' c' kp e) (by simp only[cG] <;> lia)
 ·obtain⟨its,r',pl,hz⟩:=I.tuple hq;have hlen:=r'.length;obtain⟨o,ho,hc,n,hd⟩:=pl;exact call_list_seq p (.inr rfl) ho hc hd (λh' c' kp e=>fin its r' hz h' c' kp e) (by simp only[cG] <;> lia)
def tyV(K:PySem.W.Frag)(T:String)(x:V)(H:Hp):Prop:=match x with
 |.str _=>T="str"
 |.int _=>T="int"
 |.ref p=>(T="list"/\∃xs,SqL K H p xs)∨(T="tuple"/\∃o,K.lookup p=some o/\o.cls=.type "tuple"/\o.dict=none) ∨
   (T="dict"/\((∃kvs,H p=some (.dK kvs))∨∃kvs,H p=some (.dT kvs)))∨(T="set"/\∃S n,H p=some (.set S n))
 |_=>False
theorem D4{pins:List (ae×aB)}{σ:St}{H:Hp}{s:aj}{T:String}{x:V}{v:af}(I:Inv X pins σ H s)(r:aN x v)(ty:tyV X.K T x H) :
  s.TypeIs v T/\∀a,v=.ref a->∃ob,s.heap.get? a=some ob/\ob.dict=none:=by
 cases x with
 |str z=>
   obtain⟨t,rfl⟩:=r;cases(show T="str" from ty)
   exact⟨typeIs_str s z t,λ_ e=>nomatch e⟩
 |int i=>
   obtain⟨t,rfl⟩:=r;cases(show T="int" from ty)
   exact⟨typeIs_int s i t,λ_ e=>nomatch e⟩
 |ref p=>
   cases r;rcases ty with⟨rfl,xs,hq⟩|⟨rfl,o,hk,hc,hd⟩|⟨rfl,hk⟩|⟨rfl,S,n,hk⟩
   ·obtain⟨its,_,pl,_⟩:=I.list hq;refine⟨pl.isList.typeIs,λa e=>?_⟩;cases e;obtain⟨o,n,e,c,hd,_⟩:=pl;exact⟨o,e,hd⟩
   ·refine⟨⟨o,I.kIn p o hk,hc⟩,λa e=>?_⟩;cases e;exact⟨o,I.kIn _ o hk,hd⟩
   ·have z:∃o,s.heap.get? p=some o/\o.ExactDict:=by
     rcases hk with⟨kvs,hk⟩|⟨kvs,hk⟩
     ·obtain⟨_,_,_,_,o,_,_,e,ex,_⟩:=I.hok p _ hk;exact⟨o,e,ex⟩
     ·obtain⟨_,_,_,_,o,_,_,e,ex,_⟩:=I.hok p _ hk;exact⟨o,e,ex⟩
    obtain⟨o,e,ex⟩:=z;refine⟨⟨o,e,ex.1⟩,λa e2=>?_⟩;cases e2;exact⟨o,e,ex.2.1⟩
   ·obtain⟨o,_,_,_,e,ex,_⟩:=I.hok p _ hk;refine⟨⟨o,e,ex.1⟩,λa e2=>?_⟩;cases e2;exact⟨o,e,ex.2.1⟩
 |_=>exact False.elim ty
def tBM(K:PySem.W.Frag)(T:String)(r:V->List V->Hp->VK->Prop)(to:TE)(t:TA):TE:=λσ H Q=>to σ H λx H1=>tyV K T x H1/\t σ H1 λxs H2=>r x xs H2 Q
variable {o e:aw}{es:List aw}{to:TE}{t:TA}{name:Str}{apos cpos:Pos}{T id:String}{r:V->List V->Hp->VK->Prop}
theorem uN(pa:PlainAttrs T)(slot:Slot T name id)(hty:typeOf (.builtin id)=pure (.type "method_descriptor"))(hm:MtR X id r)(ho:PE X o to)(ha:PA X (e::es) t)
  (hbase:attributeBase o name X.env (aG o X.env)=aG o X.env:=by rfl)
  (hfew:((cL cpos (aJ (e::es) X.env)).all (λx=>!x.1) && (backToKw cpos (keywordEach [] X.env)).all (λx=>x.1.isSome)
   && decide ((e::es).length + ([]:List Keyword).length + (if ([]:List Keyword).isEmpty then 0 else 1) < 30))=true:=by rfl)
  (hline:(apos.endLine == cpos.line)=true:=by rfl) (hs:aJ (e::es) X.env=(false,aG e X.env)::aJ es X.env:=by rfl) (hplain:(cL cpos (aJ es X.env)).any (·.1)=false:=by rfl) :
  PE X (.Call (.Attribute o name apos) (e::es) [] cpos) (tBM X.K T r to t):=by
 intro pins s σ H Q I h;refine wpAny_Call_method_late hbase hfew hline rfl (thn (ho pins s σ H _ I h) λv s1 e0=>bp e0 λx H1 I1 r1 e4=>e4.elim λty q1=>?_);obtain⟨h1,h2⟩:=D4 I1 r1 ty;refine⟨T,id,pa,slot,hty,h1,h2,?_⟩;have hA:=ha cpos pins s1 σ H1 _ I1 q1;rw[hs]at hA ⊢;refine Calls.callWith_builtin (by show(false||(cL cpos (aJ es X.env)).any (·.1))=false;rw[hplain] <;> rfl) (Calls.evalArgs_plain ?_);exact thn hA λus s2 e0=>bp e0 λvs H2 I2 r2 q2=>hm pins s2 σ H2 x vs v us Q I2 r1 r2 q2
/- xs.append(e),list.index on a module's tuple .. are MtR facts of 06m -/
end
def MtM(X:Cx)(id:String)(r:V->List V->Hp->VK->Prop):Prop:=
 ∀(pins:List (ae×aB)) (s:aj) (σ:St) (H:Hp) (x:V) (xs:List V) (v:af) (us:List af) (Q:VK),Inv X pins σ H s->aN x v->Vals xs us->r x xs H Q ->
  aq (av X.prog X.w) X.A (call (.builtin id) (v::us)) (EP X pins σ Q) X.xe s
theorem Vals.one:∀{x:V}{us:List af},Vals [x] us->∃u,us=[u]/\aN x u
 |_,_,.cons r .nil=>⟨_,rfl,r⟩
theorem Vals.rep{xs:List V}{us:List af}(h:Vals xs us):∀k:Nat,Vals (br k xs).flatten (br k us).flatten
 |0=>.nil
 |k+1=>by
   rw[fZ,fZ,lO,lO];exact Vals.append h (Vals.rep h k)
theorem yD(its:List af):∀(k:Nat) (acc:List af),
  jF (λx1 x2=>x1++x2) acc.toArray (br k its.toArray)=(acc++(br k its).flatten).toArray
 |0,acc=>by simp
 |k+1,acc=>by
   have e:acc.toArray++its.toArray=(acc++its).toArray:=by simp
   have e2:(acc++its)++(br k its).flatten=acc++(br (k+1) its).flatten:=by
    rw[fZ,lO,uo]
   rw[←e2,←yD its k (acc++its),←e,fZ,vy]
section
variable {X:Cx}{pins:List (ae×aB)}{σ:St}{H:Hp}{s:aj}{l b:ae}{xs ys zs:List V}
theorem Inv.lset{its its':List af}{n:Nat}{f:Array af->Array af}{t':Nat}(I:Inv X pins σ H s)(hH:H l=some (.lst xs))
  (e:s.heap.get? l=some { cls:=.type "list",data:=.seq its.toArray n }) (hf:f its.toArray=its'.toArray) (hv:Vals ys its') (hz:ys.length≤aV) :
  Inv X pins σ (upd H l (.lst ys)) { s with heap:=s.heap.update l (Obj.mapSeq f),toks:=t' }:=by
 have q:=PySem.IsL.update e f;rw[hf]at q;refine I.write (x:=l) (e:=l) (by rw[hH];exact trivial) (.inl rfl) (λb' u hb hu=>(dP s.heap (Obj.mapSeq f) (Ne.symm hb)).trans hu) ⟨_,q⟩ ?_;exact⟨hz,its',_,hv,q⟩
theorem Inv.lnew{its:List af}{t':Nat}(I:Inv X pins σ H s)(hv:Vals ys its)(hz:ys.length≤aV) :
  Inv X pins σ (upd H s.heap.objs.size (.lst ys)) { s with heap:=s.heap.push { cls:=.type "list",data:=.seq its.toArray },toks:=t' }:=
 I.laid (λ_ _ q=>bG _ q) (aU _) ⟨hz,its,0,hv,cT _ rfl⟩
theorem Inv.fresh(I:Inv X pins σ H s):H s.heap.objs.size=none:=I.hok.fresh (aU _)
theorem Inv.lstM(I:Inv X pins σ H s)(hH:H l=some (.lst xs)):xs.length≤aV/\∃(its:List af) (n:Nat),Vals xs its/\xs.length=its.length/\s.heap.get? l=some { cls:=.type "list",data:=.seq its.toArray n }:=by
 obtain⟨z,its,n,r,e⟩:=I.hok l _ hH;exact⟨z,its,n,r,r.length,e⟩
theorem Fd{n:Nat}(h:n≤aV):Builtin.List.listTooLong n=false:=by
 unfold Builtin.List.listTooLong;exact decide_eq_false (by lia)
end
section
variable {X:Cx}
def Hm:V->List V->Hp->VK->Prop:=λx vs H Q=>∃l xs y,x=.ref l/\vs=[y]/\H l=some (.lst xs)/\xs.length<aV/\Q .non (upd H l (.lst (xs++[y])))
theorem vf:MtM X "list.append" Hm:=by
 intro pins s σ H x vs v us Q I rx rv h;obtain⟨l,xs,y,rfl,rfl,hH,hz,q⟩:=h;cases rx;obtain⟨u,rfl,ru⟩:=rv.one;obtain⟨z,its,n,r,hl,e⟩:=I.lstM hH;refine call_meets F.slot_list_append ⟨_,e,rfl⟩ F.entry_list_append (F.args_list_append_2 _ _) (PySem.list_append l its.toArray n u (by rw[cG];lia)) ⟨e,?_⟩
 refine⟨.non,_,I.lset (its':=its++[u]) hH e (by simp) (r.append (.cons ru .nil)) ?_,rfl,q⟩;rw[gX,List.length_singleton];lia
def Am:R2:=λx y H Q=>∃l b xs zs,x=.ref l/\y=.ref b/\H l=some (.lst xs)/\H b=some (.lst zs)/\xs.length+zs.length≤aV/\∀p,H p=none->Q (.ref p) (upd H p (.lst (xs++zs)))
theorem Be:OpR X (binaryOp .Add) Am:=by
 intro pins s σ H x y v u Q I rx ry h;obtain⟨l,b,xs,zs,rfl,rfl,hH,hB,hz,q⟩:=h;cases rx;cases ry;obtain⟨z,its,n,r,hl,e⟩:=I.lstM hH;obtain⟨z2,its2,n2,r2,hl2,e2⟩:=I.lstM hB;refine PySem.P.add_list e e2 ?_ (by rw[cG,cG];lia)
 have ea:its.toArray++its2.toArray=(its++its2).toArray:=by simp
 rw[ea];exact⟨.ref _,_,I.lnew (t':=s.toks) (r.append r2) (by rw[gX];lia),rfl,q _ I.fresh⟩
def vF:R2:=λx y H Q=>∃l k xs,x=.ref l/\y=.int k/\H l=some (.lst xs)/\-(2 ^ 63)≤k/\k<2 ^ 63/\xs.length*k.toNat≤aV /\
 ∀p,H p=none->Q (.ref p) (upd H p (.lst (br k.toNat xs).flatten))
theorem Cf{α:Type}(xs:List α)(k:Nat):(br k xs).flatten.length=k*xs.length:=by
 induction k with
 |zero=>simp
 |succ k ih=>rw[fZ,lO,gX,ih,Nat.succ_mul,Nat.add_comm]
theorem Hi:OpR X (binaryOp .Mult) vF:=by
 intro pins s σ H x y v u Q I rx ry h;obtain⟨l,k,xs,rfl,rfl,hH,h1,h2,hz,q⟩:=h;cases rx;obtain⟨t,rfl⟩:=ry;obtain⟨z,its,n,r,hl,e⟩:=I.lstM hH;have hlen:its.toArray.size*k.toNat≤aV:=by rw[cG,←hl];exact hz
 have hcap:¬its.toArray.size*k.toNat>(2 ^ 63-1)/8:=by
  have:(aV:Nat)≤(2 ^ 63-1)/8:=by decide
  lia
 have hfit:¬(!Builtin.List.listFitsIndex k)=true:=by
  rw[fitsIndex_both h1 h2];exact bW
 have hlong:¬Builtin.List.listTooLong (its.toArray.size*k.toNat)=true:=by
  rw[Fd hlen];exact bW
 have hnew:jF (λx1 x2=>x1++x2) #[] (br (if its.toArray.isEmpty=true then 0 else k.toNat) its.toArray)=(br k.toNat its).flatten.toArray:=by
  have f0:∀m:Nat,jF (λx1 x2=>x1++x2) #[] (br m its.toArray)=(br m its).flatten.toArray:=λm=>by
   have:=yD its m [];rw[i7]at this;exact this
  rw[f0];cases its with
  |nil=>simp
  |cons a r'=>rw[if_neg (by simp)]
 refine wpAny_binaryOp_repeat_ref (T:="list") (U:="int") (by decide) ⟨_,e,rfl⟩ (λs'=>typeIs_int s' k t) noFill_list_mul F.fills_int_mul F.slot_int_rmul repeat_list F.slot_int_index.lookup
  (call_meets F.slot_int_rmul (typeIs_int s k t) F.entry_int_rmul (F.args_int_rmul_2 _ _) (int___rmul___int_list k t l its.toArray n)
   ⟨e,rfl,⟨_,e,rfl⟩,call_meets F.slot_list_mul ⟨_,e,rfl⟩ F.entry_list_mul (F.args_list_mul_2 _ _) (AutoListH.list___mul___list_int_3 l its.toArray n k t hfit hcap hlong) ⟨e,?_⟩⟩)
 rw[hnew];exact⟨.ref _,_,I.lnew (t':=s.toks) (r.rep k.toNat) (by rw[Cf,Nat.mul_comm];exact hz),rfl,q _ I.fresh⟩
end
section
variable {prog:bi}{w:aQ}{A:aX}{E:af->aj->Prop}{s:aj}
end
section
variable {X:Cx}
end
section
variable {κ:Type}[DecidableEq κ]
noncomputable def eM(kvs:List (κ×V))(k:κ):Option V:=(kvs.find? λkv=>decide (kv.1=k)).map (·.2)
noncomputable def fe(kvs:List (κ×V))(k:κ)(v:V):List (κ×V):=
 if(kvs.any λkv=>decide (kv.1=k))=true then kvs.map (λkv=>if kv.1=k then(kv.1,v) else kv) else kvs++[(k,v)]
noncomputable def jb(kvs:List (κ×V))(k:κ):List (κ×V):=kvs.filter λkv=>decide (kv.1≠k)
theorem qe{p:κ×V}{r:List (κ×V)}{k:κ}(e:p.1=k):eM (p::r) k=some p.2:=by simp[eM,lW,e]
theorem pD{p:κ×V}{r:List (κ×V)}{k:κ}(e:¬p.1=k):eM (p::r) k=eM r k:=by simp[eM,lW,e]
theorem o5(k:κ):∀kvs:List (κ×V),(kvs.any λkv=>decide (kv.1=k))=(eM kvs k).isSome
 |[]=>rfl
 |p::r=>by
   rw[jj];by_cases e:p.1=k
   ·simp only[qe e,decide_eq_true e,Bool.true_or,Option.isSome_some]
   ·rw[pD e,decide_eq_false e,Bool.false_or];exact o5 k r
theorem yo(kvs:List (κ×V))(k:κ)(v:V):(fe kvs k v).length≤kvs.length+1:=by
 unfold fe;split
 ·rw[c6];lia
 ·rw[gX,eR,kh];lia
theorem dW.isSome_eq{o:Option V}{u:Option af}(r:dW o u):o.isSome=u.isSome:=by
 cases o with
 |none=>cases u with
   |none=>rfl
   |some _=>exact(show False from r).elim
 |some _=>cases u with
   |none=>exact(show False from r).elim
   |some _=>rfl
theorem dW.getD{o:Option V}{u:Option af}{d:V}{d':af}(r:dW o u)(rd:aN d d'):aN (o.getD d) (u.getD d'):=by
 cases o with
 |none=>cases u with
   |none=>exact rd
   |some _=>exact(show False from r).elim
 |some _=>cases u with
   |none=>exact(show False from r).elim
   |some _=>exact r
theorem KV.val{kvs:List (κ×V)}{vs:List (κ×af)}(r:KV kvs vs)(k:κ):dW (eM kvs k) (valueAt vs k):=by
 unfold KV at r
 induction r with
 |nil=>exact True.intro
 |@cons p q ps qs h t ih=>
   obtain⟨h1,h2⟩:=h;by_cases e:p.1=k
   ·have e':q.1=k:=h1.symm.trans e;have b:valueAt (q::qs) k=some q.2:=by simp[valueAt,lW,e']
    rw[qe e,b];exact h2
   ·have e':¬q.1=k:=λz=>e (h1.trans z);have b:valueAt (q::qs) k=valueAt qs k:=by simp[valueAt,lW,e']
    rw[pD e,b];exact ih
theorem KV.any{kvs:List (κ×V)}{vs:List (κ×af)}(r:KV kvs vs)(k:κ):(kvs.any λkv=>decide (kv.1=k))=vs.any λkv=>decide (kv.1=k):=by
 unfold KV at r
 induction r with
 |nil=>rfl
 |cons h t ih=>rw[jj,jj,ih,h.1]
theorem KV.repl{kvs:List (κ×V)}{vs:List (κ×af)}(r:KV kvs vs)(k:κ){y:V}{u:af}(ry:aN y u) :
  KV (kvs.map λkv=>if kv.1=k then(kv.1,y) else kv) (vs.map λkv=>if kv.1=k then(kv.1,u) else kv):=by
 unfold KV at r ⊢
 induction r with
 |nil=>exact .nil
 |@cons p q ps qs h t ih=>
   rw[bD,bD];refine .cons ?_ ih;obtain⟨h1,h2⟩:=h;by_cases e:p.1=k
   ·rw[if_pos e,if_pos (h1.symm.trans e)];exact⟨h1,ry⟩
   ·rw[if_neg e,if_neg (λz=>e (h1.trans z))];exact⟨h1,h2⟩
theorem KV.put{kvs:List (κ×V)}{vs:List (κ×af)}(r:KV kvs vs)(k:κ){y:V}{u:af}(ry:aN y u):KV (fe kvs k y) (stored vs k u):=by
 unfold fe stored;rw[r.any k];by_cases e:(vs.any λkv=>decide (kv.1=k))=true
 ·rw[if_pos e,if_pos e];exact r.repl k ry
 ·rw[if_neg e,if_neg e];exact Paired.snoc r ⟨rfl,ry⟩
theorem KV.drop{kvs:List (κ×V)}{vs:List (κ×af)}(r:KV kvs vs)(k:κ):KV (jb kvs k) (without vs k):=by
 unfold KV at r ⊢;unfold jb without
 induction r with
 |nil=>exact .nil
 |@cons p q ps qs h t ih=>
   obtain⟨h1,h2⟩:=h;rw[pV,pV];by_cases e:p.1=k
   ·have a:¬decide (p.1≠k)=true:=by simp[e]
    have b:¬decide (q.1≠k)=true:=by simp[h1.symm.trans e]
    rw[if_neg a,if_neg b];exact ih
   ·have e':¬q.1=k:=λz=>e (h1.trans z);have a:decide (p.1≠k)=true:=by simp[e]
    have b:decide (q.1≠k)=true:=by simp[e']
    rw[if_pos a,if_pos b];exact .cons ⟨h1,h2⟩ ih
theorem KV.length{kvs:List (κ×V)}{vs:List (κ×af)}(r:KV kvs vs):kvs.length=vs.length:=Paired.length r
theorem Bg(kvs:List (κ×V))(k:κ):(jb kvs k).length≤kvs.length:=List.length_filter_le _ _
end
theorem kg{P:bi}{w:aQ}{k:Key}{u:af}(r:aN (kV k) u):(de P w).is k u=true:=by
 cases k with
 |inl i=>obtain⟨t,e⟩:=(show ∃t,u=Value.int i t from r);subst e;exact AM P w i t
 |inr x=>obtain⟨t,e⟩:=(show ∃t,u=Value.str x t from r);subst e;exact Iy P w x t
theorem Ay{P:bi}{w:aQ}:∀{ks:List Key}{us:List af},Vals (ks.map kV) us->ItemsAre (de P w) ks us
 |[],_,r=>by rw[gq]at r;cases r;exact .nil
 |k::ks,_,r=>by
   rw[bD]at r;cases r with
   |cons h t=>exact .cons (kg h) (Ay t)
abbrev KT(H:Hp):List (List Key×V)->List (List Key×ae×af)->Prop:=Paired λp q=>p.1=q.1/\H q.2.1=some (.tup (p.1.map kV))/\aN p.2 q.2.2
theorem KT.val{H:Hp}{kvs:List (List Key×V)}{xs:List (List Key×ae×af)}(r:KT H kvs xs)(k:List Key):dW (eM kvs k) ((atKey xs k).map (·.2)):=by
 induction r with
 |nil=>exact True.intro
 |@cons p q ps qs h t ih=>
   obtain⟨h1,_,h2⟩:=h;by_cases e:p.1=k
   ·have e':q.1=k:=h1.symm.trans e;have b:atKey (q::qs) k=some q.2:=by simp[atKey,lW,e']
    rw[qe e,b];exact h2
   ·have e':¬q.1=k:=λz=>e (h1.trans z);have b:atKey (q::qs) k=atKey qs k:=by simp[atKey,lW,e']
    rw[pD e,b];exact ih
theorem KT.repl{H:Hp}{kvs:List (List Key×V)}{xs:List (List Key×ae×af)}(r:KT H kvs xs)(k:List Key){y:V}{u:af}(ry:aN y u) :
  KT H (kvs.map λkv=>if kv.1=k then(kv.1,y) else kv) (xs.map (putAt k u)):=by
 induction r with
 |nil=>exact .nil
 |@cons p q ps qs h t ih=>
   rw[bD,bD];refine .cons ?_ ih;obtain⟨h1,h2,h3⟩:=h;unfold putAt;by_cases e:p.1=k
   ·rw[if_pos e,if_pos (h1.symm.trans e)];exact⟨h1,h2,ry⟩
   ·rw[if_neg e,if_neg (λz=>e (h1.trans z))];exact⟨h1,h2,h3⟩
theorem KT.put{H:Hp}{kvs:List (List Key×V)}{xs:List (List Key×ae×af)}(r:KT H kvs xs)(k:List Key){b:ae}{y:V}{u:af}(hb:H b=some (.tup (k.map kV)))(ry:aN y u) :
  KT H (fe kvs k y) (storedH xs k b u):=by
 have e:(kvs.any λkv=>decide (kv.1=k))=(atKey xs k).isSome:=by
  rw[o5,(r.val k).isSome_eq,uL]
 unfold fe storedH;rw[e];by_cases q:(atKey xs k).isSome=true
 ·rw[if_pos q,if_pos q];exact r.repl k ry
 ·rw[if_neg q,if_neg q];exact Paired.snoc r ⟨rfl,hb,ry⟩
theorem KT.keeps{H H':Hp}{kvs:List (List Key×V)}{xs:List (List Key×ae×af)}(r:KT H kvs xs)(ht:∀b ys,H b=some (.tup ys)->H' b=some (.tup ys)):KT H' kvs xs:=
 Paired.mapP r λ_ _ z=>⟨z.1,ht _ _ z.2.1,z.2.2⟩
section
variable {P:bi}{w:aQ}{H:Hp}{h:aH}{a:ae}
theorem zN{u:HO}(ok:HOk P w H h)(e:Rd H a u):cA P w H h a u:=e.ok ok
theorem jD{kvs:List (Key×V)}(ok:HOk P w H h)(e:Rd H a (.dK kvs)):kvs.length≤aV/\(a == sysModules)=false/\∃vs,KV kvs vs/\h.DictOf (de P w) a vs:=
 show cA P w H h a (.dK kvs) from zN ok e
theorem sY{kvs:List (Key×V)}(ok:HOk P w H h)(e:H a=some (.dK kvs)):kvs.length≤aV/\(a == sysModules)=false/\∃vs,KV kvs vs/\h.DictOf (de P w) a vs:=jD ok (.inl e)
theorem jw{ks:List Key}(ok:HOk P w H h)(e:H a=some (.tup (ks.map kV))):(tupleKind (de P w)).is h ks a:=by
 obtain⟨_,its,r,o,h1,h2,n,h3⟩:=(show cA P w H h a (.tup (ks.map kV)) from ok a _ e);exact⟨o,its.toArray,n,h1,h2,h3,by simpa using Ay r⟩
theorem jZ{kvs:List (List Key×V)}(ok:HOk P w H h)(e:Rd H a (.dT kvs)):kvs.length≤aV/\(a == sysModules)=false /\
  ∃xs,KT H kvs xs/\h.DictOfH (tupleKind (de P w)) a xs:=by
 obtain⟨z,y,xs,r,o,es,ep,h1,h2,h3,h4,h5⟩:=(show cA P w H h a (.dT kvs) from zN ok e);refine⟨z,y,xs,r,o,es,ep,h1,h2,h3,h4,λx hx=>?_,h5⟩;have all:∀{l:List (List Key×V)}{m:List (List Key×ae×af)},KT H l m->∀x∈m,(tupleKind (de P w)).is h x.1 x.2.1:=by
  intro l m q
  induction q with
  |nil=>intro x hx;exact nomatch hx
  |@cons p q ps qs hq t ih=>
    intro x hx;rcases bu.mp hx with e|hx
    ·subst e;exact jw ok (by rw[←hq.1];exact hq.2.1)
    ·exact ih x hx
 exact all r x hx
theorem CM{kvs:List (List Key×V)}(ok:HOk P w H h)(e:H a=some (.dT kvs)):kvs.length≤aV/\(a == sysModules)=false /\
  ∃xs,KT H kvs xs/\h.DictOfH (tupleKind (de P w)) a xs:=jZ ok (.inl e)
end
def DGet(H:Hp)(a:ae)(y:V)(r:Option V):Prop:=
 (∃kvs k,Rd H a (.dK kvs)/\y=kV k/\r=eM kvs k)∨∃kvs k b,Rd H a (.dT kvs)/\y=.ref b/\H b=some (.tup (k.map kV))/\r=eM kvs k
def DPut(H:Hp)(a:ae)(y v:V)(H':Hp):Prop:=
 (∃kvs k,H a=some (.dK kvs)/\y=kV k/\kvs.length<aV/\H'=upd H a (.dK (fe kvs k v))) ∨
 ∃kvs k b,H a=some (.dT kvs)/\y=.ref b/\H b=some (.tup (k.map kV))/\kvs.length<aV/\H'=upd H a (.dT (fe kvs k v))
theorem DGet.k{H:Hp}{a:ae}{kvs:List (Key×V)}{k:Key}(e:H a=some (.dK kvs)):DGet H a (kV k) (eM kvs k):=.inl ⟨kvs,k,.inl e,rfl,rfl⟩
theorem DPut.k{H:Hp}{a:ae}{kvs:List (Key×V)}{k:Key}{v:V}(e:H a=some (.dK kvs))(hl:kvs.length<aV):DPut H a (kV k) v (upd H a (.dK (fe kvs k v))):=.inl ⟨kvs,k,e,rfl,hl,rfl⟩
section
variable {X:Cx}{pins:List (ae×aB)}{σ:St}{H:Hp}{s:aj}{a:ae}{y v:V}{u r:af}{o:Option V}{A:aX}{E:af->aj->Prop}
theorem Inv.big(I:Inv X pins σ H s):sysModules<s.heap.objs.size:=by
 have h:dz<s.heap.objs.size:=(I.mod.glob.keeps I.bk).lt;exact Nat.lt_trans (by decide) h
theorem xL{Q:af->aj->Prop}(hu:A.units+1<cLine)(I:Inv X pins σ H s)(g:DGet H a y (some v))(ry:aN y u)(h:∀w' s',Inv X pins σ H s'->aN v w'->Q w' s') :
  aq (av X.prog X.w) A (getItem (.ref a) u) Q E s:=by
 rcases g with⟨kvs,k,e,ey,l⟩|⟨kvs,k,b,e,ey,eb,l⟩
 ·subst ey;obtain⟨z,hd,vs,rel,dd⟩:=jD I.hok e;obtain⟨w',hw,rw'⟩:=dW.some_of (v:=v) (o:=valueAt vs k) (by rw[l];exact rel.val k);exact wpAny_getItem_of (kg ry) dd.mapOf hw (h w' _ (I.tok _) rw')
 ·subst ey;cases(show u=Value.ref b from ry);obtain⟨z,hd,xs,rel,dd⟩:=jZ I.hok e;obtain⟨w',hw,rw'⟩:=dW.some_of (v:=v) (o:=(atKey xs k).map (·.2)) (by rw[l];exact rel.val k)
  obtain⟨p,hp,hp2⟩:=Option.map_eq_some_iff.mp hw;refine wpAny_getItem_heap (tupleKind_room_in1 hu) (jw I.hok eb) dd hp ?_;rw[hp2];exact h w' _ (I.tok _) rw'
theorem Bw{Q:af->aj->Prop}(hu:A.units+1<cLine)(I:Inv X pins σ H s)(g:DGet H a y o)(ry:aN y u)(h:∀s',Inv X pins σ H s'->Q (.bool o.isSome) s') :
  aq (av X.prog X.w) A (dL .In u (.ref a)) Q E s:=by
 rcases g with⟨kvs,k,e,ey,l⟩|⟨kvs,k,b,e,ey,eb,l⟩
 ·subst ey;obtain⟨z,hd,vs,rel,dd⟩:=jD I.hok e;refine wpAny_in_of (kg ry) hd dd.mapOf ?_;rw[←(rel.val k).isSome_eq,←l];exact h _ (I.tok _)
 ·subst ey;cases(show u=Value.ref b from ry);obtain⟨z,hd,xs,rel,dd⟩:=jZ I.hok e;refine wpAny_in_heap (tupleKind_room_in1 hu) (jw I.hok eb) hd dd ?_;have q:=(rel.val k).isSome_eq;rw[uL]at q;rw[←q,←l];exact h _ (I.tok _)
theorem Gh{Q:af->aj->Prop}(hu:A.units+1<cLine)(I:Inv X pins σ H s)(g:DGet H a y o)(ry:aN y u)(h:∀s',Inv X pins σ H s'->Q (.bool (!o.isSome)) s') :
  aq (av X.prog X.w) A (dL .NotIn u (.ref a)) Q E s:=by
 rcases g with⟨kvs,k,e,ey,l⟩|⟨kvs,k,b,e,ey,eb,l⟩
 ·subst ey;obtain⟨z,hd,vs,rel,dd⟩:=jD I.hok e;refine wpAny_notIn_of (kg ry) hd dd.mapOf ?_;rw[←(rel.val k).isSome_eq,←l];exact h _ (I.tok _)
 ·subst ey;cases(show u=Value.ref b from ry);obtain⟨z,hd,xs,rel,dd⟩:=jZ I.hok e;refine wpAny_notIn_heap (tupleKind_room_in1 hu) (jw I.hok eb) hd dd ?_;have q:=(rel.val k).isSome_eq;rw[uL]at q;rw[←q,←l];exact h _ (I.tok _)
theorem uT{h':aH}{t':Nat}{ob:HO}(I:Inv X pins σ H s)(mu:Mut (H a))(hs:jR a s.heap h')(he:∃q,h'.get? a=some q)(new:cA X.prog X.w (upd H a ob) h' a ob) :
  Inv X pins σ (upd H a ob) { s with heap:=h',toks:=t' }:=
 I.write (x:=a) (e:=a) mu (.inl rfl) (λb q hb z=>(hs.2 b hb).trans z) he new
theorem wg{P:bi}{w:aQ}{H':Hp}{h':aH}{kvs:List (Key×V)}{vs:List (Key×af)}(z:kvs.length≤aV)(hd:(a == sysModules)=false)(rel:KV kvs vs)(dd:h'.DictOf (de P w) a vs) :
  cA P w H' h' a (.dK kvs):=⟨z,hd,vs,rel,dd⟩
theorem Bs{H':Hp}{Q:Unit->aj->Prop}(hu:A.units+1<cLine)(I:Inv X pins σ H s)(g:DPut H a y v H')(ry:aN y u)(rv:aN v r)(h:∀s',Inv X pins σ H' s'->Q () s') :
  aq (av X.prog X.w) A (setItem (.ref a) u r) Q E s:=by
 rcases g with⟨kvs,k,e,ey,l,eH⟩|⟨kvs,k,b,e,ey,eb,l,eH⟩
 ·subst ey eH;obtain⟨z,hd,vs,rel,dd⟩:=sY I.hok e;have hz:vs.length≤aV:=by rw[←rel.length];exact z
  have hl:(fe kvs k v).length≤aV:=by have:=yo kvs k v;lia
  refine wpAny_setItem_pairs (hsz:=hz) (kg ry) dd λh' dd' hs=>h _ ?_;have he:∃q,h'.get? a=some q:=let ⟨q,_,_,hq,_⟩:=dd';⟨q,hq⟩;exact uT I (by rw[e];exact True.intro) hs he (wg hl hd (rel.put k rv) dd')
 ·subst ey eH;cases(show u=Value.ref b from ry);obtain⟨z,hd,xs,rel,dd⟩:=CM I.hok e;have hz:xs.length≤aV:=by rw[←Paired.length rel];exact z
  have hl:(fe kvs k v).length≤aV:=by have:=yo kvs k v;lia
  refine wpAny_setItem_heap (hsz:=hz) (tupleKind_room_in1 hu) (jw I.hok eb) dd λh' dd' hs=>h _ ?_;obtain⟨q,es,ep,hq,h2,h3,h4,_,h5⟩:=dd';refine uT I (by rw[e];exact True.intro) hs ⟨q,hq⟩ ⟨hl,hd,_,(rel.put k eb rv).keeps λc ys ec=>?_,q,es,ep,hq,h2,h3,h4,h5⟩;rw[aY (EY ec e (λz=>nomatch z))];exact ec
end
section
variable {X:Cx}{pins:List (ae×aB)}{σ:St}{H:Hp}{s:aj}{a:ae}{kvs:List (Key×V)}{k:Key}{u:af}{A:aX}{E:af->aj->Prop}
theorem Io{v:V}{more:List af}{Q:af->aj->Prop}(I:Inv X pins σ H s)(e:H a=some (.dK kvs))(ry:aN (kV k) u)(l:eM kvs k=some v)(hm:more=[]∨∃x,more=[x])
  (h:∀w' s',Inv X pins σ (upd H a (.dK (jb kvs k))) s'->aN v w'->Q w' s'):aq (av X.prog X.w) A (call (.builtin "dict.pop") (.ref a::u::more)) Q E s:=by
 obtain⟨z,hd,vs,rel,dd⟩:=sY I.hok e;obtain⟨w',hw,rw'⟩:=dW.some_of (v:=v) (o:=valueAt vs k) (by rw[←l];exact rel.val k);have hp:(keyPart u).isSome=true:=by
  cases k with
  |inl i=>obtain⟨t,q⟩:=(show ∃t,u=Value.int i t from ry);subst q;rfl
  |inr x=>obtain⟨t,q⟩:=(show ∃t,u=Value.str x t from ry);subst q;rfl
 have ha:argsOk "dict.pop" ⟨.ref a::u::more,[]⟩:=by
  rcases hm with q|⟨x,q⟩
  ·subst q;exact PySem.F.args_dict_pop_2 _ _
  ·subst q;exact PySem.F.args_dict_pop_3 _ _ _
 refine call_meetsIn PySem.F.slot_dict_pop dd.typeIs PySem.F.entry_dict_pop ha (meets_dict_pop_there (de X.prog X.w) a (kg ry) more hm hp)
  ⟨vs,w',dd,by rw[←rel.length];exact z,hw,λh' dd' hs=>h w' _ ?_ rw'⟩
 have he:∃q,h'.get? a=some q:=let ⟨q,_,_,hq,_⟩:=dd';⟨q,hq⟩;exact uT I (by rw[e];exact True.intro) hs he (wg (cB (Bg kvs k) z) hd (rel.drop k) dd')
theorem Ch{Q:af->aj->Prop}(I:Inv X pins σ H s)(e:Rd H a (.dK kvs))(h:∀t s',Inv X pins σ H s'->Q (.int kvs.length t) s'):aq (av X.prog X.w) A (call (.builtin "len") [.ref a]) Q E s:=by
 obtain⟨z,hd,vs,rel,dd⟩:=jD I.hok e;refine call_len_dict hd dd (by rw[←rel.length];rw[sizeLine_eq]at z;lia) ?_;rw[←rel.length];exact h _ _ (I.tok _)
end
theorem AL{X:Cx}{pins:List (ae×aB)}{σ:St}{H:Hp}{s:aj}{a:ae}{y:V}{o:Option V}(I:Inv X pins σ H s)(g:DGet H a y o):s.TypeIs (.ref a) "dict":=by
 rcases g with⟨kvs,k,e,_,_⟩|⟨kvs,k,b,e,_,_,_⟩
 ·obtain⟨_,_,vs,_,dd⟩:=jD I.hok e;exact dd.typeIs
 ·obtain⟨_,_,xs,_,dd⟩:=jZ I.hok e;exact dd.typeIs
section
variable {X:Cx}{o i e value:aw}{pos pos' tpos:Pos}{td ty tv:TE}
end
theorem Er{P:bi}{w:aQ}{H:Hp}(h:aH)(hb:sysModules<h.objs.size):cA P w H (h.push { cls:=.type "dict",data:=.dict #[] }) h.objs.size (.dK []):=
 ⟨fg _,beq_eq_false_iff_ne.mpr (Ne.symm (dj hb)),[],.nil,Heap.DictOf.new h⟩
def Hr:TE:=λ_ H Q=>∀p,H p=none->Q (.ref p) (upd H p (.dK []))
section
variable {X:Cx}{pos:Pos}
theorem Dn:PE X (.Dict [] [] pos) Hr:=λpins s σ H Q I h=>
 wpAny_Dict_empty ⟨.ref s.heap.objs.size,_,I.laid (a:=s.heap.objs.size) (o:=.dK []) (t':=s.toks) (λ_ _ q=>bG _ q) (aU _) (Er s.heap I.big),rfl,h _ (I.hok.fresh (aU _))⟩
end
structure M1(X:Cx)(o:aw)(m:Str)(apos:Pos)(e:aw)(cpos:Pos):Prop where
 base:attributeBase o m X.env (aG o X.env)=aG o X.env
 few:((cL cpos (aJ [e] X.env)).all (λx=>!x.1) && (backToKw cpos (keywordEach [] X.env)).all (λx=>x.1.isSome)
  && decide (([e]:List aw).length + ([]:List Keyword).length + (if ([]:List Keyword).isEmpty then 0 else 1) < 30))=true
 line:(apos.endLine == cpos.line)=true
 trees:cL cpos (aJ [e] X.env)=[(false,aG e X.env)]
structure M2(X:Cx)(o:aw)(m:Str)(apos:Pos)(e f:aw)(cpos:Pos):Prop where
 base:attributeBase o m X.env (aG o X.env)=aG o X.env
 few:((cL cpos (aJ [e,f] X.env)).all (λx=>!x.1) && (backToKw cpos (keywordEach [] X.env)).all (λx=>x.1.isSome)
  && decide (([e,f]:List aw).length + ([]:List Keyword).length + (if ([]:List Keyword).isEmpty then 0 else 1) < 30))=true
 line:(apos.endLine == cpos.line)=true
 trees:cL cpos (aJ [e,f] X.env)=[(false,aG e X.env),(false,aG f X.env)]
def IsD(H:Hp)(a:ae):Prop:=(∃kvs,Rd H a (.dK kvs))∨∃kvs,Rd H a (.dT kvs)
theorem AE{X:Cx}{pins:List (ae×aB)}{σ:St}{H:Hp}{s:aj}{a:ae}(I:Inv X pins σ H s)(d:IsD H a) :
  s.TypeIs (.ref a) "dict"/\(∀b,Value.ref a=.ref b->∃ob,s.heap.get? b=some ob/\ob.dict=none)/\(a == sysModules)=false:=by
 rcases d with⟨kvs,e⟩|⟨kvs,e⟩
 ·obtain⟨_,hd,vs,_,dd⟩:=jD I.hok e;refine⟨dd.typeIs,λb q=>?_,hd⟩;cases q;obtain⟨ob,_,_,h1,h2,_⟩:=dd;exact⟨ob,h1,h2.2.1⟩
 ·obtain⟨_,hd,xs,_,dd⟩:=jZ I.hok e;refine⟨dd.typeIs,λb q=>?_,hd⟩;cases q;obtain⟨ob,_,_,h1,h2,_⟩:=dd;exact⟨ob,h1,h2.2.1⟩
section
variable {X:Cx}{pins:List (ae×aB)}{σ:St}{H:Hp}{s:aj}{a:ae}{y d:V}{u r:af}{o:Option V}{A:aX}{E:af->aj->Prop}
theorem DF{Q:af->aj->Prop}(hu:A.units+1<cLine)(I:Inv X pins σ H s)(g:DGet H a y o)(ry:aN y u)(rd:aN d r)(h:∀w' s',Inv X pins σ H s'->aN (o.getD d) w'->Q w' s') :
  aq (av X.prog X.w) A (call (.builtin "dict.get") [.ref a,u,r]) Q E s:=by
 rcases g with⟨kvs,k,e,ey,l⟩|⟨kvs,k,b,e,ey,eb,l⟩
 ·subst ey;obtain⟨z,hd,vs,rel,dd⟩:=jD I.hok e;refine call_meetsIn ud dd.typeIs PySem.F.entry_dict_get (PySem.F.args_dict_get_3 _ _ _) (meets_dict_get_default (de X.prog X.w) a (kg ry) hd r) ⟨_,dd.mapOf,h _ _ (I.tok _) ?_⟩;rw[l];exact(rel.val k).getD rd
 ·subst ey;cases(show u=Value.ref b from ry);obtain⟨z,hd,xs,rel,dd⟩:=jZ I.hok e;refine call_meetsIn ud dd.typeIs PySem.F.entry_dict_get (PySem.F.args_dict_get_3 _ _ _) (meetsH_dict_get_default (tupleKind (de X.prog X.w)) a b hd r) ⟨tupleKind_room_in1 hu,k,xs,jw I.hok eb,dd,h _ _ (I.tok _) ?_⟩;rw[l];exact(rel.val k).getD rd
end
def DL(td ty tx:TE):TE:=λσ H Q=>td σ H λx H1=>∃a,x=.ref a/\IsD H1 a/\ty σ H1 λy H2=>tx σ H2 λz H3=>∃o,DGet H3 a y o/\Q (o.getD z) H3
def Et(td ty:TE):TE:=λσ H Q=>td σ H λx H1=>∃a,x=.ref a/\IsD H1 a/\ty σ H1 λy H2=>∃kvs k v,H2 a=some (.dK kvs)/\y=kV k/\eM kvs k=some v/\Q v (upd H2 a (.dK (jb kvs k)))
section
variable {X:Cx}{o e f:aw}{apos cpos:Pos}{td ty tx:TE}
theorem Gd(hu:X.A.units+1<cLine)(ho:PE X o td)(he:PE X e ty)(hf:PE X f tx)(m:M2 X o "get" apos e f cpos):PE X (.Call (.Attribute o "get" apos) [e,f] [] cpos) (DL td ty tx):=by
 intro pins s σ H Q I h;refine wpAny_Call_method m.base m.few m.line PySem.F.plainAttrs_dict ud PySem.F.type_dict_get (thn (ho pins s σ H _ I h) λu s1 e0=>bp e0 λx H1 I1 rx e4=>e4.elim λa e5=>e5.elim λex e6=>e6.elim λd q1=>?_);subst ex;obtain rfl:u=Value.ref a:=rx;obtain ⟨t1,t2,_⟩:=AE I1 d;refine ⟨t1,t2,?_⟩;rw [m.trees];refine Calls.callWith_builtin rfl (Calls.evalArgs_plain (Calls.spliced_cons (thn (he pins s1 σ H1 _ I1 q1) λiv s2 e0=>bp e0 λy H2 I2 ry q2=>
  Calls.spliced_cons (thn (hf pins s2 σ H2 _ I2 q2) λfv s3 e0=>bp e0 λz H3 I3 rz e4=>e4.elim λov e5=>e5.elim λg q3=>Calls.spliced_nil ?_))))
 exact DF hu I3 g ry rz λw' s4 I4 rw'=>⟨_,H3,I4,rw',q3⟩
theorem E1(ho:PE X o td)(he:PE X e ty)(m:M1 X o "pop" apos e cpos):PE X (.Call (.Attribute o "pop" apos) [e] [] cpos) (Et td ty):=by
 intro pins s σ H Q I h;refine wpAny_Call_method m.base m.few m.line PySem.F.plainAttrs_dict PySem.F.slot_dict_pop PySem.F.type_dict_pop (thn (ho pins s σ H _ I h) λu s1 e0=>bp e0 λx H1 I1 rx e4=>e4.elim λa e5=>e5.elim λex e6=>e6.elim λd q1=>?_);subst ex;obtain rfl:u=Value.ref a:=rx;obtain⟨t1,t2,_⟩:=AE I1 d;refine⟨t1,t2,?_⟩;rw[m.trees];refine Calls.callWith_builtin rfl (Calls.evalArgs_plain (Calls.spliced_cons (thn (he pins s1 σ H1 _ I1 q1) λiv s2 e0=>bp e0 λy H2 I2 ry e4=>e4.elim λkvs e5=>e5.elim λk e6=>e6.elim λv e7=>e7.elim λea e8=>e8.elim λey e9=>e9.elim λl q2=>Calls.spliced_nil ?_)));subst ey;exact Io I2 ea ry l (.inl rfl) λw' s3 I3 rw'=>⟨v,_,I3,rw',q2⟩
end
section
variable {X:Cx}{pins:List (ae×aB)}{σ:St}{H:Hp}{s:aj}{a:ae}{kvs:List (Key×V)}{A:aX}{E:af->aj->Prop}
end
section
variable {X:Cx}{pins:List (ae×aB)}{σ:St}{H:Hp}{s:aj}{a:ae}{y:V}{u:af}{A:aX}{E:af->aj->Prop}
end
end L2
namespace Att
open PySem PySem.W PySem.Calls PyProof.Rows
theorem DA{P:Params}{h:aH}:∀(ns:List Int) (vs:List af),WellAll P h vs (ns.map WData.int)->IntsAre vs ns:=by
 intro ns
 induction ns with
 |nil=>
   intro vs w;rw[gq]at w;cases w;exact .nil
 |cons n ns ih=>
   intro vs w;rw[bD]at w;cases w with
   |cons a b=>
     cases a;exact .cons _ _ (ih _ b)
theorem El{l:OpenLaw}{n:Nat}(hn:l.most=some n){P:Params}{h:aH}{args:List WData}{vals:List af}
  (hpre:l.row.toRowW.claim.pre args=true) (hwl:WellAll P h vals args) :
  ∃a vs ns,vals=[Value.ref a]/\args=[WData.list (ns.map WData.int)]/\h.get? a=some { cls:=.type "list",data:=.seq vs.toArray }/\IntsAre vs ns/\ns.length≤n:=by
 have hsh:WShape.hasAll [] args [.list .int]=true:=(pre_splitW hpre).1;have hc:l.pre.holds [] { args:=args }=true:=(pre_splitW hpre).2;obtain⟨d,r,rfl,h1,h2⟩:=hasAllW_cons hsh;obtain rfl:=hasAllW_nil h2;obtain⟨xs,rfl,h3⟩:=hasW_list h1;obtain⟨ns,rfl⟩:=items_int h3;have hlen:ns.length≤n:=by
  unfold OpenLaw.pre at hc;have h4:(WTm.not (.lt (.lit (.int (n:Int))) (.len (.arg 0)))).holds [] { args:=[.list (ns.map .int)] }=true:=by
   have h4:=(holds_andW hc).1;rw[hn]at h4;exact h4
  have h5:=condW_of h4 (w_not (w_lt w_lit (w_len_list (w_arg rfl))));rw[c6]at h5;refine kJ λq=>?_;have q':(n:Int)<((ns.length:Nat):Int):=by lia
  first
   |(rw[decide_eq_true q']at h5;exact absurd h5 (by decide))
   |(simp at h5;lia)
 cases hwl with
 |cons w1 w2=>
   cases w2;cases w1 with
   |list ho hall=>exact⟨_,_,ns,rfl,rfl,ho,DA ns _ hall,hlen⟩
theorem C7(l:OpenLaw)(args:List WData):l.row.toRowW.claim.post args (.bool true) args=true:=
 postW_of (r:=l.row.toRowW) (X:=(true == true))
  (show WShape.has [] (.bool true) .bool=true by first|rfl|decide|simp[WShape.has,WShape.arms,WShape.armsAll])
  (show(WTm.eq .res (.lit (.bool true))).value [] { args:=args,res:=some (.bool true),after:=args }=some (.bool (true == true)) from w_eq_bool (w_res rfl) w_lit) rfl
theorem attach_call{l:OpenLaw}{n:Nat}{q:bi}{loose:List Str}{XP:(Str->Option af)->aH->Prop}{YP:aQ->aH->Prop}{d:DefRec}
  (hn:l.most=some n) (hdf:d.params.defaults=[])
  (call:∀(w:aQ) (s₀ s₁:aj) (mg mb:Str->Option af) (fa:ae) (o:aB) (pm cd doc:af) (a:ae) (vs:List af) (ns:List Int),
   Ground q loose [] XP w s₀ mg mb s₁.heap->YP w s₁.heap ->
   s₁.heap.get? fa=some o->o.data=.func (docDef d.name d.params d.body d.scope pm cd doc)->s₁.heap.CodeRec cd d.name->mg d.name=some (.ref fa) ->
   s₁.heap.get? a=some { cls:=.type "list",data:=.seq vs.toArray }->IntsAre vs ns->ns.length≤n->s₁.gens=#[] ->
   codeAny (av l.prog w) callerA (.call (.ref fa) ⟨[.ref a],[]⟩) (λr s'=>r=.ok (.ret (.bool true))/\OldK s₁.heap s'.heap/\s'.os=s₁.os/\AllBare s'.gens) s₁) :
  WalkO q loose XP YP l.row.toRowW d [] (λf vs=>PySem.call f vs):=by
 intro w s₀ s₁ mg mb G Y fa o pm cd doc dV kV ho hd hcd hD hmg hg args vals as hpre hlay hrd hwl hlo;obtain rfl:dV=.none:=Dflts.none hD hdf;obtain rfl:kV=.none:=Dflts.noKw hD;obtain⟨a,vs,ns,rfl,rfl,hobj,hints,hlen⟩:=El hn hpre hwl;refine enter_call (codeAny_mono (call w s₀ s₁ mg mb fa o pm cd doc a vs ns G Y ho (fd_plain hd) hcd hmg hobj hints hlen hg) λr s' hq=>?_);obtain⟨rfl,h2,h3,h4⟩:=hq;exact⟨.inl ⟨.bool true,.bool true,[],rfl,λ_=>rfl,.bool true,C7 l _,λ_=>⟨List.Pairwise.nil,λ_ hm=>(nomatch hm)⟩⟩,h2,h3,h4⟩
section
variable {prog:bi}{w:aQ}{A:aX}{E:af->aj->Prop}{s:aj}{K:Frag}
end
end Att
namespace L2
open PySem PySem.Spec PyProof.Rows
theorem yE:∀{vs:List af}{ns:List Int},IntsAre vs ns->Vals (ns.map V.int) vs
 |_,_,.nil=>.nil
 |_,_,.cons n t h=>.cons ⟨t,rfl⟩ (yE h)
end L2
/- THE LAST THEOREM (shape;LID,My.* are yours):
  My.Adr: a structure of the addresses that your layer names (classes,functions);My.Txt K t: a structure (Prop) of the equations over K;
  My.txt_mk:{K} {implicit addresses ..} (e1:nsIn K dz "law"=some (some (.ref f))) (e2:K.lookup f=some ⟨oc,od,.func (fnOf "law" "law" params body scope dV kV doc pm an cdv ct),sl⟩) (e3:codeIn K cdv "law"=true) ..:∃t,My.Txt K t
set_option maxRecDepth 100000 in
set_option maxHeartbeats 0 in
theorem PySem.Challenge.cw_LID_holds:PySem.Challenge.rw_LID.Holds:=by
 w_on;o_law;k_head;(case hw=>w_witness2)
 k_fill
 refine L2.walk_of (l:=PySem.Challenge.rw_LID) (n:=63) (k:=40) (x:="script") (CX:=λw=>..) (sp:=λ_=>My.sp_law) rfl (by decide) rfl ⟨rfl,by decide,by decide⟩ (λw h Y=>PySem.W.kIn_of Y) ?F ?S ?C
 case F=>
  intro w mg fa h KX G hmg;have T:∃t,My.Txt (L2.KOf KX) t:=by
   dsimp only[L2.KOf]                          -- K must stand as «<heap const> w.params» for k_is;refine' My.txt_mk ?e1 ?e2 ?e3 ..
   (case e1=>PySem.W.k_is)                    -- in the order: a name -> its address -> its object -> its parts
   (case e2=>PySem.W.k_is)
   ..
  obtain⟨t,T⟩:=T;have e0:=hmg.symm.trans (PySem.W.mg_of KX G T.law);cases e0                                       -- fa is the law's own address;exact⟨_,λs u=>.of_eq rfl,λbase kb nb=>My.law_fn T kb nb⟩     -- if «.of_eq rfl» comes too early: refine' ⟨_,?b,λbase kb nb=>My.law_fn T kb nb⟩;exact λs u=>.of_eq rfl
 case S=>exact λw H a ns hl hO hS=>..
 case C=>exact ..
(the tactic k_is has no namespace: write k_is) -/
namespace L2
open PySem PySem.Spec PyProof.Rows
noncomputable def cP(s:aP)(j:Nat):aP:=match s with
 |.ClassDef _ _ _ body _ _ _ _ _ _ _=>body.getD j (.Pass ⟨0,0,0,0⟩)
 |_=>.Pass ⟨0,0,0,0⟩
noncomputable def mv(s:aP):Arguments:=match s with
 |.FunctionDef _ a _ _ _ _ _ _ _ _=>a
 |_=>{ posonlyargs:=[],args:=[],vararg:=none,kwonlyargs:=[],kw_defaults:=[],kwarg:=none,defaults:=[] }
noncomputable def iC(s:aP):List aP:=match s with
 |.FunctionDef _ _ b _ _ _ _ _ _ _=>b
 |_=>[]
noncomputable def bg(s:aP):Scope:=match s with
 |.FunctionDef _ _ _ _ _ _ sc _ _ _=>sc
 |_=>{ kind:=.function,names:=[],isGenerator:=false,isCoroutine:=false }
structure Fun(K:PySem.W.Frag)(x qual:Str)(st:aP)(f:ae)(fd:bc):Prop where
 ex:∃(oc:af) (od:Option ae) (kV doc pm:af) (an:Option ae) (cdv ct:af) (osl:Array (Option af)),
  fd=PySem.W.fnOf x qual (mv st) (iC st) (bg st) .none kV doc pm an cdv ct/\K.lookup f=some ⟨oc,od,.func fd,osl⟩/\PySem.W.codeIn K cdv qual=true
 kp:PySem.W.keepIn K (.ref f)=true
section
variable {P:bi}{w:aQ}{K:PySem.W.Frag}{mg:Str->Option af}{base:aH}
theorem EE{x qual:Str}{st:aP}{f:ae}{oc:af}{od an:Option ae}{osl:Array (Option af)}{kV doc pm cdv ct:af}(l:K.lookup f=some ⟨oc,od,.func (PySem.W.fnOf x qual (mv st) (iC st) (bg st) .none kV doc pm an cdv ct),osl⟩)
  (c:PySem.W.codeIn K cdv qual=true) (k:PySem.W.keepIn K (.ref f)=true):Fun K x qual st f (PySem.W.fnOf x qual (mv st) (iC st) (bg st) .none kV doc pm an cdv ct):=⟨⟨oc,od,kV,doc,pm,an,cdv,ct,osl,rfl,l,c⟩,k⟩
end
theorem bS{A:aX}{k:Nat}(hr:Room k A):A.units+1<cLine:=pK (Nat.add_le_add_left (by decide:1≤64) _) hr.units
theorem EZ{n:Nat}(h:n≤1000):n<aV:=pK h (by decide)
section
variable {X:Cx}
end
section
variable {X:Cx}
theorem DE:dR X (.builtin "len") (λxs H Q=>∃a kvs,xs=[V.ref a]/\H a=some (.dK kvs)/\Q (.int kvs.length) H):=by
 intro pins s σ H xs us Q I r h;obtain⟨a,kvs,rfl,ha,q⟩:=h;obtain⟨u,rfl,ru⟩:=vals1 r;cases ru;exact Ch I (.inl ha) λt s' I'=>⟨.int kvs.length,H,I',⟨t,rfl⟩,q⟩
end
section
variable {κ:Type}[DecidableEq κ]
end
end L2
namespace L2.Rv
open PySem PySem.Spec PySem.W PyProof.Rows
section
variable {prog:bi}{w:aQ}{A:aX}{E:af->aj->Prop}{s:aj}{K:Frag}{x C:ae}{ox:aB}
theorem Fl{M:Model}{v:af}{Q:Unit->aj->Prop}(kx:K.In s.heap)(I:InstAt s.heap x ox C none)(hsub:subIn K (.ref C) (.type "BaseException")=some true)(hQ:Q () s) :
  aq M A (checkBuiltinCall "BaseException.__getattribute__" ⟨[.ref x,v],[]⟩) Q E s:=by
 have hsplit:splitId "BaseException.__getattribute__"=some ("BaseException","__getattribute__"):=by decide +kernel
 have hk:builtinKind "BaseException.__getattribute__"=some .slot:=by decide +kernel
 have ha:=F.args_bexc_ga (.ref x) v;obtain⟨hh,g,d,t,os⟩:=s;have L0:=I.type (M:=M);have L1:=looks_subIn (M:=M) kx hsub;simp only[checkBuiltinCall,hk,hsplit];unfold isInstance;refine ak (ak (L0.at (L1.at ?_)));simp only[lC,c9,if_false];cases hsig:Manifest.signature? "BaseException.__getattribute__" with
 |none=>exact aL hQ
 |some sig=>
   simp only[argsOk,hsig]at ha;exact wpAny_of_eq ha hQ
theorem IS{tk:Tok}{P:af->aj->Prop}(kx:K.In s.heap)(I:InstAt s.heap x ox C none)(hf:findObj K C none "__class__"=some (.bind (.builtin "getset_descriptor.__get__") (.builtin "object.__class__")))
  (hm:mroIn K C (.type "object")=some true) (h:P (.ref C) s) :
  aq (av prog w) A (Builtin.«object.__getattribute__» ⟨[.ref x,.str "__class__" tk],[]⟩) (λfin s'=>match fin with|.done (.ret v)=>P v s'|_=>False) E s:=by
 obtain⟨hh,g,d,t,os⟩:=s;have L0:=I.type (M:=av prog w);have L1:=looks_find (M:=av prog w) kx I hf;unfold Builtin.«object.__getattribute__»;refine ak (aL (ak (aL (ak (L0.at (ak (L1.at ?_)))))));show aq _ _ (holding [Value.builtin "object.__class__"] (call (.builtin "getset_descriptor.__get__") [.builtin "object.__class__",.ref x,.ref C]) >>= ret) _ _ _;exact ak (wpAny_holding (wpAny_call (class_get (s:=⟨hh,g,d,t,os⟩) kx I hm (aL h))))
theorem HE{Q:Option af->aj->Prop}(kx:K.In s.heap)(I:InstAt s.heap x ox C none)(hga:findIn K (.ref C) "__getattribute__"=some (some (.builtin "BaseException.__getattribute__")))(hk:findIn K (.ref C) "__getattr__"=some none)
  (hsub:subIn K (.ref C) (.type "BaseException")=some true) (hf:findObj K C none "__class__"=some (.bind (.builtin "getset_descriptor.__get__") (.builtin "object.__class__"))) (hm:mroIn K C (.type "object")=some true)
  (h:Q (some (.ref C)) { s with toks:=s.toks+1 }):aq (av prog w) A (getAttr? (.ref x) "__class__") Q E s:=by
 obtain⟨hh,g,d,t,os⟩:=s;have L0:=I.type (M:=av prog w);have L1:=looks_findIn (M:=av prog w) kx hga;have L2:=looks_findIn (M:=av prog w) kx hk;have hb:bindSpecial (.builtin "BaseException.__getattribute__") (.ref x)=pure (.builtin "BaseException.__getattribute__",[.ref x]):=F.excAttr_ValueError.ga.bind _;unfold getAttr? getAttrBy? getAttrBy;refine ak (wpAny_mkText (ak (wpAny_attempt (wpAny_holding (ak (L0.at (ak (L1.at ?_))))))));dsimp only;rw[if_neg (show ¬((onTheHeap (Value.ref C)&&(Value.builtin "BaseException.__getattribute__" == Value.builtin "object.__getattribute__"))=true) from by simp)];unfold getAttrByItsOwn hookBefore;rw[if_pos (show onTheHeap (.ref C)=true from rfl)];refine ak (L2.at (ak (wpAny_attempt (wpAny_holding ?_))));unfold callGetattribute boundAndCalled;rw[if_neg (by decide)];refine ak (wpAny_of_eq hb ?_);refine wpAny_call (codeAny_call_builtin F.excAttr_ValueError.ga.plain F.entry_bexc_ga (Fl (s:=⟨hh,g,d,t+1,os⟩) kx I hsub ?_));refine bv (IS (s:=⟨hh,g,d,t+1,os⟩) (P:=λv s'=>aq (av prog w) A (handedOut v) (λv s''=>Q (some v) s'') (λ_ _=>False) s') kx I hf hm (handed_on rfl h)) (λfin s' z=>?_) λ_ _ z=>z;cases fin with
 |done fl=>
   cases fl with
   |ret v=>exact bv z (λ_ _ y=>aL y) (λ_ _ y=>absurd y id)
   |_=>exact z.elim
 |_=>exact z.elim
theorem Db{a:ae}(hga:findIn K (.ref C) "__getattribute__"=some (some (.builtin "BaseException.__getattribute__")))(hk:findIn K (.ref C) "__getattr__"=some none)(hsub:subIn K (.ref C) (.type "BaseException")=some true)
  (hf:findObj K C none "__class__"=some (.bind (.builtin "getset_descriptor.__get__") (.builtin "object.__class__"))) (hm:mroIn K C (.type "object")=some true) (hc:(clsIn K C).isSome=true) :
  KitX K (.ref a) (.ref C) (λhp=>∃o vs,hp.get? a=some o/\o.cls=.ref C/\o.dict=none/\o.data=.fields vs) where
 ty:=λM hp kx e0=>e0.elim λo e1=>e1.elim λvs e2=>e2.elim λe1 e3=>e3.elim λe2 e4=>e4.elim λe3 e4=>(show InstAt hp a o C none from⟨e1,e2,by unfold notCls;rw[e4],by rw[e3];trivial⟩).type
 it:=λM hp kx _=>by
  obtain⟨cd,hcd⟩:=li.mp hc;unfold clsIn at hcd;split at hcd
  ·rename_i z1 z2 z3 z4 ho;intro A' Q' E' s' kk q;unfold isType loadHead;exact ak (wpAny_loadPart (kk _ _ (kx _ _ ho)) (aL q))
  ·cases hcd
 ne:=λhp tp dd its n sl kx htp=>by
  obtain⟨cd,hcd⟩:=li.mp hc;refine Bool.eq_false_iff.mpr λq=>?_;cases Value.ref.inj (beq_iff_eq.mp q);unfold clsIn at hcd
  split at hcd
  ·rename_i z1 z2 z3 z4 ho;have z:=(kx _ _ ho).symm.trans htp;cases z
  ·cases hcd
 ca:=λ{prog w A E Q s} kx ⟨o,vs,e1,e2,e3,e4⟩ k=>HE kx (show InstAt s.heap a o C none from⟨e1,e2,by unfold notCls;rw[e4],by rw[e3];trivial⟩) hga hk hsub hf hm k
theorem Dm:isSubtype (.type "type") (.type "tuple")=pure false:=by rw[isSubtype_type];kernel_rfl
theorem uU{M:Model}{a C':ae}{oe:aB}{b:Bool}{Q:Bool->aj->Prop}(kx:K.In s.heap)(he:s.heap.get? a=some oe)(hc:oe.cls=.ref C)(hty:typeIn K (.ref C')=some (.type "type"))(hcl:(clsIn K C').isSome=true)
  (hex:subIn K (.ref C') (.type "BaseException")=some true) (hsub:subIn K (.ref C) (.ref C')=some b) (h:Q b s):aq M A (excMatches (.ref a) (.ref C')) Q E s:=by
 obtain⟨hh,g,d,t,os⟩:=s;have L0:=looks_typeIn (M:=M) kx hty;have L1:=looks_subIn (M:=M) kx hex;have L2:=looks_subIn (M:=M) kx hsub;have L3:Looks M hh (isType (.ref C')) true:=by
  obtain⟨cd,hcd⟩:=li.mp hcl;unfold clsIn at hcd;split at hcd
  ·rename_i z1 z2 z3 z4 ho;intro A' Q' E' s' kk q;unfold isType loadHead;exact ak (wpAny_loadPart (kk _ _ (kx _ _ ho)) (aL q))
  ·cases hcd
 have L4:Looks M hh (typeOf (.ref a)) (.ref C):=hc▸(Looks.ld he).andThen .now;unfold excMatches isInstance isExcClass;refine ak (ak (L0.at (wpAny_of_eq Dm ?_)));simp only[c9,if_false];refine ak (aL ?_);simp only[j7,i6];refine ak (ak (ak (ak (L3.at ?_))));rw[if_pos rfl];refine L1.at ?_;simp only[lC,c9,if_false];refine aL (aL (ak (L4.at (ak (ak (ak (L2.at ?_)))))));cases b with
 |true=>exact aL (aL (aL h))
 |false=>exact aL (aL (aL h))
end
end L2.Rv
namespace L2.Rv
open PySem.W PyProof.Rows
noncomputable def c8{α:Type}(ask:Nat->Nat->Option Bool):KasT α->Option α
 |.ret a=>some a
 |.ask i j k=>match ask i j with
   |some b=>c8 ask (k b)
   |none=>none
theorem lE{α β:Type}{ask:Nat->Nat->Option Bool}{f:α->KasT β}:∀(t:KasT α),c8 ask (t.bind f)=(c8 ask t).bind λa=>c8 ask (f a)
 |.ret a=>rfl
 |.ask i j k=>by
   simp only[KasT.bind,c8];cases ask i j with
   |none=>rfl
   |some b=>exact lE (k b)
structure SOrd(ask:Nat->Nat->Option Bool)(lt:Nat->Nat->Bool)(n:Nat):Prop where
 an:∀i j,i<n->j<n->i≠j->ask i j=some (lt i j)
 tot:∀i j,i<n->j<n->i≠j->lt i j=false->lt j i=true
 asy:∀i j,i<n->j<n->lt i j=true->lt j i=false
 tr:∀i j k,i<n->j<n->k<n->lt i j=true->lt j k=true->lt i k=true
structure SPm(n:Nat)(p:Array Nat):Prop where
 pm:p.Perm (cK n).toArray
section
variable {ask:Nat->Nat->Option Bool}{lt:Nat->Nat->Bool}{n:Nat}{p:Array Nat}
theorem SPm.size(P:SPm n p):p.size=n:=by have:=P.pm.size_eq;simpa using this
theorem SPm.list(P:SPm n p):p.toList.Perm (cK n):=by have:=Array.perm_iff_toList_perm.mp P.pm;simpa using this
theorem SPm.lo(P:SPm n p){i:Nat}(hi:i<n):p.getD i 0<n:=by
 have hs:=P.size;have hi':i<p.size:=by lia
 have e:p.getD i 0=p[i]:=by simp[Array.getD,hi']
 rw[e];have:p[i]∈p.toList:=by simp
 have:=P.list.mem_iff.mp this;simpa using this
theorem SPm.inj(P:SPm n p){i j:Nat}(hi:i<n)(hj:j<n)(hne:i≠j):p.getD i 0≠p.getD j 0:=by
 have hs:=P.size;have hi':i<p.size:=by lia
 have hj':j<p.size:=by lia
 have nd:p.toList.Nodup:=P.list.nodup_iff.mpr List.nodup_range;have ei:p.getD i 0=p.toList[i]'(by simpa using hi'):=by simp[Array.getD,hi']
 have ej:p.getD j 0=p.toList[j]'(by simpa using hj'):=by simp[Array.getD,hj']
 rw[ei,ej];intro z;have pw:=qF.mp nd;rcases Nat.lt_or_gt_of_ne hne with q|q
 ·exact pw i j _ _ q z
 ·exact pw j i _ _ q z.symm
abbrev SUp(lt:Nat->Nat->Bool)(p:Array Nat)(k:Nat):Prop:=∀i j,i<j->j<k->lt (p.getD i 0) (p.getD j 0)=true
abbrev SDn(lt:Nat->Nat->Bool)(p:Array Nat)(k:Nat):Prop:=∀i j,i<j->j<k->lt (p.getD j 0) (p.getD i 0)=true
theorem uK(O:SOrd ask lt n)(P:SPm n p):∀(f a:Nat),1≤a->a+f≤n->SUp lt p a->∃m,c8 ask (kas_asc p f a)=some m/\a≤m/\m≤a+f/\SUp lt p m/\(m<a+f->lt (p.getD m 0) (p.getD (m-1) 0)=true)
 |0,a,_,_,u=>⟨a,rfl,aU _,aU _,u,λz=>absurd z (gU _)⟩
 |f+1,a,h1,h2,u=>by
   have b1:a<n:=by lia
   have b2:a-1<n:=by lia
   have e:=O.an _ _ (P.lo b1) (P.lo b2) (P.inj b1 b2 (by lia));unfold kas_asc;simp only[c8,e];cases c:lt (p.getD a 0) (p.getD (a-1) 0) with
   |true=>exact⟨a,rfl,aU _,by lia,u,λ_=>c⟩
   |false=>
     have t:=O.tot _ _ (P.lo b1) (P.lo b2) (P.inj b1 b2 (by lia)) c;have u':SUp lt p (a+1):=λi j hij hj=>by
      by_cases hja:j<a
      ·exact u i j hij hja
      ·have ej:j=a:=by lia
       subst ej;by_cases hi:i=j-1
       ·subst hi;exact t
       ·exact O.tr _ _ _ (P.lo (by lia)) (P.lo b2) (P.lo b1) (u i (j-1) (by lia) (by lia)) t
     obtain⟨m,q1,q2,q3,q4,q5⟩:=uK O P f (a+1) (by lia) (by lia) u';exact⟨m,by simpa using q1,by lia,by lia,q4,λz=>q5 (by lia)⟩
theorem xw(O:SOrd ask lt n)(P:SPm n p):∀(f a:Nat),1≤a->a+f≤n->SDn lt p a->∃m,c8 ask (kas_desc f p a 0)=some (p,m,0)/\a≤m/\m≤a+f/\SDn lt p m
 |0,a,_,_,u=>⟨a,rfl,aU _,aU _,u⟩
 |f+1,a,h1,h2,u=>by
   have b1:a<n:=by lia
   have b2:a-1<n:=by lia
   have e:=O.an _ _ (P.lo b1) (P.lo b2) (P.inj b1 b2 (by lia));have e':=O.an _ _ (P.lo b2) (P.lo b1) (P.inj b2 b1 (by lia));unfold kas_desc;simp only[c8,e];cases c:lt (p.getD a 0) (p.getD (a-1) 0) with
   |true=>
     have u':SDn lt p (a+1):=λi j hij hj=>by
      by_cases hja:j<a
      ·exact u i j hij hja
      ·have ej:j=a:=by lia
       subst ej;by_cases hi:i=j-1
       ·subst hi;exact c
       ·exact O.tr _ _ _ (P.lo b1) (P.lo b2) (P.lo (by lia)) c (u i (j-1) (by lia) (by lia))
     obtain⟨m,q1,q2,q3,q4⟩:=xw O P f (a+1) (by lia) (by lia) u';exact⟨m,by simpa using q1,by lia,by lia,q4⟩
   |false=>
     have t:=O.tot _ _ (P.lo b1) (P.lo b2) (P.inj b1 b2 (by lia)) c;refine⟨a,?_,aU _,by lia,u⟩;simp only[c9,if_false,c8,e',t,if_true]
theorem zZ{j k:Nat}(hj:j≤p.size)(hk:k<p.size):(kas_rev p 0 j).getD k 0=if k<j then p.getD (j-1-k) 0 else p.getD k 0:=by
 have e:=getElem?_mirror_all (xs:=p) (i:=0) hj k;have h1:(kas_rev p 0 j).getD k 0=((kas_rev p 0 j)[k]?).getD 0:=by simp
 rw[h1];unfold kas_rev;rw[e];by_cases c:k<j
 ·rw[if_pos ⟨fg _,c⟩,if_pos c];simp
 ·rw[if_neg (by lia),if_neg c];simp
theorem C2(P:SPm n p){k:Nat}(hk:k≤n)(d:SDn lt p k):SPm n (kas_rev p 0 k)/\SUp lt (kas_rev p 0 k) k:=by
 have hs:=P.size;refine⟨⟨(mirror_perm _ _ _ _).trans P.pm⟩,λi j hij hj=>?_⟩;rw[zZ (by lia) (by lia),zZ (by lia) (by lia),if_pos (by lia),if_pos (by lia)];exact d _ _ (by lia) (by lia)
theorem Fk(O:SOrd ask lt n)(P:SPm n p)(hn:1≤n):∃m p',c8 ask (kas_count n p)=some (m,p')/\SPm n p'/\1≤m/\m≤n/\SUp lt p' m:=by
 obtain⟨m,q1,q2,q3,q4,q5⟩:=uK O P (n-1) 1 (aU _) (by lia) (λi j hij hj=>by lia);unfold kas_count;rw[lE,q1];show ∃m' p',c8 ask (if(m == n)=true then _ else _)=_/\_;by_cases hm:m=n
 ·rw[if_pos (by simpa using hm)];exact⟨m,p,rfl,P,q2,by lia,q4⟩
 ·rw[if_neg (by simpa using hm)];by_cases h1:m>1
  ·rw[if_pos h1];have e:=O.an _ _ (P.lo (i:=0) (by lia)) (P.lo (i:=m-1) (by lia)) (P.inj (by lia) (by lia) (by lia));have t:=q4 0 (m-1) (by lia) (by lia);simp only[c8,e,t,if_true];exact⟨m,p,rfl,P,q2,by lia,q4⟩
  ·rw[if_neg h1];have em:m=1:=by lia
   subst em;have d2:SDn lt p 2:=λi j hij hj=>by
    have:i=0:=by lia
    have:j=1:=by lia
    subst i;subst j;exact q5 (by lia)
   obtain⟨k,w1,w2,w3,w4⟩:=xw O P (n-2) 2 (by lia) (by lia) d2;unfold kas_descPart;rw[lE,w1];show ∃m' p',c8 ask (if 0>0 then _ else kas_tail3 k n p)=_/\_;rw[if_neg (by lia)];obtain⟨P2,U2⟩:=C2 P (k:=k) (by lia) w4;obtain⟨m,r1,r2,r3,r4,r5⟩:=uK O P2 (n-k) k (by lia) (by lia) U2;unfold kas_tail3;rw[lE,r1];exact⟨m,_,rfl,P2,by lia,by lia,r4⟩
theorem tV(O:SOrd ask lt n)(P:SPm n p){k:Nat}(hk:k<n):∀(f l r:Nat),l≤r->r≤k->r-l≤f->(∀i,i<l->lt (p.getD i 0) (p.getD k 0)=true)->(∀i,r≤i->i<k->lt (p.getD k 0) (p.getD i 0)=true)->SUp lt p k ->
  ∃l',c8 ask (kas_place p k f l r)=some l'/\l'≤k/\(∀i,i<l'->lt (p.getD i 0) (p.getD k 0)=true)/\(∀i,l'≤i->i<k->lt (p.getD k 0) (p.getD i 0)=true)
 |0,l,r,h1,h2,h3,a,b,u=>⟨l,rfl,by lia,a,λi x y=>b i (by lia) y⟩
 |f+1,l,r,h1,h2,h3,a,b,u=>by
   unfold kas_place;by_cases c:l≥r
   ·rw[if_pos c];exact⟨l,rfl,by lia,a,λi x y=>b i (by lia) y⟩
   ·rw[if_neg c];have hm:(l+r)/2<k:=by lia
    have e:=O.an _ _ (P.lo hk) (P.lo (i:=(l+r)/2) (by lia)) (P.inj hk (by lia) (by lia));simp only[c8,e];cases t:lt (p.getD k 0) (p.getD ((l+r)/2) 0) with
    |true=>
      simp only[if_true];refine tV O P hk f l ((l+r)/2) (by lia) (by lia) (by lia) a (λi x y=>?_) u;by_cases z:i=(l+r)/2
      ·subst z;exact t
      ·exact O.tr _ _ _ (P.lo hk) (P.lo (by lia)) (P.lo (by lia)) t (u _ _ (by lia) y)
    |false=>
      have t':=O.tot _ _ (P.lo hk) (P.lo (i:=(l+r)/2) (by lia)) (P.inj hk (by lia) (by lia)) t;simp only[c9,if_false];refine tV O P hk f ((l+r)/2+1) r (by lia) (by lia) (by lia) (λi x=>?_) b u;by_cases z:i=(l+r)/2
      ·subst z;exact t'
      ·exact O.tr _ _ _ (P.lo (by lia)) (P.lo (i:=(l+r)/2) (by lia)) (P.lo hk) (u _ _ (by lia) hm) t'
theorem zd{k d i:Nat}(hk:k<p.size)(hd:d≤k):(bubble p k d).getD i 0=if i=k-d then p.getD k 0 else if k-d<i/\i≤k then p.getD (i-1) 0 else p.getD i 0:=by
 have e:=getElem?_bubble hk d hd i;have h1:(bubble p k d).getD i 0=((bubble p k d)[i]?).getD 0:=by simp
 rw[h1,e];have g:∀q:Nat,(p[q]?).getD 0=p.getD q 0:=λq=>by simp
 by_cases c1:i=k-d
 ·rw[if_pos c1,if_pos c1];exact g _
 ·rw[if_neg c1,if_neg c1];by_cases c2:k-d<i/\i≤k
  ·rw[if_pos c2,if_pos c2];exact g _
  ·rw[if_neg c2,if_neg c2];exact g _
theorem vR(O:SOrd ask lt n):∀(f k:Nat) (p:Array Nat),SPm n p->k+f≤n->SUp lt p k->∃p',c8 ask (kas_bin f p k)=some p'/\SPm n p'/\SUp lt p' (k+f)
 |0,k,p,P,_,u=>⟨p,rfl,P,u⟩
 |f+1,k,p,P,h,u=>by
   have hs:=P.size;obtain⟨l,q1,q2,q3,q4⟩:=tV O P (k:=k) (by lia) k 0 k (by lia) (aU _) (by lia) (λi z=>by lia) (λi x y=>by lia) u;unfold kas_bin;rw[lE,q1];have P2:SPm n (bubble p k (k-l)):=⟨(bubble_perm _ _ _).trans P.pm⟩;have U2:SUp lt (bubble p k (k-l)) (k+1):=λi j hij hj=>by
    rw[zd (by lia) (by lia),zd (by lia) (by lia)];have e:k-(k-l)=l:=by lia
    rw[e];by_cases a1:i=l
    ·rw[if_pos a1,if_neg (by lia),if_pos (by lia)];exact q4 (j-1) (by lia) (by lia)
    ·rw[if_neg a1];by_cases a2:j=l
     ·rw[if_pos a2,if_neg (by lia)];exact q3 i (by lia)
     ·rw[if_neg a2];by_cases b1:l<i/\i≤k
      ·rw[if_pos b1,if_pos (by lia)];exact u _ _ (by lia) (by lia)
      ·rw[if_neg b1];by_cases b2:l<j/\j≤k
       ·rw[if_pos b2];exact u _ _ (by lia) (by lia)
       ·rw[if_neg b2];exact u _ _ (by lia) (by lia)
   obtain⟨p',r1,r2,r3⟩:=vR O f (k+1) _ P2 (by lia) U2;exact⟨p',r1,r2,(show k+1+f=k+(f+1) by lia)▸r3⟩
theorem Dy(O:SOrd ask lt n)(hn:1≤n):∃p,c8 ask (kas_sort n)=some p/\SPm n p/\SUp lt p n:=by
 obtain⟨m,p',q1,q2,q3,q4,q5⟩:=Fk O (p:=(cK n).toArray) ⟨Array.Perm.refl _⟩ hn;unfold kas_sort;rw[lE,q1];show ∃p,c8 ask (if m<n then kas_bin (n-max m 1) p' (max m 1) else .ret p')=some p/\_;have em:max m 1=m:=by lia
 rw[em];by_cases h:m<n
 ·rw[if_pos h];obtain⟨p2,r1,r2,r3⟩:=vR O (n-m) m p' q2 (by lia) q5;exact⟨p2,r1,r2,(show m+(n-m)=n by lia)▸r3⟩
 ·rw[if_neg h];have:m=n:=by lia
  subst this;exact⟨p',rfl,q2,q5⟩
end
end L2.Rv
namespace L2.Rv
noncomputable section
open PySem (Str)
inductive MV where
 |non|bl (b:Bool)|int (i:Int)|str (s:Str)|ref (n:Nat)|scr (ns:List Int)|tup (xs:List MV)|any
instance:DecidableEq MV:=λ_ _=>sL _
inductive MO where
 |lst (xs:List MV)|dct (kvs:List (Str×MV))|ins (c:Nat) (fs:List (String×MV))|exn (c:Nat)
  |frz (kvs:List (Str×MV))
instance:DecidableEq MO:=λ_ _=>sL _
abbrev MH:=List MO
inductive Res(α:Type) where
 |ok (a:α) (h:MH)|exc (c:Nat) (h:MH)|stuck
abbrev M(α:Type):=MH->Res α
noncomputable def bnd{α β:Type}(m:M α)(f:α->M β):M β:=λh=>match m h with
 |.ok a h'=>f a h'
 |.exc c h'=>.exc c h'
 |.stuck=>.stuck
noncomputable def ret{α:Type}(a:α):M α:=λh=>.ok a h
noncomputable def stk{α:Type}:M α:=λ_=>.stuck
noncomputable def rse{α:Type}(c:Nat):M α:=λh=>.exc c h
noncomputable def new(o:MO):M MV:=λh=>.ok (.ref h.length) (h++[o])
noncomputable def look(n:Nat):M MO:=λh=>match h[n]? with
 |some o=>.ok o h
 |none=>.stuck
noncomputable def put(n:Nat)(o:MO):M Unit:=λh=>if n<h.length then .ok () (h.set n o) else .stuck
abbrev MSt:=List (Option MV)
abbrev ME:=MSt->M MV
inductive MF where
 |next (σ:MSt)|brk (σ:MSt)|cnt (σ:MSt)|ret (v:MV)
abbrev MS:=MSt->M MF
noncomputable def ah(i:Nat):ME:=λσ=>match σ[i]? with
 |some (some v)=>ret v
 |_=>stk
noncomputable def eC(v:MV):ME:=λ_=>ret v
abbrev Op2:=MV->MV->M MV
abbrev Op1:=MV->M MV
noncomputable def aC(f:Op2)(a b:ME):ME:=λσ=>bnd (a σ) λx=>bnd (b σ) λy=>f x y
noncomputable def eUn(f:Op1)(a:ME):ME:=λσ=>bnd (a σ) f
noncomputable def asB:MV->M Bool
 |.bl b=>ret b
 |_=>stk
noncomputable def tst(g:ME)(σ:MSt):M Bool:=bnd (g σ) asB
noncomputable def lR(a:ME):ME:=λσ=>bnd (tst a σ) λb=>ret (.bl (!b))
noncomputable def jM(a b:ME):ME:=λσ=>bnd (tst a σ) λc=>if c=true then b σ else ret (.bl false)
noncomputable def eOr(a b:ME):ME:=λσ=>bnd (tst a σ) λc=>if c=true then ret (.bl true) else b σ
noncomputable def eIf(c a b:ME):ME:=λσ=>bnd (tst c σ) λk=>if k=true then a σ else b σ
abbrev MA:=MSt->M (List MV)
noncomputable def az:MA:=λ_=>ret []
noncomputable def ao(e:ME)(r:MA):MA:=λσ=>bnd (e σ) λx=>bnd (r σ) λxs=>ret (x::xs)
noncomputable def dX(a:MA):ME:=λσ=>bnd (a σ) λxs=>if xs.length≤1000 then new (.lst xs) else stk
noncomputable def f6(a:MA):ME:=λσ=>bnd (a σ) λxs=>if xs.length≤1000 then ret (.tup xs) else stk
abbrev Fn:=List MV->M MV
noncomputable def cF(f:Fn)(a:MA):ME:=λσ=>bnd (a σ) f
noncomputable def gs(c:Nat)(f:Fn)(a:MA):ME:=λσ=>bnd (a σ) λxs=>bnd (new (.ins c [])) λo=>bnd (f (o::xs)) λv=>match v with
 |.non=>ret o
 |_=>stk
noncomputable def aZ(c:Nat)(mth:String)(f:Fn)(o:ME)(a:MA):ME:=λσ=>bnd (o σ) λx=>match x with
 |.ref n=>bnd (look n) λob=>match ob with
   |.ins c' fs=>if c'=c/\fs.lookup mth=none then bnd (a σ) λxs=>f (x::xs) else stk
   |_=>stk
 |_=>stk
noncomputable def aW(o:ME)(cs:List Nat)(f:String):ME:=λσ=>bnd (o σ) λx=>match x with
 |.ref n=>bnd (look n) λob=>match ob with
   | .ins c fs=>if cs.contains c=true then (match fs.lookup f with
     |some v=>ret v
     | none=>stk) else stk
   |_=>stk
 |_=>stk
noncomputable def dM:Op2:=λx y=>match x,y with
 |.int i,.int j=>ret (.int (i+j))
 |.str i,.str j=>if i.length+j.length≤100000 then ret (.str (i++j)) else stk
 |.ref a,.ref b=>bnd (look a) λoa=>bnd (look b) λob=>match oa,ob with
   |.lst xs,.lst ys=>if xs.length+ys.length≤100000 then new (.lst (xs++ys)) else stk
   |_,_=>stk
 |_,_=>stk
noncomputable def gM:Op2:=λx y=>match x,y with
 |.int i,.int j=>ret (.int (i-j))
 |_,_=>stk
noncomputable def kB:Op2:=λx y=>match x,y with
 |.int i,.int j=>if(-(2 ^ 64)<i/\i<2 ^ 64)∨(-(2 ^ 64)<j/\j<2 ^ 64) then ret (.int (i*j)) else stk
 |.ref a,.int k=>bnd (look a) λo=>match o with
   |.lst xs=>if -1000000≤k/\k≤1000000/\xs.length*k.toNat≤100000 then new (.lst (br k.toNat xs).flatten) else stk
   |_=>stk
 |_,_=>stk
noncomputable def gA:Op2:=λx y=>match x,y with
 |.int i,.int j=>if 0<j then ret (.int (i%j)) else stk
 |_,_=>stk
noncomputable def vc:Op1:=λx=>match x with
 |.int i=>ret (.int (-i))
 |_=>stk
noncomputable def oLt:Op2:=λx y=>match x,y with
 |.int i,.int j=>ret (.bl (decide (i<j)))
 |_,_=>stk
noncomputable def oGt:Op2:=λx y=>match x,y with
 |.int i,.int j=>ret (.bl (decide (j<i)))
 |_,_=>stk
noncomputable def oGe:Op2:=λx y=>match x,y with
 |.int i,.int j=>ret (.bl (decide (j≤i)))
 |_,_=>stk
noncomputable def il:MV->Bool
 |.non=>true
 |_=>false
noncomputable def mM:Op1:=λx=>match x with
 |.any=>stk
 |x=>ret (.bl (il x))
noncomputable def lK:Op1:=λx=>match x with
 |.any=>stk
 |x=>ret (.bl (!il x))
noncomputable def dget(k:Str):List (Str×MV)->Option MV
 |[]=>none
 |(a,v)::r=>if a=k then some v else dget k r
noncomputable def dput(k:Str)(v:MV)(kvs:List (Str×MV)):List (Str×MV):=if(dget k kvs).isSome=true then kvs.map (λkv=>if kv.1=k then(kv.1,v) else kv) else kvs++[(k,v)]
noncomputable def lQ(k:Str)(kvs:List (Str×MV)):List (Str×MV):=kvs.filter λkv=>decide (kv.1≠k)
noncomputable def atN{α:Type}(xs:List α)(i:Int):Option α:=
 if 0≤i then xs[i.toNat]? else if -(xs.length:Int)≤i then xs[(i+xs.length).toNat]? else none
noncomputable def oIx:Op2:=λx y=>match x,y with
 |.ref a,.int i=>bnd (look a) λo=>match o with
   | .lst xs=>(match atN xs i with
     |some v=>ret v
     | none=>stk)
   |_=>stk
 | .tup xs,.int i=>(match atN xs i with
   |some v=>ret v
   | none=>stk)
 | .scr ns,.int i=>(match atN ns i with
   |some v=>ret (.int v)
   | none=>stk)
 | .str s,.int i=>if s.length≤100000 then (match atN s.cps.toList i with
   |some c=>ret (.str ⟨#[c]⟩)
   | none=>stk) else stk
 |.ref a,.str k=>bnd (look a) λo=>match o with
   | .dct kvs=>(match dget k kvs with
     |some v=>ret v
     | none=>stk)
   |_=>stk
 |_,_=>stk
noncomputable def cR:Op1:=λx=>match x with
 |.ref a=>bnd (look a) λo=>match o with
   |.lst xs=>ret (.int xs.length)
   |.dct xs=>ret (.int xs.length)
   |_=>stk
 |.str s=>if s.length≤100000 then ret (.int s.length) else stk
 |.scr ns=>ret (.int ns.length)
 |.tup xs=>ret (.int xs.length)
 |_=>stk
noncomputable def qh:Op1:=λx=>match x with
 |.ref a=>bnd (look a) λo=>match o with
   |.lst xs=>new (.lst xs)
   |_=>stk
 |_=>stk
noncomputable def flat:MV->Bool
 |.ref _=>false
 |.scr _=>false
 |.tup _=>false
 |.any=>false
 |_=>true
noncomputable def jW:MV->MV->Bool
 |.int _,.int _=>true
 |.bl _,.bl _=>true
 |.str _,.str _=>true
 |_,_=>false
noncomputable def ik(f:MV->Option PySem.PyData):List MV->Option (List PySem.PyData)
 |[]=>some []
 |x::r=>match f x,ik f r with
   |some d,some ds=>some (d::ds)
   |_,_=>none
noncomputable def dat(h:MH):Nat->MV->Option PySem.PyData
 |_,.non=>some .none
 |_,.bl b=>some (.bool b)
 |_,.int i=>some (.int i)
 |_,.str s=>some (.str s)
 | n + 1,.tup xs=>(match ik (dat h n) xs with
   |some ds=>some (.tuple ds)
   | none=>none)
 | n + 1,.ref a=>(match h[a]? with
   | some (.lst xs)=>(match ik (dat h n) xs with
     |some ds=>some (.list ds)
     | none=>none)
   | _=>none)
 |_,_=>none
noncomputable def lg(x y:MV):M Bool:=λh=>match dat h 6 x,dat h 6 y with
 |some d,some e=>if PySem.SeqAt.shaped d=true/\PySem.SeqAt.shaped e=true then .ok (PySem.PyData.eqv d e) h else .stuck
 |_,_=>.stuck
def oEq:Op2:=λx y=>if jW x y=true then ret (.bl (decide (x=y))) else bnd (lg x y) λb=>ret (.bl b)
def oNe:Op2:=λx y=>if jW x y=true then ret (.bl (!decide (x=y))) else bnd (lg x y) λb=>ret (.bl (!b))
noncomputable def eqM:MV->MV->Bool
 |.non,.non=>true
 |.bl a,.bl b=>a == b
 |.bl a,.int b=>(if a then 1 else 0) == b
 |.int a,.bl b=>a == (if b then 1 else 0)
 |.int a,.int b=>a == b
 |.str a,.str b=>a == b
 |_,_=>false
noncomputable def inM(x:MV)(xs:List MV):Bool:=xs.any λy=>eqM y x
noncomputable def oIn(neg:Bool):Op2:=λx y=>match y with
 |.ref a=>bnd (look a) λo=>match o with
   |.lst xs=>if flat x=true/\xs.all flat=true then ret (.bl (if neg then !inM x xs else inM x xs)) else stk
   | .dct kvs=>(match x with
     |.str k=>ret (.bl (if neg then !(dget k kvs).isSome else(dget k kvs).isSome))
     | _=>stk)
   |_=>stk
 |.tup xs=>if flat x=true/\xs.all flat=true then ret (.bl (if neg then !inM x xs else inM x xs)) else stk
 |_=>stk
noncomputable def sE:Op2:=λx y=>match x,y with
 |.int i,.int j=>ret (.int (if j<i then j else i))
 |_,_=>stk
noncomputable def ui:Op2:=λx y=>match x,y with
 |.int i,.int j=>ret (.int (if i<j then j else i))
 |_,_=>stk
abbrev MKey:=Sum Int Str
noncomputable def tO:MV->Option MKey
 |.int i=>some (.inl i)
 |.str s=>some (.inr s)
 |_=>none
noncomputable def k9:List MV->Option (List MKey)
 |[]=>some []
 |x::r=>match tO x,k9 r with
   |some k,some ks=>some (k::ks)
   |_,_=>none
noncomputable def jK:MV->Option (List MKey)
 |.tup xs=>k9 xs
 |_=>none
noncomputable def gN(f:MV->Option (List MKey)):List MV->Option (List (List MKey))
 |[]=>some []
 |x::r=>match f x,gN f r with
   |some k,some ks=>some (k::ks)
   |_,_=>none
noncomputable def ltK:List MKey->List MKey->Option Bool
 |[],[]=>some false
 |[],_::_=>some true
 |_::_,[]=>some false
 |x::xs,y::ys=>if x=y then ltK xs ys else match x,y with
   |.inl i,.inl j=>some (decide (i<j))
   |.inr a,.inr b=>some (decide (a.cps.toList<b.cps.toList))
   |_,_=>none
noncomputable def jI(rows:List (List MKey))(i j:Nat):Option Bool:=match rows[i]?,rows[j]? with
 |some x,some y=>if x=y then none else ltK x y
 |_,_=>none
noncomputable def fU(rows:List (List MKey)):Option (List Nat):=
 if rows.length < 2 then some (cK rows.length) else if rows.length < 64 then (match c8 (jI rows) (PySem.W.kas_sort rows.length) with
  |some p=>some p.toList
  | none=>none) else none
noncomputable def jl:List MKey->Bool
 |.inl _::_=>true
 |_=>false
noncomputable def pick(xs:List MV)(ix:List Nat):List MV:=ix.map λi=>xs.getD i .non
def dQ(ke:ME)(fr:MSt):List Str->M (List MV)
 |[]=>ret []
 |k::r=>λh=>match ke (some (.str k)::fr) h with
   |.ok v h'=>if h'=h then bnd (dQ ke fr r) (λvs=>ret (v::vs)) h else .stuck
   |_=>.stuck
def qP(o:ME)(i:Nat)(ke:ME):ME:=λσ=>bnd (o σ) λd=>match d with
 |.ref n=>bnd (look n) λob=>match ob with
   | .dct kvs=>if kvs.length < 64 then bnd (dQ ke [(σ[i]?).getD none] (kvs.map (·.1))) λks=>(match gN jK ks with
     | some rows=>if rows.all jl=true then (match fU rows with
       |some ix=>new (.lst (pick (kvs.map λkv=>.str kv.1) ix))
       | none=>stk) else stk
     | none=>stk) else stk
   |_=>stk
 |_=>stk
inductive FP where
 |lit (s:Str)|pl (e:ME)|rp (e:ME)
noncomputable def d9(s:Str):Bool:=decide (s.length≤1000)&&s.cps.toList.all λc=>decide (c<16 ^ 8)
noncomputable def gG:FP->MSt->M (Option Str)
 |.lit s,_=>if s.length≤1000 then ret (some s) else stk
 |.pl e,σ=>bnd (e σ) λv=>match v with
   |.str s=>if s.length≤10000 then ret (some s) else stk
   |.int i=>if i.natAbs.log2<100 then ret (some (aA (toString i))) else stk
   |_=>stk
 |.rp e,σ=>bnd (e σ) λv=>match v with
   |.str s=>if d9 s=true then ret none else stk
   |_=>stk
noncomputable def fA:List FP->MSt->M (List (Option Str))
 |[],_=>ret []
 |p::r,σ=>bnd (gG p σ) λx=>bnd (fA r σ) λxs=>ret (x::xs)
noncomputable def iY:Str->List (Option Str)->Option Str
 |acc,[]=>some acc
 |acc,some y::r=>iY (acc++y) r
 |_,none::_=>none
noncomputable def gr(ps:List FP):ME:=λσ=>if ps.length≤100 then bnd (fA ps σ) λxs=>ret (match iY PySem.Str.empty xs with
 |some s=>.str s
 | none=>.any) else stk
noncomputable def iF:List MV->Option (List Int)
 |[]=>some []
 | .int i::r=>(match iF r with
   |some is=>some (i::is)
   | none=>none)
 |_=>none
noncomputable def eZ:Int->List Int->Int
 |a,[]=>a
 |a,b::r=>eZ (if b<a then b else a) r
noncomputable def q9:Op1:=λx=>match x with
 |.ref a=>bnd (look a) λo=>match o with
   | .lst xs=>(match iF xs with
     |some (i::is)=>if is.length≤10000 then ret (.int (eZ i is)) else stk
     | _=>stk)
   |_=>stk
 |_=>stk
noncomputable def gI:List MV->List MV->List MV
 |x::xs,y::ys=>.tup [x,y]::gI xs ys
 |_,_=>[]
noncomputable def ol:Op2:=λx y=>match x,y with
 |.ref a,.ref b=>bnd (look a) λo=>bnd (look b) λo'=>match o,o' with
   |.lst xs,.lst ys=>if xs.length≤10000/\ys.length≤10000 then new (.lst (gI xs ys)) else stk
   |_,_=>stk
 |_,_=>stk
inductive Ty where
 |int|bool|str|list|tuple|exn (al cs:List Nat)
noncomputable def eE(t:Ty):Op1:=λx=>match x with
 | .non=>(match t with
   |.exn _ _=>stk
   | _=>ret (.bl false))
 | .bl _=>(match t with
   |.bool=>ret (.bl true)
   |.int=>ret (.bl true)
   |.exn _ _=>stk
   | _=>ret (.bl false))
 | .int _=>(match t with
   |.int=>ret (.bl true)
   |.exn _ _=>stk
   | _=>ret (.bl false))
 | .str _=>(match t with
   |.str=>ret (.bl true)
   |.exn _ _=>stk
   | _=>ret (.bl false))
 |.ref n=>bnd (look n) λo=>match o,t with
   |.lst _,.list=>ret (.bl true)
   |.lst _,.exn _ _=>stk
   |.lst _,_=>ret (.bl false)
   |.exn c,.exn al cs=>if al.contains c=true then ret (.bl (cs.contains c)) else stk
   |_,_=>stk
 | .tup _=>(match t with
   |.tuple=>ret (.bl true)
   |.exn _ _=>stk
   | _=>ret (.bl false))
 |.scr _=>stk
 |.any=>stk
noncomputable def bz:MS:=λσ=>ret (.next σ)
noncomputable def aD(a b:MS):MS:=λσ=>bnd (a σ) λf=>match f with
 |.next σ'=>b σ'
 |f=>ret f
noncomputable def bN(e:ME):MS:=λσ=>bnd (e σ) λ_=>ret (.next σ)
noncomputable def bB(i:Nat)(e:ME):MS:=λσ=>bnd (e σ) λv=>ret (.next (σ.set i (some v)))
noncomputable def bT(e:ME):MS:=λσ=>bnd (e σ) λv=>ret (.ret v)
noncomputable def sIf(c:ME)(a b:MS):MS:=λσ=>bnd (tst c σ) λk=>if k=true then a σ else b σ
noncomputable def cU(c:Nat)(a:MA):MS:=λσ=>bnd (a σ) λxs=>if xs.length≤1000 then rse c else stk
noncomputable def putF(f:String)(v:MV):List (String×MV)->List (String×MV)
 |[]=>[(f,v)]
 |(g,u)::r=>if g=f then(g,v)::r else(g,u)::putF f v r
noncomputable def dN(o:ME)(cs:List Nat)(f:String)(e:ME):MS:=λσ=>bnd (e σ) λv=>bnd (o σ) λx=>match x with
 |.ref n=>bnd (look n) λob=>match ob with
   |.ins c fs=>if cs.contains c=true/\fs.length<1000 then bnd (put n (.ins c (putF f v fs))) λ_=>ret (.next σ) else stk
   |_=>stk
 |_=>stk
noncomputable def ixN(n:Nat)(i:Int):Option Nat:=if 0≤i then(if i<n then some i.toNat else none) else if -(n:Int)≤i then some (i+n).toNat else none
noncomputable def ic(o i v:MV):M Unit:=match o,i with
 |.ref n,.int k=>bnd (look n) λob=>match ob with
   | .lst xs=>(match ixN xs.length k with
     |some j=>put n (.lst (xs.set j v))
     | none=>stk)
   |_=>stk
 |.ref n,.str k=>bnd (look n) λob=>match ob with
   |.dct kvs=>if kvs.length<1000 then put n (.dct (dput k v kvs)) else stk
   |_=>stk
 |_,_=>stk
noncomputable def iA(o i e:ME):MS:=λσ=>bnd (e σ) λv=>bnd (o σ) λx=>bnd (i σ) λy=>bnd (ic x y v) λ_=>ret (.next σ)
noncomputable def sf:Op2:=λx y=>match x with
 |.ref _=>oIx x y
 |_=>stk
noncomputable def si:Op2:=λx y=>match x,y with
 |.int i,.int j=>ret (.int (i+j))
 |_,_=>stk
noncomputable def mG(f:Op2)(o i e:ME):MS:=λσ=>bnd (o σ) λx=>bnd (i σ) λy=>bnd (sf x y) λu=>bnd (e σ) λv=>bnd (f u v) λz=>bnd (ic x y z) λ_=>ret (.next σ)
noncomputable def nG(f2:Op2)(o:ME)(cs:List Nat)(f:String)(e:ME):MS:=λσ=>bnd (o σ) λx=>match x with
 |.ref n=>bnd (look n) λob=>match ob with
   | .ins c fs=>if cs.contains c=true then (match fs.lookup f with
     | some u=>bnd (e σ) λv=>bnd (f2 u v) λz=>bnd (look n) λob'=>(match ob' with
       |.ins c' fs'=>if c'=c/\fs'.length<1000 then bnd (put n (.ins c' (putF f z fs'))) λ_=>ret (.next σ) else stk
       | _=>stk)
     | none=>stk) else stk
   |_=>stk
 |_=>stk
noncomputable def jU:ME:=λ_=>new (.dct [])
noncomputable def ku(o k x:ME):ME:=λσ=>bnd (o σ) λd=>match d with
 |.ref n=>bnd (look n) λob=>match ob with
   |.dct _=>bnd (k σ) λy=>bnd (x σ) λz=>match y with
     | .str s=>bnd (look n) λob'=>(match ob' with
       |.dct kvs=>ret ((dget s kvs).getD z)
       | _=>stk)
     |_=>stk
   |_=>stk
 |_=>stk
noncomputable def nu(o k:ME):ME:=λσ=>bnd (o σ) λd=>match d with
 |.ref n=>bnd (look n) λob=>match ob with
   |.dct _=>bnd (k σ) λy=>match y with
     | .str s=>bnd (look n) λob'=>(match ob' with
       | .dct kvs=>(match dget s kvs with
         |some v=>bnd (put n (.dct (lQ s kvs))) λ_=>ret v
         | none=>stk)
       | _=>stk)
     |_=>stk
   |_=>stk
 |_=>stk
noncomputable def dU(n d:Nat):Option Int->Nat
 |none=>d
 |some v=>if v<0 then(v+(n:Int)).toNat else min v.toNat n
noncomputable def iQ{α:Type}(xs:List α)(lo hi:Option Int):List α:=(xs.drop (dU xs.length 0 lo)).take (dU xs.length xs.length hi-dU xs.length 0 lo)
noncomputable def part(e:Option ME)(σ:MSt):M (Option Int):=match e with
 |none=>ret none
 |some g=>bnd (g σ) λv=>match v with
   |.int i=>ret (some i)
   |_=>stk
noncomputable def jg(x:MV)(lo hi:Option Int):M MV:=match x with
 |.ref a=>bnd (look a) λo=>match o with
   |.lst xs=>new (.lst (iQ xs lo hi))
   |_=>stk
 |.tup xs=>if dU xs.length 0 lo=0/\dU xs.length xs.length hi=xs.length then stk else ret (.tup (iQ xs lo hi))
 |.str s=>if s.length≤100000 then ret (.str (PySem.Txt.slice s lo hi)) else stk
 |_=>stk
noncomputable def eSl(a:ME)(lo hi:Option ME):ME:=λσ=>bnd (a σ) λx=>bnd (part lo σ) λl=>bnd (part hi σ) λu=>jg x l u
noncomputable def xl(x v:MV):M MV:=match x with
 |.ref n=>bnd (look n) λob=>match ob with
   |.lst xs=>if xs.length<100000 then bnd (put n (.lst (xs++[v]))) λ_=>ret .non else stk
   |_=>stk
 |_=>stk
noncomputable def mx(o e:ME):ME:=λσ=>bnd (o σ) λx=>match x with
 |.ref n=>bnd (look n) λob=>match ob with
   |.lst _=>bnd (e σ) λv=>xl x v
   |_=>stk
 |_=>stk
inductive Stay where
 |l (p:Nat×List MV)|d (n:Nat) (kvs:List (Str×MV))
instance:Coe (Nat×List MV) Stay:=⟨Stay.l⟩
structure Src where
 items:List (List MV)
 stays:List Stay
def hI(h:MH):List Stay->Bool
 |[]=>true
 |.l (n,xs)::r=>decide (h[n]?=some (.lst xs))&&hI h r
 |.d n kvs::r=>decide (h[n]?=some (.frz kvs))&&hI h r
def Src.okIn(s:Src)(h:MH):Bool:=hI h s.stays
abbrev MI:=MSt->M Src
noncomputable def fB(e:ME):MI:=λσ=>bnd (e σ) λx=>match x with
 |.ref n=>bnd (look n) λo=>match o with
   |.lst xs=>ret ⟨xs.map λv=>[v],[(n,xs)]⟩
   |_=>stk
 |_=>stk
noncomputable def fG(k:Nat):List MV->Option (List (List MV))
 |[]=>some []
 | .tup ys::r=>if ys.length=k then (match fG k r with
   |some rs=>some (ys::rs)
   | none=>none) else none
 |_::_=>none
noncomputable def lL(k:Nat)(e:ME):MI:=λσ=>bnd (e σ) λx=>match x with
 |.ref n=>bnd (look n) λo=>match o with
   | .lst xs=>(match fG k xs with
     |some rs=>ret ⟨rs,[(n,xs)]⟩
     | none=>stk)
   |_=>stk
 |_=>stk
noncomputable def d0:List MV->List MV->List (List MV)
 |x::xs,y::ys=>[x,y]::d0 xs ys
 |_,_=>[]
noncomputable def qu(e e':ME):MI:=λσ=>bnd (e σ) λx=>bnd (e' σ) λy=>match x,y with
 |.ref n,.ref k=>bnd (look n) λo=>bnd (look k) λo'=>match o,o' with
   |.lst xs,.lst ys=>ret ⟨d0 xs ys,[(n,xs),(k,ys)]⟩
   |_,_=>stk
 |_,_=>stk
noncomputable def gY(lo:Int)(n:Nat):List (List MV):=(cK n).map λk=>[.int (lo-(k:Nat))]
noncomputable def pB(e e':ME):MI:=λσ=>bnd (e σ) λx=>bnd (e' σ) λy=>match x,y with
 |.int i,.int j=>if -1000000≤i/\i<1000000/\-1000000≤j/\j<1000000 then ret ⟨gY i (i-j).toNat,[]⟩ else stk
 |_,_=>stk
noncomputable def fL(lo:Int)(n:Nat):List (List MV):=(cK n).map λk=>[.int (lo+(k:Nat))]
noncomputable def jC(e:ME):MI:=λσ=>bnd (e σ) λx=>match x with
 |.int j=>if -(2 ^ 62)≤j/\j<2 ^ 62 then ret ⟨fL 0 j.toNat,[]⟩ else stk
 |_=>stk
noncomputable def lN(e e':ME):MI:=λσ=>bnd (e σ) λx=>bnd (e' σ) λy=>match x,y with
 |.int i,.int j=>if -(2 ^ 62)≤i/\i<2 ^ 62/\-(2 ^ 62)≤j/\j<2 ^ 62 then ret ⟨fL i (j-i).toNat,[]⟩ else stk
 |_,_=>stk
noncomputable def dg:List Nat->List MV->MSt->MSt
 |i::is,v::vs,σ=>dg is vs (σ.set i (some v))
 |_,_,σ=>σ
def eO(s:Src)(is:List Nat)(body:MS):List (List MV)->MSt->M MF
 |[],σ=>λh=>if s.okIn h=true then .ok (.next σ) h else .stuck
 | vs::r,σ=>λh=>if s.okIn h=true then bnd (body (dg is vs σ)) (λf=>match f with
   |.next σ'=>eO s is body r σ'
   |.cnt σ'=>eO s is body r σ'
   |.brk σ'=>ret (.next σ')
   | .ret v=>ret (.ret v)) h else .stuck
def gF(is:List Nat)(src:MI)(body:MS):MS:=λσ=>bnd (src σ) λs=>eO s is body s.items σ
noncomputable def kj(t:ME)(body:MS):Nat->MSt->M MF
 |0,_=>stk
 |n+1,σ=>bnd (tst t σ) λk=>if k=true then bnd (body σ) λf=>match f with
   |.next σ'=>kj t body n σ'
   |.cnt σ'=>kj t body n σ'
   |.brk σ'=>ret (.next σ')
   |.ret v=>ret (.ret v)
  else ret (.next σ)
noncomputable def u6(t:ME)(body:MS):MS:=kj t body 1000
def bQ(s:Src)(cond:Option ME)(elt:ME)(σ:MSt):List (List MV)->M (List MV)
 |[]=>λh=>if s.okIn h=true then .ok [] h else .stuck
 | vs::r=>λh=>if s.okIn h=true then bnd (match cond with
   |none=>ret true
   | some c=>tst c (σ++vs.map some)) (λk=>if k=true then bnd (elt (σ++vs.map some)) λv=>bnd (bQ s cond elt σ r) λws=>ret (v::ws) else bQ s cond elt σ r) h else .stuck
noncomputable def noExc{α:Type}(m:M α):M α:=λh=>match m h with
 |.exc _ _=>.stuck
 |r=>r
def eG(src:MI)(cond:Option ME)(elt:ME):ME:=λσ=>bnd (src σ) λs=>if s.items.length≤100000 then bnd (noExc (bQ s cond elt σ s.items)) λvs=>new (.lst vs) else stk
structure Hd where
 cs:List Nat
 nm:Option Nat
 body:MS
noncomputable def y6(i:Nat):MF->MF
 |.next σ=>.next (σ.set i none)
 |.brk σ=>.brk (σ.set i none)
 |.cnt σ=>.cnt (σ.set i none)
 |.ret v=>.ret v
noncomputable def iM(c:Nat)(σ:MSt):List Hd->M MF
 |[]=>stk
 | d::r=>if d.cs.contains c=true then (match d.nm with
   |none=>noExc (d.body σ)
   | some i=>bnd (new (.exn c)) λe=>bnd (noExc (d.body (σ.set i (some e)))) λf=>ret (y6 i f))
  else iM c σ r
noncomputable def mJ(al:List Nat)(body:MS)(hs:List Hd):MS:=λσ h=>match body σ h with
 |.ok f h'=>.ok f h'
 |.exc c h'=>if al.contains c=true then iM c σ hs h' else .stuck
 |.stuck=>.stuck
noncomputable def fnOf(p n:Nat)(body:MS):Fn:=λvs=>if vs.length=p then bnd (body (vs.map some++br (n-vs.length) none)) λf=>match f with
 |.next _=>ret .non
 |.ret v=>ret v
 |_=>stk
 else stk
end
end L2.Rv
namespace L2.Rv
open PySem PySem.Spec PyProof.Rows
structure Gb where
 cl:Nat->ae
 K:PySem.W.Frag
 sa:ae
 ns:List Int
variable {G:Gb}{m m' m1 m2:List ae}{h h' h1 h2:MH}{H H' H1 H2:Hp}
mutual
def VR(G:Gb)(m:List ae)(H:Hp):MV->V->Prop
 |.non,v=>v=.non
 |.bl b,v=>v=.bl b
 |.int i,v=>v=.int i
 |.str s,v=>v=.str s
 |.ref n,v=>∃a,m[n]?=some a/\v=.ref a
 |.scr ns,v=>ns=G.ns/\v=.ref G.sa
 |.tup xs,v=>∃a vs,v=.ref a/\a∉m/\H a=some (.tup vs)/\VRl G m H xs vs
 |.any,_=>True
def VRl(G:Gb)(m:List ae)(H:Hp):List MV->List V->Prop
 |[],vs=>vs=[]
 |x::xs,vs=>∃y ys,vs=y::ys/\VR G m H x y/\VRl G m H xs ys
end
abbrev VRs(G:Gb)(m:List ae)(H:Hp):List MV->List V->Prop:=Paired (VR G m H)
theorem VRl.to:∀{xs:List MV}{vs:List V},VRl G m H xs vs->VRs G m H xs vs
 |[],vs,r=>by cases(show vs=[] from r);exact .nil
 |x::xs,vs,r=>by
   obtain⟨y,ys,e,q,t⟩:=(show ∃y ys,vs=y::ys/\VR G m H x y/\VRl G m H xs ys from r);subst e;exact .cons q (VRl.to t)
theorem VRl.of:∀{xs:List MV}{vs:List V},VRs G m H xs vs->VRl G m H xs vs
 |_,_,.nil=>rfl
 |_,_,.cons q t=>⟨_,_,rfl,q,VRl.of t⟩
def FR(G:Gb)(m:List ae)(H:Hp):List (String×MV)->List (Str×V)->Prop:=Paired λp q=>q.1=aA p.1/\VR G m H p.2 q.2
def DR(G:Gb)(m:List ae)(H:Hp):List (Str×MV)->List (Key×V)->Prop:=Paired λp q=>q.1=Sum.inr p.1/\VR G m H p.2 q.2
def ExcΦ(a C:ae)(hp:aH):Prop:=∃o vs,hp.get? a=some o/\o.cls=.ref C/\o.dict=none/\o.data=.fields vs
def OR(G:Gb)(m:List ae)(H:Hp)(a:ae):MO->Prop
 |.lst xs=>∃vs,VRs G m H xs vs/\H a=some (.lst vs)
 |.dct kvs=>∃ws,DR G m H kvs ws/\H a=some (.dK ws)
 |.ins c fs=>∃dx ws,FR G m H fs ws/\H a=some (.ins (G.cl c) dx ws)
 |.exn c=>H a=some (.ext (ExcΦ a (G.cl c)))
 |.frz kvs=>∃ws o,DR G m H kvs ws/\H a=some (.frz o (.dK ws))
noncomputable def ie:Str:="Book.names.<locals>.<lambda>"
def LamΦ(c:ae)(hp:aH):Prop:=∃oc vs t,hp.get? c=some oc/\oc.data=.fields vs/\vs[1]?=some (.str ie t)
def qt(G:Gb)(m:List ae)(H:Hp):Prop:=G.cl 996=0∨(G.cl 999∉m/\(H (G.cl 999)=some (.tbl #[]) ∨
 ∃c,c∉m/\H c=some (.ext (LamΦ c))/\H (G.cl 999)=some (.tbl #[cE (G.cl 998),cE (G.cl 997),.ref c])))
def TbX:HO->Prop
 |.tbl _=>True
 |.ext _=>True
 |_=>False
theorem qt.keep(t:qt G m H)(k:∀a u,H a=some u->a∉m->TbX u->H' a=some u/\a∉m'):qt G m' H':=by
 rcases t with t|⟨n,t⟩
 ·exact .inl t
 ·rcases t with t|⟨c,nc,ec,t⟩
  ·obtain⟨e,n'⟩:=k _ _ t n trivial;exact .inr ⟨n',.inl e⟩
  ·obtain⟨e,n'⟩:=k _ _ t n trivial;obtain⟨e2,n2⟩:=k _ _ ec nc trivial;exact .inr ⟨n',.inr ⟨c,n2,e2,e⟩⟩
structure HR(G:Gb)(m:List ae)(h:MH)(H:Hp):Prop where
 len:m.length=h.length
 nd:m.Nodup
 ob:∀(n:Nat) (a:ae) (o:MO),m[n]?=some a->h[n]?=some o->OR G m H a o
 scr:(∃o,H G.sa=some (.frz o (.lst (G.ns.map V.int))))∨∀H0:Hp,SqL G.K H0 G.sa (G.ns.map V.int)
 tab:qt G m H
structure Ext(m:List ae)(H:Hp)(m':List ae)(H':Hp):Prop where
 pre:∃e,m'=m++e
 fr:∀a o,H a=some o->a∉m->(∀ps,o≠.tbl ps)->H' a=some o/\a∉m'
 fz:∀a o u,H a=some (.frz o u)->H' a=some (.frz o u)
theorem Ext.refl:Ext m H m H:=⟨⟨[],by simp⟩,λ_ _ e n _=>⟨e,n⟩,λ_ _ _ e=>e⟩
theorem Ext.trans(x:Ext m H m1 H1)(y:Ext m1 H1 m2 H2):Ext m H m2 H2:=by
 obtain⟨e,rfl⟩:=x.pre;obtain⟨f,rfl⟩:=y.pre;exact⟨⟨e++f,by simp⟩,λa o q n nt=>let ⟨q1,n1⟩:=x.fr a o q n nt;y.fr a o q1 n1 nt,λa o u q=>y.fz a o u (x.fz a o u q)⟩
theorem Ext.get(x:Ext m H m' H'){n:Nat}{a:ae}(e:m[n]?=some a):m'[n]?=some a:=by
 obtain⟨f,rfl⟩:=x.pre;have hn:n<m.length:=(bM.mp e).1;rw[eJ hn];exact e
structure Mn(m:List ae)(H:Hp)(m':List ae)(H':Hp):Prop where
 get:∀(n:Nat) (a:ae),m[n]?=some a->m'[n]?=some a
 tup:∀a vs,H a=some (.tup vs)->a∉m->H' a=some (.tup vs)/\a∉m'
theorem Ext.mn(x:Ext m H m' H'):Mn m H m' H':=⟨λ_ _=>x.get,λa vs e n=>x.fr a _ e n λ_ z=>nomatch z⟩
mutual
theorem VR.mono(x:Mn m H m' H'):∀{v:MV}{v':V},VR G m H v v'->VR G m' H' v v'
 |.ref n,v',r=>by
   obtain⟨a,e,q⟩:=(show ∃a,m[n]?=some a/\v'=.ref a from r);exact⟨a,x.get n a e,q⟩
 |.tup xs,v',r=>by
   obtain⟨a,vs,q,e,z,t⟩:=(show ∃a vs,v'=.ref a/\a∉m/\H a=some (.tup vs)/\VRl G m H xs vs from r);obtain⟨z',e'⟩:=x.tup a vs z e;exact⟨a,vs,q,e',z',VRl.mono x t⟩
 |.non,_,r=>r
 |.bl _,_,r=>r
 |.int _,_,r=>r
 |.str _,_,r=>r
 |.scr _,_,r=>r
 |.any,_,r=>trivial
theorem VRl.mono(x:Mn m H m' H'):∀{xs:List MV}{vs:List V},VRl G m H xs vs->VRl G m' H' xs vs
 |[],_,r=>r
 |y::ys,vs,r=>by
   obtain⟨z,zs,e,q,t⟩:=(show ∃z zs,vs=z::zs/\VR G m H y z/\VRl G m H ys zs from r);exact⟨z,zs,e,VR.mono x q,VRl.mono x t⟩
end
theorem Ext.vr{v:MV}{v':V}(x:Ext m H m' H')(r:VR G m H v v'):VR G m' H' v v':=VR.mono x.mn r
theorem VRs.mono{xs:List MV}{vs:List V}(x:Mn m H m' H')(r:VRs G m H xs vs):VRs G m' H' xs vs:=Paired.imp' (λ_ _ q=>VR.mono x q) r
theorem Ext.vrs{xs:List MV}{vs:List V}(x:Ext m H m' H')(r:VRs G m H xs vs):VRs G m' H' xs vs:=VRs.mono x.mn r
theorem OR.mono{a:ae}{o:MO}(x:Mn m H m' H')(e:H' a=H a)(r:OR G m H a o):OR G m' H' a o:=by
 cases o with
 |lst xs=>obtain⟨vs,q,z⟩:=r;exact⟨vs,VRs.mono x q,e.trans z⟩
 |dct kvs=>obtain⟨ws,q,z⟩:=r;exact⟨ws,Paired.imp' (λ_ _ p=>⟨p.1,VR.mono x p.2⟩) q,e.trans z⟩
 |ins c fs=>obtain⟨dx,ws,q,z⟩:=r;exact⟨dx,ws,Paired.imp' (λ_ _ p=>⟨p.1,VR.mono x p.2⟩) q,e.trans z⟩
 |exn c=>exact e.trans r
 |frz kvs=>obtain⟨ws,o,q,z⟩:=r;exact⟨ws,o,Paired.imp' (λ_ _ p=>⟨p.1,VR.mono x p.2⟩) q,e.trans z⟩
theorem OR.some{a:ae}{o:MO}(r:OR G m H a o):∃u,H a=some u:=by
 cases o with
 |lst xs=>obtain⟨vs,q,z⟩:=r;exact⟨_,z⟩
 |dct kvs=>obtain⟨ws,q,z⟩:=r;exact⟨_,z⟩
 |ins c fs=>obtain⟨dx,ws,q,z⟩:=r;exact⟨_,z⟩
 |exn c=>exact⟨_,r⟩
 |frz kvs=>obtain⟨_,_,_,z⟩:=r;exact⟨_,z⟩
theorem HR.get(R:HR G m h H){n:Nat}{a:ae}(e:m[n]?=some a):∃o,h[n]?=some o/\OR G m H a o:=by
 have hn:n<m.length:=(bM.mp e).1;have hn':n<h.length:=by rw[←R.len];exact hn
 exact⟨h[n],by simp[hn'],R.ob n a _ e (by simp[hn'])⟩
theorem HR.mem(R:HR G m h H){a:ae}(e:a∈m):∃u,H a=some u:=by
 obtain⟨n,hn⟩:=jY.mp e;obtain⟨o,_,q⟩:=R.get hn;exact OR.some q
theorem HR.fresh(R:HR G m h H){p:ae}(e:H p=none):p∉m:=λz=>by
 obtain⟨u,q⟩:=R.mem z;rw[e]at q;cases q
theorem Av{α:Type}{l:List α}{x:α}{n:Nat}{a:α}(e:l[n]?=some a):(l++[x])[n]?=some a:=by
 rw[eJ (bM.mp e).1];exact e
theorem kX{α:Type}{l:List α}{x:α}{n:Nat}{a:α}(e:(l++[x])[n]?=some a):l[n]?=some a∨(n=l.length/\a=x):=by
 by_cases hn:n<l.length
 ·rw[eJ hn]at e;exact .inl e
 ·rw[iO (by lia)]at e;have:n-l.length=0:=by
   have:=(bM.mp e).1;simp at this;lia
  rw[this]at e;simp at e;exact .inr ⟨by lia,e.symm⟩
theorem HR.new(R:HR G m h H){p:ae}{o:MO}{u:HO}(e:H p=none)(ro:OR G (m++[p]) (upd H p u) p o):HR G (m++[p]) (h++[o]) (upd H p u):=by
 have np:=R.fresh e;refine⟨by simp[R.len],?_,λn a ob ea eo=>?_,?_,R.tab.keep λb u z nb _=>⟨by rw[aY (dE z e)];exact z,by simp[nb];exact dE z e⟩⟩
 ·rw[j9];exact⟨R.nd,by simp,λa ha b hb=>by simp at hb;subst hb;intro z;subst z;exact np ha⟩
 ·rcases kX ea with ea|⟨rfl,rfl⟩
  ·have hne:a≠p:=λz=>np (z▸dZ ea);have eo':h[n]?=some ob:=by
    rcases kX eo with eo|⟨q,_⟩
    ·exact eo
    ·have:=(bM.mp ea).1;rw[R.len]at this;lia
   exact OR.mono ⟨λ_ _=>Av,λb vs z nb=>⟨by rw[aY (dE z e)];exact z,by simp[nb];exact dE z e⟩⟩ (aY hne) (R.ob n a ob ea eo')
  ·have:ob=o:=by
    rcases kX eo with eo|⟨_,q⟩
    ·have:=(bM.mp eo).1;rw[←R.len]at this;lia
    ·exact q
   subst this;exact ro
 ·rcases R.scr with⟨o',q⟩|q
  ·exact .inl ⟨o',by rw[aY (dE q e)];exact q⟩
  ·exact .inr q
theorem Ext.new(R:HR G m h H){p:ae}{u:HO}(e:H p=none):Ext m H (m++[p]) (upd H p u):=
 ⟨⟨[p],rfl⟩,λa o q n _=>⟨by rw[aY (dE q e)];exact q,by simp[n];exact dE q e⟩,λa o u q=>by rw[aY (dE q e)];exact q⟩
theorem vB{α:Type}{l:List α}(nd:l.Nodup){i j:Nat}{a:α}(e:l[i]?=some a)(f:l[j]?=some a):i=j:=by
 obtain⟨hi,ei⟩:=bM.mp e;obtain⟨hj,ej⟩:=bM.mp f;have p:=qF.mp nd;rcases Nat.lt_trichotomy i j with z|z|z
 ·exact absurd (ei.trans ej.symm) (p i j hi hj z)
 ·exact z
 ·exact absurd (ej.trans ei.symm) (p j i hj hi z)
theorem HR.upd(R:HR G m h H){n:Nat}{a:ae}{o:MO}{u:HO}(ea:m[n]?=some a)(nz:∀o' ys,H a≠some (.frz o' (.lst ys)))(ro:OR G m (L2.upd H a u) a o):HR G m (h.set n o) (L2.upd H a u):=by
 refine⟨by simp[R.len],R.nd,λk b ob eb eo=>?_,?_,R.tab.keep λb u z nb _=>⟨by rw[aY (show b≠a from λy=>nb (by rw[y];exact dZ ea))];exact z,nb⟩⟩
 ·by_cases hk:k=n
  ·subst hk;rw[ea]at eb;cases eb;rw[fY (by have:=(bM.mp ea).1;rw[←R.len];exact this)]at eo
   cases eo;exact ro
  ·rw[ip (Ne.symm hk)]at eo;have hne:b≠a:=λz=>by
    subst z;exact hk (vB R.nd eb ea)
   exact OR.mono ⟨λ_ _ q=>q,λc vs z nc=>⟨by rw[aY (show c≠a from λy=>nc (by rw[y];exact dZ ea))];exact z,nc⟩⟩ (aY hne) (R.ob k b ob eb eo)
 ·rcases R.scr with⟨o',q⟩|q
  ·exact .inl ⟨o',by rw[aY (λz=>nz o' _ (z▸q))];exact q⟩
  ·exact .inr q
theorem Ext.upd{n:Nat}{a:ae}{u v:HO}(ea:m[n]?=some a)(z:H a=some v)(nf:∀o w,v≠.frz o w:=by intro _ _ q;cases q):Ext m H m (L2.upd H a u):=
 ⟨⟨[],by simp⟩,λb o q nb _=>⟨by rw[aY (show b≠a from λz=>nb (by rw[z];exact dZ ea))];exact q,nb⟩,λb o w q=>by rw[aY (show b≠a from λy=>nf o w (Option.some.inj (z.symm.trans (y▸q))))];exact q⟩
theorem Ext.side{q:ae}{u:HO}(e:H q=none):Ext m H m (L2.upd H q u):=⟨⟨[],by simp⟩,λa o z n _=>⟨by rw[aY (dE z e)];exact z,n⟩,λa o u z=>by rw[aY (dE z e)];exact z⟩
theorem HR.side{q:ae}{u:HO}(R:HR G m h H)(e:H q=none):HR G m h (L2.upd H q u):=
 ⟨R.len,R.nd,λn a ob ea eo=>OR.mono (Ext.side e).mn (aY (show a≠q from λz=>R.fresh e (by rw [←z];exact dZ ea))) (R.ob n a ob ea eo),by
  rcases R.scr with⟨o',z⟩|z
  ·exact .inl ⟨o',by rw[aY (dE z e)];exact z⟩
  ·exact .inr z,R.tab.keep λb u z nb _=>⟨by rw [aY (dE z e)];exact z,nb⟩⟩
theorem Mn.sideSet{q:ae}{u:HO}(nt:∀ys,H q≠some (.tup ys)):Mn m H m (L2.upd H q u):=⟨λ_ _ e=>e,λa vs z n=>⟨by rw[aY (show a≠q from λy=>nt vs (by rw[←y];exact z))];exact z,n⟩⟩
theorem HR.sideSet{q:ae}{u:HO}(R:HR G m h H)(nq:q∉m)(nt:∀ys,H q≠some (.tup ys))(nz:∀o' ys,H q≠some (.frz o' ys))(nx:∀v,H q=some v->¬TbX v):HR G m h (L2.upd H q u):=
 ⟨R.len,R.nd,λn a ob ea eo=>OR.mono (Mn.sideSet nt) (aY (show a≠q from λz=>nq (by rw [←z];exact dZ ea))) (R.ob n a ob ea eo),by
  rcases R.scr with⟨o',z⟩|z
  ·exact .inl ⟨o',by rw[aY (show G.sa≠q from λy=>nz o' _ (by rw[←y];exact z))];exact z⟩
  ·exact .inr z,R.tab.keep λb u z nb tx=>⟨by rw [aY (show b≠q from λy=>nx u (by rw [←y];exact z) tx)];exact z,nb⟩⟩
structure SR(G:Gb)(m:List ae)(H:Hp)(σ:MSt)(σ':St):Prop where
 len:σ.length=σ'.length
 sl:∀(i:Nat) (v:MV),σ[i]?=some (some v)->∃v',σ'[i]?=some (some v')/\VR G m H v v'
theorem SR.mono{σ:MSt}{σ':St}(x:Ext m H m' H')(S:SR G m H σ σ'):SR G m' H' σ σ':=⟨S.len,λi v e=>let ⟨v',q,r⟩:=S.sl i v e;⟨v',q,x.vr r⟩⟩
theorem SR.mn{σ:MSt}{σ':St}(x:Mn m H m' H')(S:SR G m H σ σ'):SR G m' H' σ σ':=⟨S.len,λi v e=>let ⟨v',q,r⟩:=S.sl i v e;⟨v',q,VR.mono x r⟩⟩
theorem SR.set{σ:MSt}{σ':St}(S:SR G m H σ σ')(i:Nat){v:MV}{v':V}(r:VR G m H v v'):SR G m H (σ.set i (some v)) (σ'.set i (some v')):=by
 refine⟨by simp[S.len],λj w e=>?_⟩;by_cases hj:i=j
 ·subst hj;have hl:i<σ.length:=by
   have:=(bM.mp e).1;simpa using this
  rw[fY hl]at e;cases e;exact⟨v',by rw[fY (by rw[←S.len];exact hl)],r⟩
 ·rw[ip hj]at e ⊢;exact S.sl j w e
theorem SR.forget{σ:MSt}{σ':St}(S:SR G m H σ σ')(i:Nat)(u:Option V):SR G m H (σ.set i none) (σ'.set i u):=by
 refine⟨by simp[S.len],λj w e=>?_⟩;by_cases hj:i=j
 ·subst hj;have hl:i<σ.length:=by
   have:=(bM.mp e).1;simpa using this
  rw[fY hl]at e;cases e
 ·rw[ip hj]at e ⊢;exact S.sl j w e
noncomputable def fl(c:Nat):Option ae:=if c<200 then none else some 0
def jT(zf:Option ae)(C a:ae)(ok:ae->Prop)(hp:aH):Prop:=
 ∃oe vs,hp.get? a=some oe/\oe.cls=.ref C/\oe.dict=none/\oe.data=.fields vs/\1<vs.size/\ok a /\
  (vs[1]?=some .none∨∃T oT ts,vs[1]?=some (.ref T)/\T≠a/\hp.get? T=some oT/\oT.data=.fields ts/\3<ts.size/\ok T)/\(zf=none->vs[2]?=some .none)
structure Fp(X:Cx)(pins:List (ae×aB))(H:Hp)(b:ae):Prop where
 un:H b=none
 loc:b≠X.env.locals
 fs:b∉X.fs
 new:b∈X.ex∨X.s₀.heap.get? b=none
 ce:∀x c,X.env.cells.lookup x=some c->c≠b
 pin:∀p∈X.pn++pins,p.1≠b
abbrev Exc(X:Cx)(pins:List (ae×aB))(H:Hp)(zf:Option ae)(C a:ae)(s:aj):Prop:=jT zf C a (Fp X pins H) s.heap
theorem jT.imp{zf:Option ae}{C a:ae}{p q:ae->Prop}{hp:aH}(f:∀b,p b->q b)(x:jT zf C a p hp):jT zf C a q hp:=by
 obtain⟨oe,vs,a1,a2,a3,a4,a5,a6,a7,a8⟩:=x;refine⟨oe,vs,a1,a2,a3,a4,a5,f _ a6,?_,a8⟩;rcases a7 with a7|⟨T,oT,ts,b1,b2,b3,b4,b5,b6⟩
 ·exact .inl a7
 ·exact .inr ⟨T,oT,ts,b1,b2,b3,b4,b5,f _ b6⟩
def XP(G:Gb)(X:Cx)(E:af->aj->Prop)(EX:St->Prop)(m:List ae)(H:Hp)(c:Nat)(h':MH):Prop:=
 ∀(pins:List (ae×aB)) (σ':St) (m':List ae) (H':Hp) (a:ae) (s':aj),EX σ'->Ext m H m' H'->HR G m' h' H'->Inv X pins σ' H' s'->Exc X pins H' (fl c) (G.cl c) a s'->E (.ref a) s'
def Post{α:Type}(G:Gb)(X:Cx)(E:af->aj->Prop)(EX:St->Prop)(m:List ae)(H:Hp)(r:Res α)(Q:α->List ae->MH->Hp->Prop):Prop:=
 match r with
 |.ok v h'=>∀m' H',Ext m H m' H'->HR G m' h' H'->Q v m' h' H'
 |.exc c h'=>XP G X E EX m H c h'
 |.stuck=>False
variable {X:Cx}{E:af->aj->Prop}{EX:St->Prop}
theorem Post.ext{α:Type}{r:Res α}{Q:α->List ae->MH->Hp->Prop}(x:Ext m H m1 H1)(P:Post G X E EX m H r Q):Post G X E EX m1 H1 r Q:=by
 cases r with
 |ok v h'=>exact λm' H' y R=>P m' H' (x.trans y) R
 |exc c h'=>exact λpins σ' m' H' a s' ex y R I q=>P pins σ' m' H' a s' ex (x.trans y) R I q
 |stuck=>exact P
theorem Post.bind{α β:Type}{a:M α}{k:α->M β}{Q:β->List ae->MH->Hp->Prop}(P:Post G X E EX m H (bnd a k h) Q):Post G X E EX m H (a h) λv m1 h1 H1=>Post G X E EX m1 H1 (k v h1) Q:=by
 unfold bnd at P;cases e:a h with
 |ok v h1=>
   rw[e]at P;exact λm' H' y _=>P.ext y
 |exc c h1=>rw[e]at P;exact P
 |stuck=>rw[e]at P;exact P
theorem Post.mono{α:Type}{r:Res α}{Q Q':α->List ae->MH->Hp->Prop}(P:Post G X E EX m H r Q)(f:∀v m' h' H',Ext m H m' H'->HR G m' h' H'->Q v m' h' H'->Q' v m' h' H'):Post G X E EX m H r Q':=by
 cases r with
 |ok v h'=>exact λm' H' y R=>f _ _ _ _ y R (P m' H' y R)
 |exc c h'=>exact P
 |stuck=>exact P
theorem Post.here{α:Type}{v:α}{Q:α->List ae->MH->Hp->Prop}(R:HR G m h H)(P:Post G X E EX m H (.ok v h) Q):Q v m h H:=P m H .refl R
def TGe(G:Gb)(X:Cx)(E:af->aj->Prop)(EX:St->Prop)(g:ME):TE:=λσ' H Q=>
 ∃m h σ,EX σ'/\SR G m H σ σ'/\HR G m h H/\Post G X E EX m H (g σ h) λv m' _ H'=>∀v',VR G m' H' v v'->Q v' H'
def TGt(G:Gb)(X:Cx)(E:af->aj->Prop)(EX:St->Prop)(g:ME):TT:=λσ' H Q=>
 ∃m h σ,EX σ'/\SR G m H σ σ'/\HR G m h H/\Post G X E EX m H (tst g σ h) λb _ _ H'=>Q b H'
def TGa(G:Gb)(X:Cx)(E:af->aj->Prop)(EX:St->Prop)(g:MA):TA:=λσ' H Q=>
 ∃m h σ,EX σ'/\SR G m H σ σ'/\HR G m h H/\Post G X E EX m H (g σ h) λvs m' _ H'=>∀vs',VRs G m' H' vs vs'->Q vs' H'
def TGs(G:Gb)(X:Cx)(E:af->aj->Prop)(EX:St->Prop)(g:MS):TS:=λD σ' H=>
 ∃m h σ,EX σ'/\SR G m H σ σ'/\HR G m h H/\Post G X E EX m H (g σ h) λf m' _ H'=>match f with
  |.next σ1=>∀σ1',SR G m' H' σ1 σ1'->D.nx σ1' H'
  |.brk σ1=>∀σ1',SR G m' H' σ1 σ1'->D.bk σ1' H'
  |.cnt σ1=>∀σ1',SR G m' H' σ1 σ1'->D.ct σ1' H'
  |.ret v=>∀v',VR G m' H' v v'->D.rt v' H'
end L2.Rv
namespace L2.Rv
open PySem PySem.Spec PyProof.Rows
variable {G:Gb}{m m' m1 m2:List ae}{h h' h1 h2:MH}{H H' H1 H2:Hp}{X:Cx}{E:af->aj->Prop}{EX:St->Prop}{σ:MSt}{σ':St}
def GE(G:Gb)(X:Cx)(e:aw)(g:ME):Prop:=∀E EX,PE (X.wish E) e (TGe G X E EX g)
def GT(G:Gb)(X:Cx)(e:aw)(g:ME):Prop:=∀E EX,PT (X.wish E) e (TGt G X E EX g)
def GW(G:Gb)(X:Cx)(e:aw)(g:ME):Prop:=∀E EX,PW (X.wish E) e (TGt G X E EX g)
def GA(G:Gb)(X:Cx)(es:List aw)(g:MA):Prop:=∀E EX,PA (X.wish E) es (TGa G X E EX g)
def GS(G:Gb)(EX:St->Prop)(X:Cx)(st:aP)(g:MS):Prop:=∀E,PassesOwn (av X.prog X.w) X.A X.env E->PS (X.wish E) st (TGs G X E EX g)
def GSs(G:Gb)(EX:St->Prop)(X:Cx)(st:List aP)(g:MS):Prop:=∀E,PassesOwn (av X.prog X.w) X.A X.env E->PSs (X.wish E) st (TGs G X E EX g)
abbrev ET:St->Prop:=λ_=>True
theorem dC{e:aw}{t t':TE}(p:PE X e t)(f:∀σ H Q,t' σ H Q->t σ H Q):PE X e t':=λpins s σ H Q I hw=>p pins s σ H Q I (f σ H Q hw)
theorem mZ{e:aw}{t t':TT}(p:PT X e t)(f:∀σ H Q,t' σ H Q->t σ H Q):PT X e t':=λpins s σ H Q I hw=>p pins s σ H Q I (f σ H Q hw)
theorem ye{e:aw}{t t':TT}(p:PW X e t)(f:∀σ H Q,t' σ H Q->t σ H Q):PW X e t':=λwh pins s σ H Q I hw=>p wh pins s σ H Q I (f σ H Q hw)
theorem Aj{e:List aw}{t t':TA}(p:PA X e t)(f:∀σ H Q,t' σ H Q->t σ H Q):PA X e t':=λpos pins s σ H Q I hw=>p pos pins s σ H Q I (f σ H Q hw)
theorem gW{e:aP}{t t':TS}(p:PS X e t)(f:∀D σ H,t' D σ H->t D σ H):PS X e t':=λpins s σ H D I hw=>p pins s σ H D I (f D σ H hw)
theorem Ag{e:List aP}{t t':TS}(p:PSs X e t)(f:∀D σ H,t' D σ H->t D σ H):PSs X e t':=λpins s σ H D I hw=>p pins s σ H D I (f D σ H hw)
theorem sub{ga:ME}{β:Type}{k:MV->M β}{Q:β->List ae->MH->Hp->Prop}(ex:EX σ')(S:SR G m H σ σ')(R:HR G m h H)(P:Post G X E EX m H (bnd (ga σ) k h) Q){Rr:V->Hp->Prop}
  (hk:∀v m1 h1 H1 v',Ext m H m1 H1->HR G m1 h1 H1->VR G m1 H1 v v'->Post G X E EX m1 H1 (k v h1) Q->Rr v' H1):TGe G X E EX ga σ' H Rr:=
 ⟨m,h,σ,ex,S,R,P.bind.mono λv m1 h1 H1 x R1 P1 v' r=>hk v m1 h1 H1 v' x R1 r P1⟩
theorem jv{ga:MA}{β:Type}{k:List MV->M β}{Q:β->List ae->MH->Hp->Prop}(ex:EX σ')(S:SR G m H σ σ')(R:HR G m h H)(P:Post G X E EX m H (bnd (ga σ) k h) Q){Rr:List V->Hp->Prop}
  (hk:∀v m1 h1 H1 v',Ext m H m1 H1->HR G m1 h1 H1->VRs G m1 H1 v v'->Post G X E EX m1 H1 (k v h1) Q->Rr v' H1):TGa G X E EX ga σ' H Rr:=
 ⟨m,h,σ,ex,S,R,P.bind.mono λv m1 h1 H1 x R1 P1 v' r=>hk v m1 h1 H1 v' x R1 r P1⟩
theorem D5{ga:ME}{β:Type}{k:Bool->M β}{Q:β->List ae->MH->Hp->Prop}(ex:EX σ')(S:SR G m H σ σ')(R:HR G m h H)(P:Post G X E EX m H (bnd (tst ga σ) k h) Q){Rr:Bool->Hp->Prop}
  (hk:∀b m1 h1 H1,Ext m H m1 H1->HR G m1 h1 H1->Post G X E EX m1 H1 (k b h1) Q->Rr b H1):TGe G X E EX ga σ' H λx H1=>∃c,x=.bl c/\Rr c H1:=by
 refine⟨m,h,σ,ex,S,R,(Post.bind (a:=ga σ) (k:=asB) P.bind).mono λv m1 h1 H1 x R1 P1 v' r=>?_⟩;cases v with
 |bl b=>
   cases(show v'=V.bl b from r);exact⟨b,rfl,hk b m1 h1 H1 x R1 (Post.here R1 P1)⟩
 |_=>exact P1.elim
theorem kO{ga:ME}{β:Type}{k:Bool->M β}{Q:β->List ae->MH->Hp->Prop}(ex:EX σ')(S:SR G m H σ σ')(R:HR G m h H)(P:Post G X E EX m H (bnd (tst ga σ) k h) Q){Rr:Bool->Hp->Prop}
  (hk:∀b m1 h1 H1,Ext m H m1 H1->HR G m1 h1 H1->Post G X E EX m1 H1 (k b h1) Q->Rr b H1):TGt G X E EX ga σ' H Rr:=
 ⟨m,h,σ,ex,S,R,P.bind.mono λb m1 h1 H1 x R1 P1=>hk b m1 h1 H1 x R1 P1⟩
theorem rT{ga:ME}{Rr:Bool->Hp->Prop}(t:TGt G X E EX ga σ' H Rr):TGe G X E EX ga σ' H λx H1=>∃c,x=.bl c/\Rr c H1:=by
 obtain⟨m,h,σ,ex,S,R,P⟩:=t;refine⟨m,h,σ,ex,S,R,(Post.bind (a:=ga σ) (k:=asB) P).mono λv m1 h1 H1 x R1 P1 v' r=>?_⟩;cases v with
 |bl b=>
   cases(show v'=V.bl b from r);exact⟨b,rfl,Post.here R1 P1⟩
 |_=>exact P1.elim
theorem ai(i:Nat){x:Str}{pos:Pos}(hN:X.N[i]?=some x:=by rfl)(hv:Vis X.env.scope x:=by first|exact Or.inl rfl|exact Or.inr (Or.inl rfl)|exact Or.inr (Or.inr rfl))(hd:(x == ("__debug__":Str))=false:=by decide)
  (hcd:(x == ("__classdict__":Str))=false:=by decide):GE G X (.Name x pos) (ah i):=λE EX=>dC (Ih (X:=X.wish E) hN hv hd hcd) λσ' H Q e0=>bK e0 λm h σ ex S R P=>by
 unfold ah at P;cases e:σ[i]? with
 |none=>simp only[e]at P;exact P.elim
 |some u=>cases u with
   |none=>simp only[e]at P;exact P.elim
   |some v=>
     simp only[e]at P;obtain⟨v',q,r⟩:=S.sl i v e;exact⟨v',q,Post.here R P v' r⟩
theorem kR{e:aw}{v:MV}{v':V}(p:∀E,PE (X.wish E) e (tC v'))(r:∀m H,VR G m H v v'):GE G X e (eC v):=λE EX=>dC (p E) λσ' H Q ⟨m,h,σ,ex,S,R,P⟩=>Post.here R P v' (r m H)
theorem ge_int{i j pos}:GE G X (.Constant (.int i) j pos) (eC (.int i)):=kR (λ_=>xB) λ_ _=>rfl
theorem oA{i j pos}:GE G X (.Constant (.bool i) j pos) (eC (.bl i)):=kR (λ_=>G5) λ_ _=>rfl
theorem sP{j pos}:GE G X (.Constant .none j pos) (eC .non):=kR (λ_=>tW) λ_ _=>rfl
theorem cr{x j pos}:GE G X (.Constant (.str x) j pos) (eC (.str x)):=kR (λ_=>xn) λ_ _=>rfl
theorem l9{x:Str}{i:Int}{u:af}{pos:Pos}(hg:Gl X x)(hm:X.mg x=some u)(r:aN (.int i) u)(hd:(x == ("__debug__":Str))=false:=by decide):GE G X (.Name x pos) (eC (.int i)):=
 kR (λE=>fk (X:=X.wish E) hg hm r hd) λ_ _=>rfl
def VO(G:Gb)(f:Op2)(r:R2):Prop:=∀(X:Cx) (E:af->aj->Prop) (EX:St->Prop) (m:List ae) (h:MH) (H:Hp) (x y:MV) (x' y':V) (Q:VK),HR G m h H->VR G m H x x'->VR G m H y y' ->
 Post G X E EX m H (f x y h) (λv m' _ H'=>∀v',VR G m' H' v v'->Q v' H')->r x' y' H Q
section
variable {a b:aw}{ga gb:ME}{pos:Pos}{f:Op2}{r:R2}
theorem opG{ta:TE->TE->TE}(vo:VO G f r){Q:VK}(t:TGe G X E EX (aC f ga gb) σ' H Q):tOp r (TGe G X E EX ga) (TGe G X E EX gb) σ' H Q:=by
 obtain⟨m,h,σ,ex,S,R,P⟩:=t;exact sub ex S R P λv m1 h1 H1 v' x1 R1 r1 P1=>sub ex (S.mono x1) R1 P1 λw m2 h2 H2 w' x2 R2 r2 P2=>vo _ _ _ _ _ _ _ _ _ _ _ R2 (x2.vr r1) r2 P2
theorem dn{op:Operator}(ho:∀E,OpR (X.wish E) (binaryOp op) r)(vo:VO G f r)(ha:GE G X a ga)(hb:GE G X b gb):GE G X (.BinOp a op b pos) (aC f ga gb):=λE EX=>
 dC (F1 (ho E) (ha E EX) (hb E EX)) λ_ _ _ t=>opG (ta:=λa _=>a) vo t
theorem uD{op:CmpOp}(ho:∀E,OpR (X.wish E) (dL op) r)(vo:VO G f r)(ha:GE G X a ga)(hb:GE G X b gb)(hm:behindInMarks op b=false):GE G X (.Compare a [op] [b] pos) (aC f ga gb):=λE EX=>
 dC (Ib (ho E) (ha E EX) (hb E EX) hm) λ_ _ _ t=>opG (ta:=λa _=>a) vo t
theorem bO{op:CmpOp}(ho:∀E,OpR (X.wish E) (dL op) r)(vo:VO G f r)(ha:GE G X a ga)(hb:GE G X b gb)(hm:behindInMarks op b=false):GT G X (.Compare a [op] [b] pos) (aC f ga gb):=λE EX=>
 mZ (tX (ho E) (ha E EX) (hb E EX) hm) λ_ _ _ t=>opG (ta:=λa _=>a) vo (rT t)
end
theorem VR.non_iff{v:MV}{v':V}(na:v≠.any)(r:VR G m H v v'):decide (v'=.non)=il v:=by
 cases v with
 |ref n=>obtain⟨a,_,q⟩:=r;subst q;simp[il]
 |scr n=>obtain⟨_,q⟩:=r;subst q;simp[il]
 |tup n=>obtain⟨a,vs,q,_⟩:=r;subst q;simp[il]
 |non=>cases(show v'=V.non from r);simp[il]
 |bl b=>cases(show v'=V.bl b from r);simp[il]
 |int b=>cases(show v'=V.int b from r);simp[il]
 |str b=>cases(show v'=V.str b from r);simp[il]
 |any=>exact absurd rfl na
section
variable {a:aw}{ga:ME}{pos pos':Pos}{j:Nat}
theorem isG{Q:VK}(t:TGe G X E EX (eUn mM ga) σ' H Q):tOp (λx y H Q=>y=.non/\Q (.bl (decide (x=.non))) H) (TGe G X E EX ga) (tC .non) σ' H Q:=by
 obtain ⟨m,h,σ,ex,S,R,P⟩:=t;exact sub ex S R P λv m1 h1 H1 v' x1 R1 r1 P1=>⟨rfl,by
  by_cases na:v=.any
  ·subst na;exact P1.elim
  ·rw [r1.non_iff na];cases v <;> first | exact Post.here R1 P1 _ rfl | exact absurd rfl na⟩
theorem GY{Q:VK}(t:TGe G X E EX (eUn lK ga) σ' H Q):tOp (λx y H Q=>y=.non/\Q (.bl (!decide (x=.non))) H) (TGe G X E EX ga) (tC .non) σ' H Q:=by
 obtain ⟨m,h,σ,ex,S,R,P⟩:=t;exact sub ex S R P λv m1 h1 H1 v' x1 R1 r1 P1=>⟨rfl,by
  by_cases na:v=.any
  ·subst na;exact P1.elim
  ·rw [r1.non_iff na];cases v <;> first | exact Post.here R1 P1 _ rfl | exact absurd rfl na⟩
theorem Da(ha:GE G X a ga):GT G X (.Compare a [.Is] [.Constant .none j pos'] pos) (eUn mM ga):=λE EX=>mZ (tX B8 (ha E EX) tW (bV _)) λ_ _ _ t=>isG (rT t)
theorem Au(ha:GE G X a ga):GT G X (.Compare a [.IsNot] [.Constant .none j pos'] pos) (eUn lK ga):=λE EX=>mZ (tX HL (ha E EX) tW (bV _)) λ_ _ _ t=>GY (rT t)
theorem EM(ha:GE G X a ga):GE G X (.UnaryOp .USub a pos) (eUn vc ga):=λE EX=>dC (vE wY (ha E EX)) λσ' H Q e0=>bK e0 λm h σ ex S R P=>
 sub ex S R P λv m1 h1 H1 v' x1 R1 r1 P1=>by
  cases v with
  |int i=>cases(show v'=V.int i from r1);exact⟨i,rfl,Post.here R1 P1 _ rfl⟩
  |_=>exact P1.elim
end
section
variable {a b c:aw}{ga gb gc:ME}{pos:Pos}{rest:List aw}
theorem xO(ha:GE G X a ga)(he:∀whole,isTrue a X.env whole=(do let v ←whole;standAt a.pos;holding [v] (truthy v)):=by intro _;rfl):GT G X a ga:=λE EX=>
 mZ (C6 (X:=X.wish E) (ha E EX) he) λσ' H Q t=>rT t
theorem GW.gt(h:GW G X a ga):GT G X a ga:=λE EX=>(h E EX).pt
theorem kq(op:BoolOp)(ha:GT G X a ga):GW G X (.BoolOp op [a] pos) ga:=λE EX=>by
 cases op with
 |And=>exact A2 (ha E EX)
 |Or=>exact Ck (ha E EX)
theorem jm{α β γ:Type}(a:M α)(f:α->M β)(g:β->M γ):bnd (bnd a f) g=bnd a λx=>bnd (f x) g:=by
 funext h;unfold bnd;cases a h <;> rfl
theorem Bq:tst (jM ga gb) σ=bnd (tst ga σ) λc=>if c=true then tst gb σ else ret false:=by
 show bnd (bnd (tst ga σ) _) asB=_;rw[jm];congr 1;funext c;cases c <;> rfl
theorem DY:tst (eOr ga gb) σ=bnd (tst ga σ) λc=>if c=true then ret true else tst gb σ:=by
 show bnd (bnd (tst ga σ) _) asB=_;rw[jm];congr 1;funext c;cases c <;> rfl
theorem Dj:tst (lR ga) σ=bnd (tst ga σ) λc=>ret (!c):=by
 show bnd (bnd (tst ga σ) _) asB=_;rw[jm];rfl
theorem Ew(ha:GT G X a ga)(hb:GW G X (.BoolOp .And (b::rest) pos) gb):GW G X (.BoolOp .And (a::b::rest) pos) (jM ga gb):=λE EX=>
 ye (Fa (ha E EX) (hb E EX)) λσ' H Q e0=>bK e0 λm h σ ex S R P=>by
  rw[Bq]at P;refine kO ex S R P λk m1 h1 H1 x1 R1 P1=>?_;cases k with
  |true=>exact⟨m1,h1,σ,ex,S.mono x1,R1,P1⟩
  |false=>exact Post.here R1 P1
theorem ju(ha:GT G X a ga)(hb:GW G X (.BoolOp .Or (b::rest) pos) gb):GW G X (.BoolOp .Or (a::b::rest) pos) (eOr ga gb):=λE EX=>
 ye (Dr (ha E EX) (hb E EX)) λσ' H Q e0=>bK e0 λm h σ ex S R P=>by
  rw[DY]at P;refine kO ex S R P λk m1 h1 H1 x1 R1 P1=>?_;cases k with
  |false=>exact⟨m1,h1,σ,ex,S.mono x1,R1,P1⟩
  |true=>exact Post.here R1 P1
theorem vZ(ha:GT G X a ga):GT G X (.UnaryOp .Not a pos) (lR ga):=λE EX=>
 mZ (Ia (ha E EX)) λσ' H Q e0=>bK e0 λm h σ ex S R P=>by
  rw[Dj]at P;exact kO ex S R P λk m1 h1 H1 x1 R1 P1=>Post.here R1 P1
theorem HA{op:BoolOp}(ha:GE G X a ga):GE G X (.BoolOp op [a] pos) ga:=λE EX=>D0 (ha E EX)
theorem Ef(ha:GE G X a ga)(hb:GE G X (.BoolOp .And (b::rest) pos) gb):GE G X (.BoolOp .And (a::b::rest) pos) (jM ga gb):=λE EX=>
 dC (Ie (ha E EX) (hb E EX)) λσ' H Q e0=>bK e0 λm h σ ex S R P=>D5 ex S R P λk m1 h1 H1 x1 R1 P1=>by
  cases k with
  |true=>exact⟨m1,h1,σ,ex,S.mono x1,R1,P1⟩
  |false=>exact Post.here R1 P1 _ rfl
theorem Cb(hc:GT G X c gc)(ha:GE G X a ga)(hb:GE G X b gb):GE G X (.IfExp c a b pos) (eIf gc ga gb):=λE EX=>
 dC (EA (hc E EX) (ha E EX) (hb E EX)) λσ' H Q e0=>bK e0 λm h σ ex S R P=>kO ex S R P λk m1 h1 H1 x1 R1 P1=>by
  cases k with
  |true=>exact⟨m1,h1,σ,ex,S.mono x1,R1,P1⟩
  |false=>exact⟨m1,h1,σ,ex,S.mono x1,R1,P1⟩
end
section
variable {e:aw}{es:List aw}{ge:ME}{ga:MA}{pos:Pos}
theorem aI:GA G X [] az:=λE EX=>Aj oq λσ' H Q ⟨m,h,σ,ex,S,R,P⟩=>Post.here R P _ .nil
theorem au(he:GE G X e ge)(hr:GA G X es ga)(hs:aJ (e::es) X.env=(false,aG e X.env)::aJ es X.env:=by rfl):GA G X (e::es) (ao ge ga):=λE EX=>
 Aj (fH (X:=X.wish E) (he E EX) (hr E EX) hs) λσ' H Q ⟨m,h,σ,ex,S,R,P⟩=>sub ex S R P λv m1 h1 H1 v' x1 R1 r1 P1=>jv ex (S.mono x1) R1 P1 λw m2 h2 H2 w' x2 R2 r2 P2=>Post.here R2 P2 _ (.cons (x2.vr r1) r2)
theorem small{n:Nat}(q:n≤1000):n≤aV:=kP (EZ q)
theorem big{n:Nat}(q:n≤100000):n≤aV:=cB q (by decide)
theorem jx{xs:List MV}{vs:List V}{Q:VK}(R:HR G m h H)(r:VRs G m H xs vs)(P:Post G X E EX m H (new (.lst xs) h) λv m' _ H'=>∀v',VR G m' H' v v'->Q v' H'){p:ae}(hp:H p=none):Q (.ref p) (upd H p (.lst vs)):=by
 have x:=Ext.new (u:=.lst vs) R hp;refine P (m++[p]) (upd H p (.lst vs)) x (R.new hp ⟨vs,x.vrs r,dh⟩) (.ref p) ⟨p,?_,rfl⟩;rw[←R.len];simp
theorem yW{xs:List MV}{vs:List V}{Q:VK}(R:HR G m h H)(r:VRs G m H xs vs)(P:Post G X E EX m H (.ok (.tup xs) h) λv m' _ H'=>∀v',VR G m' H' v v'->Q v' H'){p:ae}(hp:H p=none):Q (.ref p) (upd H p (.tup vs)):=by
 have x:Ext m H m (upd H p (.tup vs)):=Ext.side hp;exact P m (upd H p (.tup vs)) x (R.side hp) (.ref p) ⟨p,vs,rfl,R.fresh hp,dh,VRl.of (x.vrs r)⟩
theorem fq(ha:GA G X es ga):GE G X (.List es pos) (dX ga):=λE EX=>
 dC (CA (ha E EX)) λσ' H Q e0=>bK e0 λm h σ ex S R P=>jv ex S R P λxs m1 h1 H1 vs x1 R1 r1 P1=>by
  split at P1
  ·rename_i hz;exact⟨by rw[←Paired.length r1];exact small hz,λp hp=>jx R1 r1 P1 hp⟩
  ·exact P1.elim
theorem qC{k}(ha:GA G X es ga):GE G X (.Tuple es k pos) (f6 ga):=λE EX=>
 dC (Hf (ha E EX)) λσ' H Q e0=>bK e0 λm h σ ex S R P=>jv ex S R P λxs m1 h1 H1 vs x1 R1 r1 P1=>by
  split at P1
  ·rename_i hz;exact⟨by rw[←Paired.length r1];exact small hz,λp hp=>yW R1 r1 P1 hp⟩
  ·exact P1.elim
end
theorem f8{α β:Type}{R:α->β->Prop}:∀{xs:List α}{ys:List β}{i:Nat}{x:α},Paired R xs ys->xs[i]?=some x->∃y,ys[i]?=some y/\R x y
 |_,_,_,_,.nil,e=>by simp at e
 |_,_,0,_,.cons r _,e=>by simp at e;subst e;exact⟨_,rfl,r⟩
 |_,_,i+1,x,.cons _ t,e=>by
   obtain⟨u,h1,h2⟩:=f8 (i:=i) (x:=x) t (by simpa using e);exact⟨u,by simpa using h1,h2⟩
theorem iJ{α β:Type}{R:α->β->Prop}:∀{xs zs:List α}{ys ws:List β},Paired R xs ys->Paired R zs ws->Paired R (xs++zs) (ys++ws)
 |_,_,_,_,.nil,s=>s
 |_,_,_,_,.cons r t,s=>.cons r (iJ t s)
theorem xP{α β:Type}{R:α->β->Prop}{x:α}{y:β}(r:R x y):∀{xs:List α}{ys:List β}(i:Nat),Paired R xs ys->Paired R (xs.set i x) (ys.set i y)
 |_,_,_,.nil=>.nil
 |_,_,0,.cons _ t=>.cons r t
 |_,_,i+1,.cons q t=>.cons q (xP r i t)
theorem cb{β:Type}{n:Nat}{a:ae}{k:MO->M β}{Q:β->List ae->MH->Hp->Prop}(R:HR G m h H)(e:m[n]?=some a)(P:Post G X E EX m H (bnd (look n) k h) Q) :
  ∃o,h[n]?=some o/\OR G m H a o/\Post G X E EX m H (k o h) Q:=by
 obtain⟨o,e1,q⟩:=R.get e;refine⟨o,e1,q,?_⟩;simpa only[bnd,look,e1] using P
theorem CD{f:Op2}{C:Int->Int->Prop}{g:Int->Int->V}{gm:Int->Int->MV}(hf:∀i j h (Q:MV->List ae->MH->Hp->Prop) X E EX m H,HR G m h H->Post G X E EX m H (f (.int i) (.int j) h) Q->C i j/\Q (gm i j) m h H)(hg:∀m H i j,VR G m H (gm i j) (g i j))
  (hn:∀x y h,(∀i j,¬(x=.int i/\y=.int j))->f x y h=.stuck):VO G f (rI C g):=by
 intro X E EX m h H x y x' y' Q R rx ry P;by_cases e:∃i j,x=.int i/\y=.int j
 ·obtain⟨i,j,rfl,rfl⟩:=e;obtain⟨c,q⟩:=hf i j h _ X E EX m H R P;exact⟨i,j,rx,ry,c,q _ (hg m H i j)⟩
 ·rw[hn x y h λi j z=>e ⟨i,j,z⟩]at P;exact P.elim
theorem rq{f:Op2}{g:Int->Int->V}{gm:Int->Int->MV}(hf:∀i j h,f (.int i) (.int j) h=.ok (gm i j) h)(hg:∀m H i j,VR G m H (gm i j) (g i j))
  (hn:∀x y h,(∀i j,¬(x=.int i/\y=.int j))->f x y h=.stuck):VO G f (rI0 g):=by
 intro X E EX m h H x y x' y' Q R rx ry P;by_cases e:∃i j,x=.int i/\y=.int j
 ·obtain⟨i,j,rfl,rfl⟩:=e;rw[hf]at P;exact⟨i,j,rx,ry,Post.here R P _ (hg m H i j)⟩
 ·rw[hn x y h λi j z=>e ⟨i,j,z⟩]at P;exact P.elim
theorem qV:VO G gM (rI0 λi j=>.int (i-j)):=rq (gm:=λi j=>.int (i-j)) (λ_ _ _=>rfl) (λ_ _ _ _=>rfl) λx y h n=>by
 cases x <;> cases y <;> first|rfl|exact absurd ⟨rfl,rfl⟩ (n _ _)
theorem iZ:VO G oLt (rI0 λi j=>.bl (decide (i<j))):=rq (gm:=λi j=>.bl (decide (i<j))) (λ_ _ _=>rfl) (λ_ _ _ _=>rfl) λx y h n=>by
 cases x <;> cases y <;> first|rfl|exact absurd ⟨rfl,rfl⟩ (n _ _)
theorem jE:VO G oGt (rI0 λi j=>.bl (decide (j<i))):=rq (gm:=λi j=>.bl (decide (j<i))) (λ_ _ _=>rfl) (λ_ _ _ _=>rfl) λx y h n=>by
 cases x <;> cases y <;> first|rfl|exact absurd ⟨rfl,rfl⟩ (n _ _)
theorem vS:VO G oGe (rI0 λi j=>.bl (decide (j≤i))):=rq (gm:=λi j=>.bl (decide (j≤i))) (λ_ _ _=>rfl) (λ_ _ _ _=>rfl) λx y h n=>by
 cases x <;> cases y <;> first|rfl|exact absurd ⟨rfl,rfl⟩ (n _ _)
def v8:R2:=λx y H Q=>rI CMul (λi j=>.int (i*j)) x y H Q∨vF x y H Q
theorem Im:OpR X (binaryOp .Mult) v8:=DK.or Hi
theorem z9{α β:Type}{Rr:α->β->Prop}{xs:List α}{ys:List β}(r:Paired Rr xs ys):∀k,Paired Rr (br k xs).flatten (br k ys).flatten
 |0=>.nil
 |k+1=>by
   rw[fZ,fZ,lO,lO];exact iJ r (z9 r k)
theorem BQ:VO G kB v8:=by
 intro X E EX m h H x y x' y' Q R rx ry P;cases x with
 |int i=>cases y with
   |int j=>
     unfold kB at P;dsimp only at P;split at P
     ·rename_i c;exact .inl ⟨i,j,rx,ry,c,Post.here R P _ rfl⟩
     ·exact P.elim
   |_=>exact P.elim
 |ref a=>cases y with
   |int j=>
     obtain⟨aa,ea,rfl⟩:=rx;obtain⟨oa,e1,q1,P1⟩:=cb R ea P;cases oa with
     |lst xs=>
       obtain⟨vs,r,z⟩:=q1;dsimp only at P1;split at P1
       ·rename_i c;refine .inr ⟨aa,j,vs,rfl,ry,z,by lia,by lia,by rw[←Paired.length r];exact big c.2.2,λp hp=>jx R (z9 r j.toNat) P1 hp⟩
       ·exact P1.elim
     |_=>exact P1.elim
   |_=>exact P.elim
 |_=>exact P.elim
theorem ky:VO G gA (rI (λ_ j=>0 < j) λi j=>.int (i % j)):=CD (gm:=λi j=>.int (i % j)) (λi j h Q X E EX m H R P=>by
  unfold gA at P;dsimp only at P;split at P
  ·rename_i c;exact⟨c,Post.here R P⟩
  ·exact P.elim) (λ_ _ _ _=>rfl) λx y h n=>by
 cases x <;> cases y <;> first|rfl|exact absurd ⟨rfl,rfl⟩ (n _ _)
def rN:R2:=λx y H Q=>rI0 (λi j=>.int (i+j)) x y H Q∨((∃i j,x=.str i/\y=.str j/\i.length+j.length≤aV/\Q (.str (i++j)) H)∨Am x y H Q)
theorem gp:OpR X (binaryOp .Add) rN:=Bt.or (D6.or Be)
theorem fX:VO G dM rN:=by
 intro X E EX m h H x y x' y' Q R rx ry P;cases x with
 |int i=>cases y with
   |int j=>exact .inl ⟨i,j,rx,ry,Post.here R P _ rfl⟩
   |_=>exact P.elim
 |str i=>cases y with
   |str j=>
     unfold dM at P;dsimp only at P;split at P
     ·rename_i c;exact .inr (.inl ⟨i,j,rx,ry,big c,Post.here R P _ rfl⟩)
     ·exact P.elim
   |_=>exact P.elim
 |ref a=>cases y with
   |ref b=>
     obtain⟨aa,ea,rfl⟩:=rx;obtain⟨bb,eb,rfl⟩:=ry;obtain⟨oa,e1,q1,P1⟩:=cb R ea P;obtain⟨ob,e2,q2,P2⟩:=cb R eb P1;cases oa with
     |lst xs=>cases ob with
       |lst ys=>
         dsimp only at P2;split at P2
         ·rename_i c;obtain⟨vs,r1,z1⟩:=q1;obtain⟨ws,r2,z2⟩:=q2;exact .inr (.inr ⟨aa,bb,vs,ws,rfl,rfl,z1,z2,by rw[←Paired.length r1,←Paired.length r2];exact big c,λp hp=>jx R (iJ r1 r2) P2 hp⟩)
         ·exact P2.elim
       |_=>exact P2.elim
     |_=>exact P2.elim
   |_=>exact P.elim
 |non=>exact P.elim
 |bl _=>exact P.elim
 |scr _=>exact P.elim
 |tup _=>exact P.elim
 |any=>exact P.elim
theorem tu{f:MV->Option PyData}{s:aj}:∀{xs:List MV}{vs:List V}{us:List af}{ds:List PyData},VRs G m H xs vs->Vals vs us->(∀x v u d,VR G m H x v->aN v u->f x=some d->∃as,Reads s.heap u d as)->ik f xs=some ds->∃as,ReadsAll s.heap us ds as
 |_,_,_,ds,.nil,.nil,_,e=>by
   cases(show([]:List PyData)=ds from Option.some.inj e);exact⟨_,.nil⟩
 |x::xs,_,_,ds,.cons r t,.cons q w,k,e=>by
   unfold ik at e;cases e1:f x with
   |none=>rw[e1]at e;cases e
   |some d=>
     cases e2:ik f xs with
     |none=>rw[e1,e2]at e;cases e
     |some es=>
       rw[e1,e2]at e;cases e;obtain⟨as,h1⟩:=k _ _ _ _ r q e1;obtain⟨bs,h2⟩:=tu t w k e2;exact⟨_,.cons h1 h2⟩
theorem kD{pins:List (ae×aB)}{s:aj}{σ2:St}(I:Inv X pins σ2 H s)(R:HR G m h H):∀(n:Nat) (x:MV) (v:V) (u:af) (d:PyData),VR G m H x v->aN v u->dat h n x=some d->∃as,Reads s.heap u d as:=by
 intro n
 induction n with
 |zero=>
   intro x v u d r q e;cases x with
   |non=>cases(show v=V.non from r);cases q;cases(show some PyData.none=some d from e);exact⟨_,.none⟩
   |bl b=>cases(show v=V.bl b from r);cases q;cases(show some (PyData.bool b)=some d from e);exact⟨_,.bool b⟩
   |int i=>cases(show v=V.int i from r);obtain⟨t,rfl⟩:=q;cases(show some (PyData.int i)=some d from e);exact⟨_,.int i t⟩
   |str i=>cases(show v=V.str i from r);obtain⟨t,rfl⟩:=q;cases(show some (PyData.str i)=some d from e);exact⟨_,.str i t⟩
   |_=>cases(show none=some d from e)
 |succ n ih=>
   intro x v u d r q e;cases x with
   |non=>cases(show v=V.non from r);cases q;cases(show some PyData.none=some d from e);exact⟨_,.none⟩
   |bl b=>cases(show v=V.bl b from r);cases q;cases(show some (PyData.bool b)=some d from e);exact⟨_,.bool b⟩
   |int i=>cases(show v=V.int i from r);obtain⟨t,rfl⟩:=q;cases(show some (PyData.int i)=some d from e);exact⟨_,.int i t⟩
   |str i=>cases(show v=V.str i from r);obtain⟨t,rfl⟩:=q;cases(show some (PyData.str i)=some d from e);exact⟨_,.str i t⟩
   |tup xs=>
     obtain⟨a,vs,rfl,_,z,rl⟩:=(show ∃a vs,v=.ref a/\a∉m/\H a=some (.tup vs)/\VRl G m H xs vs from r);cases q;unfold dat at e;cases e1:ik (dat h n) xs with
     |none=>rw[e1]at e;cases e
     |some ds=>
       rw[e1]at e;cases e;obtain⟨its,rv,p,hz⟩:=I.tuple (SqT.of z);obtain⟨as,hr⟩:=tu (VRl.to rl) rv (λx v u d=>ih x v u d) e1;obtain⟨o,ho,hc,k,hd⟩:=(show s.heap.IsTuple a its.toArray from p);exact⟨_,reads_tuple_at ho hc hd (by simpa using hr)⟩
   |ref i=>
     obtain⟨a,ea,rfl⟩:=(show ∃a,m[i]?=some a/\v=.ref a from r);cases q;obtain⟨ob,eo,qo⟩:=R.get ea;unfold dat at e;rw[eo]at e;cases ob with
     |lst xs=>
       dsimp only at e;obtain⟨vs,rl,z⟩:=qo;cases e1:ik (dat h n) xs with
       |none=>rw[e1]at e;cases e
       |some ds=>
         rw[e1]at e;cases e;obtain⟨its,rv,p,hz⟩:=I.list (SqL.of z);obtain⟨as,hr⟩:=tu rl rv (λx v u d=>ih x v u d) e1;obtain⟨o,ho,hc,k,hd⟩:=p.isList;exact⟨_,reads_list_at ho hc hd (by simpa using hr)⟩
     |_=>cases(show none=some d from e)
   |scr _=>cases(show none=some d from e)
   |any=>cases(show none=some d from e)
def pI(neg:Bool):R2:=λx y H Q=>(∃(G:Gb) (m:List ae) (h:MH) (a b:MV) (d e:PyData),HR G m h H/\VR G m H a x/\VR G m H b y/\dat h 6 a=some d/\dat h 6 b=some e/\(SeqAt.shaped d=true/\SeqAt.shaped e=true)/\Q (.bl (if neg then !PyData.eqv d e else PyData.eqv d e)) H)
theorem eS(hu:X.A.units+64<cLine):OpR X (dL .Eq) (λx y H Q=>rEq x y H Q∨pI false x y H Q):=by
 refine GV.or ?_;rintro pins s σ2 H x y v u Q I rx ry ⟨G,m,h,a,b,d,e,R,ra,rb,da,db,sh,q⟩;obtain⟨as,r1⟩:=kD I R 6 a x v d ra rx da;obtain⟨bs,r2⟩:=kD I R 6 b y u e rb ry db;exact eq_dataH r1 r2 sh.1 sh.2 hu ⟨.bl _,H,I,rfl,q⟩
theorem my(hu:X.A.units+64<cLine):OpR X (dL .NotEq) (λx y H Q=>rNe x y H Q∨pI true x y H Q):=by
 refine Fe.or ?_;rintro pins s σ2 H x y v u Q I rx ry ⟨G,m,h,a,b,d,e,R,ra,rb,da,db,sh,q⟩;obtain⟨as,r1⟩:=kD I R 6 a x v d ra rx da;obtain⟨bs,r2⟩:=kD I R 6 b y u e rb ry db;exact ne_dataH r1 r2 sh.1 sh.2 hu ⟨.bl _,H,I,rfl,q⟩
theorem wZ{β:Type}{x y:MV}{k:Bool->M β}{Q:β->List ae->MH->Hp->Prop}(P:Post G X E EX m H (bnd (lg x y) k h) Q):∃d e,dat h 6 x=some d/\dat h 6 y=some e/\(SeqAt.shaped d=true/\SeqAt.shaped e=true)/\Post G X E EX m H (k (PyData.eqv d e) h) Q:=by
 unfold bnd lg at P;cases e1:dat h 6 x with
 |none=>rw[e1]at P;exact P.elim
 |some d=>
   cases e2:dat h 6 y with
   |none=>rw[e1,e2]at P;exact P.elim
   |some e=>
     rw[e1,e2]at P;dsimp only at P;by_cases c:SeqAt.shaped d=true/\SeqAt.shaped e=true
     ·rw[if_pos c]at P;exact⟨d,e,rfl,rfl,c,P⟩
     ·rw[if_neg c]at P;exact P.elim
theorem eW:VO G oEq (λx y H Q=>rEq x y H Q∨pI false x y H Q):=by
 intro X E EX m h H x y x' y' Q R rx ry P;unfold oEq at P;split at P
 ·rename_i c;refine .inl ?_;cases x <;> cases y <;> first|(exfalso;exact bW c)|(cases rx;cases ry;refine⟨rfl,?_⟩;have q:=Post.here R P _ rfl;simpa using q)
 ·obtain⟨d,e,h1,h2,c,P1⟩:=wZ P;exact .inr ⟨G,m,h,x,y,d,e,R,rx,ry,h1,h2,c,Post.here R P1 _ rfl⟩
theorem l6:VO G oNe (λx y H Q=>rNe x y H Q∨pI true x y H Q):=by
 intro X E EX m h H x y x' y' Q R rx ry P;unfold oNe at P;split at P
 ·rename_i c;refine .inl ?_;cases x <;> cases y <;> first|(exfalso;exact bW c)|(cases rx;cases ry;refine⟨rfl,?_⟩;have q:=Post.here R P _ rfl;simpa using q)
 ·obtain⟨d,e,h1,h2,c,P1⟩:=wZ P;exact .inr ⟨G,m,h,x,y,d,e,R,rx,ry,h1,h2,c,Post.here R P1 _ rfl⟩
theorem kL{k:Str}:∀{kvs:List (Str×MV)}{ws:List (Key×V)},DR G m H kvs ws->(∀v,dget k kvs=some v->∃v',eM ws (Sum.inr k)=some v'/\VR G m H v v')/\(dget k kvs=none->eM ws (Sum.inr k)=none)
 |_,_,.nil=>⟨λv e=>(by cases e),λ_=>rfl⟩
 |(a,u)::kvs,(b,u')::ws,.cons ⟨q,r⟩ t=>by
   have q:b=Sum.inr a:=q;subst q;have ih:=kL (k:=k) t;unfold dget;by_cases e:a=k
   ·subst e;rw[if_pos rfl,qe rfl];exact⟨λv e=>⟨u',rfl,by cases e;exact r⟩,λe=>by cases e⟩
   ·rw[if_neg e,pD (λz=>e (Sum.inr.inj z))];exact ih
theorem xy{k:Str}{kvs:List (Str×MV)}{ws:List (Key×V)}(r:DR G m H kvs ws):(ws.any λkv=>decide (kv.1=Sum.inr k))=(dget k kvs).isSome:=by
 rw[o5];obtain⟨a,b⟩:=kL (k:=k) r;cases e:dget k kvs with
 |none=>rw[b e];rfl
 |some v=>obtain⟨v',e',_⟩:=a v e;rw[e'];rfl
theorem G6{k:Str}{v:MV}{v':V}(rv:VR G m H v v'){kvs:List (Str×MV)}{ws:List (Key×V)}(r:DR G m H kvs ws):DR G m H (dput k v kvs) (fe ws (Sum.inr k) v'):=by
 unfold dput fe;rw[xy r];by_cases c:(dget k kvs).isSome=true
 ·rw[if_pos c,if_pos c]
  clear c
  induction r with
  |nil=>exact .nil
  |cons p t ih=>
    rename_i x y l1 l2;simp only[bD];by_cases e:x.1=k
    ·rw[if_pos e,if_pos (by rw[p.1,e])];exact .cons ⟨p.1,rv⟩ ih
    ·rw[if_neg e,if_neg (by rw[p.1];exact λz=>e (Sum.inr.inj z))];exact .cons p ih
 ·rw[if_neg c,if_neg c];exact iJ r (.cons ⟨rfl,rv⟩ .nil)
theorem Ja{k:Str}{kvs:List (Str×MV)}{ws:List (Key×V)}(r:DR G m H kvs ws):DR G m H (lQ k kvs) (jb ws (Sum.inr k)):=by
 unfold lQ jb
 induction r with
 |nil=>exact .nil
 |cons p t ih=>
   rename_i x y l1 l2;by_cases e:x.1=k
   ·rw[mY (by simp[e]),mY (by rw[p.1];simp[e])];exact ih
   ·rw[mw (by simp[e]),mw (by rw[p.1];simp[e])];exact .cons p ih
def sJ:R2:=λx y H Q=>∃a v,x=.ref a/\DGet H a y (some v)/\Q v H
theorem G1(hu:X.A.units+1<cLine):IxR X sJ:=by
 rintro value slice pins s σ H x y v u Q I rx ry ⟨a,w,ex,g,q⟩ hs;subst ex;cases rx;exact tail_any (AL I g) PySem.F.slot_dict_getitem.lookup (xL hu I g ry λw' s3 I3 rw'=>⟨w,H,I3,rw',q⟩) hs
def Iv(K:PySem.W.Frag):R2:=λx y H Q=>rIx K x y H Q∨sJ x y H Q
theorem nU{α:Type}(xs:List α)(i:Int):atI xs i=atN xs i:=by
 unfold atI atN L2.ixN;by_cases h0:0≤i
 ·rw[if_pos h0,if_pos h0];by_cases hn:i<xs.length
  ·rw[if_pos hn];rfl
  ·rw[if_neg hn];exact(mE.mpr (by lia)).symm
 ·rw[if_neg h0,if_neg h0];by_cases hn:-(xs.length:Int)≤i
  ·rw[if_pos hn,if_pos hn];rfl
  ·rw[if_neg hn,if_neg hn];rfl
theorem sF{α β:Type}{Rr:α->β->Prop}{xs:List α}{ys:List β}{i:Int}{x:α}(r:Paired Rr xs ys)(e:atN xs i=some x):∃y,atN ys i=some y/\Rr x y:=by
 unfold atN at e ⊢;rw[←Paired.length r];split at e
 ·rename_i c;rw[if_pos c];exact f8 r e
 ·rename_i c;rw[if_neg c];split at e
  ·rename_i d;rw[if_pos d];exact f8 r e
  ·cases e
theorem HR.sq(R:HR G m h H):SqL G.K H G.sa (G.ns.map V.int):=by
 rcases R.scr with⟨o,q⟩|q
 ·exact .inl (.inr ⟨o,q⟩)
 ·exact q H
theorem A7:VO G oIx (Iv G.K):=by
 intro X E EX m h H x y x' y' Q R rx ry P;cases x with
 |ref a=>cases y with
   |int i=>
     obtain⟨aa,ea,rfl⟩:=rx;obtain⟨oa,e1,q1,P1⟩:=cb R ea P;cases oa with
     |lst xs=>
       obtain⟨vs,r,z⟩:=q1;dsimp only at P1;cases e:atN xs i with
       |none=>simp only[e]at P1;exact P1.elim
       |some v=>
         simp only[e]at P1;obtain⟨v',e',rv⟩:=sF r e;exact .inl (.inl ⟨aa,vs,i,v',rfl,ry,SqL.of z,by rw[nU];exact e',Post.here R P1 _ rv⟩)
     |_=>exact P1.elim
   |str k=>
     obtain⟨aa,ea,rfl⟩:=rx;obtain⟨oa,e1,q1,P1⟩:=cb R ea P;cases oa with
     |dct kvs=>
       obtain⟨ws,r,z⟩:=q1;dsimp only at P1;cases e:dget k kvs with
       |none=>simp only[e]at P1;exact P1.elim
       |some v=>
         simp only[e]at P1;obtain⟨v',e',rv⟩:=(kL (k:=k) r).1 v e;cases(show y'=V.str k from ry);exact .inr ⟨aa,v',rfl,e'▸DGet.k (k:=Sum.inr k) z,Post.here R P1 _ rv⟩
     |_=>exact P1.elim
   |_=>exact P.elim
 |tup xs=>cases y with
   |int i=>
     obtain⟨aa,vs,rfl,_,z,r⟩:=rx;have r:=VRl.to r;unfold oIx at P;dsimp only at P;cases e:atN xs i with
     |none=>simp only[e]at P;exact P.elim
     |some v=>
       simp only[e]at P;obtain⟨v',e',rv⟩:=sF r e;exact .inl (.inr (.inl ⟨aa,vs,i,v',rfl,ry,SqT.of z,by rw[nU];exact e',Post.here R P _ rv⟩))
   |_=>exact P.elim
 |any=>exact P.elim
 |scr ns=>cases y with
   |int i=>
     obtain⟨e0,rfl⟩:=rx;subst e0;unfold oIx at P;dsimp only at P;cases e:atN G.ns i with
     |none=>simp only[e]at P;exact P.elim
     |some v=>
       simp only[e]at P;refine .inl (.inl ⟨G.sa,G.ns.map V.int,i,.int v,rfl,ry,R.sq,?_,Post.here R P _ rfl⟩);rw[nU];unfold atN at e ⊢;rw[c6];split at e
       ·rename_i c;rw[if_pos c,bZ,e];rfl
       ·rename_i c;rw[if_neg c];split at e
        ·rename_i d;rw[if_pos d,bZ,e];rfl
        ·cases e
   |_=>exact P.elim
 |non=>exact P.elim
 |bl _=>exact P.elim
 |int _=>exact P.elim
 |str z=>cases y with
   |int i=>
     unfold oIx at P;dsimp only at P;split at P
     ·rename_i c;cases e:atN z.cps.toList i with
      |none=>simp only[e]at P;exact P.elim
      |some cc=>
        simp only[e]at P;exact .inl (.inr (.inr ⟨z,i,cc,rx,ry,big c,by rw[nU];exact e,Post.here R P _ rfl⟩))
     ·exact P.elim
   |_=>exact P.elim
section
variable {a b:aw}{ga gb:ME}{pos:Pos}
theorem dq(hu:X.A.units+1<cLine)(ha:GE G X a ga)(hb:GE G X b gb)(hs:xu b:=by intro _ _;rfl)(hK:X.K=G.K:=by rfl):GE G X (.Subscript a b pos) (aC oIx ga gb):=λE EX=>
 dC (Fx (X:=X.wish E) (Ea.or (G1 hu)) (ha E EX) (hb E EX) hs) λ_ _ _ t=>by
  have:=opG (ta:=λa _=>a) A7 t;rw[←hK]at this;exact this
end
def VO1(G:Gb)(f:Op1)(r:List V->Hp->VK->Prop):Prop:=∀(X:Cx) (E:af->aj->Prop) (EX:St->Prop) (m:List ae) (h:MH) (H:Hp) (x:MV) (x':V) (Q:VK),HR G m h H->VR G m H x x' ->
 Post G X E EX m H (f x h) (λv m' _ H'=>∀v',VR G m' H' v v'->Q v' H')->r [x'] H Q
section
variable {e:aw}{ge:ME}{x:Str}{p pos:Pos}{id T:String}{f:Op1}{r:List V->Hp->VK->Prop}
theorem GE.a1(he:GE G X e ge)(hs:aJ [e] X.env=[(false,aG e X.env)]):∀E EX,PA (X.wish E) [e] (mf (TGe G X E EX ge) qi):=λE EX=>fH (X:=X.wish E) (he E EX) oq hs
theorem zi{Q:VK}(vo:VO1 G f r)(t:TGe G X E EX (eUn f ge) σ' H Q):tCB r (mf (TGe G X E EX ge) qi) σ' H Q:=by
 obtain⟨m,h,σ,ex,S,R,P⟩:=t;exact sub ex S R P λv m1 h1 H1 v' x1 R1 r1 P1=>vo _ _ _ _ _ _ _ _ _ R1 r1 P1
theorem d8(hc:∀E,dR (X.wish E) (.builtin id) r)(vo:VO1 G f r)(he:GE G X e ge)(hm:X.mg x=none)(hv:bootBuiltins x=some (.builtin id))(hg:Gl X x:=by rfl)(hn:x≠"__name__":=by decide)(hdb:(x == ("__debug__":Str))=false:=by decide)
  (hs:aJ [e] X.env=[(false,aG e X.env)]:=by rfl):GE G X (.Call (.Name x p) [e] [] pos) (eUn f ge):=λE EX=>
 dC (sC (X:=X.wish E) (hc E) hg hm hv (he.a1 hs E EX) hn hdb hs rfl) λ_ _ _ t=>zi vo t
theorem yz(hc:∀E,dR (X.wish E) (.type T) r)(vo:VO1 G f r)(he:GE G X e ge)(hm:X.mg x=none)(hv:bootBuiltins x=some (.type T))(hg:Gl X x:=by rfl)(hn:x≠"__name__":=by decide)(hdb:(x == ("__debug__":Str))=false:=by decide)
  (hs:aJ [e] X.env=[(false,aG e X.env)]:=by rfl):GE G X (.Call (.Name x p) [e] [] pos) (eUn f ge):=λE EX=>
 dC (CK (X:=X.wish E) (hc E) hg hm hv (he.a1 hs E EX) hn hdb hs rfl) λ_ _ _ t=>zi vo t
end
def wn(K:PySem.W.Frag):List V->Hp->VK->Prop:=λxs H Q=>(∃x n,xs=[x]/\wR K x H n/\Q (.int n) H)∨∃a kvs,xs=[V.ref a]/\H a=some (.dK kvs)/\Q (.int kvs.length) H
theorem eP:dR X (.builtin "len") (wn X.K):=C5.or DE
theorem eQ:VO1 G cR (wn G.K):=by
 intro X E EX m h H x x' Q R rx P;cases x with
 |ref a=>
   obtain⟨aa,ea,rfl⟩:=rx;obtain⟨oa,e1,q1,P1⟩:=cb R ea P;cases oa with
   |lst xs=>
     obtain⟨vs,r,z⟩:=q1;exact .inl ⟨_,vs.length,rfl,.inl ⟨vs,SqL.of z,rfl⟩,by rw[←Paired.length r];exact Post.here R P1 _ rfl⟩
   |dct kvs=>
     obtain⟨ws,r,z⟩:=q1;exact .inr ⟨aa,ws,rfl,z,by rw[←Paired.length r];exact Post.here R P1 _ rfl⟩
   |_=>exact P1.elim
 |str y=>
   unfold cR at P;dsimp only at P;split at P
   ·rename_i c;cases(show x'=V.str y from rx);exact .inl ⟨_,y.length,rfl,⟨big c,rfl⟩,Post.here R P _ rfl⟩
   ·exact P.elim
 |scr ns=>
   obtain⟨e0,rfl⟩:=rx;subst e0;exact .inl ⟨_,(G.ns.map V.int).length,rfl,.inl ⟨_,R.sq,rfl⟩,by rw[c6];exact Post.here R P _ rfl⟩
 |tup xs=>
   obtain⟨aa,vs,rfl,_,z,r⟩:=rx;exact .inl ⟨_,vs.length,rfl,.inr ⟨vs,SqT.of z,rfl⟩,by rw[←Paired.length (VRl.to r)];exact Post.here R P _ rfl⟩
 |non=>exact P.elim
 |bl _=>exact P.elim
 |int _=>exact P.elim
 |any=>exact P.elim
def Ik(K:PySem.W.Frag):List V->Hp->VK->Prop:=λxs H Q=>∃p ys,xs=[.ref p]/\(SqL K H p ys∨SqT K H p ys)/\∀l,H l=none->Q (.ref l) (L2.upd H l (.lst ys))
theorem BB:VO1 G qh (Ik G.K):=by
 intro X E EX m h H x x' Q R rx P;cases x with
 |ref a=>
   obtain⟨aa,ea,rfl⟩:=rx;obtain⟨oa,e1,q1,P1⟩:=cb R ea P;cases oa with
   |lst xs=>
     obtain⟨vs,r,z⟩:=q1;exact⟨aa,vs,rfl,.inl (SqL.of z),λl hl=>jx R r P1 hl⟩
   |_=>exact P1.elim
 |_=>exact P.elim
section
variable {e o i c:aw}{ge go gi gc:ME}{pos pos':Pos}{st:aP}{rest sa sb:List aP}{a b:MS}
theorem cq:GSs G EX X [] bz:=λE hp=>Ag Fz λD σ' H ⟨m,h,σ,ex,S,R,P⟩=>Post.here R P σ' S
theorem aM(h1:GS G EX X st a):GSs G EX X [st] a:=λE hp=>Fy (h1 E hp)
theorem aF(h1:GS G ET X st a)(h2:GSs G ET X rest b):GSs G ET X (st::rest) (aD a b):=λE hp=>Ag (CZ (h1 E hp) (h2 E hp)) λD σ' H e0=>bK e0 λm h σ ex S R P=>
 ⟨m,h,σ,ex,S,R,P.bind.mono λf m1 h1 H1 x R1 P1=>by
  cases f with
  |next σ1=>exact λσ1' S1=>⟨m1,h1,σ1,trivial,S1,R1,P1⟩
  |brk σ1=>exact Post.here R1 P1
  |cnt σ1=>exact Post.here R1 P1
  | ret v=>exact Post.here R1 P1⟩
theorem cy(he:GE G X e ge)(hs:swapsWith e none pos.line X.env=pure false:=by rfl):GS G EX X (.Expr e pos) (bN ge):=λE hp=>gW (EK (X:=X.wish E) (he E EX) hs) λD σ' H ⟨m,h,σ,ex,S,R,P⟩=>
 sub ex S R P λv m1 h1 H1 v' x1 R1 r1 P1=>Post.here R1 P1 σ' (S.mono x1)
theorem cJ(he:GE G X e ge):GS G EX X (.Return (some e) pos) (bT ge):=λE hp=>gW (Cq (X:=X.wish E) (he E EX)) λD σ' H ⟨m,h,σ,ex,S,R,P⟩=>
 sub ex S R P λv m1 h1 H1 v' x1 R1 r1 P1=>Post.here R1 P1 v' r1
theorem cg(hc:GT G X c gc)(ha:GSs G EX X sa a)(hb:GSs G EX X sb b):GS G EX X (.If c sa sb pos) (sIf gc a b):=λE hp=>gW (GR (hc E EX) (ha E hp) (hb E hp)) λD σ' H e0=>bK e0 λm h σ ex S R P=>
 kO ex S R P λk m1 h1 H1 x1 R1 P1=>by
  cases k with
  |true=>exact⟨m1,h1,σ,ex,S.mono x1,R1,P1⟩
  |false=>exact⟨m1,h1,σ,ex,S.mono x1,R1,P1⟩
theorem cf{n:Nat}{x:Str}(he:GE G X e ge)(hN:X.N.Nodup)(hi:X.N[n]?=some x:=by rfl)(hx:Loc X.env.scope x:=by first|exact Or.inl rfl|exact Or.inr rfl)
  (hs:swapsWith e (some (.Name x pos')) pos.line X.env=pure false:=by rfl) (hf:X.fn x=true∨X.env.scope.names.lookup x=some .local:=by first|exact .inl rfl|exact .inr rfl) :
  GS G EX X (.Assign [.Name x pos'] e pos) (bB n ge):=λE hp=>gW (FE (X:=X.wish E) hN hi hx (he E EX) hs hf) λD σ' H ⟨m,h,σ,ex,S,R,P⟩=>
 sub ex S R P λv m1 h1 H1 v' x1 R1 r1 P1=>Post.here R1 P1 _ ((S.mono x1).set n r1)
theorem sI{a b:String}(e:aA a=aA b):a=b:=by
 rw[Str.ofString_eq_toList,Str.ofString_eq_toList]at e;have e1:a.toList.map Char.toNat=b.toList.map Char.toNat:=by simpa using congrArg (λs:Str=>s.cps.toList) e
 have e2:a.toList=b.toList:=by
  have inj:∀(l k:List Char),l.map Char.toNat=k.map Char.toNat->l=k:=by
   intro l
   induction l with
   |nil=>intro k q;cases k with
     |nil=>rfl
     |cons _ _=>simp at q
   |cons x l ih=>intro k q;cases k with
     |nil=>simp at q
     |cons y k=>
       simp only[bD,List.cons.injEq]at q;rw[ih k q.2,Char.toNat_inj.mp q.1]
  exact inj _ _ e1
 exact String.toList_inj.mp e2
theorem va{f:String}:∀{fs:List (String×MV)}{ws:List (Str×V)}{v:MV},FR G m H fs ws->fs.lookup f=some v->∃v',ws.lookup (aA f)=some v'/\VR G m H v v'
 |_,_,_,.nil,e=>by simp at e
 |(g,u)::fs,(g',u')::ws,v,.cons ⟨q,r⟩ t,e=>by
   have q:g'=aA g:=q;subst q;by_cases hg:f=g
   ·subst hg;simp only[bI,beq_self_eq_true]at e ⊢;cases e;exact⟨u',rfl,r⟩
   ·have h1:(f == g)=false:=by simpa using hg
    have h2:(aA f == aA g)=false:=by
     rw[beq_eq_false_iff_ne];exact λz=>hg (sI z)
    simp only[bI,h1,h2]at e ⊢;exact va t e
theorem Ac{f:String}:∀{fs:List (String×MV)}{ws:List (Str×V)},FR G m H fs ws->fs.lookup f=none->ws.lookup (aA f)=none
 |_,_,.nil,e=>by simp
 |(g,u)::fs,(g',u')::ws,.cons ⟨q,r⟩ t,e=>by
   have q:g'=aA g:=q;subst q;by_cases hg:f=g
   ·subst hg;simp only[bI,beq_self_eq_true]at e;cases e
   ·have h1:(f == g)=false:=by simpa using hg
    have h2:(aA f == aA g)=false:=by
     rw[beq_eq_false_iff_ne];exact λz=>hg (sI z)
    simp only[bI,h1,h2]at e ⊢;exact Ac t e
theorem FR.mono{m':List ae}{H':Hp}{fs:List (String×MV)}{ws:List (Str×V)}(x:Mn m H m' H')(r:FR G m H fs ws):FR G m' H' fs ws:=Paired.imp' (λ_ _ p=>⟨p.1,VR.mono x p.2⟩) r
theorem DR.mono{m':List ae}{H':Hp}{fs:List (Str×MV)}{ws:List (Key×V)}(x:Mn m H m' H')(r:DR G m H fs ws):DR G m' H' fs ws:=Paired.imp' (λ_ _ p=>⟨p.1,VR.mono x p.2⟩) r
theorem sX{f:String}{v:MV}{v':V}(r:VR G m H v v'):∀{fs:List (String×MV)}{ws:List (Str×V)},FR G m H fs ws->FR G m H (putF f v fs) (L2.putF (aA f) v' ws)
 |_,_,.nil=>.cons ⟨rfl,r⟩ .nil
 |(g,u)::fs,(g',u')::ws,.cons ⟨q,ru⟩ t=>by
   have q:g'=aA g:=q;subst q;unfold putF L2.putF;by_cases hg:g=f
   ·subst hg;rw[if_pos rfl,if_pos rfl];exact .cons ⟨rfl,r⟩ t
   ·rw[if_neg hg,if_neg λz=>hg (sI z)];exact .cons ⟨rfl,ru⟩ (sX r t)
def ba(G:Gb)(cs:List Nat)(f:String):Prop:=∀c∈cs,Cls G.K (G.cl c)/\cZ G.K (G.cl c) (aA f)
theorem ba.one{c:Nat}{f:String}(a:Cls G.K (G.cl c))(b:cZ G.K (G.cl c) (aA f)):ba G [c] f:=λc' q=>by
 cases dF.mp q;exact⟨a,b⟩
theorem bL{f:String}{cs:List Nat}(he:GE G X e ge)(hf:ba G cs f)(hb:attributeBase e (aA f) X.env (aG e X.env)=aG e X.env:=by rfl)(hK:X.K=G.K:=by rfl):GE G X (.Attribute e (aA f) pos) (aW ge cs f):=λE EX=>
 dC (Ej (X:=X.wish E) (he E EX) hb) λσ' H Q e0=>bK e0 λm h σ ex S R P=>sub ex S R P λv m1 h1 H1 v' x1 R1 r1 P1=>by
  cases v with
  |ref n=>
    obtain⟨aa,ea,rfl⟩:=r1;obtain⟨oa,e1,q1,P2⟩:=cb R1 ea P1;cases oa with
    |ins c fs=>
      obtain⟨dx,ws,r,z⟩:=q1;dsimp only at P2;split at P2
      ·rename_i hc;cases ew:fs.lookup f with
       |none=>simp only[ew]at P2;exact P2.elim
       |some w=>
         simp only[ew]at P2;obtain⟨w',ew',rw'⟩:=va r ew;have k:=hf c (by simpa using hc);rw[←hK]at k;exact⟨aa,_,dx,ws,w',rfl,z,k.1,k.2,ew',Post.here R1 P2 _ rw'⟩
      ·exact P2.elim
    |_=>exact P2.elim
  |_=>exact P1.elim
theorem n9{β:Type}{n:Nat}{o:MO}{k:Unit->M β}{Q:β->List ae->MH->Hp->Prop}{aa:ae}(R:HR G m h H)(e:m[n]?=some aa)(P:Post G X E EX m H (bnd (put n o) k h) Q):Post G X E EX m H (k () (h.set n o)) Q:=by
 have hn:n<h.length:=by rw[←R.len];exact(bM.mp e).1
 simpa only[bnd,put,hn,if_true] using P
theorem eY{f:String}{cs:List Nat}(ho:GE G X o go)(he:GE G X e ge)(hf:ba G cs f)(hs:swapsWith e (some (.Attribute o (aA f) pos')) pos.line X.env=pure false:=by rfl)(hK:X.K=G.K:=by rfl) :
  GS G EX X (.Assign [.Attribute o (aA f) pos'] e pos) (dN go cs f ge):=λE hp=>
 gW (GN (X:=X.wish E) (ho E EX) (he E EX) hs) λD σ' H e0=>bK e0 λm h σ ex S R P=>sub ex S R P λv m1 h1 H1 v' x1 R1 r1 P1=>sub ex (S.mono x1) R1 P1 λw m2 h2 H2 w' x2 R2 r2 P2=>by
  cases w with
  |ref n=>
    obtain⟨aa,ea,rfl⟩:=r2;obtain⟨oa,e1,q1,P3⟩:=cb R2 ea P2;cases oa with
    |ins c fs=>
      obtain⟨dx,ws,r,z⟩:=q1;dsimp only at P3;split at P3
      ·rename_i hl;have k:=hf c (by simpa using hl.1);rw[←hK]at k;refine⟨aa,_,dx,ws,rfl,z,k.1,k.2,by rw[←Paired.length r];exact hl.2,?_⟩;have P4:=n9 R2 ea P3;have x3:Ext m2 H2 m2 (upd H2 aa (.ins (G.cl c) dx (L2.putF (aA f) v' ws))):=Ext.upd ea z;exact P4 _ _ x3 (R2.upd ea (λo' ys z'=>by rw[z]at z';cases z') ⟨dx,_,FR.mono x3.mn (sX (x2.vr r1) r),dh⟩) σ' (((S.mono x1).mono x2).mono x3)
      ·exact P3.elim
    |_=>exact P3.elim
  |_=>exact P2.elim
def AN:V->V->V->Hp->(Hp->Prop)->Prop:=λo i v H Q=>∃a H4,o=.ref a/\DPut H a i v H4/\Q H4
def re:V->V->V->Hp->(Hp->Prop)->Prop:=λo i v H Q=>xS o i v H Q∨AN o i v H Q
theorem jV(hu:X.A.units+1<cLine):PSet X re:=by
 intro pins s σ H o i v ov iv u Q I ro ri rv q;rcases q with q|⟨a,H4,eo,g,q⟩
 ·exact A8 pins s σ H o i v ov iv u Q I ro ri rv q
 ·subst eo;cases ro;exact Bs hu I g ri rv λs4 I4=>⟨H4,I4,q⟩
theorem Ao{β:Type}{k:Unit->M β}{Q:β->List ae->MH->Hp->Prop}{x y v:MV}{x' y' v':V}(R:HR G m h H)(rx:VR G m H x x')(ry:VR G m H y y')(rv:VR G m H v v')(P:Post G X E EX m H (bnd (ic x y v) k h) Q) :
  re x' y' v' H λH'=>∃h',Ext m H m H'/\HR G m h' H'/\Post G X E EX m H' (k () h') Q:=by
 have P:=Post.bind P;cases x with
 |ref n=>cases y with
   |int i=>
     obtain⟨aa,ea,rfl⟩:=rx;obtain⟨oa,e1,q1,P4⟩:=cb R ea P;cases oa with
     |lst xs=>
       obtain⟨vs,r,z⟩:=q1;dsimp only at P4;cases ej:ixN xs.length i with
       |none=>simp only[ej]at P4;exact P4.elim
       |some j=>
         simp only[ej]at P4;have hj:L2.ixN vs.length i=some j:=by rw[←Paired.length r];exact ej
         refine .inl ⟨aa,vs,i,j,rfl,ry,z,hj,?_⟩;have hn:n<h.length:=by rw[←R.len];exact(bM.mp ea).1
         have x4:Ext m H m (upd H aa (.lst (vs.set j v'))):=Ext.upd ea z;simp only[put,hn,if_true]at P4;have R4:=R.upd (u:=.lst (vs.set j v')) (o:=.lst (xs.set j v)) ea (λo' ys z'=>by rw[z]at z';cases z') ⟨_,x4.vrs (xP rv j r),dh⟩;exact⟨_,x4,R4,P4 _ _ x4 R4⟩
     |_=>exact P4.elim
   |str i=>
     obtain⟨aa,ea,rfl⟩:=rx;obtain⟨oa,e1,q1,P4⟩:=cb R ea P;cases oa with
     |dct kvs=>
       obtain⟨ws,r,z⟩:=q1;dsimp only at P4;split at P4
       ·rename_i hz;cases(show y'=V.str i from ry);refine .inr ⟨aa,_,rfl,DPut.k (k:=Sum.inr i) z (by rw[←Paired.length r];exact cN hz (small (aU _))),?_⟩
        have hn:n<h.length:=by rw[←R.len];exact(bM.mp ea).1
        have x4:Ext m H m (upd H aa (.dK (fe ws (Sum.inr i) v'))):=Ext.upd ea z;simp only[put,hn,if_true]at P4;have R4:=R.upd (u:=.dK (fe ws (Sum.inr i) v')) (o:=.dct (dput i v kvs)) ea (λo' ys z'=>by rw[z]at z';cases z') ⟨_,DR.mono x4.mn (G6 rv r),dh⟩;exact⟨_,x4,R4,P4 _ _ x4 R4⟩
       ·exact P4.elim
     |_=>exact P4.elim
   |_=>exact P.elim
 |_=>exact P.elim
theorem kM(ho:GE G X o go)(hi:GE G X i gi)(he:GE G X e ge)(hs:swapsWithSole [.Subscript o i pos'] e pos.line X.env=pure false:=by rfl)(hw:swappedStores [.Subscript o i pos'] e X.env=pure none:=by rfl)
  (h1:(assignEach [.Subscript o i pos'] X.env).map (·.2)=[assign (.Subscript o i pos') X.env]:=by rfl) (hg:∀E t t',PE (X.wish E) o t->PE (X.wish E) i t'->PG (X.wish E) (.Subscript o i pos') (xC t t' re)) :
  GS G EX X (.Assign [.Subscript o i pos'] e pos) (iA go gi ge):=λE hp=>
 gW (GZ (X:=X.wish E) (he E EX) (hg E _ _ (ho E EX) (hi E EX)) hs hw h1) λD σ' H e0=>bK e0 λm h σ ex S R P=>sub ex S R P λv m1 h1 H1 v' x1 R1 r1 P1=>sub ex (S.mono x1) R1 P1 λw m2 h2 H2 w' x2 R2 r2 P2=>
  sub ex ((S.mono x1).mono x2) R2 P2 λy m3 h3 H3 y' x3 R3 r3 P3=>by
   rcases Ao R3 (x3.vr r2) r3 ((x2.trans x3).vr r1) P3 with q|q
   ·obtain⟨p,xs,k,j,e1,e2,e3,e4,h4,x4,R4,P4⟩:=q;exact .inl ⟨p,xs,k,j,e1,e2,e3,e4,Post.here R4 P4 σ' ((((S.mono x1).mono x2).mono x3).mono x4)⟩
   ·obtain⟨a,H4,e1,g,h4,x4,R4,P4⟩:=q;exact .inr ⟨a,H4,e1,g,Post.here R4 P4 σ' ((((S.mono x1).mono x2).mono x3).mono x4)⟩
end
theorem Hw{c:aw}{body:List aP}{gc:ME}{gb:MS}{pos:Pos}(hc:GT G X c gc)(hb:GSs G ET X body gb):GS G ET X (.While c body [] pos) (u6 gc gb):=λE hp=>
 gW (Fs (X:=X.wish E) hp (hc E ET) (hb E hp)) λD σ' H e0=>bK e0 λm h σ ex S R P=>by
  let QD:MF->List ae->MH->Hp->Prop:=λf m' _ H'=>match f with
   |.next σ1=>∀σ1',SR G m' H' σ1 σ1'->D.nx σ1' H'
   |.brk σ1=>∀σ1',SR G m' H' σ1 σ1'->D.bk σ1' H'
   |.cnt σ1=>∀σ1',SR G m' H' σ1 σ1'->D.ct σ1' H'
   |.ret v=>∀v',VR G m' H' v v'->D.rt v' H'
  refine⟨λn σ2' H2=>∃m2 h2 σ2,SR G m2 H2 σ2 σ2'/\HR G m2 h2 H2/\Post G X E ET m2 H2 (kj gc gb n σ2 h2) QD,⟨1000,m,h,σ,S,R,P⟩,?_⟩;rintro n σ2' H2 ⟨m2,h2,σ2,S2,R2,P2⟩;cases n with
  |zero=>exact P2.elim
  |succ n=>
    refine kO (σ:=σ2) trivial S2 R2 P2 λk m3 h3 H3 x3 R3 P3=>?_;cases k with
    |false=>
      rw[if_neg bW];exact Post.here R3 P3 σ2' (S2.mono x3)
    |true=>
      rw[if_pos rfl];refine⟨λσ4' H4=>∃m4 h4 σ4,SR G m4 H4 σ4 σ4'/\HR G m4 h4 H4/\Post G X E ET m4 H4 (kj gc gb n σ4 h4) QD,λσ4' H4 q=>⟨n,qY n,q⟩,?_⟩;refine⟨m3,h3,σ2,trivial,S2.mono x3,R3,(Post.bind P3).mono λf m4 h4 H4 x4 R4 P4=>?_⟩;cases f with
      |next σ4=>exact λσ4' S4=>⟨m4,h4,σ4,S4,R4,P4⟩
      |cnt σ4=>exact λσ4' S4=>⟨m4,h4,σ4,S4,R4,P4⟩
      |brk σ4=>exact Post.here R4 P4
      |ret v=>exact Post.here R4 P4
def Row(G:Gb)(m:List ae)(H:Hp)(one:Bool)(vs:List MV)(x:V):Prop:=if one=true then ∃v,vs=[v]/\VR G m H v x else VR G m H (.tup vs) x
def JOk(G:Gb)(J:It)(s:Src)(one:Bool)(k:Nat)(m0:List ae)(H0:Hp):Prop:=∀m h H,Ext m0 H0 m H->HR G m h H->s.okIn h=true ->
 (∀i vs,s.items[i]?=some vs->vs.length=k/\J.go i H/\∀x H',J.yld i H x H'->Ext m H m H'/\HR G m h H'/\Row G m H' one vs x)/\J.stop s.items.length H
def GI(G:Gb)(X:Cx)(tg iter:aw)(one:Bool)(k:Nat)(gi:MI):Prop:=∀E EX,∃wi,PI (X.wish E) tg iter wi/\∀σ' H R,(∃m h σ,EX σ'/\SR G m H σ σ'/\HR G m h H/\Post G X E EX m H (gi σ h) λs m1 h1 H1=>∀J,JOk G J s one k m1 H1->R J H1)->wi σ' H R
def GTg(G:Gb)(X:Cx)(tg:aw)(one:Bool)(is:List Nat):Prop:=∀E,∃g,PG (X.wish E) tg g/\∀m H vs x σ σ' Q,SR G m H σ σ'->Row G m H one vs x->vs.length=is.length->(∀σ1',SR G m H (dg is vs σ) σ1'->Q σ1' H)->g x σ' H Q
theorem fQ{n:Nat}{x:Str}{pos:Pos}(hN:X.N.Nodup)(hi:X.N[n]?=some x:=by rfl)(hx:Loc X.env.scope x:=by first|exact Or.inl rfl|exact Or.inr rfl)(hf:X.fn x=true∨X.env.scope.names.lookup x=some .local:=by first|exact .inl rfl|exact .inr rfl):GTg G X (.Name x pos) true [n]:=λE=>
 ⟨rh n,za (X:=X.wish E) hN hi hx hf,λm H vs v σ σ' Q S r hl q=>by
  obtain ⟨w,rfl,rw'⟩:=r;exact q _ (S.set n rw')⟩
def GTn(G:Gb)(X:Cx)(es:List aw)(is:List Nat):Prop:=∀E,∃g,PGs (X.wish E) es g/\∀m H vs xs σ σ' Q,SR G m H σ σ'->VRs G m H vs xs->vs.length=is.length->(∀σ1',SR G m H (dg is vs σ) σ1'->Q σ1' H)->g xs σ' H Q
theorem o8:GTn G X [] []:=λE=>⟨zm,Iw,λm H vs xs σ σ' Q S r hl q=>by
 cases r with
 |nil=>exact⟨rfl,q _ S⟩
 | cons _ _=>simp at hl⟩
theorem iK{n:Nat}{x:Str}{pos:Pos}{es:List aw}{is:List Nat}(h:GTn G X es is)(hN:X.N.Nodup)(hi:X.N[n]?=some x:=by rfl)(hx:Loc X.env.scope x:=by first|exact Or.inl rfl|exact Or.inr rfl)(hf:X.fn x=true∨X.env.scope.names.lookup x=some .local:=by first|exact .inl rfl|exact .inr rfl)
  (hs:(assignEach (.Name x pos::es) X.env).map (·.2)=assign (.Name x pos) X.env::(assignEach es X.env).map (·.2):=by rfl):GTn G X (.Name x pos::es) (n::is):=λE=>by
 obtain⟨g,pg,hg⟩:=h E;refine⟨wA (rh n) g,Gv (X:=X.wish E) (za (X:=X.wish E) hN hi hx hf) pg hs,λm H vs xs σ σ' Q S r hl q=>?_⟩;cases r with
 |nil=>simp at hl
 |cons r t=>exact⟨_,_,rfl,hg m H _ _ _ _ _ (S.set n r) t (by simpa using hl) q⟩
theorem pL{es:List aw}{k:Nat}{is:List Nat}{pos:Pos}(h:GTn G X es is)(hl:(assignEach es X.env).length=is.length:=by rfl)(hst:(assignEach es X.env).findIdx? (·.1)=none:=by rfl)(hc:X.calm=true:=by rfl)(hK:X.K=G.K:=by rfl):GTg G X (.Tuple es k pos) false is:=λE=>by
 obtain⟨g,pg,hg⟩:=h E;refine⟨zu X.K is.length g,FC (X:=X.wish E) hc pg hl hst,λm H vs x σ σ' Q S r hl' q=>?_⟩;obtain⟨a,ws,rfl,_,z,t⟩:=(show ∃a ws,x=.ref a/\a∉m/\H a=some (.tup ws)/\VRl G m H vs ws from r);have t:=VRl.to t;exact⟨a,ws,rfl,SqT.of z,by rw[←Paired.length t];exact hl',hg m H vs ws σ σ' Q S t hl' q⟩
theorem jz{tg iter:aw}{body:List aP}{gi:MI}{gb:MS}{one:Bool}{is:List Nat}{pos:Pos}(hi:GI G X tg iter one is.length gi)(hg:GTg G X tg one is)(hb:GSs G ET X body gb)(hc:X.calm=true:=by rfl)(hs:∀x,foldedSetIterable iter X.env x=pure x:=by intro _;rfl) :
  GS G ET X (.For tg iter body [] pos) (gF is gi gb):=λE hp=>by
 obtain⟨wi,pw,hw⟩:=hi E ET;obtain⟨g,pg,hg⟩:=hg E;refine gW (AU (X:=X.wish E) hp hc pw pg (hb E hp) hs) λD σ' H e0=>bK e0 λm h σ ex S R P=>?_
 let QD:MF->List ae->MH->Hp->Prop:=λf m' _ H'=>match f with
  |.next σ1=>∀σ1',SR G m' H' σ1 σ1'->D.nx σ1' H'
  |.brk σ1=>∀σ1',SR G m' H' σ1 σ1'->D.bk σ1' H'
  |.cnt σ1=>∀σ1',SR G m' H' σ1 σ1'->D.ct σ1' H'
  |.ret v=>∀v',VR G m' H' v v'->D.rt v' H'
 refine hw σ' H _ ⟨m,h,σ,trivial,S,R,(Post.bind P).mono λs m1 h1 H1 x1 R1 P1 J hJ=>?_⟩;refine ⟨λk n' σ2' H2=>n'=s.items.length - k/\k≤s.items.length/\∃m2 h2 σ2,Ext m1 H1 m2 H2/\SR G m2 H2 σ2 σ2'/\HR G m2 h2 H2/\Post G X E ET m2 H2 (eO s is gb (s.items.drop k) σ2 h2) QD,
  ⟨s.items.length,rfl,fg _,m1,h1,σ,.refl,S.mono x1,R1,P1⟩,?_⟩
 rintro k n' σ2' H2 ⟨rfl,hk,m2,h2,σ2,pre2,S2,R2,P2⟩;by_cases hlt:k<s.items.length
 ·have ed:s.items.drop k=s.items[k]::s.items.drop (k+1):=(o6 hlt);rw[ed]at P2;unfold eO at P2;split at P2
  ·rename_i hok;obtain⟨j1,_⟩:=hJ m2 h2 H2 pre2 R2 hok;obtain⟨lv,go,yl⟩:=j1 k s.items[k] (by simp[hlt]);refine .inr ⟨go,λσ4' H4=>∃m4 h4 σ4,Ext m1 H1 m4 H4/\SR G m4 H4 σ4 σ4'/\HR G m4 h4 H4/\Post G X E ET m4 H4 (eO s is gb (s.items.drop (k+1)) σ4 h4) QD,λσ4' H4 q=>⟨s.items.length-(k+1),by lia,rfl,hlt,q⟩,λx H' y=>?_⟩;obtain⟨x3,R3,rx⟩:=yl x H' y;refine hg m2 H' _ x σ2 σ2' _ (S2.mono x3) rx lv λσ3' S3=>?_;refine⟨m2,h2,dg is s.items[k] σ2,trivial,S3,R3,((Post.bind P2).ext x3).mono λf m4 h4 H4 x4 R4 P4=>?_⟩;have pre4:Ext m1 H1 m4 H4:=pre2.trans (x3.trans x4);cases f with
   |next σ4=>exact λσ4' S4=>⟨m4,h4,σ4,pre4,S4,R4,P4⟩
   |cnt σ4=>exact λσ4' S4=>⟨m4,h4,σ4,pre4,S4,R4,P4⟩
   |brk σ4=>exact Post.here R4 P4
   |ret v=>exact Post.here R4 P4
  ·exact P2.elim
 ·have e:k=s.items.length:=by lia
  subst e;rw[pR]at P2;unfold eO at P2;split at P2
  ·rename_i hok;obtain⟨_,st⟩:=hJ m2 h2 H2 pre2 R2 hok;exact .inl ⟨st,Post.here R2 P2 σ2' S2⟩
  ·exact P2.elim
theorem AI{n:Nat}{a:ae}{xs:List MV}(K:PySem.W.Frag)(ea:m[n]?=some a):JOk G (Itl K a) ⟨xs.map λv=>[v],[(n,xs)]⟩ true 1 m H:=by
 intro m2 h2 H2 pre R ok;have ea2:m2[n]?=some a:=pre.get ea;have eo:h2[n]?=some (.lst xs):=by simpa[Src.okIn,hI] using ok
 obtain⟨vs,r,z⟩:=R.ob n a _ ea2 eo;refine⟨λi ws ei=>?_,⟨vs,SqL.of z,by simp[Paired.length r]⟩⟩;rw[bZ]at ei;cases ev:xs[i]? with
 |none=>rw[ev]at ei;cases ei
 |some v=>
   rw[ev]at ei;cases ei;obtain⟨v',e1,rv⟩:=f8 r ev;refine⟨rfl,⟨vs,v',SqL.of z,e1⟩,λx H' y=>?_⟩;obtain⟨rfl,y2⟩:=y;have:=y2 vs (SqL.of z);rw[e1]at this;cases this;exact⟨.refl,R,v,rfl,rv⟩
theorem jJ{tg l:aw}{gl:ME}(hl:GE G X l gl):GI G X tg l true 1 (fB gl):=λE EX=>by
 refine⟨_,xW (X:=X.wish E) (hl E EX),λσ' H R e0=>bK e0 λm h σ ex S Rr P=>?_⟩;refine sub ex S Rr P λv m1 h1 H1 v' x1 R1 r1 P1=>?_;cases v with
 |ref n=>
   obtain⟨aa,ea,rfl⟩:=r1;obtain⟨oa,e1,q1,P2⟩:=cb R1 ea P1;cases oa with
   |lst xs=>
     obtain⟨vs,r,z⟩:=q1;exact⟨aa,rfl,⟨vs,SqL.of z⟩,Post.here R1 P2 _ (AI _ ea)⟩
   |_=>exact P2.elim
 |_=>exact P1.elim
theorem wF{k:Nat}:∀{xs:List MV}{rs:List (List MV)}{i:Nat}{vs:List MV},fG k xs=some rs->rs[i]?=some vs->xs[i]?=some (.tup vs)/\vs.length=k
 |[],rs,i,vs,e,g=>by
   cases(show([]:List (List MV))=rs from Option.some.inj e);simp at g
 |.tup ys::xs,rs,i,vs,e,g=>by
   unfold fG at e;split at e
   ·rename_i hk;cases er:fG k xs with
    |none=>rw[er]at e;cases e
    |some r'=>
      rw[er]at e;cases e;cases i with
      |zero=>simp at g;subst g;exact⟨rfl,hk⟩
      |succ i=>exact wF (i:=i) er (by simpa using g)
   ·cases e
 |.non::xs,rs,i,vs,e,g=>by cases e
 |.bl _::xs,rs,i,vs,e,g=>by cases e
 |.int _::xs,rs,i,vs,e,g=>by cases e
 |.str _::xs,rs,i,vs,e,g=>by cases e
 |.ref _::xs,rs,i,vs,e,g=>by cases e
 |.scr _::xs,rs,i,vs,e,g=>by cases e
 |.any::xs,rs,i,vs,e,g=>by cases e
theorem zM{k:Nat}:∀{xs:List MV}{rs:List (List MV)},fG k xs=some rs->rs.length=xs.length
 |[],rs,e=>by cases(show([]:List (List MV))=rs from Option.some.inj e);rfl
 |.tup ys::xs,rs,e=>by
   unfold fG at e;split at e
   ·cases er:fG k xs with
    |none=>rw[er]at e;cases e
    |some r'=>rw[er]at e;cases e;simp[zM er]
   ·cases e
 |.non::xs,rs,e=>by cases e
 |.bl _::xs,rs,e=>by cases e
 |.int _::xs,rs,e=>by cases e
 |.str _::xs,rs,e=>by cases e
 |.ref _::xs,rs,e=>by cases e
 |.scr _::xs,rs,e=>by cases e
 |.any::xs,rs,e=>by cases e
theorem Gz{n k:Nat}{a:ae}{xs:List MV}{rs:List (List MV)}(K:PySem.W.Frag)(ea:m[n]?=some a)(er:fG k xs=some rs):JOk G (Itl K a) ⟨rs,[(n,xs)]⟩ false k m H:=by
 intro m2 h2 H2 pre R ok;have ea2:m2[n]?=some a:=pre.get ea;have eo:h2[n]?=some (.lst xs):=by simpa[Src.okIn,hI] using ok
 obtain⟨vs,r,z⟩:=R.ob n a _ ea2 eo;refine⟨λi ws ei=>?_,⟨vs,SqL.of z,by rw[zM er,Paired.length r];exact aU _⟩⟩;obtain⟨ev,hk⟩:=wF er ei;obtain⟨v',e1,rv⟩:=f8 r ev;refine⟨hk,⟨vs,v',SqL.of z,e1⟩,λx H' y=>?_⟩;obtain⟨rfl,y2⟩:=y;have:=y2 vs (SqL.of z);rw[e1]at this;cases this;exact⟨.refl,R,rv⟩
theorem xV{k:Nat}{tg l:aw}{gl:ME}(hl:GE G X l gl):GI G X tg l false k (lL k gl):=λE EX=>by
 refine⟨_,xW (X:=X.wish E) (hl E EX),λσ' H R e0=>bK e0 λm h σ ex S Rr P=>?_⟩;refine sub ex S Rr P λv m1 h1 H1 v' x1 R1 r1 P1=>?_;cases v with
 |ref n=>
   obtain⟨aa,ea,rfl⟩:=r1;obtain⟨oa,e1,q1,P2⟩:=cb R1 ea P1;cases oa with
   |lst xs=>
     obtain⟨vs,r,z⟩:=q1;dsimp only at P2;cases er:fG k xs with
     |none=>simp only[er]at P2;exact P2.elim
     |some rs=>
       simp only[er]at P2;exact⟨aa,rfl,⟨vs,SqL.of z⟩,Post.here R1 P2 _ (Gz _ ea er)⟩
   |_=>exact P2.elim
 |_=>exact P1.elim
theorem vQ{lo:Int}{n:Nat}:JOk G (Itr lo n) ⟨fL lo n,[]⟩ true 1 m H:=by
 intro m2 h2 H2 _ R ok;refine⟨λi vs ei=>?_,by simp[fL,Itr]⟩;have hi:i<n:=by
  have:=(bM.mp ei).1;simpa[fL] using this
 unfold fL at ei;rw[bZ,iB hi]at ei;cases ei;refine⟨rfl,hi,λx H' y=>?_⟩;obtain⟨rfl,y2⟩:=y;exact⟨.refl,R,_,rfl,y2⟩
theorem Ap{tg a:aw}{ga:ME}{p pos:Pos}(ha:GE G X a ga)(hm:X.mg "range"=none)(hg:Gl X "range":=by rfl)(hs:aJ [a] X.env=[(false,aG a X.env)]:=by rfl):GI G X tg (.Call (.Name "range" p) [a] [] pos) true 1 (jC ga):=λE EX=>by
 refine⟨_,CB (X:=X.wish E) hg hm (ha.a1 hs E EX) hs,λσ' H R e0=>bK e0 λm h σ ex S Rr P=>?_⟩;refine sub ex S Rr P λv m1 h1 H1 v' x1 R1 r1 P1=>?_;cases v with
 |int j=>
   cases(show v'=V.int j from r1);dsimp only at P1
   split at P1
   ·rename_i c;exact⟨j,rfl,c.1,c.2,Post.here R1 P1 _ vQ⟩
   ·exact P1.elim
 |_=>exact P1.elim
theorem Co{tg a b:aw}{ga gb:ME}{p pos:Pos}(ha:GE G X a ga)(hb:GE G X b gb)(hm:X.mg "range"=none)(hg:Gl X "range":=by rfl)(hs:aJ [a,b] X.env=[(false,aG a X.env),(false,aG b X.env)]:=by rfl)
  (hs2:aJ [b] X.env=[(false,aG b X.env)]:=by rfl):GI G X tg (.Call (.Name "range" p) [a,b] [] pos) true 1 (lN ga gb):=λE EX=>by
 refine⟨_,AJ (X:=X.wish E) hg hm (fH (X:=X.wish E) (ha E EX) (hb.a1 hs2 E EX) (by show aJ [a,b] X.env=(false,aG a X.env)::aJ [b] X.env;rw[hs,hs2])) hs hs2,λσ' H R e0=>bK e0 λm h σ ex S Rr P=>?_⟩;refine sub ex S Rr P λv m1 h1 H1 v' x1 R1 r1 P1=>sub ex (S.mono x1) R1 P1 λw m2 h2 H2 w' x2 R2 r2 P2=>?_;cases v with
 |int i=>cases w with
   |int j=>
     cases(show v'=V.int i from r1);cases(show w'=V.int j from r2);dsimp only at P2
     split at P2
     ·rename_i c;exact⟨i,j,rfl,c,Post.here R2 P2 _ vQ⟩
     ·exact P2.elim
   |_=>exact P2.elim
 |_=>exact P2.elim
def iH(zf:Option ae)(C a:ae)(ok:ae->Prop)(hp:aH):Prop:=
 ∃oe vs T oT ts,hp.get? a=some oe/\oe.cls=.ref C/\oe.dict=none/\oe.data=.fields vs/\1<vs.size/\ok a/\vs[1]?=some (.ref T)/\T≠a/\hp.get? T=some oT/\oT.data=.fields ts/\3<ts.size/\ok T/\(zf=none->vs[2]?=some .none)
theorem iH.sh{zf:Option ae}{C a:ae}{ok:ae->Prop}{hp:aH}(x:iH zf C a ok hp):jT zf C a ok hp:=by
 obtain⟨oe,vs,T,oT,ts,a1,a2,a3,a4,a5,a6,b1,b2,b3,b4,b5,b6,b7⟩:=x;exact⟨oe,vs,a1,a2,a3,a4,a5,a6,.inr ⟨T,oT,ts,b1,b2,b3,b4,b5,b6⟩,b7⟩
section
variable {M:Model}{A:aX}{pins:List (ae×aB)}{s:aj}{zf:Option ae}{C a:ae}{Q:Unit->aj->Prop}
theorem Fp.of{b:ae}(I:Inv X pins σ' H s)(e:s.heap.get? b=none)(n:H' b=none):Fp X pins H' b:=by
 have ne:∀c o,s.heap.get? c=some o->c≠b:=λc o q z=>by rw[z,e]at q;cases q
 refine⟨n,?_,λz=>?_,?_,λx c q=>?_,λp hp=>?_⟩
 ·obtain⟨_,⟨o,_,_,ho,_⟩,_⟩:=I.loc;exact λz=>ne _ o ho z.symm
 ·obtain⟨_,o,ho,_⟩:=I.funs.mem z;exact ne _ o ho rfl
 ·by_cases hx:b∈X.ex
  ·exact .inl hx
  ·cases q:X.s₀.heap.get? b with
   |none=>exact .inr rfl
   |some o=>
     obtain⟨o',q'⟩:=I.base.there b o q hx;exact absurd rfl (ne b o' q')
 ·obtain⟨v,o,ho,_⟩:=I.cell x c q;exact ne c o ho
 ·exact ne _ _ (I.pin p hp).1
theorem Fp.turned{b:ae}{h':aH}{t':Nat}(f:Fp X pins H b)(I:Inv X pins σ' H s)(k:∀c o,c≠b->s.heap.get? c=some o->h'.get? c=some o):Inv X pins σ' H { s with heap:=h',toks:=t' }:=by
 have n0:∀c o,X.s₀.heap.get? c=some o->c∉X.ex->c≠b:=λc o q hx z=>by
  rcases f.new with y|y
  ·exact hx (z▸y)
  ·rw[z,y]at q;cases q
 have ck:∀x c v,X.env.cells.lookup x=some c->s.heap.IsCell c v->h'.IsCell c v:=λx c v q e0=>e0.elim λo e1=>e1.elim λho hd=>⟨o,k c o (f.ce x c q) ho,hd⟩;refine⟨I.ok,I.os,I.bare,⟨λc o q n hb hx=>k c o (n0 c o q hx) (I.base.keep c o q n hb hx),λc o q n hb hx=>?_,λc o q n hx=>I.base.free c o q n hx,λc o q hx=>?_,I.base.tups,I.base.frzs,I.base.tbls⟩,?_,λx c q=>?_,I.free,I.freeC,λp hp=>?_,λc u e=>?_,I.len⟩
 ·obtain⟨sl,z⟩:=I.base.slot c o q n hb hx;exact⟨sl,k c _ (n0 c o q hx) z⟩
 ·obtain⟨o',z⟩:=I.base.there c o q hx;exact⟨o',k c o' (n0 c o q hx) z⟩
 ·obtain⟨mm,⟨o,es,ep,ho,r⟩,hl⟩:=I.loc;refine⟨mm,⟨o,es,ep,k _ o (Ne.symm f.loc) ho,r⟩,λi x v e1 e2 e3=>?_⟩;obtain⟨u,ru,l⟩:=hl i x v e1 e2 e3;refine⟨u,ru,?_⟩;rcases l with l|⟨kk,c,e,z⟩
  ·exact .inl l
  ·exact .inr ⟨kk,c,e,ck x c _ e z⟩
 ·obtain⟨v,z⟩:=I.cell x c q;exact⟨v,ck x c v q z⟩
 ·obtain⟨a1,a2,a3,a4,a5⟩:=I.pin p hp;exact⟨k _ _ (f.pin p hp) a1,a2,a3,a4,a5⟩
 ·refine(I.hok c u e).stay (λd v hd q=>k d v ?_ q) (λ_ q=>q) λ_ _ q=>q;rcases hd with z|z
  ·rw[z];exact λy=>by rw[y,f.un]at e;cases e
  ·exact λy=>by rw[y,f.un]at z;cases z
theorem jA{fr:Option ae}(I:Inv X pins σ' H s)(x:iH zf C a (Fp X pins H) s.heap)(k:∀s',Inv X pins σ' H s'->iH zf C a (Fp X pins H) s'.heap->Q () s'):aq M A (setFlight (.ref a) fr) Q E s:=by
 obtain⟨oe,vs,T,oT,ts,a1,a2,a3,a4,a5,a6,b1,b2,b3,b4,b5,b6,b7⟩:=x;unfold setFlight;refine ak (cX a1 a4 b1 ?_);rw[if_pos (show(Value.ref T != Value.none)=true from by simp)];have hd:=Obj.data_mapFields b4 (·.setIfInBounds 3 (fr.elim Value.none λf=>cE f));refine wpAny_setField b3 b4 b5 (k { s with heap:=s.heap.update T (Obj.mapFields (·.setIfInBounds 3 (fr.elim Value.none λf=>cE f))) } (b6.turned (t':=s.toks) I λc o hc q=>?_) ⟨oe,vs,T,_,_,?_,a2,a3,a4,a5,a6,b1,b2,fi _ b3 (Obj.isFreed_of_fields hd),hd,by simpa using b5,b6,b7⟩)
 ·exact(dP _ _ (Ne.symm hc)).trans q
 ·exact(dP _ _ b2).trans a1
theorem vx{fr:Option ae}(I:Inv X pins σ' H s)(x:Exc X pins H zf C a s)(k:∀s',Inv X pins σ' H s'->Exc X pins H zf C a s'->Q () s'):aq M A (setFlight (.ref a) fr) Q E s:=by
 obtain⟨oe,vs,a1,a2,a3,a4,a5,a6,a7,a8⟩:=id x;rcases a7 with a7|⟨T,oT,ts,b1,b2,b3,b4,b5,b6⟩
 ·unfold setFlight;refine ak (cX a1 a4 a7 ?_);rw[if_neg (by decide)];exact aL (k s I x)
 ·exact jA I ⟨oe,vs,T,oT,ts,a1,a2,a3,a4,a5,a6,b1,b2,b3,b4,b5,b6,a8⟩ λs' I' x'=>k s' I' x'.sh
theorem Inv.slots{h':aH}(I:Inv X pins σ' H s)(hs:Heap.SlotsOnly (frs X.stack) s.heap h'):Inv X pins σ' H { s with heap:=h' }:=by
 have nt:∀b u,H b=some u->b∉frs X.stack:=λb u e z=>by rw[I.stkFree b z]at e;cases e
 refine I.call' (s':={ s with heap:=h' }) (ch:=[]) rfl ?_ ?_ I.bare (λb z=>absurd z (by simp))
 ·exact⟨λb o e n nf _=>(hs.2.1 b nf).trans e,λb o e n _ _=>hs.2.2 b o e,λb o e n _=>n,λb o e _=>let ⟨sl,q⟩:=hs.2.2 b o e;⟨_,q⟩,λb xs e=>e,λb o u e=>e,λb ps e=>⟨#[],by rw[e];simp⟩⟩
 ·intro b u e;refine(I.hok b u e).stay (λc v hc q=>?_) (λ_ q=>q) λ_ _ q=>q;rcases hc with z|z
  ·rw[z]at q ⊢;exact(hs.2.1 b (nt b u e)).trans q
  ·exact(hs.2.1 c (nt c _ z)).trans q
theorem Af{head:af}{hn:Bool}(hfr:A.frames=some (X.env::X.outer))(hst:X.stack=X.env::X.outer)(hf:X.env.frame=some X.env.locals)(I:Inv X pins σ' H s)(x:Exc X pins H zf C a s)
  (k:∀s',Inv X pins σ' H s'->iH zf C a (Fp X pins H) s'.heap->Q () s') :
  aq M A (do let b ←frameOf X.env;let pl ←entryPlaceOf X.env.locals hn;let t ←EntryCells.newEntry head b .none (cE X.env.locals) .none pl;setField (.ref a) 1 t) Q E s:=by
 obtain⟨oe,vs,a1,a2,a3,a4,a5,a6,a7,a8⟩:=id x;have hl:s.heap.FunFrames X.base (X.env::X.outer):=hst▸I.stack;refine ak (wpAny_frameOf_fun hfr hl hf λh₁ hs₁=>?_);refine ak (wpAny_entryPlaceOf λpl hpl=>?_);unfold EntryCells.newEntry newFields;refine ak (wpAny_newObj_type ?_ (hpl.sizeOk5 _ _ _ _ _));have hne:a∉frs X.stack:=λhm=>by
  rw[hst]at hm;obtain⟨_,o,ho,hnf⟩:=hl.mem hm;rw[a1]at ho;cases ho;exact hnf vs a4
 have I₁:Inv X pins σ' H { s with heap:=h₁ }:=Inv.slots I (by rw[hst];exact hs₁);have e₁:h₁.get? a=some oe:=(hs₁.2.1 a (by rw[hst]at hne;exact hne)).trans a1;have e₂:=bG (h:=h₁) { cls:=.type "traceback",dict:=none,data:=.fields ([head,.ref X.env.locals,.none,cE X.env.locals,.none]++(if pl.isEmpty then br 6 Value.none else pl)).toArray } e₁;have I₂:=I₁.kept (t':=s.toks) (h':=h₁.push { cls:=.type "traceback",dict:=none,data:=.fields ([head,.ref X.env.locals,.none,cE X.env.locals,.none]++(if pl.isEmpty then br 6 Value.none else pl)).toArray }) λb o e=>bG _ e;have hTa:h₁.objs.size≠a:=dB (bo e₁);have fT:Fp X pins H h₁.objs.size:=Fp.of I₁ (jf (aU _)) (I₁.hok.fresh (aU _));have hd:=Obj.data_mapFields a4 (·.setIfInBounds 1 (Value.ref h₁.objs.size));refine wpAny_setField e₂ a4 a5 (k _ (a6.turned (t':=s.toks) I₂ λc o hc q=>(dP _ _ (Ne.symm hc)).trans q) ?_);have hT:=(dP (h₁.push { cls:=.type "traceback",dict:=none,data:=.fields ([head,.ref X.env.locals,.none,cE X.env.locals,.none]++(if pl.isEmpty then br 6 Value.none else pl)).toArray }) (Obj.mapFields (·.setIfInBounds 1 (Value.ref h₁.objs.size))) (Ne.symm hTa)).trans (cT h₁ rfl);refine⟨_,_,h₁.objs.size,_,_,fi _ e₂ (Obj.isFreed_of_fields hd),(Obj.cls_mapFields _ _).trans a2,?_,hd,by simpa using a5,a6,by simp[a5],hTa,hT,rfl,?_,fT,λz=>by rw[Array.getElem?_setIfInBounds_ne (by decide)];exact a8 z⟩
 ·obtain⟨c,d,dt,sl⟩:=oe;cases dt <;> exact a3
 ·simp only[cG,gX,eR,kh];lia
theorem jN(hfr:A.frames=some (X.env::X.outer))(hst:X.stack=X.env::X.outer)(hf:X.env.frame=some X.env.locals)(I:Inv X pins σ' H s)(x:Exc X pins H zf C a s)
  (k:∀s',Inv X pins σ' H s'->iH zf C a (Fp X pins H) s'.heap->Q () s'):aq M A (noteFrame (.ref a) X.env) Q E s:=by
 obtain⟨oe,vs,a1,a2,a3,a4,a5,a6,a7,a8⟩:=id x;unfold noteFrame;simp only[hf];rcases a7 with a7|⟨T,oT,ts,b1,b2,b3,b4,b5,b6⟩
 ·refine ak (cX a1 a4 a7 ?_);rw[if_neg (by decide)];exact Af hfr hst hf I x k
 ·refine ak (cX a1 a4 b1 ?_);rw[if_pos (show(Value.ref T != Value.none)=true from by simp)];obtain⟨v3,h3⟩:∃v,ts[3]?=some v:=⟨ts[3],by simp[b5]⟩
  refine ak (cX b3 b4 h3 ?_);by_cases hq:(v3 == cE X.env.locals)=true
  ·rw[if_pos hq];exact aL (k s I ⟨oe,vs,T,oT,ts,a1,a2,a3,a4,a5,a6,b1,b2,b3,b4,b5,b6,a8⟩)
  ·rw[if_neg hq];have hd:=Obj.data_mapFields b4 (·.setIfInBounds 3 Value.none);refine ak (wpAny_setField b3 b4 b5 ?_);refine Af hfr hst hf (s:={ s with heap:=s.heap.update T (Obj.mapFields (·.setIfInBounds 3 Value.none)) }) (b6.turned (t':=s.toks) I λc o hc q=>?_) ?_ k
   ·exact(dP _ _ (Ne.symm hc)).trans q
   ·exact⟨oe,vs,(dP _ _ b2).trans a1,a2,a3,a4,a5,a6,.inr ⟨T,_,_,b1,b2,fi _ b3 (Obj.isFreed_of_fields hd),hd,by simpa using b5,b6⟩,a8⟩
end
def EB(G:Gb)(X:Cx)(EX:St->Prop)(pins:List (ae×aB))(m:List ae)(H:Hp)(c:Nat)(h0:MH):af->aj->Prop:=λe s'=>
 ∃σ' m' H' a,EX σ'/\Ext m H m' H'/\HR G m' h0 H'/\Inv X pins σ' H' s'/\e=.ref a/\Exc X pins H' (fl c) (G.cl c) a s'
theorem EB.passes{pins:List (ae×aB)}{c:Nat}{h0:MH}(hfr:X.A.frames=some (X.env::X.outer))(hst:X.stack=X.env::X.outer)(hf:X.env.frame=some X.env.locals) :
  PassesOwn (av X.prog X.w) X.A X.env (EB G X EX pins m H c h0):=by
 rintro e s ⟨σ',m',H',a,ex,x,R,I,rfl,q⟩;refine jN hfr hst hf I q λs1 I1 q1=>?_;unfold cameBackBy;obtain⟨oe,vs,T,oT,ts,a1,a2,a3,a4,a5,a6,b1,b2,b3,b4,b5,b6,b7⟩:=id q1;refine ak (cX a1 a4 b1 ?_);rw[if_neg (by simp)];exact jA I1 q1 λs2 I2 q2=>⟨σ',m',H',a,ex,x,R,I2,rfl,q2.sh⟩
def CXe(P:bi)(w:aQ):CXT:=λouter H s E e s'=>
 ∃a C zf H',e=.ref a/\s'.os=s.os/\AllBare s'.gens/\Un (frs outer) [] H H' s.heap s'.heap/\HOk P w H' s'.heap/\jT zf C a (λb=>s.heap.get? b=none/\H' b=none) s'.heap/\E (.ref C) zf H'
def SpG(cl:Nat->ae)(K:PySem.W.Frag)(n:Nat)(f:Fn):Sp:=λvs H Q E=>∃sa ns m h ms,vs.length=n/\VRs ⟨cl,K,sa,ns⟩ m H ms vs/\HR ⟨cl,K,sa,ns⟩ m h H /\
 match f ms h with
 |.ok v h'=>∀m' H' v',Ext m H m' H'->HR ⟨cl,K,sa,ns⟩ m' h' H'->VR ⟨cl,K,sa,ns⟩ m' H' v v'->Q v' H'
 |.exc c h'=>∀m' H',Ext m H m' H'->HR ⟨cl,K,sa,ns⟩ m' h' H'->E (.ref (cl c)) (fl c) H'
 |.stuck=>False
structure FnG(P:bi)(w:aQ)(K:PySem.W.Frag)(mg:Str->Option af)(base:aH)(cl:Nat->ae)(k:Nat)(f:ae)(fd:bc)(ps:List Str)(gf:Fn):Prop where
 ok:iE P w K mg base (CXe P w) k f fd ps (SpG cl K ps.length gf)
 ar:∀ms h,gf ms h≠.stuck->ms.length=ps.length
theorem AD{E':af->aj->Prop}{st:List aP}{t:TS}(p:PSs (X.wish E') st t)(f:∀e s',E' e s'->X.xe e s'):PSs X st t:=λpins s σ H D I hw=>
 bv (p pins s σ H D (I.wish E') hw) (λ_ _ q=>SP.unwish q) f
theorem D2{st:List aP}{t:TS}(p:X.Ok->PSs X st t):PSs X st t:=λpins s σ H D I hw=>p I.ok pins s σ H D I hw
theorem xK{ms:List MV}{vs:List V}{N:List Str}(r:VRs G m H ms vs):SR G m H (ms.map some++br (N.length-ms.length) none) (start N vs):=by
 refine⟨by simp[start,Paired.length r],λi v e=>?_⟩;have hi:i<ms.length:=by
  by_cases hi:i<ms.length
  ·exact hi
  ·rw[iO (by simpa using hi),ji]at e;split at e <;> cases e
 rw[eJ (by simpa using hi),bZ]at e;cases e1:ms[i]? with
 |none=>rw[e1]at e;cases e
 |some w=>
   rw[e1]at e;cases e;obtain⟨v',q,rv⟩:=f8 r e1;refine⟨v',?_,rv⟩;unfold start;rw[eJ (by simpa[←Paired.length r] using hi),bZ,q]
   rfl
section
variable {P:bi}{w:aQ}{K:PySem.W.Frag}{mg:Str->Option af}{base:aH}{cl:Nat->ae}
theorem Ab{x qual:Str}{st:aP}{f:ae}{fd:bc}{N ps:List Str}{k:Nat}{g:MS}{gf:Fn}(F:Fun K x qual st f fd)(S:bF N ps (bg st))(hgf:gf=fnOf ps.length N.length g)
  (hbody:∀(cdv:af),fd.code=cdv->∀(A:aX) (outer:List Env) (s:aj) (H:Hp) (E:XK) (sa:ae) (ns:List Int),Room k (A.deeper (envOfC qual (bg st) s.heap.objs.size f cdv)) ->
   GSs ⟨cl,K,sa,ns⟩ ET (gR (CXe P w) P w K mg base N qual (bg st) f cdv A outer s H E) (iC st) g):FnG P w K mg base cl (k + 1) f fd ps gf:=by
 subst hgf;refine⟨?_,λms h q=>?_⟩
 rotate_left
 ·unfold fnOf at q;split at q
  ·assumption
  ·exact absurd rfl q
 obtain⟨oc,od,kV,doc,pm,an,cdv,ct,osl,rfl,lk,hcd⟩:=F.ex;refine A3 lk hcd S (λvs H Q E q=>?_) λA outer s H vs Q E hr hsp=>?_
 ·obtain⟨sa,ns,m,h,ms,hl,_⟩:=q;exact hl
 ·obtain⟨sa,ns,m,h,ms,hl,rv,R,post⟩:=hsp;have hb:=hbody cdv rfl A outer s H E sa ns hr;have S0:=xK (N:=N) rv;cases e:g (ms.map some++br (N.length-ms.length) none) h with
  |ok fl h'=>
    refine⟨_,AD (hb (λ_ _=>False) PassesOwn.never) (λ_ _ z=>z.elim),m,h,_,trivial,S0,R,?_⟩;rw[e];unfold fnOf at post;rw[if_pos (show ms.length=ps.length from(Paired.length rv).trans hl)]at post;simp only[bnd,e]at post;intro m' H' x R';cases fl with
    |next σ1=>exact λ_ _=>post m' H' .non x R' rfl
    |ret v=>exact λv' r=>post m' H' v' x R' r
    |brk σ1=>exact post.elim
    |cnt σ1=>exact post.elim
  |exc c h'=>
    unfold fnOf at post;rw[if_pos (show ms.length=ps.length from(Paired.length rv).trans hl)]at post;simp only[bnd,e]at post;refine⟨_,D2 λok=>AD (hb (EB ⟨cl,K,sa,ns⟩ _ ET [] m H c h') (EB.passes ok.frames rfl rfl)) ?_,m,h,_,trivial,S0,R,?_⟩
    ·rintro ev s' ⟨σ',m',H',a,_,x,R',I,rfl,q⟩;show aq (av P w) _ (leaving _ (.ref a)) _ _ s';unfold leaving;refine ak (jN ok.frames rfl rfl I q λs1 I1 q1=>?_);refine jA I1 q1 λs2 I2 q2=>⟨a,cl c,fl c,H',rfl,I2.os,I2.bare,I2.base,I2.hok,q2.sh.imp (λb fb=>⟨fb.new.elim (λz=>absurd z (by simp[gR])) id,fb.un⟩),post m' H' x R'⟩
    ·rw[e];intro pins σ' m' H' a s' _ x R' I q;exact⟨σ',m',H',a,trivial,x,R',I.pins_of (λp hp=>absurd hp (by simp)),rfl,q.imp λb fb=>⟨fb.un,fb.loc,fb.fs,fb.new,fb.ce,λp hp=>fb.pin p (gB _ (by simpa using hp))⟩⟩
  |stuck=>
    unfold fnOf at post;rw[if_pos (show ms.length=ps.length from(Paired.length rv).trans hl)]at post;simp only[bnd,e]at post
theorem bU{x qual:Str}{st:aP}{f:ae}{fd:bc}{N ps:List Str}{k:Nat}{g:MS}{gf:Fn}(F:Fun K x qual st f fd)(S:bF N ps (bg st))(hgf:gf=fnOf ps.length N.length g)
  (hbody:∀(cdv:af) (A:aX) (outer:List Env) (s:aj) (H:Hp) (E:XK) (sa:ae) (ns:List Int),Room k (A.deeper (envOfC qual (bg st) s.heap.objs.size f cdv)) ->
   GSs ⟨cl,K,sa,ns⟩ ET (gR (CXe P w) P w K mg base N qual (bg st) f cdv A outer s H E) (iC st) g):FnG P w K mg base cl (k + 1) f fd ps gf:=Ab F S hgf λcdv _=>hbody cdv
end
abbrev FnX(G:Gb)(X:Cx)(k:Nat)(f:ae)(fd:bc)(ps:List Str)(gf:Fn):Prop:=FnG X.prog X.w X.K X.mg X.base G.cl k f fd ps gf
section
variable {k:Nat}{f:ae}{fd:bc}{ps:List Str}{gf:Fn}{pins:List (ae×aB)}{s:aj}{Q:VK}{us:List af}{vs:List V}{ms:List MV}
def EXK(G:Gb)(m:List ae)(H:Hp)(r:Res MV):XK:=λC zf H'=>match r with
 |.exc c h'=>C=.ref (G.cl c)/\zf=fl c/\∃m',Ext m H m' H'/\HR G m' h' H'
 |_=>False
theorem zb(hK:X.K=G.K)(rv:VRs G m H ms vs)(R:HR G m h H)(hl:ms.length=ps.length)(ns:gf ms h≠.stuck){Q:VK}(P:∀v h',gf ms h=.ok v h'->∀m' H' v',Ext m H m' H'->HR G m' h' H'->VR G m' H' v v'->Q v' H') :
  SpG G.cl X.K ps.length gf vs H Q (EXK G m H (gf ms h)):=by
 rw[hK];refine⟨G.sa,G.ns,m,h,ms,(Paired.length rv).symm.trans hl,rv,R,?_⟩;cases e:gf ms h with
 |ok v h'=>exact P v h' e
 |exc c h'=>exact λm' H' x R'=>⟨rfl,rfl,m',x,R'⟩
 |stuck=>exact absurd e ns
theorem wk(I:Inv X pins σ' H s){r:Res MV}{e:af}{s':aj}(q:CXe X.prog X.w X.stack H s (EXK G m H r) e s') :
  ∃c h' m' H' a,r=.exc c h'/\e=.ref a/\Ext m H m' H'/\HR G m' h' H'/\Inv X pins σ' H' s'/\Exc X pins H' (fl c) (G.cl c) a s':=by
 obtain⟨a,C,zf,H',rfl,os,bare,un,hok,sh,ek⟩:=q;cases r with
 |exc c h'=>
   obtain⟨ec,ez,m',x,R'⟩:=ek;cases ec;subst ez;exact⟨c,h',m',H',a,rfl,rfl,x,R',I.call' os un hok bare (λb z=>absurd z (by simp)),sh.imp λb z=>Fp.of I z.1 z.2⟩
 |ok v h'=>exact ek.elim
 |stuck=>exact ek.elim
theorem tM(F:FnX G X k f fd ps gf)(hr:Room k X.A)(hb:Binds X.K fd ps [])(hK:X.K=G.K)(I:Inv (X.wish E) pins σ' H s)(ex:EX σ')(R:HR G m h H)(rv:VRs G m H ms vs)(r:Vals vs us)
  (P:Post G X E EX m H (gf ms h) λv m' _ H'=>∀v',VR G m' H' v v'->Q v' H'):aq (av X.prog X.w) X.A (call (.ref f) us) (EP (X.wish E) pins σ' Q) E s:=by
 have ns:gf ms h≠.stuck:=λz=>by rw[z]at P;exact P
 have hl:=F.ar ms h ns;have hu:us.length=ps.length:=by rw[←r.length,←Paired.length rv];exact hl
 have bt:BindsTo s fd ⟨us,[]⟩ (ps.zip us):=by
  have:=hb s us I.kIn (by simpa using hu);simpa using this
 refine wpAny_call (codeAny_mono (F.ok.run X.A X.stack s H ⟨us,[]⟩ us vs Q (EXK G m H (gf ms h)) hr I.unwish.env0 bt r (zb hK rv R hl ns λv h' e m' H' v' x R' q=>?_)) λrr s' hq=>?_)
 ·rw[e]at P;exact P m' H' x R' v' q
 ·cases rr with
  |error ev=>
    obtain⟨c,h',m',H',a,er,rfl,x,R',I',q⟩:=wk I.unwish hq;rw[er]at P;exact P pins σ' m' H' a s' ex x R' I' q
  |ok fl=>
    cases fl with
    |ret u=>exact I.after hq
    |next=>exact False.elim hq
    |brk=>exact False.elim hq
    |cont=>exact False.elim hq
end
section
variable {k:Nat}{f C:ae}{fd:bc}{ps:List Str}{gf:Fn}{x:Str}{p pos apos:Pos}{e o:aw}{es:List aw}{ga:MA}{go:ME}
theorem c7(F:FnX G X k f fd ps gf)(hr:Room k X.A)(hm:X.mg x=some (.ref f))(hk:PySem.W.keepIn X.K (.ref f)=true)(hb:Binds X.K fd ps [])(ha:GA G X (e::es) ga)(hg:Gl X x:=by rfl)(hK:X.K=G.K:=by rfl)
  (hdb:(x == ("__debug__":Str))=false:=by decide) (he:aJ (e::es) X.env=(false,aG e X.env)::aJ es X.env:=by rfl) (hpl:(cL pos (aJ es X.env)).any (·.1)=false:=by rfl) :
  GE G X (.Call (.Name x p) (e::es) [] pos) (cF gf ga):=λE EX pins s σ' H Q I e0=>bK e0 λm h σ ex S R P=>by
 refine wpAny_Call_Name_kw (iw I hg hm ?_ hdb);refine PySem.W.callWith_K (h₀:=X.base) I.ok.mod.kin hk (thn (ha E EX pos pins s σ' H (λvs H1=>∃m1 h1 ms,HR G m1 h1 H1/\VRs G m1 H1 ms vs/\Post G X E EX m1 H1 (gf ms h1) λv m' _ H'=>∀v',VR G m' H' v v'->Q v' H') I
  (jv ex S R P λms m1 h1 H1 vs x1 R1 r1 P1=>⟨m1,h1,ms,R1,r1,P1⟩)) λus s1 e0=>bp e0 λvs H1 I1 r e4=>e4.elim λm1 e5=>e5.elim λh1 e6=>e6.elim λms e7=>e7.elim λR1 e8=>e8.elim λrv P1=>⟨I1.kIn,?_⟩) he hpl
 exact tM (X:=X) F hr hb hK I1 ex R1 rv r P1
theorem yR{c:Nat}{mth:String}{n:Nat}{x':V}{β:Type}{kk:M β}{Q:β->List ae->MH->Hp->Prop}(R:HR G m h H)(r:VR G m H (.ref n) x')
  (P:Post G X E EX m H (bnd (look n) (λob=>match ob with
   |.ins c' fs=>if c'=c/\fs.lookup mth=none then kk else stk
   | _=>stk) h) Q):∃a dx ws,x'=.ref a/\H a=some (.ins (G.cl c) dx ws)/\ws.lookup (aA mth)=none/\Post G X E EX m H (kk h) Q:=by
 obtain⟨a,ea,rfl⟩:=r;obtain⟨oa,e1,q1,P1⟩:=cb R ea P;cases oa with
 |ins c' fs=>
   dsimp only at P1;split at P1
   ·rename_i cc;obtain⟨rfl,hn⟩:=cc;obtain⟨dx,ws,rf,z⟩:=q1;exact⟨a,dx,ws,rfl,z,Ac rf hn,P1⟩
   ·exact P1.elim
 |_=>exact P1.elim
theorem cx{pl:Sem Bool}{c:Nat}{mth:String}(ho:GE G X o go)(cC:Cls X.K (G.cl c))(hm:Meth X.K (G.cl c) (aA mth) f)(F:FnX G X k f fd ps gf)(hr:Room k X.A)(hb:Binds X.K fd ps [])(ha:GA G X (e::es) ga)(hK:X.K=G.K:=by rfl)
  (hst:aJ (e::es) X.env=(false,aG e X.env)::aJ es X.env:=by rfl) (hpl:(cL pos (aJ es X.env)).any (·.1)=false:=by rfl)
  (ht:aG (.Call (.Attribute o (aA mth) apos) (e::es) [] pos) X.env=(do
   let ov ←aG o X.env
   standAt apos.atName
   let (f,first) ←holding [ov] (getMethod ov (aA mth) pl)
   callWith pos f first (cL pos (aJ (e::es) X.env)) (backToKw pos (keywordEach [] X.env))):=by rfl) :
  GE G X (.Call (.Attribute o (aA mth) apos) (e::es) [] pos) (aZ c mth gf go ga):=λE EX pins s σ' H Q I e0=>bK e0 λm h σ ex S R P=>by
 refine PySem.W.methodCall_KW (pl:=pl) (thn (ho E EX pins s σ' H (λx H1=>∃a dx ws,x=.ref a/\H1 a=some (.ins (G.cl c) dx ws)/\ws.lookup (aA mth)=none/\∃m1 h1 n,HR G m1 h1 H1/\SR G m1 H1 σ σ'/\VR G m1 H1 (.ref n) x /\
   Post G X E EX m1 H1 (bnd (ga σ) (λxs=>gf (.ref n::xs)) h1) λv m' _ H'=>∀v',VR G m' H' v v'->Q v' H') I (sub ex S R P λv m1 h1 H1 v' x1 R1 r1 P1=>?_)) λu s1 e0=>bp e0 λx H1 I1 rx e4=>e4.elim λa e5=>e5.elim λdx e6=>e6.elim λws e7=>e7.elim λexx e8=>e8.elim λea e9=>e9.elim λl e10=>e10.elim λm1 e11=>e11.elim λh1 e12=>e12.elim λn e13=>e13.elim λR1 e14=>e14.elim λS1 e15=>e15.elim λrn P1=>?_) ht
 ·cases v with
  |ref n=>
    obtain⟨a,dx,ws,e1,e2,e3,P2⟩:=yR R1 r1 P1;exact⟨a,dx,ws,e1,e2,e3,m1,h1,n,R1,S.mono x1,r1,P2⟩
  |_=>exact P1.elim
 ·subst exx;obtain rfl:u=Value.ref a:=rx;refine yw I1 ea cC hm l ?_;refine PySem.W.callWith_K (first:=[.ref a]) (h₀:=X.base) I.ok.mod.kin hm.kp (thn (ha E EX pos pins s1 σ' H1 (λvs H2=>∃m2 h2 ms,HR G m2 h2 H2/\VRs G m2 H2 (.ref n::ms) (.ref a::vs)/\Post G X E EX m2 H2 (gf (.ref n::ms) h2) λv m' _ H'=>∀v',VR G m' H' v v'->Q v' H') I1
   (jv ex S1 R1 P1 λms m2 h2 H2 vs x2 R2 r2 P2=>⟨m2,h2,ms,R2,.cons (x2.vr rn) r2,P2⟩)) λus s2 e0=>bp e0 λvs H2 I2 r e4=>e4.elim λm2 e5=>e5.elim λh2 e6=>e6.elim λms e7=>e7.elim λR2 e8=>e8.elim λrv P2=>⟨I2.kIn,?_⟩) hst hpl
  exact tM (X:=X) (us:=.ref a::us) (vs:=.ref a::vs) F hr hb hK I2 ex R2 rv (.cons rfl r) P2
theorem gj{pl:Sem Bool}{c:Nat}{mth:String}(ho:GE G X o go)(cC:Cls X.K (G.cl c))(hm:Meth X.K (G.cl c) (aA mth) f)(F:FnX G X k f fd ps gf)(hr:Room k X.A)(hb:Binds X.K fd ps [])(hK:X.K=G.K:=by rfl)
  (ht:aG (.Call (.Attribute o (aA mth) apos) [] [] pos) X.env=(do
   let ov ←aG o X.env
   standAt apos.atName
   let (f,first) ←holding [ov] (getMethod ov (aA mth) pl)
   callWith pos f first (cL pos (aJ [] X.env)) (backToKw pos (keywordEach [] X.env))):=by rfl) :
  GE G X (.Call (.Attribute o (aA mth) apos) [] [] pos) (aZ c mth gf go az):=λE EX pins s σ' H Q I e0=>bK e0 λm h σ ex S R P=>by
 refine PySem.W.methodCall_KW (pl:=pl) (thn (ho E EX pins s σ' H (λx H1=>∃a dx ws,x=.ref a/\H1 a=some (.ins (G.cl c) dx ws)/\ws.lookup (aA mth)=none/\∃m1 h1 n,HR G m1 h1 H1/\SR G m1 H1 σ σ'/\VR G m1 H1 (.ref n) x /\
   Post G X E EX m1 H1 (bnd (az σ) (λxs=>gf (.ref n::xs)) h1) λv m' _ H'=>∀v',VR G m' H' v v'->Q v' H') I (sub ex S R P λv m1 h1 H1 v' x1 R1 r1 P1=>?_)) λu s1 e0=>bp e0 λx H1 I1 rx e4=>e4.elim λa e5=>e5.elim λdx e6=>e6.elim λws e7=>e7.elim λexx e8=>e8.elim λea e9=>e9.elim λl e10=>e10.elim λm1 e11=>e11.elim λh1 e12=>e12.elim λn e13=>e13.elim λR1 e14=>e14.elim λS1 e15=>e15.elim λrn P1=>?_) ht
 ·cases v with
  |ref n=>
    obtain⟨a,dx,ws,e1,e2,e3,P2⟩:=yR R1 r1 P1;exact⟨a,dx,ws,e1,e2,e3,m1,h1,n,R1,S.mono x1,r1,P2⟩
  |_=>exact P1.elim
 ·subst exx;obtain rfl:u=Value.ref a:=rx;refine yw I1 ea cC hm l ?_;exact PySem.W.callWith_K0 (first:=[.ref a]) I1.kIn hm.kp (tM (X:=X) (us:=[.ref a]) (vs:=[.ref a]) F hr hb hK I1 ex R1 (.cons rn .nil) (.cons rfl .nil) P1)
theorem iW{c:Nat}(M:Mk X.K (G.cl c) f)(F:FnX G X k f fd ps gf)(hr:Room (k+1) X.A)(hm:X.mg x=some (.ref (G.cl c)))(hb:Binds X.K fd ps [])(ha:GA G X (e::es) ga)(hg:Gl X x:=by rfl)(hK:X.K=G.K:=by rfl)
  (hdb:(x == ("__debug__":Str))=false:=by decide) (he:aJ (e::es) X.env=(false,aG e X.env)::aJ es X.env:=by rfl) (hpl:(cL pos (aJ es X.env)).any (·.1)=false:=by rfl) :
  GE G X (.Call (.Name x p) (e::es) [] pos) (gs c gf ga):=λE EX pins s σ' H Q I e0=>bK e0 λm h σ ex S R P=>by
 refine wpAny_Call_Name_kw (iw I hg hm ?_ hdb);refine PySem.W.callWith_K (h₀:=X.base) I.ok.mod.kin M.kp (thn (ha E EX pos pins s σ' H (λvs H1=>∃m1 h1 ms,HR G m1 h1 H1/\VRs G m1 H1 ms vs/\Post G X E EX m1 H1 (bnd (new (.ins c [])) (λo=>bnd (gf (o::ms)) λv=>match v with
   |.non=>ret o
   | _=>stk) h1) λv m' _ H'=>∀v',VR G m' H' v v'->Q v' H') I
  (jv ex S R P λms m1 h1 H1 vs x1 R1 r1 P1=>⟨m1,h1,ms,R1,r1,P1⟩)) λus s1 e0=>bp e0 λvs H1 I1 r e4=>e4.elim λm1 e5=>e5.elim λh1 e6=>e6.elim λms e7=>e7.elim λR1 e8=>e8.elim λrv P1=>⟨I1.kIn,?_⟩) he hpl
 have I2:=Inv.made (C:=G.cl c) I1;have f1:H1 s1.heap.objs.size=none:=I1.hok.fresh (aU _);have f2:H1 (s1.heap.objs.size+1)=none:=I1.hok.fresh (Nat.le_succ _);have f2':upd H1 s1.heap.objs.size (.own (s1.heap.objs.size+1)) (s1.heap.objs.size+1)=none:=by rw[aY (Nat.succ_ne_self _)];exact f2
 have x2:Ext m1 H1 (m1++[s1.heap.objs.size + 1]) (upd (upd H1 s1.heap.objs.size (.own (s1.heap.objs.size + 1))) (s1.heap.objs.size + 1) (.ins (G.cl c) s1.heap.objs.size [])):=(Ext.side f1).trans (Ext.new (R1.side f1) f2');have R2:HR G (m1++[s1.heap.objs.size + 1]) (h1++[.ins c []]) (upd (upd H1 s1.heap.objs.size (.own (s1.heap.objs.size + 1))) (s1.heap.objs.size + 1) (.ins (G.cl c) s1.heap.objs.size [])):=(R1.side f1).new f2' ⟨_,[],.nil,dh⟩;have P2:Post G X E EX (m1++[s1.heap.objs.size + 1]) (upd (upd H1 s1.heap.objs.size (.own (s1.heap.objs.size + 1))) (s1.heap.objs.size + 1) (.ins (G.cl c) s1.heap.objs.size [])) (bnd (gf (.ref h1.length::ms)) (λv=>match v with
   |.non=>ret (.ref h1.length)
   | _=>stk) (h1++[.ins c []])) λv m' _ H'=>∀v',VR G m' H' v v'->Q v' H':=(Post.bind P1) _ _ x2 R2
 have ns:gf (.ref h1.length::ms) (h1++[.ins c []])≠.stuck:=λz=>by unfold bnd at P2;rw[z]at P2;exact P2
 have hl:=F.ar _ _ ns;have rn:VR G (m1++[s1.heap.objs.size+1]) (upd (upd H1 s1.heap.objs.size (.own (s1.heap.objs.size+1))) (s1.heap.objs.size+1) (.ins (G.cl c) s1.heap.objs.size [])) (.ref h1.length) (.ref (s1.heap.objs.size+1)):=⟨_,by rw[←R1.len];simp,rfl⟩
 have rv2:VRs G (m1++[s1.heap.objs.size+1]) (upd (upd H1 s1.heap.objs.size (.own (s1.heap.objs.size+1))) (s1.heap.objs.size+1) (.ins (G.cl c) s1.heap.objs.size [])) (.ref h1.length::ms) (.ref (s1.heap.objs.size+1)::vs):=.cons rn (x2.vrs rv);have r2:Vals (V.ref (s1.heap.objs.size+1)::vs) (Value.ref (s1.heap.objs.size+1)::us):=.cons rfl r;have hu:(Value.ref (s1.heap.objs.size+1)::us).length=ps.length:=by rw[←r2.length,←Paired.length rv2];exact hl
 refine wpAny_call (Cs (f:=f) I1.kIn M.makes M.init (beq_iff_eq.mp M.fn) (codeAny_mono (F.ok.run _ X.stack _ _ ⟨Value.ref (s1.heap.objs.size + 1)::us,[]⟩ (Value.ref (s1.heap.objs.size + 1)::us) _ (λv H3=>v=.non/\Q (.ref (s1.heap.objs.size + 1)) H3) (EXK G _ _ (gf (.ref h1.length::ms) (h1++[.ins c []]))) (hr.make (G.cl c) us [])
  (I2.unwish.env0.make (G.cl c) us []) (by simpa using hb _ (Value.ref (s1.heap.objs.size + 1)::us) I2.kIn (by simpa using hu)) r2 (zb hK rv2 R2 hl ns λv h' ev m' H' v' x R' q=>?_)) λrr s' hq'=>?_))
 ·have P3:=P2;unfold bnd at P3;rw[ev]at P3;cases v with
  |non=>
    cases(show v'=V.non from q);exact⟨rfl,P3 m' H' x R' _ (x.vr rn)⟩
  |_=>exact P3.elim
 ·cases rr with
  |error ev=>
    obtain⟨c',h',m',H',a,er,rfl,x,R',I',q⟩:=wk (pins:=pins) (σ':=σ') I2.unwish hq';unfold bnd at P2;rw[er]at P2;exact P2 pins σ' m' H' a s' ex x R' I' q
  |ok fl=>
    cases fl with
    |ret u=>
      obtain⟨v,H',I3,rv',ev,q3⟩:=I2.after hq';subst ev;exact⟨rv',⟨V.ref (s1.heap.objs.size+1),H',I3,rfl,q3⟩⟩
    |next=>exact False.elim hq'
    |brk=>exact False.elim hq'
    |cont=>exact False.elim hq'
end
theorem xD{K:PySem.W.Frag}{hp:aH}{C:ae}{bm:List af}{newId:String}(kx:K.In hp)(q:PySem.W.excIn K C bm newId=true) :
  ∃tl N nm qn bs hd sn sub ab col dd k0 k1 k2 k3 k5 mN,hp.get? C=some (excClassObj nm qn C N bs tl hd sn sub ab col dd k0 k1 k2 k3 k5 newId)/\hp.Ns N mN/\mN "__init__"=none/\OwnTail hp bm tl:=by
 unfold PySem.W.excIn at q;split at q
 ·rename_i ddx cdx slx hox;split at q
  ·rename_i Cx' tlx y0 y1 y2 y3 nx y5 hmx hsx;simp only[d7,beq_iff_eq,Bool.not_eq_true']at q;have hno:=q.2;have hns:=q.1.2;have htl:=q.1.1.2;have hdl:=q.1.1.1.2;have e1:=q.1.1.1.1.1;have e2:=q.1.1.1.1.2;cases cdx with
   |mk nmx bsx mrox nsx qx hdx snx subx abx colx delx=>
     dsimp only at hmx hdl hns hno;subst e1;subst e2;subst hmx;subst hdl;have esl:slx=#[y0,y1,y2,y3,some (.builtin nx),y5]:=by
      cases slx with
      |mk l=>exact congrArg Array.mk hsx
     subst esl;exact⟨tlx,nsx,nmx,qx,bsx,hdx,snx,subx,abx,colx,ddx,y0,y1,y2,y3,y5,_,kx _ _ hox,.of_isNs (PySem.W.isNs_of_in kx hns),PySem.W.nsMap_none_of_in kx hns hno,PySem.W.tail_of_in kx htl⟩
  ·cases q
 ·cases q
theorem FM{P:bi}{w:aQ}{hp:aH}{a:ae}{o:HO}(x:cA P w H hp a o):∃ob,hp.get? a=some ob:=by
 cases o with
 |lst xs=>obtain⟨_,_,_,_,e⟩:=x;exact⟨_,e⟩
 |tup xs=>obtain⟨_,_,_,_,e,_⟩:=x;exact⟨_,e⟩
 |dK kvs=>obtain⟨_,_,_,_,o,_,_,e,_⟩:=x;exact⟨_,e⟩
 |dT kvs=>obtain⟨_,_,_,_,o,_,_,e,_⟩:=x;exact⟨_,e⟩
 |set S n=>obtain⟨o,_,_,_,e,_⟩:=x;exact⟨_,e⟩
 |ins C dx fs=>obtain⟨_,_,_,e,_⟩:=x;exact⟨_,e⟩
 |own y=>exact x
 |xd fs=>obtain⟨_,⟨_,_,_,e,_⟩,_⟩:=x;exact⟨_,e⟩
 |rng lo hi=>obtain⟨_,_,_,e⟩:=x;exact⟨_,e⟩
 |frz ob u=>exact⟨_,x.1⟩
 |tbl ps=>exact⟨_,x⟩
 |met f y=>exact⟨_,x⟩
 |ext φ=>exact x.2.1
theorem Inv.untracked{pins:List (ae×aB)}{s:aj}(I:Inv X pins σ' H s){a:ae}(e:s.heap.get? a=none):H a=none:=by
 cases z:H a with
 |none=>rfl
 |some u=>
   obtain⟨o,q⟩:=FM (I.hok a u z);rw[e]at q;cases q
theorem dH{x:Str}{c:Nat}{bm:List af}{B newId initId:String}{np cpos pos:Pos}{e:aw}{es:List aw}{ga:MA}(FB:ExcBaseFacts B newId initId bm)(q:PySem.W.excIn X.K (G.cl c) bm newId=true)(hm:X.mg x=some (.ref (G.cl c)))(hd:X.A.handled=none)
  (ha:GA G X (e::es) ga) (hg:Gl X x:=by rfl) (hdb:(x == ("__debug__":Str))=false:=by decide) (he:aJ (e::es) X.env=(false,aG e X.env)::aJ es X.env:=by rfl) (hpl:(cL cpos (aJ es X.env)).any (·.1)=false:=by rfl) :
  GS G EX X (.Raise (some (.Call (.Name x np) (e::es) [] cpos)) none pos) (cU c ga):=λE hp pins s σ' H D I e0=>bK e0 λm h σ ex S R P=>by
 obtain⟨tl,N,nm,qn,bs,hdt,sn,sb,ab,col,dd,k0,k1,k2,k3,k5,mN,oC,oN,ni,T⟩:=xD I.ok.mod.kin q;refine wpAny_Raise_call_subU (C:=G.cl c) (nm:=nm) (q:=qn) (N:=N) (bs:=bs) (bm:=tl) (hdct:=hdt) (sn:=sn) (sub:=sb) (ab:=ab) (col:=col) (dd:=dd) (k0:=k0) (k1:=k1) (k2:=k2) (k3:=k3) (k5:=k5) FB FB.hasB FB (mN:=mN) (T.hasType FB.hasBase) hd
  (by rw[he];show(false||(cL cpos (aJ es X.env)).any (·.1))=false;rw[hpl];rfl) ni (iw I hg hm ⟨rfl,?_⟩ hdb)
 have hA:=ha E EX cpos pins s σ' H (λvs H1=>∃m1 h1 ms,HR G m1 h1 H1/\VRs G m1 H1 ms vs/\ms.length≤1000/\XP G X E EX m1 H1 c h1) I (jv ex S R P λms m1 h1 H1 vs x1 R1 r1 P1=>by
  split at P1
  ·rename_i hz;exact⟨m1,h1,ms,R1,r1,hz,P1⟩
  ·exact P1.elim)
 rw[show cL cpos (aJ (e::es) (X.wish E).env)=cL cpos (aJ (e::es) X.env) from rfl]at hA;rw[he]at hA ⊢;refine Calls.evalArgs_plain (bv hA (λus s1 e0=>bp e0 λvs H1 I1 r e4=>e4.elim λm1 e5=>e5.elim λh1 e6=>e6.elim λms e7=>e7.elim λR1 e8=>e8.elim λrv e9=>e9.elim λhz P1=>⟨rfl,?_,I1.bk _ _ oC,oN.keeps I1.bk,T.keeps I1.bk,λh' a hx=>?_⟩) λ_ _ y=>y)
 ·show us.length≤aV;rw[←r.length,←Paired.length rv];exact small hz
 ·obtain⟨t,ht,_,_⟩:=hx.there;have I2:Inv X pins σ' H1 { s1 with heap:=h' }:=I1.unwish.kept (t':=s1.toks) hx.keeps;exact P1 pins σ' m1 H1 a _ ex .refl R1 I2 ⟨_,_,ht,rfl,rfl,rfl,by simp,Fp.of I1.unwish hx.new (Inv.untracked I1.unwish hx.new),.inl rfl,λ_=>rfl⟩
section
variable {o e:aw}{go ge:ME}{apos cpos:Pos}
theorem w9(ho:GE G X o go)(he:GE G X e ge)(hbase:attributeBase o (aA "append") X.env (aG o X.env)=aG o X.env:=by rfl)
  (hfew:((cL cpos (aJ [e] X.env)).all (λx=>!x.1) && (backToKw cpos (keywordEach [] X.env)).all (λx=>x.1.isSome)
   && decide ([e].length + ([]:List Keyword).length + (if ([]:List Keyword).isEmpty then 0 else 1) < 30))=true:=by rfl)
  (hline:(apos.endLine == cpos.line)=true:=by rfl) (hs:aJ [e] X.env=[(false,aG e X.env)]:=by rfl):GE G X (.Call (.Attribute o (aA "append") apos) [e] [] cpos) (mx go ge):=λE EX=>
 dC (uN (X:=X.wish E) PySem.F.plainAttrs_list PySem.F.slot_list_append PySem.F.type_list_append vf (ho E EX) (he.a1 hs E EX) hbase hfew hline hs rfl) λσ' H Q e0=>bK e0 λm h σ ex S R P=>
  sub ex S R P λv m1 h1 H1 v' x1 R1 r1 P1=>by
   cases v with
   |ref n=>
     obtain⟨aa,ea,rfl⟩:=r1;obtain⟨ob,eo,qo,P2⟩:=cb R1 ea P1;cases ob with
     |lst xs=>
       obtain⟨vs,rr,z⟩:=qo;refine⟨.inl ⟨rfl,vs,SqL.of z⟩,sub ex (S.mono x1) R1 P2 λw m2 h2 H2 w' x2 R2 r2 P3=>?_⟩;have ea2:=x2.get ea;obtain⟨ob2,eo2,qo2,P4⟩:=cb R2 ea2 P3;cases ob2 with
       |lst ys=>
         obtain⟨ws,rs,z2⟩:=qo2;dsimp only at P4;split at P4
         ·rename_i hz;refine⟨aa,ws,w',rfl,rfl,z2,by rw[←Paired.length rs];exact cN hz (big (aU _)),?_⟩;have P5:=n9 R2 ea2 P4;have x3:Ext m2 H2 m2 (upd H2 aa (.lst (ws++[w']))):=Ext.upd ea2 z2;exact P5 _ _ x3 (R2.upd ea2 (λo' yy zz=>by rw[z2]at zz;cases zz) ⟨_,x3.vrs (iJ rs (.cons r2 .nil)),dh⟩) _ rfl
         ·exact P4.elim
       |_=>exact P4.elim
     |_=>exact P2.elim
   |_=>exact P1.elim
end
noncomputable def zB:Ty->String->Bool
 |.int,k=>k == "int"||k == "bool"
 |.bool,k=>k == "bool"
 |.str,k=>k == "str"
 |.list,k=>k == "list"
 |.tuple,k=>k == "tuple"
 |.exn _ _,_=>false
structure cI(K:PySem.W.Frag)(C:ae):Prop where
 ga:PySem.W.findIn K (.ref C) "__getattribute__"=some (some (.builtin "BaseException.__getattribute__"))
 gt:PySem.W.findIn K (.ref C) "__getattr__"=some none
 sb:PySem.W.subIn K (.ref C) (.type "BaseException")=some true
 fd:PySem.W.findObj K C none "__class__"=some (.bind (.builtin "getset_descriptor.__get__") (.builtin "object.__class__"))
 mr:PySem.W.mroIn K C (.type "object")=some true
 cl:(PySem.W.clsIn K C).isSome=true
 ty:PySem.W.typeIn K (.ref C)=some (.type "type")
inductive KTy(K:PySem.W.Frag)(cl:Nat->ae)(c:af):Ty->Prop where
 |plain {t:Ty}:(∀al cs,t≠.exn al cs)->(["NoneType","bool","int","str","list","tuple"].all λk=>PySem.W.kitOne K (.type k) c == some (zB t k))=true->KTy K cl c t
 |exc {al cs:List Nat}:(∀n∈al,cI K (cl n)/\PySem.W.kitOne K (.ref (cl n)) c=some (cs.contains n))->KTy K cl c (.exn al cs)
def yV(K:PySem.W.Frag)(u:V)(c:af):List V->Hp->VK->Prop:=λxs H Q=>∃x b,xs=[x,u]/\((∃t,fP K H x t/\PySem.W.kitOne K t c=some b)∨∃a C,x=.ref a/\H a=some (.ext (ExcΦ a C))/\cI K C/\PySem.W.kitOne K (.ref C) c=some b)/\Q (.bl b) H
def xp(u:V)(c:af):Prop:=(∃T,u=.ty T/\c=.type T)∨∃C,u=.ref C/\c=.ref C
theorem Ed{u:V}{c:af}(ru:xp u c):dR X (.builtin "isinstance") (yV X.K u c):=by
 rintro pins s σ' H xs us Q I r ⟨x,b,ex,q,hQ⟩;subst ex;obtain⟨v,w,rfl,rx,ry⟩:=vals2 r;have ew:w=c:=by
  rcases ru with⟨T,rfl,rfl⟩|⟨C,rfl,rfl⟩ <;> exact ry
 subst ew;rcases q with⟨t,ty,e⟩|⟨a,C,rfl,ha,ec,e⟩
 ·exact Eh I rx ty e λtk=>⟨.bl b,H,I.tok _,rfl,hQ⟩
 ·cases(show v=Value.ref a from rx);obtain⟨ph,_,_⟩:=(show cA X.prog X.w H s.heap a (.ext (ExcΦ a C)) from I.hok a _ ha);exact PySem.W.kia_one (Db ec.ga ec.gt ec.sb ec.fd ec.mr ec.cl) I.kIn ph e (λz=>nomatch z) λtk=>⟨.bl b,H,I.tok _,rfl,hQ⟩
theorem KTy.of{K:PySem.W.Frag}{cl:Nat->ae}{c:af}{t:Ty}(k:KTy K cl c t)(ne:∀al cs,t≠.exn al cs){n:String}(hn:n∈["NoneType","bool","int","str","list","tuple"]):PySem.W.kitOne K (.type n) c=some (zB t n):=by
 cases k with
 |plain _ q=>exact beq_iff_eq.mp (iS.mp q n hn)
 |exc q=>exact absurd rfl (ne _ _)
theorem BV{c:af}{u:V}{t:Ty}(k:KTy G.K G.cl c t){Q:VK}{x:MV}{x':V}(R:HR G m h H)(rx:VR G m H x x')(P:Post G X E EX m H (eE t x h) λv m' _ H'=>∀v',VR G m' H' v v'->Q v' H'):yV G.K u c [x',u] H Q:=by
 by_cases ne:∃al cs,t=.exn al cs
 ·obtain⟨al,cs,rfl⟩:=ne;cases x with
  |ref n=>
    obtain⟨a,ea,rfl⟩:=rx;obtain⟨o,eo,qo,P1⟩:=cb R ea P;cases o with
    |exn c'=>
      dsimp only at P1;split at P1
      ·rename_i hc;cases k with
       |plain z _=>exact absurd rfl (z _ _)
       |exc q=>
         obtain⟨e1,e2⟩:=q c' (by simpa using hc);exact⟨_,_,rfl,.inr ⟨a,_,rfl,qo,e1,e2⟩,Post.here R P1 _ rfl⟩
      ·exact P1.elim
    |_=>exact P1.elim
  |_=>exact P.elim
 ·have ne':∀al cs,t≠.exn al cs:=λal cs z=>ne ⟨al,cs,z⟩;cases x with
  |non=>
    cases(show x'=V.non from rx);refine⟨_,_,rfl,.inl ⟨_,.non,k.of ne' (by decide)⟩,?_⟩
    cases t <;> first|exact Post.here R P _ rfl|exact absurd rfl (ne' _ _)
  |bl b=>
    cases(show x'=V.bl b from rx);refine⟨_,_,rfl,.inl ⟨_,.bl b,k.of ne' (by decide)⟩,?_⟩
    cases t <;> first|exact Post.here R P _ rfl|exact absurd rfl (ne' _ _)
  |int b=>
    cases(show x'=V.int b from rx);refine⟨_,_,rfl,.inl ⟨_,.int b,k.of ne' (by decide)⟩,?_⟩
    cases t <;> first|exact Post.here R P _ rfl|exact absurd rfl (ne' _ _)
  |str b=>
    cases(show x'=V.str b from rx);refine⟨_,_,rfl,.inl ⟨_,.str b,k.of ne' (by decide)⟩,?_⟩
    cases t <;> first|exact Post.here R P _ rfl|exact absurd rfl (ne' _ _)
  |scr _=>exact P.elim
  |any=>exact P.elim
  |tup xs=>
    obtain⟨a,vs,rfl,_,z,_⟩:=rx;refine⟨_,_,rfl,.inl ⟨_,.tup z,k.of ne' (by decide)⟩,?_⟩;cases t <;> first|exact Post.here R P _ rfl|exact absurd rfl (ne' _ _)
  |ref n=>
    obtain⟨a,ea,rfl⟩:=rx;obtain⟨o,eo,qo,P1⟩:=cb R ea P;cases o with
    |lst xs=>
      obtain⟨vs,r,z⟩:=qo;refine⟨_,_,rfl,.inl ⟨_,.lst z,k.of ne' (by decide)⟩,?_⟩;cases t <;> first|exact Post.here R P1 _ rfl|exact absurd rfl (ne' _ _)
    |exn c'=>cases t <;> first|exact P1.elim|exact absurd rfl (ne' _ _)
    |dct _=>cases t <;> exact P1.elim
    |ins _ _=>cases t <;> exact P1.elim
    |frz _=>cases t <;> exact P1.elim
theorem fM{e ce:aw}{ge:ME}{t:Ty}{c:af}{u:V}{p pos:Pos}(he:GE G X e ge)(hc:∀E,PE (X.wish E) ce (tC u))(cv:xp u c)(k:KTy G.K G.cl c t)(hm:X.mg "isinstance"=none)(hg:Gl X "isinstance":=by rfl)(hK:X.K=G.K:=by rfl)
  (hs:aJ [e,ce] X.env=(false,aG e X.env)::aJ [ce] X.env:=by rfl) (hs2:aJ [ce] X.env=[(false,aG ce X.env)]:=by rfl) (hpl:(cL pos (aJ [ce] X.env)).any (·.1)=false:=by rfl) :
  GE G X (.Call (.Name "isinstance" p) [e,ce] [] pos) (eUn (eE t) ge):=λE EX=>
 dC (sC (X:=X.wish E) (Ed cv) hg hm PyProof.Rows.Boot.«isinstance» (fH (X:=X.wish E) (he E EX) (fH (X:=X.wish E) (hc E) oq hs2) hs) (by decide) (by decide) hs hpl) λσ' H Q e0=>bK e0 λm h σ ex S R P=>
  sub ex S R P λv m1 h1 H1 v' x1 R1 r1 P1=>by
   have:=BV (u:=u) k R1 r1 P1;rw[←hK]at this;exact this
theorem Inv.relocal{pins:List (ae×aB)}{s:aj}{hp:aH}{t:Nat}{σ2:St}{m2:Str->Option af}(I:Inv X pins σ' H s)(hs:jR X.env.locals s.heap hp)(hn:hp.Ns X.env.locals m2)(hl:σ2.length=σ'.length)
  (hv:∀(j:Nat) (y:Str) (v:V),X.N[j]?=some y->σ2[j]?=some (some v)->Vis X.env.scope y->∃u,aN v u/\Look X.env hp m2 y u):Inv X pins σ2 H { s with heap:=hp,toks:=t }:=by
 have n0:∀b o,X.s₀.heap.get? b=some o->b≠X.env.locals:=λb o e=>dj (cN (bo e) I.ok.above);refine⟨I.ok,I.os,I.bare,⟨λb o e n hb hx=>(hs.2 b (n0 b o e)).trans (I.base.keep b o e n hb hx),λb o e n hb hx=>?_,I.base.free,λb o e hx=>?_,I.base.tups,I.base.frzs,I.base.tbls⟩,⟨m2,hn,hv⟩,λx c e=>?_,I.free,I.freeC,λp hp'=>?_,λb u e=>?_,hl.trans I.len⟩
 ·obtain⟨sl,z⟩:=I.base.slot b o e n hb hx;exact⟨sl,(hs.2 b (n0 b o e)).trans z⟩
 ·obtain⟨o',z⟩:=I.base.there b o e hx;exact⟨o',(hs.2 b (n0 b o e)).trans z⟩
 ·obtain⟨v,z⟩:=I.cell x c e;exact⟨v,z.sameBut hs (I.cne x c e)⟩
 ·obtain⟨a1,a2,a3,a4,a5⟩:=I.pin p hp';exact⟨(hs.2 _ a3).trans a1,a2,a3,a4,a5⟩
 ·have nl:∀c w',H c=some w'->c≠X.env.locals:=λc w' q z=>by rw[z,I.free]at q;cases q
  refine(I.hok b u e).stay (λc v hc q=>(hs.2 c ?_).trans q) (λ_ q=>q) λ_ _ q=>q;rcases hc with z|z
  ·rw[z];exact nl b u e
  ·exact nl c _ z
theorem nV{M:Model}{A:aX}{pins:List (ae×aB)}{s:aj}{n:Str}{i:Nat}{pos:Pos}{Q:Unit->aj->Prop}(I:Inv X pins σ' H s)(hN:X.N.Nodup)(hi:X.N[i]?=some n)(hl:X.env.kindOf n=some .local)
  (k:∀s',Inv X pins (σ'.set i none) H s'->Q () s'):aq M A (do bindName X.env n .none;unbindBehindTheSuite X.env n pos) Q E s:=by
 obtain⟨mm,hn,hv⟩:=I.loc;refine wpAny_nameGoes_keeps hl hn (by rw[I.ok.kind];rfl) λhp v hn' hs=>k _ (Inv.relocal I hs hn' (by simp) λj y w e1 e2 e3=>?_);by_cases hj:i=j
 ·subst hj;have:i<σ'.length:=by rw[I.len];exact(bM.mp hi).1
  rw[fY this]at e2;cases e2
 ·rw[ip hj]at e2;obtain⟨u,ru,l⟩:=hv j y w e1 e2 e3;refine⟨u,ru,?_⟩;have ny:y≠n:=λz=>hj (vB hN hi (z▸e1));rcases l with⟨kk,q⟩|⟨kk,c,q,z⟩
  ·exact .inl ⟨kk,by simp[ny,q]⟩
  ·exact .inr ⟨kk,c,q,z.sameBut hs (I.cne y c q)⟩
theorem Inv.track{pins:List (ae×aB)}{s:aj}{a:ae}{φ:aH->Prop}(I:Inv X pins σ' H s)(f:Fp X pins H a)(ok:cA X.prog X.w (upd H a (.ext φ)) s.heap a (.ext φ)):Inv X pins σ' (upd H a (.ext φ)) s:=by
 have na:∀b u,H b=some u->b≠a:=λb u e z=>by rw[z,f.un]at e;cases e
 refine⟨I.ok,I.os,I.bare,⟨I.base.keep,I.base.slot,λb o e n hx=>?_,I.base.there,λb xs e=>?_,λb o u e=>?_,λb ps e=>?_⟩,I.loc,I.cell,?_,λx c e=>?_,λp hp=>?_,λb u e=>?_,I.len⟩
 ·rw[aY]
  ·exact I.base.free b o e n hx
  ·intro z;rcases f.new with y|y
   ·exact hx (z▸y)
   ·rw[z,y]at e;cases e
 ·have q:=I.base.tups b xs e;rw[aY (na b _ q)];exact q
 ·have q:=I.base.frzs b o u e;rw[aY (na b _ q)];exact q
 ·obtain⟨mo,q⟩:=I.base.tbls b ps e;exact⟨mo,by rw[aY (na b _ q)];exact q⟩
 ·rw[aY (Ne.symm f.loc)];exact I.free
 ·rw[aY (f.ce x c e)];exact I.freeC x c e
 ·obtain⟨a1,a2,a3,a4,a5⟩:=I.pin p hp;exact⟨a1,by rw[aY (f.pin p hp)];exact a2,a3,a4,a5⟩
 ·by_cases z:b=a
  ·subst z;rw[dh]at e;cases e;exact ok
  ·rw[aY z]at e;refine(I.hok b u e).stay (λ_ _ _ q=>q) (λc q=>?_) λc xs q=>?_
   ·rw[aY (na c _ q)];exact q
   ·rw[aY (na c _ q)];exact q
abbrev QD(G:Gb)(D:Ends):MF->List ae->MH->Hp->Prop:=λf m' _ H'=>match f with
 |.next σ1=>∀σ1',SR G m' H' σ1 σ1'->D.nx σ1' H'
 |.brk σ1=>∀σ1',SR G m' H' σ1 σ1'->D.bk σ1' H'
 |.cnt σ1=>∀σ1',SR G m' H' σ1 σ1'->D.ct σ1' H'
 |.ret v=>∀v',VR G m' H' v v'->D.rt v' H'
noncomputable abbrev Cx.inSuite(X:Cx)(A:aX):Cx:={ X with A:=A,calm:=false }
theorem Inv.mark{pins:List (ae×aB)}{s:aj}(I:Inv X pins σ' H s)(v:Option af):Inv (Cx.inSuite X (X.A.mark v)) pins σ' H s:=
 ⟨⟨I.ok.mod,I.ok.kind,I.ok.glob,I.ok.blt,I.ok.above,I.ok.inj,I.ok.has,I.ok.cab,(λz=>nomatch z),I.ok.frames,I.ok.stk,I.ok.exf,I.ok.bs,I.ok.bsz,I.ok.noex,I.ok.exfs,I.ok.funs,I.ok.frf⟩,I.os,I.bare,I.base,I.loc,I.cell,I.free,I.freeC,I.pin,I.hok,I.len⟩
theorem Inv.unmark{pins:List (ae×aB)}{s:aj}{A:aX}(ok:X.Ok)(I:Inv (Cx.inSuite X A) pins σ' H s):Inv X pins σ' H s:=⟨ok,I.os,I.bare,I.base,I.loc,I.cell,I.free,I.freeC,I.pin,I.hok,I.len⟩
noncomputable abbrev Cx.pinned(X:Cx)(pn:List (ae×aB)):Cx:={ X with pn:=pn }
theorem Inv.toPn{pins:List (ae×aB)}{s:aj}(I:Inv X pins σ' H s):Inv (Cx.pinned X (X.pn++pins)) [] σ' H s:=
 ⟨⟨I.ok.mod,I.ok.kind,I.ok.glob,I.ok.blt,I.ok.above,I.ok.inj,I.ok.has,I.ok.cab,I.ok.hd,I.ok.frames,I.ok.stk,I.ok.exf,I.ok.bs,I.ok.bsz,I.ok.noex,I.ok.exfs,I.ok.funs,I.ok.frf⟩,I.os,I.bare,I.base,I.loc,I.cell,I.free,I.freeC,λp hp=>I.pin p (by simpa using hp),I.hok,I.len⟩
theorem Inv.ofPn{pins pins':List (ae×aB)}{s:aj}(ok:X.Ok)(I:Inv (Cx.pinned X (X.pn++pins)) pins' σ' H s):Inv X pins σ' H s:=
 ⟨ok,I.os,I.bare,I.base,I.loc,I.cell,I.free,I.freeC,λp hp=>I.pin p (gB _ hp),I.hok,I.len⟩
theorem Fp.ofPn{pins pins':List (ae×aB)}{b:ae}(f:Fp (Cx.pinned X (X.pn++pins)) pins' H b):Fp X pins H b:=⟨f.un,f.loc,f.fs,f.new,f.ce,λp hp=>f.pin p (gB _ hp)⟩
inductive GHs(G:Gb)(X:Cx)(al:List Nat):List ExceptHandler->List Hd->Prop where
 |nil:GHs G X al [] []
 |plain {x:Str} {np pos:Pos} {b0:aP} {body:List aP} {rest:List ExceptHandler} {C':ae} {cs:List Nat} {gb:MS} {ds:List Hd} (hm:X.mg x=some (.ref C')) (hg:Gl X x) (hC:cI X.K C')
   (hs:∀n∈al,PySem.W.subIn X.K (.ref (G.cl n)) (.ref C')=some (cs.contains n)) (hb:∀v,GSs G ET (Cx.inSuite X (X.A.mark v)) (b0::body) gb) (hd:(x == ("__debug__":Str))=false) (hr:GHs G X al rest ds) :
   GHs G X al (.ExceptHandler (some (.Name x np)) none (b0::body) pos::rest) (⟨cs,none,gb⟩::ds)
 |named {x n:Str} {i:Nat} {np pos:Pos} {b0:aP} {body:List aP} {rest:List ExceptHandler} {C':ae} {cs:List Nat} {gb:MS} {ds:List Hd} (hm:X.mg x=some (.ref C')) (hg:Gl X x) (hC:cI X.K C')
   (hs:∀n∈al,PySem.W.subIn X.K (.ref (G.cl n)) (.ref C')=some (cs.contains n)) (hN:X.N.Nodup) (hi:X.N[i]?=some n) (hl:X.env.scope.names.lookup n=some .local) (hb:∀v,GSs G ET (Cx.inSuite X (X.A.mark v)) (b0::body) gb) (hd:(x == ("__debug__":Str))=false) (hr:GHs G X al rest ds) :
   GHs G X al (.ExceptHandler (some (.Name x np)) (some n) (b0::body) pos::rest) (⟨cs,some i,gb⟩::ds)
theorem Post.noExc{α:Type}{a:M α}{Q:α->List ae->MH->Hp->Prop}{X':Cx}{E':af->aj->Prop}{EX':St->Prop}(P:Post G X E EX m H (noExc a h) Q):Post G X' E' EX' m H (a h) Q:=by
 unfold Rv.noExc at P;cases e:a h with
 |ok v h'=>rw[e]at P;exact P
 |exc c h'=>rw[e]at P;exact P.elim
 |stuck=>rw[e]at P;exact P.elim
theorem SP.back{pins:List (ae×aB)}{D:Ends}{f:Flow}{s':aj}{A:aX}{E':af->aj->Prop}(ok:X.Ok)(q:SP ((Cx.inSuite X A).wish E') pins D f s'):SP X pins D f s':=by
 cases f with
 |next=>obtain⟨σ2,H2,I,z⟩:=q;exact⟨σ2,H2,Inv.unmark ok I.unwish,z⟩
 |brk=>obtain⟨σ2,H2,I,z⟩:=q;exact⟨σ2,H2,Inv.unmark ok I.unwish,z⟩
 |cont=>obtain⟨σ2,H2,I,z⟩:=q;exact⟨σ2,H2,Inv.unmark ok I.unwish,z⟩
 |ret u=>obtain⟨v,σ2,H2,I,r,z⟩:=q;exact⟨v,σ2,H2,Inv.unmark ok I.unwish,r,z⟩
theorem IJ{al:List Nat}{pins:List (ae×aB)}{D:Ends}{a:ae}{c:Nat}(hK:X.K=G.K)(hc:c∈al){hs:List ExceptHandler}{ds:List Hd}(g:GHs G X al hs ds):∀{s:aj}{H:Hp}{m:List ae}{h:MH},Inv X pins σ' H s->SR G m H σ σ'->HR G m h H ->
  Exc X pins H (fl c) (G.cl c) a s->Post G X E ET m H (iM c σ ds h) (QD G D)->aq (av X.prog X.w) X.A (handleBy (.ref a) X.env hs) (SP X pins D) E s:=by
 induction g with
 |nil=>intro s H m h I S R x P;exact P.elim
 |@plain x np pos b0 body rest C' cs gb ds hm hg hC hs hb hd hr ih=>
   intro s H m h I S R x P;obtain⟨oe,vs,a1,a2,a3,a4,a5,a6,a7⟩:=id x;refine wpAny_handleBy_cons (codeAny_handlers_test (iw (Inv.mark I (some (.ref a))) hg hm ?_ hd)) (λq=>nomatch q);refine uU I.kIn a1 a2 hC.ty hC.cl hC.sb (hs c hc) ?_;unfold iM at P;cases hcc:cs.contains c with
   |true=>
     rw[hcc,if_pos rfl]at P;refine codeAny_handlers_suite (vx I x λs1 I1 x1=>?_);exact bv (hb (some (.ref a)) (λ_ _=>False) PassesOwn.never pins s1 σ' H D ((Inv.mark I1 _).wish _) ⟨m,h,σ,trivial,S,R,Post.noExc P⟩) (λf s2 q=>SP.back I.ok q) λ_ _ z=>z.elim
   |false=>
     rw[hcc,if_neg bW]at P;exact ih I S R x P
 |@named x n i np pos b0 body rest C' cs gb ds hm hg hC hs hN hi hl hb hd hr ih=>
   intro s H m h I S R x P;obtain⟨oe,vs,a1,a2,a3,a4,a5,a6,a7⟩:=id x;refine wpAny_handleBy_cons (codeAny_handlers_test (iw (Inv.mark I (some (.ref a))) hg hm ?_ hd)) (λq=>nomatch q);refine uU I.kIn a1 a2 hC.ty hC.cl hC.sb (hs c hc) ?_;unfold iM at P;cases hcc:cs.contains c with
   |true=>
     rw[hcc,if_pos rfl]at P;refine codeAny_handlers_suite_as (vx I x λs1 I1 x1=>?_);obtain⟨oe1,vs1,b1,b2,b3,b4,b5,b6,b7,b8⟩:=id x1;have ph:ExcΦ a (G.cl c) s1.heap:=⟨oe1,vs1,b1,b2,b3,b4⟩;have I2:=Inv.track (φ:=ExcΦ a (G.cl c)) I1 b6 ⟨ph,⟨oe1,b1⟩,λp1 p2 ⟨o,ws,q1,q2,q3,q4⟩ k=>⟨o,ws,k o q1,q2,q3,q4⟩⟩;have x2:Ext m H (m++[a]) (upd H a (.ext (ExcΦ a (G.cl c)))):=Ext.new R b6.un;have R2:HR G (m++[a]) (h++[.exn c]) (upd H a (.ext (ExcΦ a (G.cl c)))):=R.new b6.un dh;have rn:VR G (m++[a]) (upd H a (.ext (ExcΦ a (G.cl c)))) (.ref h.length) (.ref a):=⟨a,by rw[←R.len];simp,rfl⟩
     have P2:=(Post.bind P) _ _ x2 R2;refine mX (X:=X) (v:=.ref a) I2 hN hi (.inl hl) rfl (λs2 I3=>?_) (.inr hl);refine bv (hb (some (.ref a)) (λ_ _=>False) PassesOwn.never pins s2 _ _ { nx:=λσ1' H1=>D.nx (σ1'.set i none) H1,rt:=D.rt,bk:=λσ1' H1=>D.bk (σ1'.set i none) H1,ct:=λσ1' H1=>D.ct (σ1'.set i none) H1 } ((Inv.mark I3 _).wish _)
      ⟨_,_,_,trivial,(S.mono x2).set i rn,R2,Post.noExc ((Post.bind P2).mono λf m3 h3 H3 x3 R3 P3=>?_)⟩) (λf s3 q=>?_) λ_ _ z=>z.elim
     ·have P4:=Post.here R3 P3;cases f with
      |next σ3=>exact λσ3' S3=>P4 _ (S3.forget i none)
      |brk σ3=>exact λσ3' S3=>P4 _ (S3.forget i none)
      |cnt σ3=>exact λσ3' S3=>P4 _ (S3.forget i none)
      |ret v=>exact P4
     ·have q':=SP.back I.ok q;cases f with
      |next=>obtain⟨σ4,H4,I4,z⟩:=q';exact nV I4 hN hi hl λs4 I5=>⟨_,H4,I5,z⟩
      |brk=>obtain⟨σ4,H4,I4,z⟩:=q';exact nV I4 hN hi hl λs4 I5=>⟨_,H4,I5,z⟩
      |cont=>obtain⟨σ4,H4,I4,z⟩:=q';exact nV I4 hN hi hl λs4 I5=>⟨_,H4,I5,z⟩
      |ret u=>obtain⟨v,σ4,H4,I4,r,z⟩:=q';exact nV I4 hN hi hl λs4 I5=>⟨v,_,H4,I5,r,z⟩
   |false=>
     rw[hcc,if_neg bW]at P;exact ih I S R x P
theorem C3{al:List Nat}{body:List aP}{h0:ExceptHandler}{hs:List ExceptHandler}{gb:MS}{ds:List Hd}{pos:Pos}(hb:∀pn EX,GSs G EX (Cx.pinned X pn) body gb)(hh:GHs G X al (h0::hs) ds)(hK:X.K=G.K:=by rfl)(hst:X.stack=X.env::X.outer:=by rfl)(hf:X.env.frame=some X.env.locals:=by rfl) :
  GS G ET X (.Try body (h0::hs) [] [] pos) (mJ al gb ds):=λE hp pins s σ' H D I e0=>bK e0 λm h σ ex S R P=>by
 have I0:=I.unwish;refine wpAny_Try_except ?_;have fin:∀f s1,SP X pins D f s1->(match f with|.next=>aq (av X.prog X.w) X.A (execs [] X.env) (SP (X.wish E) pins D) E s1|f=>SP (X.wish E) pins D f s1):=λf s1 q=>by
  cases f with
  |next=>obtain⟨σ2,H2,I2,z⟩:=q;exact wpAny_execs_nil ⟨σ2,H2,I2.wish E,z⟩
  |brk=>obtain⟨σ2,H2,I2,z⟩:=q;exact⟨σ2,H2,I2.wish E,z⟩
  |cont=>obtain⟨σ2,H2,I2,z⟩:=q;exact⟨σ2,H2,I2.wish E,z⟩
  |ret u=>obtain⟨v,σ2,H2,I2,r,z⟩:=q;exact⟨v,σ2,H2,I2.wish E,r,z⟩
 have back:∀{E':af->aj->Prop}{f s1},SP ((Cx.pinned X (X.pn++pins)).wish E') [] D f s1->SP X pins D f s1:=λ{E' f s1} q=>by
  cases f with
  |next=>obtain⟨σ2,H2,I2,z⟩:=q;exact⟨σ2,H2,Inv.ofPn I0.ok I2.unwish,z⟩
  |brk=>obtain⟨σ2,H2,I2,z⟩:=q;exact⟨σ2,H2,Inv.ofPn I0.ok I2.unwish,z⟩
  |cont=>obtain⟨σ2,H2,I2,z⟩:=q;exact⟨σ2,H2,Inv.ofPn I0.ok I2.unwish,z⟩
  |ret u=>obtain⟨v,σ2,H2,I2,r,z⟩:=q;exact⟨v,σ2,H2,Inv.ofPn I0.ok I2.unwish,r,z⟩
 unfold mJ at P;cases eb:gb σ h with
 |ok f h'=>
   simp only[eb]at P;exact bv (hb (X.pn++pins) ET (λ_ _=>False) PassesOwn.never [] s σ' H D ((Inv.toPn I0).wish _) ⟨m,h,σ,trivial,S,R,by rw[eb];exact P⟩) (λf s1 q=>fin f s1 (back q)) λ_ _ z=>z.elim
 |exc c h'=>
   simp only[eb]at P;split at P
   ·rename_i hcc;have fr:X.A.frames=some (X.env::X.outer):=by rw[I0.ok.frames,hst]
    refine bv (hb (X.pn++pins) (λz=>z=σ') (EB G (Cx.pinned X (X.pn++pins)) (λz=>z=σ') [] m H c h') (EB.passes fr hst hf) [] s σ' H D ((Inv.toPn I0).wish _) ⟨m,h,σ,rfl,S,R,?_⟩) (λf s1 q=>fin f s1 (back q)) ?_
    ·rw[eb];intro pins' σ2 m2 H2 a s2 e2 x2 R2 I2 q2;exact⟨σ2,m2,H2,a,e2,x2,R2,I2.pins_of (λp hp=>absurd hp (by simp)),rfl,q2.imp λb fb=>⟨fb.un,fb.loc,fb.fs,fb.new,fb.ce,λp hp=>fb.pin p (gB _ (by simpa using hp))⟩⟩
    ·rintro e s1 ⟨σ2,m2,H2,a,rfl,x2,R2,I2,rfl,q2⟩;have I3:=Inv.ofPn I0.ok I2;have q3:Exc X pins H2 (fl c) (G.cl c) a s1:=q2.imp λb fb=>Fp.ofPn fb;refine jN (X:=X) fr hst hf I3 q3 λs4 I4 q4=>?_;refine jA I4 q4 λs5 I5 q5=>?_;refine bv (IJ (E:=E) hK (by simpa using hcc) hh I5 (S.mono x2) R2 q5.sh (P.ext x2)) (λf s6 q=>?_) λ_ _ z=>z;cases f with
     |next=>obtain⟨σ6,H6,I6,z⟩:=q;exact⟨σ6,H6,I6.wish E,z⟩
     |brk=>obtain⟨σ6,H6,I6,z⟩:=q;exact⟨σ6,H6,I6.wish E,z⟩
     |cont=>obtain⟨σ6,H6,I6,z⟩:=q;exact⟨σ6,H6,I6.wish E,z⟩
     |ret u=>obtain⟨v,σ6,H6,I6,r,z⟩:=q;exact⟨v,σ6,H6,I6.wish E,r,z⟩
   ·exact P.elim
 |stuck=>
   simp only[eb]at P;exact P.elim
noncomputable def fS(N:List Str)(x:List Str):List Str:=N.map (λn=>if n∈x then aA "" else n)++x
noncomputable def bX(X:Cx)(x:List Str)(scope:Scope)(cl:List (Str×ae))(C:ae)(s:aj)(H:Hp)(fp:List ae)(pins:List (ae×aB)):Cx:=
 { X with N:=fS X.N x,env:=compEnvC scope cl C X.env,s₀:=s,H₀:=H,outer:=X.stack,ex:=fp,fn:=λ_=>false,pn:=X.pn++pins,xe:=λ_ _=>False }
structure d3(X:Cx)(x:List Str)(scope:Scope)(cl:List (Str×ae)):Prop where
 clos:closureFor scope X.env=pure cl
 cells:∀n c,cl.lookup n=some c->X.env.cells.lookup n=some c
 kind:scope.kind=.function
 nocell:∀y∈scope.names,y.2≠.cell
 locs:∀y∈scope.names,y.2=.local->scope.names.lookup y.1=some .local
 has:∀y,scope.names.lookup y=some .free->∃c,cl.lookup y=some c
 outk:∀y,scope.names.lookup y=some .free->X.env.kindOf y=some .cell∨X.env.kindOf y=some .free
 nolo:∀n∈X.N,n∉x->scope.names.lookup n≠some .local
 dum:scope.names.lookup (aA "")=none
 nd:(fS X.N x).Nodup
theorem vO{env:Env}:∀{names:List (Str×NameKind)}{x:Str}{k:NameKind},(∀y∈names,y.2≠.cell)->(names.map λ(n,k)=>if(k == NameKind.free&&env.scope.kind == .function&&env.kindOf n == some .cell) then(n,NameKind.cell) else(n,k)).lookup x=some k ->
  names.lookup x=some k∨(names.lookup x=some .free/\k=.cell)
 |[],_,_,_,e=>by simp at e
 |(n,k0)::r,x,k,nc,e=>by
   have ih:=@vO env r x k (λy hy=>nc y (d5 _ hy));by_cases hx:x=n
   ·subst hx;simp only[bD]at e;split at e
    ·rename_i hc;simp only[d7,beq_iff_eq]at hc;refine .inr ⟨by simp[bI,hc.1.1],?_⟩;simp only[bI,beq_self_eq_true,Option.some.injEq]at e;exact e.symm
    ·simp only[bI,beq_self_eq_true]at e ⊢;exact .inl e
   ·have hb:(x == n)=false:=by simpa using hx
    simp only[bD]at e;have e':(r.map λ(n,k)=>if(k == NameKind.free&&env.scope.kind == .function&&env.kindOf n == some .cell) then(n,NameKind.cell) else(n,k)).lookup x=some k:=by
     split at e <;> simpa only[bI,hb] using e
    simp only[bI,hb];exact ih e'
theorem Ax{x:List Str}{scope:Scope}{cl:List (Str×ae)}{fp:List ae}{pins:List (ae×aB)}{s:aj}{hp:aH}{t:Nat}(ok:d3 X x scope cl)(I:Inv X pins σ' H s)(hf:∀b∈fp,eX X pins H b)(hfo:∀b∈fp,∃o,s.heap.get? b=some o)
  (hn:∃mm,hp.Ns s.heap.objs.size mm) (hk:∀b o,s.heap.get? b=some o->hp.get? b=some o):Inv (bX X x scope cl s.heap.objs.size s H fp pins) [] (σ'++br x.length none) H { s with heap:=hp,toks:=t }:=by
 obtain⟨mm,hn⟩:=hn;have ltC:∀b o,s.heap.get? b=some o->b≠s.heap.objs.size:=λb o e=>dj (bo e);have kd:∀y k,(relabel scope X.env).names.lookup y=some k->scope.names.lookup y=some k∨(scope.names.lookup y=some .free/\k=.cell):=λy k e=>vO ok.nocell e;have nc:∀y,scope.names.lookup y≠some .cell:=λy e=>ok.nocell _ (PySem.mem_of_lookup e) rfl;have stk:∀b,b≠X.env.locals->b∉X.fs->b∉frs X.stack:=λb h1 h2 z=>by
  rcases bu.mp (I.stkSub b z) with y|y
  ·exact h1 y
  ·exact h2 y
 refine ⟨⟨I.ok.mod,ok.kind,I.ok.glob,I.ok.blt,aU _,λy z c e1 e2=>I.ok.inj y z c (ok.cells y c e1) (ok.cells z c e2),λy hy=>?_,(λy c e=>nomatch e),I.ok.hd,I.ok.frames,.inl rfl,λb hb=>⟨?_,λy c e=>?_⟩,I.bs,cB I.ok.bsz I.sz,λb o e hb=>?_,λb hb=>?_,I.stack,I.stkFree⟩,
  rfl,I.bare,Un.kept hk,⟨mm,hn,λi y v e1 e2 e3=>?_⟩,λy c e=>?_,I.hok.fresh (aU _),λy c e=>I.freeC y c (ok.cells y c e),λp hp'=>?_,I.hok.kept hk,?_⟩
 ·have hy':scope.names.lookup y=some .free:=by
   rcases hy with hy|hy
   ·rcases kd y _ hy with z|z
    ·exact absurd z (nc y)
    ·exact z.1
   ·rcases kd y _ hy with z|z
    ·exact z
    ·exact z.1
  exact ok.has y hy'
 ·obtain⟨o,e⟩:=hfo b hb;exact ltC b o e
 ·exact(hf b hb).2.2.2.2.1 y c (ok.cells y c e)
 ·rcases(hf b hb).2.2.2.1 with z|z
  ·exact I.ok.noex b o e z
  ·exact absurd (cN (bo e) (cB I.ok.bsz z)) (gU _)
 ·exact stk b (hf b hb).2.1 (hf b hb).2.2.1
 ·have hi:i<σ'.length:=by
   by_cases hi:i<σ'.length
   ·exact hi
   ·rw[iO (by lia),ji]at e2;split at e2 <;> cases e2
  rw[eJ hi]at e2;have e1':(X.N.map λn=>if n∈x then aA "" else n)[i]?=some y:=by
   have:(fS X.N x)[i]?=some y:=e1;unfold fS at this
   rwa [eJ (by simpa[←I.len] using hi)]at this
  rw[bZ]at e1';cases en:X.N[i]? with
  |none=>rw[en]at e1';cases e1'
  |some n=>
    rw[en]at e1';have ey:(if n∈x then aA "" else n)=y:=Option.some.inj e1';by_cases hnx:n∈x
    ·rw[if_pos hnx]at ey;subst ey;exfalso;rcases e3 with z|z|z
     ·rcases kd _ _ z with w|w
      ·rw[ok.dum]at w;cases w
      ·have w:=w.1;rw[ok.dum]at w;cases w
     ·rcases kd _ _ z with w|w
      ·rw[ok.dum]at w;cases w
      ·have w:=w.1;rw[ok.dum]at w;cases w
     ·rcases kd _ _ z with w|w
      ·rw[ok.dum]at w;cases w
      ·have w:=w.1;rw[ok.dum]at w;cases w
    ·rw[if_neg hnx]at ey;subst ey;have fr:scope.names.lookup n=some .free/\((relabel scope X.env).names.lookup n=some .cell∨(relabel scope X.env).names.lookup n=some .free):=by
      rcases e3 with z|z|z
      ·rcases kd _ _ z with w|w
       ·exact absurd w (ok.nolo n (dZ en) hnx)
       ·exact absurd w.2 (by decide)
      ·rcases kd _ _ z with w|w
       ·exact absurd w (nc n)
       ·exact⟨w.1,.inl z⟩
      ·rcases kd _ _ z with w|w
       ·exact⟨w,.inr z⟩
       ·exact⟨w.1,.inr z⟩
     obtain ⟨m0,hn0,hl0⟩:=I.loc;obtain ⟨u,ru,lk⟩:=hl0 i n v en e2 (by
      rcases ok.outk n fr.1 with z|z
      ·exact .inr (.inl z)
      ·exact .inr (.inr z))
     refine⟨u,ru,?_⟩;obtain⟨c',hc'⟩:=ok.has n fr.1;have hx':=ok.cells n c' hc';rcases lk with⟨k1,_⟩|⟨_,c,ec,o,ho,hd⟩
     ·rcases ok.outk n fr.1 with z|z <;> (rw[k1]at z;cases z)
     ·rw[ec]at hx';cases hx';exact .inr ⟨fr.2,c',hc',o,hk c' o ho,hd⟩
 ·obtain⟨v,o,ho,hd⟩:=I.cell y c (ok.cells y c e);exact⟨v,o,hk c o ho,hd⟩
 ·have hp2:p∈X.pn++pins:=by simpa[bX] using hp'
  obtain⟨a1,a2,a3,a4,a5⟩:=I.pin p hp2;exact⟨hk _ _ a1,a2,ltC _ _ a1,stk _ a3 a4,a5⟩
 ·show(σ'++br x.length none).length=(fS X.N x).length;simp[fS,I.len]
abbrev Nt(P:bi)(w:aQ)(A:aX)(env:Env)(R:Result->aj->Prop):af->aj->Prop:=notedBy (av P w) A env λe z=>R (.error e) z
theorem xF{P:bi}{w:aQ}{A:aX}{R:Result->aj->Prop}{s:aj}{el tg io:aw}{cs:List aw}{sc:Scope}{ps:Pos}{iv ac:af}{env:Env}(J:Nat->aj->Prop)
  (turn:∀n s,J n s->aq (av P w) A (pyNext iv) (λr s1=>match r with
   |none=>R (.ok .next) s1
   | some v=>aq (av P w) A (letOwnedTupleGo tg iv v >>= λ_=>assign tg env v) (λ_ s2=>
     aq (av P w) A (forIn cs true λc q=>if q=true then do let k ←isTrue c env (aG c env);pure (ForInStep.yield k) else pure (ForInStep.yield q)) (λk s3=>
      if k=true then aq (av P w) A (aG el env) (λy s4=>aq (av P w) A (call (.builtin "list.append") [ac,y]) (λ_ s5=>∃n',n'<n/\J n' s5) (Nt P w A env R) s4) (Nt P w A env R) s3
      else ∃n',n' < n/\J n' s3) (Nt P w A env R) s2) (Nt P w A env R) s1) (Nt P w A env R) s)
  (n:Nat) (j:J n s):codeAny (av P w) A (.compLoop (.ListComp el [⟨tg,io,cs,0⟩] sc ps) 0 iv ac env) R s:=by
 refine codeAny_loop rfl J (λn s j=>?_) n j;show aq _ A ((compTurn (.ListComp el [⟨tg,io,cs,0⟩] sc ps) 0 iv ac env).onRaise (λy=>do noteFrame y env;theTreesLotGoes y)) _ _ s;refine wpAny_noted ?_;rw[compTurn_list];refine ak (wpAny_standAt (ak (bv (turn n s j) (λr s1 q1=>?_) λ_ _ z=>z)));cases r with
 |none=>exact aL q1
 |some v=>
   dsimp only at q1 ⊢;rw[←bind_assoc];refine ak (bv q1 (λ_ s2 q2=>ak (bv q2 (λk s3 q3=>?_) λ_ _ z=>z)) λ_ _ z=>z);cases k with
   |false=>exact aL ⟨rfl,q3⟩
   |true=>exact ak (ak (bv q3 (λy s4 q4=>ak (bv q4 (λ_ s5 q5=>aL (aL ⟨rfl,q5⟩)) λ_ _ z=>z)) λ_ _ z=>z))
theorem sG:∀(v:List MV) (σ:MSt),dg (ij σ.length v.length) v (σ++br v.length none)=σ++v.map some
 |[],σ=>by simp[dg]
 |a::v,σ=>by
   have ih:=sG v (σ++[some a]);simp only[gX,eR,kh,Nat.zero_add]at ih;simp only[eR,List.range'_succ,dg,fZ,bD];have e:(σ++none::br v.length none:MSt).set σ.length (some a)=σ++[some a]++br v.length none:=by simp
   rw[e,ih];simp
def pk(G:Gb)(X:Cx)(x:List Str)(scope:Scope)(cl:List (Str×ae))(ifs:List aw)(gc:Option ME):Prop:=match ifs,gc with
 |[],none=>True
 |[c],some g=>∀C s H fp pins,GT G (bX X x scope cl C s H fp pins) c g
 |_,_=>False
theorem Ext.sideSet{q:ae}{u:HO}(x:Ext m H m' H')(e:H q=none):Ext m H m' (L2.upd H' q u):=
 ⟨x.pre,λa o z n nt=>⟨by rw[aY (dE z e)];exact(x.fr a o z n nt).1,(x.fr a o z n nt).2⟩,λa o u z=>by rw[aY (dE z e)];exact x.fz a o u z⟩
theorem Mn.adopt{q:ae}(nt:∀ys,H q≠some (.tup ys)):Mn m H (m++[q]) H:=⟨λ_ _=>Av,λa vs z n=>⟨z,by simp only[fJ,dF,not_or];exact⟨n,λy=>nt vs (by rw[←y];exact z)⟩⟩⟩
theorem HR.adopt{q:ae}{o:MO}(R:HR G m h H)(nq:q∉m)(nt:∀ys,H q≠some (.tup ys))(nx:∀v,H q=some v->¬TbX v)(ro:OR G (m++[q]) H q o):HR G (m++[q]) (h++[o]) H:=by
 refine⟨by simp[R.len],?_,λn a ob ea eo=>?_,R.scr,R.tab.keep λb u z nb tx=>⟨z,by simp only[fJ,dF,not_or];exact⟨nb,λy=>nx u (by rw[←y];exact z) tx⟩⟩⟩
 ·rw[j9];exact⟨R.nd,by simp,λa ha b hb=>by simp at hb;subst hb;intro z;subst z;exact nq ha⟩
 ·rcases kX ea with ea|⟨rfl,rfl⟩
  ·have eo':h[n]?=some ob:=by
    rcases kX eo with eo|⟨q',_⟩
    ·exact eo
    ·have:=(bM.mp ea).1;rw[R.len]at this;lia
   exact OR.mono (Mn.adopt nt) rfl (R.ob n a ob ea eo')
  ·have:ob=o:=by
    rcases kX eo with eo|⟨_,q'⟩
    ·have:=(bM.mp eo).1;rw[←R.len]at this;lia
    ·exact q'
   subst this;exact ro
def CIv(G:Gb)(Y:Cx)(src:Src)(gc:Option ME)(gelt:ME)(σ:MSt)(x:List Str)(fp:List ae)(tn:Nat->aH->Prop)(m1:List ae)(H2:Hp)(D:ae)(all:List MV)(hE:MH)(n:Nat)(s:aj):Prop:=∃k σc H5 m5 h5 acc vs rest,n=src.items.length-k/\k≤src.items.length/\Inv Y [] σc H5 s/\tn k s.heap/\(∀b∈fp,H5 b=none)/\SR G m5 H5 (σ++br x.length none) σc/\HR G m5 h5 H5/\Ext m1 H2 m5 H5/\D∉m5/\VRs G m5 H5 acc vs/\H5 D=some (.lst vs)/\acc.length≤k/\bQ src gc gelt σ (src.items.drop k) h5=.ok rest hE/\acc++rest=all
theorem Dk{x:List Str}{one:Bool}{pos:Pos}{tg elt iter:aw}{ifs:List aw}{scope:Scope}{cl:List (Str×ae)}{gc:Option ME}{gelt:ME}{src:Src}{J:It}{fp:List ae}{it D C:ae}{tn:Nat->aH->Prop}{s3 s4:aj}{H2 H3 H4:Hp}{pins:List (ae×aB)}{all:List MV}{hE:MH}
  (ok:d3 X x scope cl) (helt:∀C s H fp pins,GE G (bX X x scope cl C s H fp pins) elt gelt) (hif:pk G X x scope cl ifs gc) (htg:∀C s H fp pins,GTg G (bX X x scope cl C s H fp pins) tg one (ij X.N.length x.length)) (hcalm:X.calm=true) (T:Turn X.prog X.w X.K tg J fp it tn) (hJ:JOk G J src one x.length m1 H2) (hlen:src.items.length≤100000)
  (hall:bQ src gc gelt σ src.items h1=.ok all hE) (f3:∀b∈fp,eX X pins H3 b) (hC:∀b∈fp,b≠C) (hst:∀b∈fp,b∉frs X.stack) (I4:Inv (bX X x scope cl C s3 H3 fp pins) [] (σ'++br x.length none) H4 s4) (st4:tn 0 s4.heap) (S1:SR G m1 H4 σ σ') (R1:HR G m1 h1 H4) (x4:Ext m1 H2 m1 H4)
  (hD:H2 D=none) (nD:D∉m1) (eD:H4 D=some (.lst [])) (frp:∀b∈fp,H4 b=none) {Rr:Result->aj->Prop}
  (hR:∀σc H5 m5 s5 vs,Inv (bX X x scope cl C s3 H3 fp pins) [] σc H5 s5->HR G m5 hE H5->Ext m1 H2 m5 H5->D∉m5->VRs G m5 H5 all vs->H5 D=some (.lst vs)->Rr (.ok .next) s5) :
  codeAny (av X.prog X.w) X.A (.compLoop (.ListComp elt [⟨tg,iter,ifs,0⟩] scope pos) 0 (.ref it) (.ref D) (compEnvC scope cl C X.env)) Rr s4:=by
 have len1:σ'.length=X.N.length:=by
  have:=I4.len;simp[bX,fS]at this;exact this
 have lenσ:σ.length=X.N.length:=S1.len.trans len1;have stat:∀{H':Hp}{pl:List (ae×aB)},(∀b∈fp,H' b=none)->(∀p∈pl,False)->∀b∈fp,eX (bX X x scope cl C s3 H3 fp pins) pl H' b:=λhn hpl b hb=>
  ⟨hn b hb,hC b hb,hst b hb,.inl hb,λy c e=>(f3 b hb).2.2.2.2.1 y c (ok.cells y c e),λp hp=>by
   rcases fJ.mp hp with z|z
   ·exact(f3 b hb).2.2.2.2.2 p z
   ·exact (hpl p z).elim⟩
 have S1':SR G m1 H4 (σ++br x.length none) (σ'++br x.length none):=⟨by simp [S1.len],λi v e=>by
  by_cases hi:i<σ.length
  ·rw[eJ hi]at e;obtain⟨v',q,r⟩:=S1.sl i v e;exact⟨v',by rw[eJ (by rw[←S1.len];exact hi)];exact q,r⟩
  ·rw[iO (by lia),ji]at e;split at e <;> cases e⟩
 refine xF (λn s=>CIv G (bX X x scope cl C s3 H3 fp pins) src gc gelt σ x fp tn m1 H2 D all hE n s) ?_ src.items.length ⟨0,_,H4,m1,h1,[],[],all,rfl,fg _,I4,st4,frp,S1',R1,x4,nD,.nil,eD,aU _,hall,rfl⟩;rintro n s ⟨k,σc,H5,m5,h5,acc,vs,rest,rfl,hk,I5,st5,fr5,S5,R5,x5,nD5,ra,eD5,hac,hci,hsum⟩;by_cases hlt:k<src.items.length
 ·have ed:src.items.drop k=src.items[k]::src.items.drop (k+1):=o6 hlt;rw[ed]at hci;unfold bQ at hci;split at hci
  case isFalse=>cases hci
  case isTrue hok=>
  obtain⟨j1,_⟩:=hJ m5 h5 H5 x5 R5 hok;obtain⟨lv,go,yl⟩:=j1 k src.items[k] (by simp[hlt]);generalize src.items[k]=v at lv yl hci;refine bv (T.item (bX X x scope cl C s3 H3 fp pins) rfl rfl rfl hcalm k [] s σc H5 (λ_ _=>False) I5 (stat fr5 λp z=>by cases z) st5 go) (λr s6 q6=>?_) λ_ _ z=>z.elim;obtain⟨w,rfl,q6⟩:=q6;dsimp only;have q7:aq (av X.prog X.w) X.A (letOwnedTupleGo tg (.ref it) w >>= λ_=>assign tg (compEnvC scope cl C X.env) w) (λ_ s8=>∃σ8 H8 hp7,Inv (bX X x scope cl C s3 H3 fp pins) ([]++i4 fp hp7) σ8 H8 s8/\Ext m5 H5 m5 H8/\HR G m5 h5 H8/\SR G m5 H8 (σ++v.map some) σ8/\tn (k+1) hp7) (λ_ _=>False) s6:=by
   refine ak (bv q6 (λ_ s7 e0=>e0.elim λx' e1=>e1.elim λH' e2=>e2.elim λI7 e3=>e3.elim λrw7 e4=>e4.elim λy7 e5=>e5.elim λst7 fr7=>?_) λ_ _ z=>z);obtain⟨xx,RR,rx⟩:=yl x' H' y7;have I8:=I7.pinned (stat fr7 λp z=>by cases z) (T.obj _ _ st7);obtain⟨g,pg,hg⟩:=htg C s3 H3 fp pins (λ_ _=>False);refine bv (pg _ s7 σc H' x' w (λσ9 H9=>H9=H'/\SR G m5 H' (σ++v.map some) σ9) (I8.wish _) rw7 (hg m5 H' v x' _ σc _ (S5.mono xx) rx (by simpa using lv) λσ1' S1'=>⟨rfl,?_⟩)) (λ_ s8 e0=>bp e0 λσ9 H9 I9 e2 S9=>?_) λ_ _ z=>z
   ·have e:=sG v σ;rw[lenσ,lv]at e;rw[e]at S1';exact S1'
   ·subst e2;exact⟨σ9,H9,s7.heap,I9.unwish,xx,RR,S9,st7⟩
  have again:∀{s9:aj}{H9:Hp}{m9:List ae}{h9:MH}{σ9:St}{hp7:aH}{acc9:List MV} {vs9:List V} {rest9:List MV},tn (k+1) hp7->Inv (bX X x scope cl C s3 H3 fp pins) ([]++i4 fp hp7) σ9 H9 s9->SR G m9 H9 (σ++v.map some) σ9->HR G m9 h9 H9->Ext m1 H2 m9 H9->D∉m9 ->
    VRs G m9 H9 acc9 vs9->H9 D=some (.lst vs9)->acc9.length≤k+1->bQ src gc gelt σ (src.items.drop (k+1)) h9=.ok rest9 hE->acc9++rest9=all ->
    ∃n',n'<src.items.length-k/\CIv G (bX X x scope cl C s3 H3 fp pins) src gc gelt σ x fp tn m1 H2 D all hE n' s9:=λ{s9 H9 m9 h9 σ9 hp7 acc9 vs9 rest9} st7 I9 S9 R9 x9 nD9 ra9 eD9 hac9 hci9 hsum9=>by
   have pn:∀b∈fp,∀o,hp7.get? b=some o->s9.heap.get? b=some o/\H9 b=none:=λb hb o e=>
    have z:=I9.pin (b,o) (cM _ (cM _ (qf hb e)))
    ⟨z.1,z.2.1⟩
   refine⟨src.items.length-(k+1),by lia,k+1,σ9,H9,m9,h9,acc9,vs9,rest9,rfl,hlt,I9.pins_of (λp hp=>absurd hp (by simp)),T.keep _ _ _ st7 λb hb o e=>(pn b hb o e).1,λb hb=>?_,?_,R9,x9,nD9,ra9,eD9,hac9,hci9,hsum9⟩
   ·obtain⟨o,e,_⟩:=T.obj _ _ st7 b hb;exact(pn b hb o e).2
   ·refine⟨by have:=S9.len;simp[lv]at this ⊢;exact this,λi v' e=>S9.sl i v' ?_⟩;by_cases hi:i<σ.length
    ·rw[eJ hi]at e ⊢;exact e
    ·rw[iO (by lia),ji]at e;split at e <;> cases e
  have body:∀{s8:aj}{H8:Hp}{m8:List ae}{h8:MH}{σ8:St}{hp7:aH}{E':af->aj->Prop},tn (k+1) hp7->Inv (bX X x scope cl C s3 H3 fp pins) ([]++i4 fp hp7) σ8 H8 s8->SR G m8 H8 (σ++v.map some) σ8->HR G m8 h8 H8->Ext m5 H5 m8 H8 ->
    bnd (gelt (σ++v.map some)) (λve=>bnd (bQ src gc gelt σ (src.items.drop (k+1))) λws=>ret (ve::ws)) h8=.ok rest hE ->
    aq (av X.prog X.w) X.A (aG elt (compEnvC scope cl C X.env)) (λxv s9=>aq (av X.prog X.w) X.A (call (.builtin "list.append") [.ref D,xv]) (λ_ s10=>∃n',n'<src.items.length-k/\CIv G (bX X x scope cl C s3 H3 fp pins) src gc gelt σ x fp tn m1 H2 D all hE n' s10) E' s9) E' s8:=λ{s8 H8 m8 h8 σ8 hp7 E'} st7 I8 S8 R8 x8 hc8=>by
   obtain⟨eD8,nD8⟩:=x8.fr D _ eD5 nD5 (λ_ z=>nomatch z);obtain⟨ve,h9,rest9,eg,hci9,er⟩:∃ve h9 rest9,gelt (σ++v.map some) h8=.ok ve h9/\bQ src gc gelt σ (src.items.drop (k+1)) h9=.ok rest9 hE/\rest=ve::rest9:=by
    simp only[bnd]at hc8;cases eg:gelt (σ++v.map some) h8 with
    |ok ve h9=>
      rw[eg]at hc8;dsimp only at hc8;cases ec:bQ src gc gelt σ (src.items.drop (k+1)) h9 with
      |ok ws h10=>
        rw[ec]at hc8;injection hc8 with e1 e2;subst e1;subst e2;exact⟨ve,h9,ws,rfl,ec,rfl⟩
      |exc c h'=>rw[ec]at hc8;cases hc8
      |stuck=>rw[ec]at hc8;cases hc8
    |exc c h'=>rw[eg]at hc8;cases hc8
    |stuck=>rw[eg]at hc8;cases hc8
   subst er;refine bv (helt C s3 H3 fp pins (λ_ _=>False) ET _ s8 σ8 H8 (λv' H9=>∃m9,Ext m8 H8 m9 H9/\HR G m9 h9 H9/\VR G m9 H9 ve v') (I8.wish _) ⟨m8,h8,σ++v.map some,trivial,S8,R8,by rw[eg];exact λm9 H9 y R9 v' rv=>⟨m9,y,R9,rv⟩⟩) (λxv s9 e0=>e0.elim λv' e1=>e1.elim λH9 e2=>e2.elim λI9 e3=>e3.elim λr9 e4=>e4.elim λm9 e5=>e5.elim λx9 e6=>e6.elim λR9 rv=>?_) λ_ _ z=>z.elim;obtain⟨eD9,nD9⟩:=x9.fr D _ eD8 nD8 (λ_ z=>nomatch z);have x59:Ext m1 H2 m9 H9:=(x5.trans x8).trans x9;refine bv (vf (X:=(bX X x scope cl C s3 H3 fp pins).wish λ_ _=>False) _ s9 σ8 H9 (.ref D) [v'] (.ref D) [xv] (λ_ H10=>H10=upd H9 D (.lst (vs++[v']))) I9 rfl (.cons r9 .nil) ⟨D,vs,v',rfl,rfl,eD9,?_,rfl⟩) (λ_ s10 e0=>bp e0 λv10 H10 I10 _ e10=>?_) λ_ _ z=>z.elim
   ·rw[←Paired.length ra];exact cN (pK hac (cN hlt hlen)) (big (aU _))
   ·subst e10;have mD:Mn m9 H9 m9 (upd H9 D (.lst (vs++[v']))):=Mn.sideSet λys z=>by rw[eD9]at z;cases z
    exact again (acc9:=acc++[ve]) (vs9:=vs++[v']) (rest9:=rest9) st7 I10.unwish ((S8.mono x9).mn mD) (R9.sideSet nD9 (λys z=>by rw[eD9]at z;cases z) (λo' ys z=>by rw[eD9]at z;cases z) (λv z=>by rw[eD9]at z;cases z;exact λy=>y)) (x59.sideSet hD) nD9 (VRs.mono mD (iJ (x9.vrs (x8.vrs ra)) (.cons rv .nil))) dh (by simp;lia) hci9 (by simpa using hsum)
  refine bv q7 (λ_ s8 e0=>e0.elim λσ8 e1=>e1.elim λH8 e2=>e2.elim λhp7 e3=>e3.elim λI8 e4=>e4.elim λx58 e5=>e5.elim λR8 e6=>e6.elim λS8 st7=>?_) λ_ _ z=>z.elim;cases ifs with
  |nil=>cases gc with
    |none=>
      simp only[i6];refine aL ?_;rw[if_pos rfl];exact body st7 I8 S8 R8 x58 hci
    |some g=>exact hif.elim
  |cons c more=>cases more with
    |nil=>cases gc with
      |none=>exact hif.elim
      |some g=>
        have hif:∀C s H fp pins,GT G (bX X x scope cl C s H fp pins) c g:=hif;unfold bnd at hci;cases et:tst g (σ++v.map some) h5 with
        |ok b h6=>
          simp only [et] at hci;refine wpAny_tests_one (bv (hif C s3 H3 fp pins (λ_ _=>False) ET _ s8 _ H8 (λb' H6=>b'=b/\∃m6,Ext m5 H8 m6 H6/\HR G m6 h6 H6) (I8.wish _) ⟨m5,h5,σ++v.map some,trivial,S8,R8,by
            rw [et];exact λm6 H6 y R6=>⟨rfl,m6,y,R6⟩⟩) (λb' s9 e0=>e0.elim λH6 e1=>e1.elim λI9 e2=>e2.elim λeb e3=>e3.elim λm6 e4=>e4.elim λx6 R6=>?_) λ_ _ z=>z.elim)
          subst eb;cases b' with
          |true=>
            rw[if_pos rfl];exact body st7 I9.unwish (S8.mono x6) R6 (x58.trans x6) (by simpa only[bnd,if_true] using hci)
          |false=>
            rw[if_neg bW];obtain⟨eD6,nD6⟩:=(x58.trans x6).fr D _ eD5 nD5 (λ_ z=>nomatch z);exact again st7 I9.unwish (S8.mono x6) R6 (x5.trans (x58.trans x6)) nD6 ((x58.trans x6).vrs ra) eD6 (by lia) (by simpa using hci) hsum
        |exc c h'=>simp only[et]at hci;cases hci
        |stuck=>simp only[et]at hci;cases hci
    |cons _ _=>exact hif.elim
 ·have e:k=src.items.length:=by lia
  subst e;rw[pR]at hci;unfold bQ at hci;split at hci
  case isFalse=>cases hci
  case isTrue hok=>
  obtain⟨_,stp⟩:=hJ m5 h5 H5 x5 R5 hok;injection hci with e1 e2;subst e1;subst e2;refine bv (T.done (bX X x scope cl C s3 H3 fp pins) rfl rfl rfl hcalm _ [] s σc H5 (λ_ _=>False) I5 (stat fr5 λp z=>by cases z) st5 stp) (λr s6 q6=>?_) λ_ _ z=>z.elim
  obtain⟨rfl,I6⟩:=q6;rw[ug]at hsum;subst hsum;exact hR σc H5 m5 s6 vs I6 R5 x5 nD5 ra eD5
theorem yj{x:List Str}{one:Bool}{pos:Pos}{tg elt iter:aw}{ifs:List aw}{scope:Scope}{cl:List (Str×ae)}{gi:MI}{gc:Option ME}{gelt:ME}(ok:d3 X x scope cl)(hi:GI G X tg iter one x.length gi)
  (helt:∀C s H fp pins,GE G (bX X x scope cl C s H fp pins) elt gelt) (hif:pk G X x scope cl ifs gc) (htg:∀C s H fp pins,GTg G (bX X x scope cl C s H fp pins) tg one (ij X.N.length x.length)) (hcalm:X.calm=true) {pins:List (ae×aB)} {s:aj} (I:Inv X pins σ' H s) (ex:EX σ') (S:SR G m H σ σ') (R:HR G m h H)
  {Q:MV->List ae->MH->Hp->Prop} (P:Post G X E EX m H (eG gi gc gelt σ h) Q) {RR:af->ae->Result->aj->Prop}
  (hRR:∀D C s5 H5 m5 h5 v,Inv X pins σ' H5 s5->Fp X pins H5 C->(∃mm,s5.heap.Ns C mm)->Ext m H m5 H5->HR G m5 h5 H5->VR G m5 H5 v (.ref D)->Q v m5 h5 H5->RR (.ref D) C (.ok .next) s5) :
  aq (av X.prog X.w) X.A (aG iter X.env) (λxv s₁=>aq (av X.prog X.w) X.A (pyIter xv) (λit s₂=>aq (av X.prog X.w) X.A (newList []) (λacc s₃=>
   aq (av X.prog X.w) X.A (newFunctionEnv scope X.env.globals cl [] X.env.qual none .none (some X.env)) (λcenv s₄=>
    codeAny (av X.prog X.w) X.A (.compStart (.ListComp elt [⟨tg,iter,ifs,0⟩] scope pos) 0 it acc { cenv with scope:=relabel scope X.env }) (RR acc cenv.locals) s₄) E s₃) E s₂) E s₁) E s:=by
 obtain ⟨wi,pw,hw⟩:=hi E EX;refine bv (pw pins s σ' H (λJ H2=>∃src m1 h1,JOk G J src one x.length m1 H2/\HR G m1 h1 H2/\Ext m H m1 H2/\Post G X E EX m1 H2 ((if src.items.length≤100000 then bnd (noExc (bQ src gc gelt σ src.items)) (λvs=>new (.lst vs)) else stk) h1) Q) (I.wish E)
  (hw σ' H _ ⟨m,h,σ,ex,S,R,(Post.bind P).mono λsrc m1 h1 H1 x1 R1 P1 J hJ=>⟨src,m1,h1,hJ,R1,x1,P1⟩⟩)) (λxv s1 q1=>bv q1 (λitv s2 q2=>?_) λ_ _ z=>z) λ_ _ z=>z
 obtain⟨it,fp,tn,J,H2,rfl,I2,T,st2,f2,src,m1,h1,hJ,R1,x1,P1⟩:=q2;have I2:=I2.unwish;have f2:∀b∈fp,eX X pins H2 b:=f2;split at P1
 case isFalse=>exact P1.elim
 case isTrue hlen=>
 obtain⟨all,hE,hall,P2⟩:∃all hE,bQ src gc gelt σ src.items h1=.ok all hE/\Post G X E EX m1 H2 (new (.lst all) hE) Q:=by
  unfold bnd noExc at P1;cases e:bQ src gc gelt σ src.items h1 with
  |ok all hE=>rw[e]at P1;exact⟨all,hE,rfl,P1⟩
  |exc c h'=>rw[e]at P1;exact P1.elim
  |stuck=>rw[e]at P1;exact P1.elim
 have fD:H2 s2.heap.objs.size=none:=I2.hok.fresh (aU _);refine wpAny_newObj_type ?_;have I3:=I2.laid (t':=s2.toks) (o:=.lst []) (h':=s2.heap.push { cls:=.type "list",dict:=none,data:=.seq ([]:List af).toArray }) (λb u e=>bG _ e) (aU _) ⟨fg _,[],0,.nil,cT _ rfl⟩;generalize hs3:({ s2 with heap:=s2.heap.push { cls:=.type "list",dict:=none,data:=.seq ([]:List af).toArray } }:aj)=s3 at I3 ⊢;have e3:∀b o,s2.heap.get? b=some o->s3.heap.get? b=some o:=λb o e=>by rw[←hs3];exact bG _ e
 have z3:s2.heap.objs.size<s3.heap.objs.size:=by rw[←hs3];simp
 have ffo:∀b∈fp,∃o,s2.heap.get? b=some o:=λb hb=>let ⟨o,e,_⟩:=T.obj 0 _ st2 b hb;⟨o,e⟩;have f3:∀b∈fp,eX X pins (upd H2 s2.heap.objs.size (.lst [])) b:=λb hb=>by
  obtain⟨o,e⟩:=ffo b hb;exact⟨by rw[aY (dj (bo e))];exact(f2 b hb).1,(f2 b hb).2⟩
 refine wpAny_newFunctionEnv ok.nocell (λy hy=>by simp at hy) (λhp4 ns4 sb4=>?_) ok.kind;have k4:∀b o,s3.heap.get? b=some o->hp4.get? b=some o:=λb o e=>sb4.extBut b o (dj (bo e)) (bG _ e);have I4:=Ax (t:=s3.toks+([]:List (Str×af)).length) ok I3 f3 (λb hb=>let ⟨o,e⟩:=ffo b hb;⟨o,e3 b o e⟩) ⟨_,ns4⟩ k4;have st4:tn 0 hp4:=T.keep 0 _ _ st2 λb hb o e=>k4 b o (e3 b o e);have stkF:∀b∈fp,b∉frs X.stack:=λb hb z=>by
  rcases bu.mp (I3.stkSub b z) with y|y
  ·exact(f3 b hb).2.1 y
  ·exact(f3 b hb).2.2.1 y
 have loop:=Dk (pos:=pos) (iter:=iter) (C:=s3.heap.objs.size) (s3:=s3) (D:=s2.heap.objs.size) ok helt hif htg hcalm T hJ hlen hall f3 (λb hb=>let ⟨o,e⟩:=ffo b hb;dj (bo (e3 b o e))) stkF I4 st4 ((S.mono x1).mono (Ext.side fD)) (R1.side fD) (Ext.side fD) fD (R1.fresh fD) dh (λb hb=>(f3 b hb).1)
  (Rr:=RR (.ref s2.heap.objs.size) s3.heap.objs.size) λσc H5 m5 s5 vs I5 R5 x5 nD5 ra eD5=>by
   have xA:Ext m1 H2 (m5++[s2.heap.objs.size]) H5:=by
    obtain⟨e,pe⟩:=x5.pre;refine⟨⟨e++[s2.heap.objs.size],by rw[pe];simp⟩,λa o z n nt=>⟨(x5.fr a o z n nt).1,?_⟩,x5.fz⟩;simp only[fJ,dF,not_or];exact⟨(x5.fr a o z n nt).2,dE z fD⟩
   have RA:HR G (m5++[s2.heap.objs.size]) (hE++[.lst all]) H5:=R5.adopt nD5 (λys z=>by rw[eD5]at z;cases z) (λv z=>by rw[eD5]at z;cases z;exact λy=>y) ⟨vs,VRs.mono (Mn.adopt (λys z=>by rw[eD5]at z;cases z)) ra,eD5⟩;refine hRR s2.heap.objs.size s3.heap.objs.size s5 H5 (m5++[s2.heap.objs.size]) (hE++[.lst all]) (.ref hE.length) (I3.call' I5.os I5.base I5.hok I5.bare λb hb=>⟨(f3 b hb).2.2.2.1,(f3 b hb).2.1,(f3 b hb).2.2.2.2.1,(f3 b hb).2.2.2.2.2⟩) (Fp.of I3 (jf (aU _)) I5.free) ?_ (x1.trans xA) RA ⟨_,by rw[←R5.len];simp,rfl⟩ (P2 _ _ xA RA);obtain⟨mm,hn,_⟩:=I5.loc;exact⟨mm,hn⟩
 exact codeAny_compStart_list loop (T.self X.A 0 _ _ _ st4 loop)
theorem lm{x:List Str}{one:Bool}{pos:Pos}{tg elt iter:aw}{ifs:List aw}{scope:Scope}{cl:List (Str×ae)}{gi:MI}{gc:Option ME}{gelt:ME}(ok:d3 X x scope cl)(hi:GI G X tg iter one x.length gi)
  (helt:∀C s H fp pins,GE G (bX X x scope cl C s H fp pins) elt gelt) (hif:pk G X x scope cl ifs gc) (htg:(fS X.N x).Nodup->∀C s H fp pins,GTg G (bX X x scope cl C s H fp pins) tg one (ij X.N.length x.length)) (hcalm:X.calm=true:=by rfl) (hs:∀z,foldedSetIterable iter X.env z=pure z:=by intro _;rfl) :
  GE G X (.ListComp elt [⟨tg,iter,ifs,0⟩] scope pos) (eG gi gc gelt):=λE EX pins s σ' H Q I e0=>bK e0 λm h σ ex S R P=>by
 rw[eval_ListComp];refine wpAny_comprehension_free (use:=none) rfl hs ok.clos ok.kind ok.locs ?_;refine yj (RR:=λacc C=>compPost (av X.prog X.w) X.A E none (EP (X.wish E) pins σ' Q) acc C) ok hi helt hif (htg ok.nd) hcalm I.unwish ex S R P λD C s5 H5 m5 h5 v I5 fC hn x5 R5 rv q=>?_;obtain⟨mm,hn⟩:=hn;refine⟨mm,hn,λh6 hs6=>⟨.ref D,H5,Inv.wish ?_ E,rfl,q _ rv⟩⟩;exact fC.turned (t':=s5.toks) I5 λc o hc e=>hs6.extBut c o hc e
theorem zF{x:List Str}{y:Str}{n:Nat}{one:Bool}{py pos spos:Pos}{tg elt iter:aw}{ifs:List aw}{scope:Scope}{cl:List (Str×ae)}{gi:MI}{gc:Option ME}{gelt:ME}(ok:d3 X x scope cl)(hi:GI G X tg iter one x.length gi)
  (helt:∀C s H fp pins,GE G (bX X x scope cl C s H fp pins) elt gelt) (hif:pk G X x scope cl ifs gc) (htg:(fS X.N x).Nodup->∀C s H fp pins,GTg G (bX X x scope cl C s H fp pins) tg one (ij X.N.length x.length)) (hN:X.N.Nodup) (hy:X.N[n]?=some y:=by rfl) (hl:X.env.scope.names.lookup y=some .local:=by rfl) (hcalm:X.calm=true:=by rfl) (hs:∀z,foldedSetIterable iter X.env z=pure z:=by intro _;rfl)
  (hsw:swapsWith (.ListComp elt [⟨tg,iter,ifs,0⟩] scope pos) (some (.Name y py)) spos.line X.env=pure true:=by rfl) :
  GS G EX X (.Assign [.Name y py] (.ListComp elt [⟨tg,iter,ifs,0⟩] scope pos) spos) (bB n (eG gi gc gelt)):=λE hp pins s σ' H D I e0=>bK e0 λm h σ ex S R P=>by
 show aq _ _ (exec _ X.env) _ _ s;rw[exec_Assign_Name_used _ _ _ _ hsw];refine ak (wpAny_standAt (ak ?_));show aq _ X.A (do let _ ←comprehension (.ListComp elt [⟨tg,iter,ifs,0⟩] scope pos) scope X.env _ (newList []) false (aG iter X.env) (some (assign (.Name y py) X.env))) _ _ s;refine ak (bv (wpAny_comprehension_free (use:=some (assign (.Name y py) X.env)) (Q:=λ_ s'=>SP (X.wish E) pins D .next s') rfl hs ok.clos ok.kind ok.locs ?_) (λ_ s' hq=>aL (aL hq)) λ_ _ z=>z);refine yj (RR:=λacc C=>compPost (av X.prog X.w) X.A E (some (assign (.Name y py) X.env)) (λ_ s'=>SP (X.wish E) pins D .next s') acc C) ok hi helt hif (htg ok.nd) hcalm I.unwish ex S R (Post.bind P) λD' C s5 H5 m5 h5 v I5 fC hn x5 R5 rv q=>?_;obtain⟨mm,oC,es,ep,hoC,hdC,hkC⟩:=hn;have I6:Inv X (pins++[(C,oC)]) σ' H5 s5:=I5.pins_of λp hp=>by
  rcases fJ.mp hp with z|z
  ·exact I5.pin p (cM _ z)
  ·cases dF.mp z;exact⟨hoC,fC.un,fC.loc,fC.fs,λv' z=>by rw[hdC]at z;cases z⟩
 refine wpAny_assign_Name (mX (X:=X) (v:=.ref D') I6 hN hy (.inl hl) rfl (λs7 I7=>?_) (.inr hl));have pC:=I7.pin (C,oC) (cM _ (cM _ (dF.mpr rfl)));refine⟨mm,⟨oC,es,ep,pC.1,hdC,hkC⟩,λh8 hs8=>?_⟩;have I8:Inv X pins (σ'.set n (some (.ref D'))) H5 s7:=I7.pins_of λp hp=>I7.pin p (cM _ (gB _ hp));have I9:Inv X pins (σ'.set n (some (.ref D'))) H5 { s7 with heap:=h8 }:=fC.turned (t':=s7.toks) I8 λc o hc e=>hs8.extBut c o hc e;exact⟨_,H5,I9.wish E,Post.here R5 q _ ((S.mono x5).set n rv)⟩
theorem VR.flat_iff{x:MV}{v:V}(na:x≠.any)(r:VR G m H x v):g0 v=flat x:=by
 cases x with
 |any=>exact absurd rfl na
 |tup n=>obtain⟨a,vs,q,_⟩:=r;subst q;rfl
 |ref n=>obtain⟨a,_,q⟩:=r;subst q;rfl
 |scr n=>obtain⟨_,q⟩:=r;subst q;rfl
 |non=>cases(show v=V.non from r);rfl
 |bl b=>cases(show v=V.bl b from r);rfl
 |int b=>cases(show v=V.int b from r);rfl
 |str b=>cases(show v=V.str b from r);rfl
theorem VR.eq_iff{x y:MV}{v w:V}(r:VR G m H x v)(q:VR G m H y w)(fx:flat x=true)(fy:flat y=true):eqV v w=eqM x y:=by
 cases x <;> cases y <;> first|(exact absurd fx bW)|(exact absurd fy bW)|(cases r;cases q;rfl)
theorem um{x:MV}(f:flat x=true):x≠.any:=λz=>by rw[z]at f;cases f
theorem VRs.flat_iff{xs:List MV}{vs:List V}(r:VRs G m H xs vs)(f:xs.all flat=true):vs.all g0=true:=by
 induction r with
 |nil=>rfl
 |cons a t ih=>
   simp only[i3,d7]at f ⊢;exact⟨by rw[VR.flat_iff (um f.1) a];exact f.1,ih f.2⟩
theorem VRs.in_iff{xs:List MV}{vs:List V}{x:MV}{v:V}(q:VR G m H x v)(fx:flat x=true)(r:VRs G m H xs vs)(fs:xs.all flat=true):inV v vs=inM x xs:=by
 unfold inV inM
 induction r with
 |nil=>rfl
 |cons a t ih=>
   simp only[i3,d7]at fs;simp only[jj,ih fs.2,VR.eq_iff a q fs.1 fx]
def u7(neg:Bool):R2:=λx y H Q=>∃a o,y=.ref a/\DGet H a x o/\Q (.bl (if neg then !o.isSome else o.isSome)) H
theorem oU(hu:X.A.units+1<cLine):OpR X (dL .In) (λx y H Q=>rIn X.K false x y H Q∨u7 false x y H Q):=by
 refine EU.or ?_;rintro pins s σ2 H x y v u Q I rx ry ⟨a,o,ey,g,q⟩;subst ey;cases ry;exact Bw hu I g rx λs3 I3=>⟨.bl o.isSome,H,I3,rfl,q⟩
theorem pc(hu:X.A.units+1<cLine):OpR X (dL .NotIn) (λx y H Q=>rIn X.K true x y H Q∨u7 true x y H Q):=by
 refine Hu.or ?_;rintro pins s σ2 H x y v u Q I rx ry ⟨a,o,ey,g,q⟩;subst ey;cases ry;exact Gh hu I g rx λs3 I3=>⟨.bl (!o.isSome),H,I3,rfl,q⟩
theorem jq{neg:Bool}:VO G (oIn neg) (λx y H Q=>rIn G.K neg x y H Q∨u7 neg x y H Q):=by
 intro X E EX m h H x y x' y' Q R rx ry P;cases y with
 |ref a=>
   obtain⟨aa,ea,rfl⟩:=ry;obtain⟨oa,e1,q1,P1⟩:=cb R ea P;cases oa with
   |lst xs=>
     obtain⟨vs,r,z⟩:=q1;dsimp only at P1;split at P1
     ·rename_i c;exact .inl ⟨aa,vs,rfl,.inl (SqL.of z),by rw[VR.flat_iff (um c.1) rx];exact c.1,VRs.flat_iff r c.2,by rw[VRs.in_iff rx c.1 r c.2];exact Post.here R P1 _ rfl⟩
     ·exact P1.elim
   |dct kvs=>
     obtain⟨ws,r,z⟩:=q1;dsimp only at P1;cases x with
     |str k=>
       cases(show x'=V.str k from rx);refine .inr ⟨aa,_,rfl,DGet.k (k:=Sum.inr k) z,?_⟩;have e:(eM ws (Sum.inr k)).isSome=(dget k kvs).isSome:=by rw[←o5,xy r]
       rw[e];exact Post.here R P1 _ rfl
     |_=>exact P1.elim
   |_=>exact P1.elim
 |tup xs=>
   obtain⟨aa,vs,rfl,_,z,r⟩:=ry;have r:=VRl.to r;unfold oIn at P;dsimp only at P;split at P
   ·rename_i c;exact .inl ⟨aa,vs,rfl,.inr (SqT.of z),by rw[VR.flat_iff (um c.1) rx];exact c.1,VRs.flat_iff r c.2,by rw[VRs.in_iff rx c.1 r c.2];exact Post.here R P _ rfl⟩
   ·exact P.elim
 |_=>exact P.elim
theorem vD{α β:Type}{Rr:α->β->Prop}:∀(xs:List α) (ys:List β),xs.length=ys.length->(∀(i:Nat) x y,xs[i]?=some x->ys[i]?=some y->Rr x y)->Paired Rr xs ys
 |[],[],_,_=>.nil
 |[],_::_,e,_=>by simp at e
 |_::_,[],e,_=>by simp at e
 |x::xs,y::ys,e,f=>.cons (f 0 x y rfl rfl) (vD xs ys (by simpa using e) λi a b ha hb=>f (i+1) a b (by simpa using ha) (by simpa using hb))
end L2.Rv
namespace L2.Rv
open PySem PySem.Spec PyProof.Rows
variable {G:Gb}{X:Cx}
def mV(env:Env):List (Str×ae)->Prop
 |[]=>True
 |(n,c)::r=>env.cells.lookup n=some c/\mV env r
theorem mV.get{env:Env}:∀{cl:List (Str×ae)},mV env cl->∀n c,cl.lookup n=some c->env.cells.lookup n=some c
 |[],_,n,c,e=>by simp at e
 |(n',c')::r,k,n,c,e=>by
   by_cases hn:n=n'
   ·subst hn;simp only[bI,beq_self_eq_true]at e;cases e;exact k.1
   ·have hb:(n == n')=false:=by simpa using hn
    simp only[bI,hb]at e;exact mV.get k.2 n c e
noncomputable def At(N:List Str)(x:List Str)(scope:Scope)(env:Env)(cl:List (Str×ae)):Bool:=
 scope.names.all (λy=>y.2 != .cell)&&scope.names.all (λy=>y.2 != .local||scope.names.lookup y.1 == some .local)&&true &&
 scope.names.all (λy=>y.2 != .free||((cl.lookup y.1).isSome&&(env.kindOf y.1 == some .cell||env.kindOf y.1 == some .free))) &&
 N.all (λn=>decide (n∈x)||scope.names.lookup n != some .local)&&(scope.names.lookup (aA "")).isNone&&decide (fS N x).Nodup
theorem d3.of{x:List Str}{scope:Scope}{cl:List (Str×ae)}(h1:closureFor scope X.env=pure cl)(h2:mV X.env cl)(h0:scope.kind=.function)(h3:At X.N x scope X.env cl=true):d3 X x scope cl:=by
 simp only[At,d7,iS,ul,bne_iff_ne,ne_eq,beq_iff_eq,decide_eq_true_eq,Option.isNone_iff_eq_none]at h3;obtain⟨⟨⟨⟨⟨⟨a1,a2⟩,a3⟩,a4⟩,a5⟩,a6⟩,a7⟩:=h3;refine⟨h1,h2.get,h0,a1,λy hy e=>(a2 y hy).resolve_left (λz=>z e),λy e=>?_,λy e=>?_,λn hn ne=>(a5 n hn).resolve_left ne,a6,a7⟩
 ·have:=(a4 _ (PySem.mem_of_lookup e)).resolve_left (λz=>z rfl);exact li.mp this.1
 ·exact((a4 _ (PySem.mem_of_lookup e)).resolve_left (λz=>z rfl)).2
theorem Ex{K:PySem.W.Frag}{C:ae}{name:Str}{a g:af}(hc:(PySem.W.clsIn K C).isSome=true)(ha:PySem.W.findIn K (.ref C) name=some (some a))(hg:PySem.W.specialIn K a "__get__"=some (some g))(ht:PySem.W.takesIn K a=some true):PySem.W.findObj K C none name=some (.bind g a):=by
 obtain⟨cd,hc⟩:=li.mp hc;unfold PySem.W.findObj;rw[hc,Option.bind_some,ha,Option.bind_some];simp[hg,ht]
noncomputable abbrev f7:List af:=[.type "ValueError",.type "Exception",.type "BaseException",.type "object"]
noncomputable abbrev fW:String:="ValueError.__new__"
end L2.Rv
namespace L2.Rv
open PySem PySem.Spec PyProof.Rows
variable {G:Gb}{m m' m1 m2:List ae}{h h' h1 h2:MH}{H H' H1 H2:Hp}{X:Cx}{E:af->aj->Prop}{EX:St->Prop}{σ:MSt}{σ':St}
theorem Inv.turnedL{pins:List (ae×aB)}{s:aj}{fp:List ae}{hp:aH}{t:Nat}(I:Inv X pins σ' H s)(f:∀b∈fp,eX X pins H b)(k:∀c o,c∉fp->s.heap.get? c=some o->hp.get? c=some o):Inv X pins σ' H { s with heap:=hp,toks:=t }:=by
 have nit:∀b u,H b=some u->b∉fp:=λb u e z=>by rw[(f b z).1]at e;cases e
 refine I.step (g':=s.gens) (d':=s.drawn) (ch:=fp) (λb hb=>⟨(f b hb).2.2.2.1,(f b hb).2.1,(f b hb).2.2.2.2.1,(f b hb).2.2.2.2.2⟩) (λb o _ _ hc e _=>k b o hc e) (λb o _ _ hc e _=>⟨o.slots,k b o hc e⟩) (λ_ _ _ _ n=>n)
  (λb o hc e=>⟨o,k b o hc e⟩) (λ_ _ e=>e) (λ_ _ _ e=>e) (λb ps e=>⟨#[],by rw[e];simp⟩) (λmm hm=>?_) (λb u e=>?_) I.bare
 ·obtain⟨o,es,ep,ho,r⟩:=hm;exact⟨o,es,ep,k _ o (λz=>(f _ z).2.1 rfl) ho,r⟩
 ·refine(I.hok b u e).stay (λc v hc q=>k c v ?_ q) (λ_ q=>q) λ_ _ q=>q;rcases hc with z|z
  ·rw[z];exact nit b u e
  ·exact nit c _ z
theorem Inv.trackO{pins:List (ae×aB)}{s:aj}{a:ae}{v:HO}(I:Inv X pins σ' H s)(f:Fp X pins H a)(ok:cA X.prog X.w (upd H a v) s.heap a v):Inv X pins σ' (upd H a v) s:=by
 have na:∀b u,H b=some u->b≠a:=λb u e z=>by rw[z,f.un]at e;cases e
 refine⟨I.ok,I.os,I.bare,⟨I.base.keep,I.base.slot,λb o e n hx=>?_,I.base.there,λb xs e=>?_,λb o u e=>?_,λb ps e=>?_⟩,I.loc,I.cell,?_,λx c e=>?_,λp hp=>?_,λb u e=>?_,I.len⟩
 ·rw[aY]
  ·exact I.base.free b o e n hx
  ·intro z;rcases f.new with y|y
   ·exact hx (z▸y)
   ·rw[z,y]at e;cases e
 ·have q:=I.base.tups b xs e;rw[aY (na b _ q)];exact q
 ·have q:=I.base.frzs b o u e;rw[aY (na b _ q)];exact q
 ·obtain⟨mo,q⟩:=I.base.tbls b ps e;exact⟨mo,by rw[aY (na b _ q)];exact q⟩
 ·rw[aY (Ne.symm f.loc)];exact I.free
 ·rw[aY (f.ce x c e)];exact I.freeC x c e
 ·obtain⟨a1,a2,a3,a4,a5⟩:=I.pin p hp;exact⟨a1,by rw[aY (f.pin p hp)];exact a2,a3,a4,a5⟩
 ·by_cases z:b=a
  ·subst z;rw[dh]at e;cases e;exact ok
  ·rw[aY z]at e;refine(I.hok b u e).stay (λ_ _ _ q=>q) (λc q=>?_) λc xs q=>?_
   ·rw[aY (na c _ q)];exact q
   ·rw[aY (na c _ q)];exact q
noncomputable def Itz(K:PySem.W.Frag)(l1 l2:ae):It where
 go:=λi H=>∃xs ys x y,SqL K H l1 xs/\SqL K H l2 ys/\xs[i]?=some x/\ys[i]?=some y
 yld:=λi H v H'=>∃T x y,v=.ref T/\H T=none/\H'=upd H T (.tup [x,y])/\(∀xs,SqL K H l1 xs->xs[i]?=some x)/\∀ys,SqL K H l2 ys->ys[i]?=some y
 stop:=λi H=>∃xs ys,SqL K H l1 xs/\SqL K H l2 ys/\(xs.length≤i∨ys.length≤i)
theorem mem5{a b c d e x:ae}(h:x∉[a,b,c,d,e]):x≠a/\x≠b/\x≠c/\x≠d/\x≠e:=by simpa using h
theorem Ek{P:bi}{w:aQ}{K:PySem.W.Frag}{elts:List aw}{x1:Nat}{tp:Pos}{z TI TO i1 i2 l1 l2:ae}(D:ZipApart z TI TO i1 i2 l1 l2) :
  Turn P w K (.Tuple elts x1 tp) (Itz K l1 l2) [z,TI,TO,i1,i2] z (λi h=>IsZip h z TI TO .none/\IsPair h TI (.ref i1) (.ref i2)/\(∃a b,IsPair h TO a b)/\h.IsListIter i1 l1 i/\h.IsListIter i2 l2 i) where
 mem:=by simp
 obj:=λi h ⟨hz,hTI,⟨a,b,hTO⟩,h1,h2⟩ c hc=>by
  simp only[bu,cW,or_false]at hc;rcases hc with rfl|rfl|rfl|rfl|rfl
  ·exact⟨_,hz,λv y=>by cases(show Data.fields _=Data.cell v from y)⟩
  ·exact⟨_,hTI,λv y=>by cases(show Data.seq _ _=Data.cell v from y)⟩
  ·exact⟨_,hTO,λv y=>by cases(show Data.seq _ _=Data.cell v from y)⟩
  ·obtain⟨o,e,q1,q2⟩:=h1;exact⟨o,e,λv y=>by rw[q2]at y;cases y⟩
  ·obtain⟨o,e,q1,q2⟩:=h2;exact⟨o,e,λv y=>by rw[q2]at y;cases y⟩
 keep:=λi h h' ⟨hz,hTI,⟨a,b,hTO⟩,h1,h2⟩ k=>⟨k z (by simp) _ hz,k TI (by simp) _ hTI,⟨a,b,k TO (by simp) _ hTO⟩,h1.at λo e=>k i1 (by simp) o e,h2.at λo e=>k i2 (by simp) o e⟩
 item:=by
  rintro X hP hw hK hc i pins s σ H E I hf ⟨hz,hTI,⟨a,b,hTO⟩,h1,h2⟩ ⟨xs,ys,x,y,q1,q2,e1,e2⟩;subst hP hw hK;obtain⟨its,rv,p,hzz⟩:=I.list q1;obtain⟨its2,rv2,p2,hzz2⟩:=I.list q2;obtain⟨u,hu,ru⟩:=rv.get e1;obtain⟨u2,hu2,ru2⟩:=rv2.get e2;refine wpAny_pyNext_zip_item D hz hTI hTO h1 h2 p.isList p2.isList (x:=u) (y:=u2) (by simpa using hu) (by simpa using hu2) λhp' a1 a2 a3 a4 a5 a6 kk=>?_;refine⟨_,rfl,wpAny_letOwnedTupleGo_zip a1 λhp2 b1 b2=>?_⟩;have kz:∀c o,c≠z->c≠TO->c≠i1->c≠i2->s.heap.get? c=some o->hp2.get? c=some o:=λc o c1 c2 c3 c4 e=>b2.extBut _ _ c1 (kk c o c1 c2 c3 c4 e);have I1:Inv X pins σ H { s with heap:=hp2,toks:=s.toks }:=Inv.turnedL I hf λc o hc' e=>by
   obtain⟨n1,n2,n3,n4,n5⟩:=mem5 hc';exact kz c o n1 n3 n4 n5 e
  have nT:∀c o,s.heap.get? c=some o->s.heap.objs.size≠c:=λc o e=>dB (bo e);have zT:s.heap.objs.size≠z:=nT z _ hz;have gT:hp2.get? s.heap.objs.size=some { cls:=.type "tuple",data:=.seq #[u,u2] }:=b2.extBut _ _ zT a5;have fT:Fp X pins H s.heap.objs.size:=Fp.of I (jf (aU _)) (I.hok.fresh (aU _));have I2:=Inv.trackO (v:=.tup [x,y]) I1 fT ⟨by show 2≤aV;decide,[u,u2],.cons ru (.cons ru2 .nil),⟨_,gT,rfl,0,rfl⟩⟩;refine⟨.ref s.heap.objs.size,_,I2,rfl,⟨s.heap.objs.size,x,y,rfl,fT.un,rfl,λws hw=>by rw[I.list_inj hw q1];exact e1,λws hw=>by rw[I.list_inj hw q2];exact e2⟩,⟨b1,?_,⟨u,u2,b2.extBut _ _ D.TOz a2⟩,a3.extBut b2.extBut D.i1z,a4.extBut b2.extBut D.i2z⟩,λc hc'=>?_⟩
  ·exact kz _ _ D.TIz D.TITO D.TIi1 D.TIi2 hTI
  ·rw[aY]
   ·exact(hf c hc').1
   ·simp only[bu,cW,or_false]at hc';rcases hc' with rfl|rfl|rfl|rfl|rfl
    ·exact(nT _ _ hz).symm
    ·exact(nT _ _ hTI).symm
    ·exact(nT _ _ hTO).symm
    ·obtain⟨o,e,_⟩:=h1;exact(nT _ _ e).symm
    ·obtain⟨o,e,_⟩:=h2;exact(nT _ _ e).symm
 done:=by
  rintro X hP hw hK hc i pins s σ H E I hf ⟨hz,hTI,⟨a,b,hTO⟩,h1,h2⟩ ⟨xs,ys,q1,q2,e1⟩;subst hP hw hK;obtain⟨its,rv,p,hzz⟩:=I.list q1;obtain⟨its2,rv2,p2,hzz2⟩:=I.list q2;have l1:=rv.length;have l2:=rv2.length;refine wpAny_pyNext_zip_end (I.ok.hd hc) D hz hTI hTO h1 h2 p.isList p2.isList ?_ λhp' kk=>⟨rfl,Inv.turnedL (t:=s.toks) I hf λc o hc' e=>?_⟩
  ·rcases e1 with e1|e1
   ·exact .inl (by simp;lia)
   ·exact .inr (by simp;lia)
  ·obtain⟨n1,n2,n3,n4,n5⟩:=mem5 hc';exact kk c o n1 n3 n4 n5 e
 self:=λ_ _ _ _ _ st h=>wpAny_pyIter_zip st.1 h
theorem GD{a b:aw}{ta:TA}{elts:List aw}{x1:Nat}{tp p pos:Pos}(hg:Gl X "zip")(hm:X.mg "zip"=none)(ha:PA X [a,b] ta)(hs:aJ [a,b] X.env=[(false,aG a X.env),(false,aG b X.env)]:=by rfl)(hs2:aJ [b] X.env=[(false,aG b X.env)]:=by rfl) :
  PI X (.Tuple elts x1 tp) (.Call (.Name "zip" p) [a,b] [] pos) (λσ H R=>ta σ H λvs H1=>∃l1 l2 xs ys,vs=[.ref l1,.ref l2]/\SqL X.K H1 l1 xs/\SqL X.K H1 l2 ys/\R (Itz X.K l1 l2) H1):=by
 intro pins s σ H R I t;refine Call_ (gJ I hg hm PyProof.Rows.Boot.«zip» (PyProof.Rows.callWith_type1 (thn (ha pos pins s σ H _ I t) λus s1 e0=>bp e0 λvs H1 I1 r1 q1=>?_) (by rw[hs,hs2]) (by rw[hs2];rfl)));obtain⟨l1,l2,xs,ys,rfl,q1,q2,q⟩:=q1;obtain⟨v,w,rfl,rx,ry⟩:=vals2 r1;cases rx;cases ry;obtain⟨its,rv,p1,hz1⟩:=I1.list q1;obtain⟨its2,rv2,p2,hz2⟩:=I1.list q2;have a1:l1<s1.heap.objs.size:=by obtain⟨_,e,_⟩:=p1.isList;exact bo e
 have a2:l2<s1.heap.objs.size:=by obtain⟨_,e,_⟩:=p2.isList;exact bo e
 refine call_zip_2 p1.isList p2.isList λhp hz hTI hTO hi1 hi2 hsz hk=>?_;refine wpAny_pyIter_zip (s:={ s1 with heap:=hp }) hz ?_;refine⟨_,[s1.heap.objs.size+4,s1.heap.objs.size+2,s1.heap.objs.size+3,s1.heap.objs.size,s1.heap.objs.size+1],_,_,H1,rfl,I1.kept (t':=s1.toks) hk,Ek (zipApart_new a1 a2),⟨hz,hTI,⟨_,_,hTO⟩,hi1,hi2⟩,λb hb=>?_,q⟩;have lb:s1.heap.objs.size≤b:=by
  simp only[bu,cW,or_false]at hb;rcases hb with rfl|rfl|rfl|rfl|rfl <;> lia
 exact I1.fpOk lb (I1.hok.fresh lb)
theorem v4:∀{xs ys:List MV}{i:Nat}{r:List MV},(d0 xs ys)[i]?=some r->∃x y,xs[i]?=some x/\ys[i]?=some y/\r=[x,y]
 |[],ys,i,r,e=>by simp[d0]at e
 |_::_,[],i,r,e=>by simp[d0]at e
 |x::xs,y::ys,0,r,e=>by simp[d0]at e;exact⟨x,y,rfl,rfl,e.symm⟩
 |x::xs,y::ys,i+1,r,e=>by
   obtain⟨a,b,h1,h2,h3⟩:=v4 (xs:=xs) (ys:=ys) (i:=i) (by simpa[d0] using e);exact⟨a,b,by simpa using h1,by simpa using h2,h3⟩
theorem vT:∀(xs ys:List MV),(d0 xs ys).length=min xs.length ys.length
 |[],ys=>by simp[d0]
 |_::_,[]=>by simp[d0]
 |x::xs,y::ys=>by simp[d0,vT xs ys]
theorem F7{n k:Nat}{a b:ae}{xs ys:List MV}(ea:m[n]?=some a)(eb:m[k]?=some b):JOk G (Itz G.K a b) ⟨d0 xs ys,[(n,xs),(k,ys)]⟩ false 2 m H:=by
 intro m2 h2 H2 pre R ok;have ea2:m2[n]?=some a:=pre.get ea;have eb2:m2[k]?=some b:=pre.get eb;have eo:h2[n]?=some (.lst xs)/\h2[k]?=some (.lst ys):=by simpa[Src.okIn,hI] using ok
 obtain⟨vs,r,z⟩:=R.ob n a _ ea2 eo.1;obtain⟨ws,r2,z2⟩:=R.ob k b _ eb2 eo.2;refine⟨λi row ei=>?_,⟨vs,ws,SqL.of z,SqL.of z2,?_⟩⟩
 ·obtain⟨x,y,e1,e2,rfl⟩:=v4 ei;obtain⟨v,e3,rv⟩:=f8 r e1;obtain⟨w,e4,rw'⟩:=f8 r2 e2;refine⟨rfl,⟨vs,ws,v,w,SqL.of z,SqL.of z2,e3,e4⟩,λu H' yy=>?_⟩;obtain⟨T,x',y',rfl,hT,rfl,f1,f2⟩:=yy;have q1:=f1 vs (SqL.of z);have q2:=f2 ws (SqL.of z2);rw[e3]at q1;rw[e4]at q2;cases q1;cases q2;have xx:Ext m2 H2 m2 (upd H2 T (.tup [v,w])):=Ext.side hT;exact⟨xx,R.side hT,T,[v,w],rfl,R.fresh hT,dh,VRl.of (.cons (xx.vr rv) (.cons (xx.vr rw') .nil))⟩
 ·show vs.length≤(d0 xs ys).length∨ws.length≤(d0 xs ys).length;rw[vT,←Paired.length r,←Paired.length r2];lia
theorem CO{a b:aw}{ga gb:ME}{elts:List aw}{x1:Nat}{tp p pos:Pos}(ha:GE G X a ga)(hb:GE G X b gb)(hm:X.mg "zip"=none)(hg:Gl X "zip":=by rfl)(hs:aJ [a,b] X.env=[(false,aG a X.env),(false,aG b X.env)]:=by rfl)
  (hs2:aJ [b] X.env=[(false,aG b X.env)]:=by rfl) (hK:X.K=G.K:=by rfl):GI G X (.Tuple elts x1 tp) (.Call (.Name "zip" p) [a,b] [] pos) false 2 (qu ga gb):=λE EX=>by
 refine⟨_,GD (X:=X.wish E) hg hm (fH (X:=X.wish E) (ha E EX) (hb.a1 hs2 E EX) (by show aJ [a,b] X.env=(false,aG a X.env)::aJ [b] X.env;rw[hs,hs2])) hs hs2,λσ' H R e0=>bK e0 λm h σ ex S Rr P=>?_⟩;refine sub ex S Rr P λv m1 h1 H1 v' x1 R1 r1 P1=>sub ex (S.mono x1) R1 P1 λw m2 h2 H2 w' x2 R2 r2 P2=>?_;cases v with
 |ref n=>cases w with
   |ref k=>
     obtain⟨aa,ea,rfl⟩:=x2.vr r1;obtain⟨bb,eb,rfl⟩:=r2;obtain⟨oa,e1,q1,P3⟩:=cb R2 ea P2;obtain⟨ob,e2,q2,P4⟩:=cb R2 eb P3;cases oa with
     |lst xs=>cases ob with
       |lst ys=>
         obtain⟨vs,r,z⟩:=q1;obtain⟨ws,r',z'⟩:=q2;refine⟨aa,bb,vs,ws,rfl,SqL.of z,SqL.of z',?_⟩;have J:=Post.here R2 P4 (Itz G.K aa bb) (F7 ea eb);rw[←hK]at J;exact J
       |_=>exact P4.elim
     |_=>exact P4.elim
   |_=>exact P2.elim
 |_=>exact P2.elim
def vL(K:PySem.W.Frag):V->V->Hp->VK->Prop:=λx y H Q=>vi K x y H Q∨sJ x y H Q
theorem AW(hu:X.A.units+1<cLine):PGet X (vL X.K):=by
 intro pins s σ H x y v u Q I rx ry q;rcases q with⟨p,xs,i,z,rfl,rfl,hq,he,q⟩|⟨a,w,ex,g,q⟩
 ·cases rx;obtain⟨t,rfl⟩:=ry;obtain⟨its,r,pl,hz⟩:=I.list hq;obtain⟨j,h1,h2,h3,h4,h5⟩:=q8 he;obtain⟨w,ew,rw'⟩:=r.get h2;have hl:=r.length;have hn:=lD;have fin:EP X pins σ Q w s:=⟨z,H,I,rw',q⟩
  by_cases h0:0≤i
  ·have hj:i.toNat=j:=by
    rw[seqIndex_of h0 h5]at h1;exact Option.some.inj h1
   exact wpAny_getItem_list pl.isList h0 (by lia) (by rw[hj];simpa using ew) fin
  ·have hj:(i+(its.toArray.size:Int)).toNat=j:=by
    rw[seqIndex_neg (by lia) h4]at h1;rw[cG,←hl];exact Option.some.inj h1
   exact wpAny_getItem_list_neg pl.isList (by lia) (by rw[cG] <;> lia) (by lia) (by rw[hj];simpa using ew) fin
 ·subst ex;cases rx;exact xL hu I g ry λw' s3 I3 rw'=>⟨w,H,I3,rw',q⟩
theorem Cg{β:Type}{k:MV->M β}{Q:β->List ae->MH->Hp->Prop}{x y:MV}{x' y':V}{K:PySem.W.Frag}(R:HR G m h H)(rx:VR G m H x x')(ry:VR G m H y y')(P:Post G X E EX m H (bnd (sf x y) k h) Q) :
  vL K x' y' H λv' H'=>H'=H/\∃v,VR G m H v v'/\Post G X E EX m H (k v h) Q:=by
 have P:=Post.bind P;cases x with
 |ref n=>cases y with
   |int i=>
     obtain⟨aa,ea,rfl⟩:=rx;obtain⟨oa,e1,q1,P1⟩:=cb R ea P;cases oa with
     |lst xs=>
       obtain⟨vs,r,z⟩:=q1;dsimp only at P1;cases e:atN xs i with
       |none=>simp only[e]at P1;exact P1.elim
       |some v=>
         simp only[e]at P1;obtain⟨v',e',rv⟩:=sF r e;exact .inl ⟨aa,vs,i,v',rfl,ry,SqL.of z,by rw[nU];exact e',rfl,v,rv,Post.here R P1⟩
     |_=>exact P1.elim
   |str i=>
     obtain⟨aa,ea,rfl⟩:=rx;obtain⟨oa,e1,q1,P1⟩:=cb R ea P;cases oa with
     |dct kvs=>
       obtain⟨ws,r,z⟩:=q1;dsimp only at P1;cases e:dget i kvs with
       |none=>simp only[e]at P1;exact P1.elim
       |some v=>
         simp only[e]at P1;obtain⟨v',e',rv⟩:=(kL (k:=i) r).1 v e;cases(show y'=V.str i from ry);exact .inr ⟨aa,v',rfl,e'▸DGet.k (k:=Sum.inr i) z,rfl,v,rv,Post.here R P1⟩
     |_=>exact P1.elim
   |_=>exact P.elim
 |_=>exact P.elim
theorem ipA{op:Operator}{g:Int->Int->Int}{f:Op2}(hv:∀i j h,f (.int i) (.int j) h=.ok (.int (g i j)) h){β:Type}{k:MV->M β}{Q:β->List ae->MH->Hp->Prop}{x y:MV}{x' y':V}(ii:∀h,(∃i,x=.int i)/\(∃j,y=.int j)∨bnd (f x y) k h=.stuck)(R:HR G m h H)(rx:VR G m H x x')(ry:VR G m H y y')(P:Post G X E EX m H (bnd (f x y) k h) Q) :
  ∃i j,x'=.int i/\y'=.int j/\Post G X E EX m H (k (.int (g i j)) h) Q:=by
 rcases ii h with⟨⟨i,rfl⟩,⟨j,rfl⟩⟩|e
 ·refine⟨i,j,rx,ry,?_⟩;have P1:=Post.bind P;rw[hv i j h]at P1;exact Post.here R P1
 ·rw[e]at P;exact P.elim
theorem wG{x y:MV}{β:Type}{k:MV->M β}(h:MH):((∃i,x=.int i)/\(∃j,y=.int j))∨bnd (gM x y) k h=.stuck:=by
 cases x <;> cases y <;> first|exact .inl ⟨⟨_,rfl⟩,⟨_,rfl⟩⟩|exact .inr rfl
theorem yT{x y:MV}{β:Type}{k:MV->M β}(h:MH):((∃i,x=.int i)/\(∃j,y=.int j))∨bnd (si x y) k h=.stuck:=by
 cases x <;> cases y <;> first|exact .inl ⟨⟨_,rfl⟩,⟨_,rfl⟩⟩|exact .inr rfl
section
variable {o i e:aw}{go gi ge:ME}{pos tpos:Pos}{op:Operator}{g:Int->Int->Int}{f:Op2}
theorem AC(hu:X.A.units+1<cLine)(hip:∀E,PIp (X.wish E) op (ipI g))(hv:∀i j h,f (.int i) (.int j) h=.ok (.int (g i j)) h)(hi2:∀(x y:MV) (k:MV->M MF) (h:MH),((∃i,x=.int i)/\(∃j,y=.int j))∨bnd (f x y) k h=.stuck)
  (ho:GE G X o go) (hi:GE G X i gi) (he:GE G X e ge) (hK:X.K=G.K:=by rfl) (ha:∀ov iv new,augStore i ov iv new=(do holding [new,ov,iv] (setItem ov iv new);release [new,ov,iv] [];pure .next):=by intros;rfl) :
  GS G EX X (.AugAssign (.Subscript o i tpos) op e pos) (mG f go gi ge):=λE hp=>
 gW (Gq (X:=X.wish E) (ho E EX) (hi E EX) (AW hu) (he E EX) (hip E) (jV hu) ha) λD σ' H e0=>bK e0 λm h σ ex S R P=>sub ex S R P λx m1 h1 H1 x' x1 R1 r1 P1=>sub ex (S.mono x1) R1 P1 λy m2 h2 H2 y' x2 R2 r2 P2=>by
  have fin:∀v' H',(H'=H2/\∃v,VR G m2 H2 v v'/\Post G X E EX m2 H2 (bnd (ge σ) (λw=>bnd (f v w) λz=>bnd (ic x y z) λ_=>ret (MF.next σ)) h2) (QD G D))->TGe G X E EX ge σ' H' λy_1 H4=>ipI g v' y_1 H4 λz H5=>re x' y' z H5 λH6=>D.nx σ' H6:=by
   rintro v' H' ⟨rfl,v,rv,P3⟩;refine sub ex ((S.mono x1).mono x2) R2 P3 λw m4 h4 H4 w' x4 R4 r4 P4=>?_;obtain⟨i,j,e1,e2,P5⟩:=ipA (op:=op) (g:=g) hv (hi2 v w _) R4 (x4.vr rv) r4 P4;refine⟨i,j,e1,e2,?_⟩;rcases Ao R4 (x4.vr (x2.vr r1)) (x4.vr r2) (show VR G m4 H4 (.int (g i j)) (.int (g i j)) from rfl) P5 with q|q
   ·obtain⟨p,xs,k,j,e1,e2,e3,e4,h4,x5,R5,P6⟩:=q;exact .inl ⟨p,xs,k,j,e1,e2,e3,e4,Post.here R5 P6 σ' ((((S.mono x1).mono x2).mono x4).mono x5)⟩
   ·obtain⟨a,H4,e1,g,h4,x5,R5,P6⟩:=q;exact .inr ⟨a,H4,e1,g,Post.here R5 P6 σ' ((((S.mono x1).mono x2).mono x4).mono x5)⟩
  rcases Cg (K:=G.K) R2 (x2.vr r1) r2 P2 with q|q
  ·obtain⟨p,xs,i,v',e1,e2,e3,e4,q⟩:=q;refine .inl ⟨p,xs,i,v',e1,e2,?_,e4,fin v' H2 q⟩;show SqL X.K H2 p xs;rw[hK];exact e3
  ·obtain⟨a,v',e1,g,q⟩:=q;exact .inr ⟨a,v',e1,g,fin v' H2 q⟩
theorem zt{fl:String}{cs:List Nat}{rd:V->V->Hp->VK->Prop}(hin:∀E,ot (X.wish E) op rd)(hrd:∀x y H Q,ipI g x y H Q->rd x y H Q)(hv:∀i j h,f (.int i) (.int j) h=.ok (.int (g i j)) h)(hi2:∀(x y:MV) (k:MV->M MF) (h:MH),((∃i,x=.int i)/\(∃j,y=.int j))∨bnd (f x y) k h=.stuck)
  (ho:GE G X o go) (he:GE G X e ge) (hf:ba G cs fl) (hK:X.K=G.K:=by rfl):GS G EX X (.AugAssign (.Attribute o (aA fl) tpos) op e pos) (nG f go cs fl ge):=λE hp=>
 gW (Cc (X:=X.wish E) (ho E EX) (he E EX) (hin E)) λD σ' H e0=>bK e0 λm h σ ex S R P=>sub ex S R P λx m1 h1 H1 x' x1 R1 r1 P1=>by
  cases x with
  |ref n=>
    obtain⟨aa,ea,rfl⟩:=r1;obtain⟨oa,e1,q1,P2⟩:=cb R1 ea P1;cases oa with
    |ins c fs=>
      obtain⟨dx,ws,r,z⟩:=q1;dsimp only at P2;split at P2
      ·rename_i hc;cases ew:fs.lookup fl with
       |none=>simp only[ew]at P2;exact P2.elim
       |some w=>
         simp only[ew]at P2;obtain⟨w',ew',rw'⟩:=va r ew;have k:=hf c (by simpa using hc);rw[←hK]at k;refine⟨aa,_,dx,ws,w',rfl,z,k.1,k.2,ew',?_⟩;refine sub ex (S.mono x1) R1 P2 λv m2 h2 H2 v' x2 R2 r2 P3=>hrd _ _ _ _ ?_;obtain⟨i,j,e1,e2,P4⟩:=ipA (op:=op) (g:=g) hv (hi2 w v _) R2 (x2.vr rw') r2 P3;refine⟨i,j,e1,e2,?_⟩;have ea2:=x2.get ea;obtain⟨ob,eo,qo,P5⟩:=cb R2 ea2 P4;cases ob with
         |ins c' fs'=>
           obtain⟨dx',ws',r',z'⟩:=qo;dsimp only at P5;split at P5
           ·rename_i hl;obtain⟨ec,hl⟩:=hl;subst ec;refine⟨dx',ws',z',by rw[←Paired.length r'];exact hl,?_⟩;have P6:=n9 R2 ea2 P5;have x3:Ext m2 H2 m2 (upd H2 aa (.ins (G.cl c') dx' (L2.putF (aA fl) (.int (g i j)) ws'))):=Ext.upd ea2 z';exact P6 _ _ x3 (R2.upd ea2 (λo' ys zz=>by rw[z']at zz;cases zz) ⟨dx',_,FR.mono x3.mn (sX (show VR G m2 H2 (.int (g i j)) (.int (g i j)) from rfl) r'),dh⟩) σ' (((S.mono x1).mono x2).mono x3)
           ·exact P5.elim
         |_=>exact P5.elim
      ·exact P2.elim
    |_=>exact P2.elim
  |_=>exact P1.elim
end
noncomputable def Itd(lo:Int)(n:Nat):It:=⟨λi _=>i<n,λi H x H'=>H'=H/\x=.int (lo-i),λi _=>n≤i⟩
theorem D3{P:bi}{w:aQ}{K:PySem.W.Frag}{tg:aw}(it:ae)(lo:Int)(n:Nat):Turn P w K tg (Itd lo n) [it] it (λi h=>IsRangeIter h it (lo+(i:Nat)*(-1)) ((n:Int)-(i:Nat)) (-1)) where
 mem:=by simp
 obj:=λi h st b hb=>by
  have e:b=it:=by simpa using hb
  subst e;exact⟨_,st,λv z=>by cases(show Data.fields _=Data.cell v from z)⟩
 keep:=λi h h' st k=>k it (by simp) _ st
 item:=by
  intro X hP hw hK hc i pins s σ H E I hf st hg;subst hP hw hK;obtain⟨f0,f1,f2,f3,f4,f5⟩:=hf it (by simp);have W:=Walks.range (prog:=X.prog) (w:=X.w) (I.ok.hd hc) it lo (-1) n;refine W.item i s _ _ hg st λv h' tk hv st' kk=>?_;obtain⟨t,rfl⟩:=hv;have I1:Inv X pins σ H { s with heap:=h',toks:=tk }:=I.turned (λb o hb e=>kk b o (by simpa using hb) e) f0 f1 f3 f4 f5;refine⟨_,rfl,rk (s:={ s with heap:=h',toks:=tk }) (n:="range_iterator") st' rfl rfl (by decide) ⟨.int (lo-i),H,I1,⟨t,?_⟩,⟨rfl,rfl⟩,st',λb hb=>(hf b hb).1⟩⟩;congr 1
  lia
 done:=by
  intro X hP hw hK hc i pins s σ H E I hf st hg;subst hP hw hK;obtain⟨f0,f1,f2,f3,f4,f5⟩:=hf it (by simp);exact wpAny_pyNext_range_end (I.ok.hd hc) st (by have:n≤i:=hg;lia) λh' eb=>⟨rfl,I.turned (t':=s.toks) (λb o hb e=>eb b o hb e) f0 f1 f3 f4 f5⟩
 self:=λ_ _ _ _ _ st h=>wpAny_pyIter_rangeiter st h
theorem Gs{a b c:aw}{ta:TA}{tg:aw}{p pos:Pos}(hg:Gl X "range")(hm:X.mg "range"=none)(ha:PA X [a,b,c] ta)(hs:aJ [a,b,c] X.env=(false,aG a X.env)::aJ [b,c] X.env:=by rfl)(hpl:(cL pos (aJ [b,c] X.env)).any (·.1)=false:=by rfl) :
  PI X tg (.Call (.Name "range" p) [a,b,c] [] pos) (λσ H R=>ta σ H λvs H1=>∃i j:Int,vs=[.int i,.int j,.int (-1)]/\(-1000000≤i/\i<1000000/\-1000000≤j/\j<1000000)/\R (Itd i (i-j).toNat) H1):=by
 intro pins s σ H R I t;refine Call_ (gJ I hg hm boot_range (PyProof.Rows.callWith_type1 (thn (ha pos pins s σ H _ I t) λus s1 e0=>bp e0 λvs H1 I1 r1 q1=>?_) hs hpl));obtain⟨i,j,rfl,bd,q⟩:=q1;cases r1 with
 |cons ra r1=>cases r1 with
   |cons rb r1=>cases r1 with
     |cons rc r1=>
       cases r1;obtain⟨t1,rfl⟩:=ra;obtain⟨t2,rfl⟩:=rb;obtain⟨t3,rfl⟩:=rc;refine call_range_3 (by decide) ?_ (Or.inl (PyProof.noPylong_small (by lia)))
       refine wpAny_pyIter_range (IsRange.new ..) (PySem.W.small_down (by lia) (by lia) (by lia) (by lia)) ?_;have I2:Inv X pins σ H1 { s1 with heap:=s1.heap.push { cls:=.type "range",data:=.fields #[.int i t1,.int j t2,.int (-1) t3] },toks:=s1.toks }:=I1.kept λb o e=>bG _ e;refine ⟨(s1.heap.push { cls:=.type "range",data:=.fields #[.int i t1,.int j t2,.int (-1) t3] }).objs.size,[(s1.heap.push { cls:=.type "range",data:=.fields #[.int i t1,.int j t2,.int (-1) t3] }).objs.size],_,_,H1,rfl,
        I2.kept (t':=s1.toks) λb o e=>bG _ e,D3 _ i (i - j).toNat,?_,λb hb=>?_,q⟩
       ·have e1:i+((0:Nat):Int)*(-1)=i:=by simp
        have e2:(((i-j).toNat:Nat):Int)-((0:Nat):Int)=Builtin.Range.rangeSize i j (-1):=by rw[PySem.W.rangeSize_downNat];lia
        show IsRangeIter _ _ (i+((0:Nat):Int)*(-1)) ((((i-j).toNat:Nat):Int)-((0:Nat):Int)) (-1);rw[e1,e2];exact cT _ rfl
       ·have e:b=(s1.heap.push { cls:=.type "range",data:=.fields #[.int i t1,.int j t2,.int (-1) t3] }).objs.size:=by simpa using hb
        subst e;exact I2.fpOk (aU _) (I2.hok.fresh (aU _))
theorem EC{lo:Int}{n:Nat}:JOk G (Itd lo n) ⟨gY lo n,[]⟩ true 1 m H:=by
 intro m2 h2 H2 _ R ok;refine⟨λi vs ei=>?_,by simp[gY,Itd]⟩;have hi:i<n:=by
  have:=(bM.mp ei).1;simpa[gY] using this
 unfold gY at ei;rw[bZ,iB hi]at ei;cases ei;refine⟨rfl,hi,λx H' y=>?_⟩;obtain⟨rfl,y2⟩:=y;exact⟨.refl,R,_,rfl,y2⟩
theorem Bo{tg a b:aw}{ga gb:ME}{j:Nat}{p pos p1 p2:Pos}(ha:GE G X a ga)(hb:GE G X b gb)(hm:X.mg "range"=none)(hg:Gl X "range":=by rfl)
  (hs:aJ [a,b,.UnaryOp .USub (.Constant (.int 1) j p1) p2] X.env=(false,aG a X.env)::aJ [b,.UnaryOp .USub (.Constant (.int 1) j p1) p2] X.env:=by rfl)
  (hs2:aJ [b,.UnaryOp .USub (.Constant (.int 1) j p1) p2] X.env=(false,aG b X.env)::aJ [.UnaryOp .USub (.Constant (.int 1) j p1) p2] X.env:=by rfl)
  (hs3:aJ [.UnaryOp .USub (.Constant (.int 1) j p1) p2] X.env=[(false,aG (.UnaryOp .USub (.Constant (.int 1) j p1) p2) X.env)]:=by rfl) (hpl:(cL pos (aJ [b,.UnaryOp .USub (.Constant (.int 1) j p1) p2] X.env)).any (·.1)=false:=by rfl) :
  GI G X tg (.Call (.Name "range" p) [a,b,.UnaryOp .USub (.Constant (.int 1) j p1) p2] [] pos) true 1 (pB ga gb):=λE EX=>by
 refine⟨_,Gs (X:=X.wish E) hg hm (fH (X:=X.wish E) (ha E EX) (fH (X:=X.wish E) (hb E EX) (fH (X:=X.wish E) (vE wY xB) oq hs3) hs2) hs) hs hpl,λσ' H R e0=>bK e0 λm h σ ex S Rr P=>?_⟩;refine sub ex S Rr P λv m1 h1 H1 v' x1 R1 r1 P1=>sub ex (S.mono x1) R1 P1 λw m2 h2 H2 w' x2 R2 r2 P2=>?_;cases v with
 |int i=>cases w with
   |int j=>
     cases(show v'=V.int i from r1);cases(show w'=V.int j from r2);dsimp only at P2
     split at P2
     ·rename_i c;exact⟨1,rfl,i,j,rfl,c,Post.here R2 P2 _ EC⟩
     ·exact P2.elim
   |_=>exact P2.elim
 |_=>exact P2.elim
end L2.Rv
namespace L2.Rv
open PySem PySem.Spec PyProof.Rows PySem.W
section
variable {prog:bi}{w:aQ}{A:aX}{E:af->aj->Prop}{s:aj}{b fin:Bool}{Q:Bool->aj->Prop}
theorem zv{i:Int}{u:af}(h:(de prog w).is (.inl i) u=true):∃t,u=Value.int i t:=by
 rcases gL (show i9 (.inl i) u=true from h) with⟨_,t,e,q⟩|⟨_,_,e,_⟩
 ·cases e;exact⟨t,q⟩
 ·cases e
theorem uz{i:Str}{u:af}(h:(de prog w).is (.inr i) u=true):∃t,u=Value.str i t:=by
 rcases gL (show i9 (.inr i) u=true from h) with⟨_,_,e,_⟩|⟨_,t,e,q⟩
 ·cases e
 ·cases e;exact⟨t,q⟩
theorem Hh{x y:List Key}{us vs:List af}{i:Nat}{c:Bool}(hx:PySem.ItemsAre (de prog w) x us)(hy:PySem.ItemsAre (de prog w) y vs)(hl:ltK x y=some c)(hf:fin=decide (us.length<vs.length))(h:Q c s) :
  KatLex prog w A b fin Q (us.zip vs) i s:=by
 induction hx generalizing y vs i with
 |nil=>
   have:c=fin:=by
    rw[hf];cases hy with
    |nil=>simpa[ltK] using hl.symm
    |cons _ _=>simpa[ltK] using hl.symm
   subst this;exact h
 |@cons k u x us hu hx ih=>
  cases hy with
  |nil=>
   have:c=fin:=by rw[hf];simpa[ltK] using hl.symm
   subst this;exact h
  |@cons l v y vs hv hy=>
   rw[rP];refine kat_cons ?_;unfold ltK at hl;have go:∀e:Bool,e=decide (k=l)->KatGo prog w A b fin Q u v (us.zip vs) i e s:=λe he=>by
    by_cases hkl:k=l
    ·rw[if_pos hkl]at hl;have:e=true:=by rw[he];simpa using hkl
     subst this;exact kat_yes (ih hy hl (by rw[hf];simp))
    ·rw[if_neg hkl]at hl;have:e=false:=by rw[he];simpa using hkl
     subst this;refine kat_no ?_;cases k with
     |inl a=>cases l with
       |inl a'=>
         obtain⟨t,rfl⟩:=zv hu;obtain⟨t',rfl⟩:=zv hv;have ec:decide (a<a')=c:=by simpa using hl
         subst ec;cases hb:(b&&i == 0) with
         |true=>exact oneLt_int h
         |false=>exact kat_one _ _ (wpAny_lt_int h)
       |inr a'=>simp at hl
     |inr a=>cases l with
       |inl a'=>simp at hl
       |inr a'=>
         obtain⟨t,rfl⟩:=uz hu;obtain⟨t',rfl⟩:=uz hv;have ec:decide (a.cps.toList<a'.cps.toList)=c:=by simpa using hl
         subst ec;cases hb:(b&&i == 0) with
         |true=>exact oneLt_str h
         |false=>exact kat_one _ _ (PyProof.Rows.lt_str h)
   exact(de prog w).eqBool (a:=k) (b:=l) hu hv (go _ rfl)
theorem Ht{x y:List Key}{a a':ae}{c:Bool}(hx:PySem.IsTupleKey (de prog w) s.heap x a)(hy:PySem.IsTupleKey (de prog w) s.heap y a')(hl:ltK x y=some c)(h:Q c s) :
  aq (av prog w) A (keyLt' (tuples' b) (.ref a) (.ref a')) Q E s:=by
 obtain⟨ox,us,n,e1,_,d1,i1⟩:=hx;obtain⟨oy,vs,n',e2,_,d2,i2⟩:=hy;exact kat_lt e1 d1 e2 d2 (Hh i1 i2 hl (by simp) h)
end
theorem yO{α:Type}{ask:Nat->Nat->Option Bool}{cmp:Nat->Nat->(Bool->aj->Prop)->aj->Prop}{s:aj}{G:α->aj->Prop}(hc:∀i j b (C:Bool->aj->Prop),ask i j=some b->C b s->cmp i j C s) :
  ∀{t:KasT α}{a:α},c8 ask t=some a->G a s->t.kasWp cmp G s
 |.ret a,a',e,g=>by
   have:a=a':=by simpa[c8] using e
   subst this;exact g
 |.ask i j k,a',e,g=>by
   unfold c8 at e;cases ea:ask i j with
   |none=>rw[ea]at e;cases e
   |some b=>
     rw[ea]at e;exact hc i j b _ ea (yO hc (t:=k b) e g)
section
variable {prog:bi}{w:aQ}{A:aX}{E:af->aj->Prop}{s:aj}{a kS:ae}{vs ks:List af}{f:af}
abbrev qa(a:ae)(h h':aH):Prop:=∀b o,b≠a->h.get? b=some o->h'.get? b=some o
def tF(prog:bi)(w:aQ)(A:aX)(ks:List af)(ix:List Nat)(s:aj):Prop:=
 (ks.length < 2/\ix=cK ks.length)∨(2≤ks.length/\ks.length < 64/\∃κ p ask,ix=Array.toList p/\(∀Q:SortKind->aj->Prop,Q κ s->aq (av prog w) A (keyKind' ks.toArray) Q (λ_ _=>False) s) /\
  (∀i j b (C:Bool->aj->Prop),ask i j=some b->C b s->kas_ask prog w A κ ks i j C s)/\c8 ask (kas_sort ks.length)=some p)
noncomputable abbrev picked(vs:List af)(ix:List Nat):List af:=ix.map λi=>vs.getD i Value.none
theorem E7:∀(vs:List af),picked vs (cK vs.length)=vs:=λvs=>by
 apply j6;intro i;simp only[picked,bZ];by_cases h:i<vs.length
 ·rw[iB h];simp[h]
 ·simp[kJ h]
abbrev ut(vs:List af)(ix:List Nat)(st:SortSt):Prop:=(arrOf st).map (·.2)=(picked vs ix).toArray/\(picked vs ix).length=vs.length/\failedOf st=none
theorem FQ{ix:List Nat}(hl:ks.length=vs.length)(so:tF prog w A ks ix s) :
  (vs.toArray.size < 2/\ut vs ix (SortSt.mk' general' (ks.toArray.zip vs.toArray) #[] 7 none))∨(¬vs.toArray.size < 2/\∃κ,(∀Q:SortKind->aj->Prop,Q κ s->aq (av prog w) A (keyKind' ks.toArray) Q (λ_ _=>False) s) /\
   ∀(E:af->aj->Prop) (Q:Unit × SortSt->aj->Prop),(∀st,ut vs ix st->Q ((),st) s)->aq (av prog w) A (sortRuns'.run (SortSt.mk' κ (ks.toArray.zip vs.toArray) #[] 7 none)) Q E s):=by
 have hz:vs.toArray.size=vs.length:=by simp
 rcases so with⟨h2,rfl⟩|⟨h2,h64,κ,p,ask,rfl,kd,cm,run⟩
 ·refine .inl ⟨by rw[hz];lia,?_,by simp[picked,hl],rfl⟩;rw[hl,E7];show(ks.toArray.zip vs.toArray).map (·.2)=_;apply tR.mp;rw[Array.toList_map,Array.toList_zip];exact List.map_snd_zip (mQ hl.symm)
 ·refine .inr ⟨by rw[hz];lia,κ,kd,λE Q q=>?_⟩;have run':c8 ask (kas_sort vs.length)=some p:=by rw[←hl];exact run
  refine bv (kat_run (Q:=λst' s''=>s''=s/\p.size=vs.length/\arrOf st'=p.map (kas_item (ks.toArray.zip vs.toArray))/\failedOf st'=none) (G:=λp' s''=>p'=p/\s''=s) hl (by lia) (by lia)
   (λp' st' s'' a1 a2 a3 a4=>by obtain ⟨e1,e2⟩:=a4;subst e1;exact ⟨e2,a1,a2,a3⟩) (yO cm run' ⟨rfl,rfl⟩)) ?_ λ_ _ e=>e
  rintro⟨⟨⟩,st'⟩ s'' ⟨rfl,hp,har,hf⟩;exact q st' ⟨kat_snds hl har,by simp[picked,hp],hf⟩
theorem wc(h:aH)(a:ae)(g:aB->aB):qa a h (h.update a g):=λb o hb e=>by rw[rg _ _ _ _ hb];exact e
def js(prog:bi)(w:aQ)(A:aX)(f:af)(kS:ae)(Fin:List af->aj->Prop):List af->List af->aj->Prop
 |[],ks,s=>Fin ks s
 | v::r,ks,s=>aq (av prog w) A (call f [v]) (λk s'=>∃e,s'.heap.get? kS=some (seqObj "list" ks.toArray e) /\
   ∀h' c,qa kS s'.heap h'->h'.get? kS=some (seqObj "list" (ks++[k]).toArray c)->js prog w A f kS Fin r (ks++[k]) { s' with heap:=h' }) (λ_ _=>False) s
def uF(prog:bi)(w:aQ)(A:aX)(vs:List af)(a kS:ae)(e1:Nat)(C:aj->Prop)(ks:List af)(s:aj):Prop:=
 ∃e ix,s.heap.get? kS=some (seqObj "list" ks.toArray e)/\s.heap.get? a=some (seqObj "list" #[] e1)/\kS≠a/\tF prog w A ks ix s /\
  ∀h2 c,(∀b o,b≠a->b≠kS->s.heap.get? b=some o->h2.get? b=some o)->s.heap.objs.size≤h2.objs.size->(picked vs ix).length=vs.length->h2.get? a=some (seqObj "list" (picked vs ix).toArray c)->C { s with heap:=h2 }
theorem vp{Fin Fin':List af->aj->Prop}{n:Nat}(hf:∀ks s,ks.length=n->Fin ks s->Fin' ks s):∀{r ks:List af}{s:aj},ks.length+r.length=n->js prog w A f kS Fin r ks s->js prog w A f kS Fin' r ks s
 |[],ks,s,hl,h=>hf ks s (by simpa using hl) h
 |v::r,ks,s,hl,h=>by
   refine bv (show aq (av prog w) A (call f [v]) _ _ s from h) (λk s' e0=>e0.elim λe e1=>e1.elim λhe q=>⟨e,he,λh' c hk hc=>vp hf (by simp at hl ⊢;lia) (q h' c hk hc)⟩) λ_ _ z=>z
theorem wJ{Fin:List af->aj->Prop}{body:af->PUnit->Sem (ForInStep PUnit)}
  (hb:∀x ks (s:aj) (C:af->aj->Prop),o9 ks < 64->aq (av prog w) A (call f [x]) (λk s'=>∃e,s'.heap.get? kS=some (seqObj "list" ks.toArray e) /\
    ∀h' c,qa kS s'.heap h'->h'.get? kS=some (seqObj "list" (ks++[k]).toArray c)->C k { s' with heap:=h' }) (λ_ _=>False) s ->
   aq (av prog w) A (body x ⟨⟩) (λr s'=>r=.yield ⟨⟩/\∃k,C k s') E s):∀(r ks:List af) (s:aj),ks.length + r.length < 64 ->
   js prog w A f kS Fin r ks s->aq (av prog w) A (forIn r PUnit.unit body) (λ_ s'=>∃ks,Fin ks s') E s
 |[],ks,s,hl,h=>by
   rw[i6];exact aL ⟨ks,h⟩
 |x::r,ks,s,hl,h=>by
   rw[eR]at hl;rw[j7];refine ak (bv (hb x ks s (λk s'=>js prog w A f kS Fin r (ks++[k]) s') (by lia) h) (λq s' hq=>?_) λ_ _ z=>z);obtain⟨rfl,k,h2⟩:=hq;exact wJ hb r (ks++[k]) s' (by rw[gX,List.length_singleton];lia) h2
theorem EG{n:Nat}{P:PySem.Fin->aj->Prop}(ho:s.heap.get? a=some (seqObj "list" vs.toArray n))(h64:vs.length<64)
  (h:∀kS e1 h1,qa a s.heap h1->h1.get? a=some (seqObj "list" #[] e1)->h1.get? kS=some (seqObj "list" #[] 0)->s.heap.objs.size≤kS ->
   js prog w A f kS (uF prog w A vs a kS e1 λs'=>P (.done (.ret .none)) s') vs [] { s with heap:=h1 }) :
  aq (av prog w) A (ksk_tree a f false) P E s:=by
 have ha:a<s.heap.objs.size:=bo ho;have hL:vs.length≤aV:=by rw[sizeLine_eq];lia
 obtain⟨e1,ho1⟩:∃e1,(s.heap.update a (Obj.mapSeq λ_=>(#[]:Array af))).get? a=some (seqObj "list" #[] e1):=⟨_,get?_update_seq ho λ_=>#[]⟩
 have hk:=h ((s.heap.update a (Obj.mapSeq λ_=>(#[]:Array af))).push (seqObj "tuple" vs.toArray 0)).objs.size e1 (((s.heap.update a (Obj.mapSeq λ_=>(#[]:Array af))).push (seqObj "tuple" vs.toArray 0)).push (seqObj "list" #[] 0))
  (λb o hb e=>bG _ (bG _ (wc _ _ _ b o hb e))) (bG _ (bG _ ho1)) (cT _ rfl) (by rw[size_push',kK];lia)
 unfold ksk_tree;refine ak (listItems_at ho rfl ?_);refine ak (listUpdate_at ho rfl ?_ (by rw[cG];exact hL) (fg _));refine ak (seqEpoch_at ho1 rfl ?_);refine ak (wpAny_newTuple ?_ (by show vs.length≤_;exact hL));refine ak (wpAny_newList ?_ (fg _));refine wpAny_holding ?_;generalize ((s.heap.update a (Obj.mapSeq λ_=>(#[]:Array af))).push (seqObj "tuple" vs.toArray 0)).objs.size=kS at hk;unfold ksk_rest;refine ak (wpAny_rule ?_)
 first
  |rw[uj]
  |(rw[←Array.forIn_toList];simp only[List.toList_toArray])
  |rw[←Array.forIn_toList]
 refine ak (bv (wJ (Fin:=λks s'=>ks.length=vs.length/\uF prog w A vs a kS e1 (λs''=>P (.done (.ret .none)) s'') ks s') (λx ks s' C hz hx=>?_) vs [] _ (by simpa using h64) (vp (n:=vs.length) (λks s' e q=>⟨e,q⟩) (by simp) hk)) (λ_ s' hd=>?_) λ_ _ z=>z)
 ·refine ak (wpAny_attempt (bv hx (λk s'' hk=>?_) λ_ _ hF=>hF.elim));obtain⟨e,hK,q⟩:=hk;have ea:(List.toArray ks).push k=List.toArray (ks++[k]):=by simp
  obtain⟨c2,hc2⟩:∃c2,(s''.heap.update kS (Obj.mapSeq (·.push k))).get? kS=some (seqObj "list" (List.toArray (ks++[k])) c2):=⟨_,by rw[←ea];exact get?_update_seq hK (·.push k)⟩
  try dsimp only
  refine ak (listUpdate_at hK rfl ?_ (by rw[cG,sizeLine_eq];lia) (cB (mQ (Array.size_push ..)) (by rw[cG,sizeLine_eq];lia)));exact aL ⟨rfl,k,q _ c2 (wc _ _ _) hc2⟩
 ·obtain⟨ks,hl,e,ix,hK,hA,hne,so,fin⟩:=hd
  try dsimp only
  refine ak (listItems_at hK rfl ?_);have tail:∀st,ut vs ix st->aq (av prog w) A (ksk_tail a false e1 (.ref kS) st) P E s':=λst ⟨hout,hlen,hf⟩=>by
   unfold ksk_tail
   try dsimp only
   simp only[c9,if_false];rw[hout];have kA:(s'.heap.update kS (Obj.mapSeq λ_=>(#[]:Array af))).get? a=some (seqObj "list" #[] e1):=by rw[rg _ _ _ _ (Ne.symm hne)];exact hA
   obtain⟨c2,hc2⟩:∃c2,((s'.heap.update kS (Obj.mapSeq λ_=>(#[]:Array af))).update a (Obj.mapSeq λ_=>(picked vs ix).toArray)).get? a=some (seqObj "list" (picked vs ix).toArray c2):=⟨_,get?_update_seq kA λ_=>(picked vs ix).toArray⟩
   refine ak (listUpdate_at hK rfl ?_ (by rw[cG,sizeLine_eq];lia) (fg _));refine ak (wpAny_letGo ?_);refine ak (seqEpoch_at kA rfl ?_);refine ak (listUpdate_at kA rfl ?_ (fg _) (by show(picked vs ix).toArray.size≤_;rw[cG,hlen];lia));rw[hf];simp only[bne_self_eq_false,c9,if_false];refine aL (fin _ c2 (λb o hb hb2 e=>?_) ?_ hlen hc2)
   ·rw[rg _ _ _ _ hb,rg _ _ _ _ hb2];exact e
   ·rw[kK,kK];exact aU _
  unfold ksk_end
  try dsimp only
  simp only[c9,if_false];rcases FQ hl so with⟨h2,st⟩|⟨h2,κ,kd,run⟩
  ·rw[if_pos h2,if_pos h2];refine ak (aL ?_);rw[StateT.run_pure];refine ak (aL ?_);exact tail _ st
  ·rw[if_neg h2,if_neg h2];refine ak (bv (kd (λκ' s''=>κ'=κ/\s''=_) ⟨rfl,rfl⟩) (λκ' s'' ⟨e1,e2⟩=>?_) λ_ _ z=>z.elim);subst e1;subst e2;exact ak (run E _ λst q=>tail st q)
theorem HS{q d:ae}{T:String}{n:Nat}{Pi:Nat->af->Prop}{OK:aH->Prop}{Q:af->aj->Prop}(K:KdlSrc prog w T d d n Pi OK)(hh:A.handled=none)(hok:OK s.heap)(hn:n<64)
  (h:∀(vs:List af) h' tk D kS e1,(∀b o,s.heap.get? b=some o->h'.get? b=some o)->ItemsOf Pi vs.toArray n->h'.get? D=some (seqObj "list" #[] e1)->h'.get? kS=some (seqObj "list" #[] 0)->s.heap.get? D=none->s.heap.get? kS=none->D≠kS ->
   js prog w A.in1.in1 (.ref q) kS (uF prog w A.in1.in1 vs D kS e1 λs'=>Q (.ref D) s') vs [] { s with heap:=h',toks:=tk }) :
  aq (av prog w) A (call (.builtin "sorted") [.ref d] [(aA "key",.ref q)]) Q E s:=by
 refine call_function_entry_kw kind_sorted plain_sorted entry_sorted (by ksk_a1) ?_;unfold Builtin.«sorted»;refine ak (m:=checkCount "sorted" 1 1 _) (aL ?_);refine ak (kdu_collect K hh hok (by rw[sizeLine_eq];lia) λh' tk acc hk hit=>?_);have hl:acc.toList.length=n:=by rw[pU];exact hit.1
 have hL:acc.toList.length≤aV:=by rw[hl,sizeLine_eq];lia
 refine ak (wpAny_newList ?_ hL);have hoL:(h'.push (seqObj "list" acc.toList.toArray 0)).get? h'.objs.size=some (seqObj "list" acc.toList.toArray 0):=cT _ rfl;have keep:∀b o,s.heap.get? b=some o->(h'.push (seqObj "list" acc.toList.toArray 0)).get? b=some o:=λb o e=>bG _ (hk b o e);have nD:s.heap.get? h'.objs.size=none:=by
  cases e:s.heap.get? h'.objs.size with
  |none=>rfl
  |some o=>exact absurd (bo (hk _ o e)) (gU _)
 have nb:∀b o,s.heap.get? b=some o->b≠h'.objs.size:=λb o e z=>by rw[z,nD]at e;cases e
 refine ak (wpAny_holding (wpAny_call_entry_kw slot_list_sort ⟨_,hoL,rfl⟩ entry_list_sort ?body (by ksk_a2)))
 case body=>
  show aq (av prog w) A.in1.in1 (Builtin.«list.sort» ⟨[.ref h'.objs.size],[(aA "key",.ref q)]⟩) _ _ _;rw[ksk_t1];refine EG (s:={ s with heap:=h'.push (seqObj "list" acc.toList.toArray 0),toks:=tk }) hoL (by rw[hl];exact hn) λkS e1 h1 k1 eD eK nK=>?_;have nk:∀b o,s.heap.get? b=some o->b≠kS:=λb o e z=>by
   subst z;exact absurd (bo (keep _ o e)) (uA nK)
  have nKs:s.heap.get? kS=none:=by
   cases e:s.heap.get? kS with
   |none=>rfl
   |some o=>exact absurd rfl (nk _ o e)
  have hne:h'.objs.size≠kS:=λz=>by
   have:h'.objs.size<(h'.push (seqObj "list" acc.toList.toArray 0)).objs.size:=bo hoL;rw[z]at this;exact absurd this (uA nK)
  refine vp (n:=acc.toList.length) (λks s' _ z=>?_) (by simp) (h acc.toList h1 tk h'.objs.size kS e1 (λb o e=>k1 b o (nb b o e) (keep b o e)) (by rw[Array.toArray_toList];exact hit) eD eK nD nKs hne);obtain⟨e,ix,z1,z2,z3,z4,z5⟩:=z;exact⟨e,ix,z1,z2,z3,z4,λh2 c y1 y2 y3 y4=>⟨_,rfl,aL ⟨_,rfl,z5 h2 c y1 y2 y3 y4⟩⟩⟩
end
end L2.Rv
namespace L2.Rv
open PySem PySem.Spec PyProof.Rows PySem.W
variable {G:Gb}{m m' m1 m2:List ae}{h h' h1 h2:MH}{H H' H1 H2:Hp}{X:Cx}{E:af->aj->Prop}{EX:St->Prop}{σ:MSt}{σ':St}
theorem cA.there{P:bi}{w:aQ}{hp:aH}{a:ae}{o:HO}(x:cA P w H hp a o):∃ob,hp.get? a=some ob:=by
 cases o with
 |lst xs=>obtain⟨_,_,_,_,e⟩:=x;exact⟨_,e⟩
 |tup xs=>obtain⟨_,_,_,ob,e,_⟩:=x;exact⟨_,e⟩
 |dK kvs=>obtain⟨_,_,_,_,o,_,_,e,_⟩:=x;exact⟨_,e⟩
 |dT kvs=>obtain⟨_,_,_,_,o,_,_,e,_⟩:=x;exact⟨_,e⟩
 |set S n=>obtain⟨o,_,_,_,e,_⟩:=x;exact⟨_,e⟩
 |ins C dx fs=>obtain⟨_,_,_,e,_⟩:=x;exact⟨_,e⟩
 |own y=>exact x
 |xd fs=>obtain⟨_,⟨_,_,_,e,_⟩,_⟩:=x;exact⟨_,e⟩
 |rng lo hi=>obtain⟨_,_,_,e⟩:=x;exact⟨_,e⟩
 |frz ob u=>obtain⟨e,_⟩:=x;exact⟨_,e⟩
 |tbl ps=>exact⟨_,x⟩
 |met f y=>exact⟨_,x⟩
 |ext φ=>obtain⟨_,e,_⟩:=x;exact e
theorem HOk.none{P:bi}{w:aQ}{hp:aH}{a:ae}(x:HOk P w H hp)(e:hp.get? a=none):H a=none:=by
 cases q:H a with
 |none=>rfl
 |some u=>obtain⟨o,z⟩:=cA.there (x a u q);rw[e]at z;cases z
abbrev uW(H:Hp):V->List MKey->Prop:=λx r=>∃a,x=.ref a/\H a=some (.tup (r.map kV))
section
variable {P:bi}{w:aQ}{A:aX}{s:aj}
theorem t9{α β:Type}{R:α->β->Prop}:∀{xs:List α}{ys:List β}{i:Nat}{y:β},Paired R xs ys->ys[i]?=some y->∃x,xs[i]?=some x/\R x y
 |_,_,_,_,.nil,e=>by simp at e
 |_,_,0,_,.cons r _,e=>by simp at e;subst e;exact⟨_,rfl,r⟩
 |_,_,i+1,y,.cons _ t,e=>by
   obtain⟨u,h1,h2⟩:=t9 (i:=i) (y:=y) t (by simpa using e);exact⟨u,by simpa using h1,h2⟩
theorem zI{x:V}{xs:List V}{ws:List af}(v:Vals (x::xs) ws):∃u us,ws=u::us/\aN x u/\Vals xs us:=by
 cases v with
 |cons r q=>exact⟨_,_,rfl,r,q⟩
theorem zO(ok:HOk P w H s.heap):∀{xs:List V}{rows:List (List MKey)}{us:List af},Paired (uW H) xs rows->Vals xs us->rows.all jl=true ->
  ∃fs:List af,fs.length=rows.length/\KatTups s.heap us fs/\∀v∈fs,Looks (av P w) s.heap (typeOf v) (.type "int")
 |_,_,_,.nil,.nil,_=>⟨[],rfl,trivial,λ_ z=>nomatch z⟩
 |_,_,_,@Paired.cons _ _ _ _ row _ rows ⟨a,ex,e⟩ t,v,hf=>by
   subst ex;obtain⟨u,us,rfl,r,q⟩:=zI v;rw[i3,d7]at hf;obtain⟨f1,f2⟩:=hf;obtain⟨fs,hl,kt,ht⟩:=zO ok t q f2;obtain rfl:u=Value.ref a:=r;obtain⟨_,its,rv,o,h1,hc,n,h3⟩:=(show cA P w H s.heap a (.tup _) from ok a _ e);cases row with
   |nil=>simp[jl]at f1
   |cons k ks=>
     cases k with
     |inr _=>simp[jl]at f1
     |inl i=>
       rw[bD]at rv;cases rv with
       |cons ri rr=>
         obtain⟨t0,rfl⟩:=(show ∃t,_=Value.int i t from ri);refine⟨.int i t0::fs,by simp[hl],⟨⟨a,o,_,n,rfl,h1,hc,h3,by simp⟩,kt⟩,λv hv=>?_⟩;rcases bu.mp hv with rfl|hv
         ·exact Looks.of_pure rfl
         ·exact ht v hv
theorem ED{rows:List (List MKey)}{i j:Nat}{b:Bool}(e:jI rows i j=some b):∃x y,rows[i]?=some x/\rows[j]?=some y/\x≠y/\ltK x y=some b:=by
 unfold jI at e;cases ei:rows[i]? with
 |none=>rw[ei]at e;cases e
 |some x=>cases ej:rows[j]? with
   |none=>rw[ei,ej]at e;cases e
   |some y=>
     rw[ei,ej]at e;dsimp only at e;split at e
     ·cases e
     ·exact⟨x,y,rfl,rfl,by assumption,e⟩
theorem B0{rows:List (List MKey)}{ix:List Nat}(e:fU rows=some ix):(rows.length<2/\ix=cK rows.length)∨(2≤rows.length/\rows.length<64/\∃p,ix=Array.toList p/\c8 (jI rows) (kas_sort rows.length)=some p):=by
 unfold fU at e;split at e
 ·rename_i h2;cases e;exact .inl ⟨h2,rfl⟩
 ·split at e
  ·rename_i h2 h64;split at e
   ·rename_i p hp;cases e;exact .inr ⟨by lia,h64,p,rfl,hp⟩
   ·cases e
  ·cases e
theorem getD_some{us:List af}{i:Nat}{u:af}(e:us[i]?=some u):us.getD i Value.none=u:=by simp[e]
theorem A1{xs:List V}{rows:List (List MKey)}{us:List af}{ix:List Nat}(ok:HOk P w H s.heap)(r:Paired (uW H) xs rows)(v:Vals xs us)(hf:rows.all jl=true)(e:fU rows=some ix):tF P w A us ix s:=by
 have hl:us.length=rows.length:=by rw[←v.length];exact Paired.length r
 rcases B0 e with⟨h2,rfl⟩|⟨h2,h64,p,rfl,run⟩
 ·exact .inl ⟨by lia,by rw[hl]⟩
 ·obtain⟨fs,fl,kt,ht⟩:=zO ok r v hf;refine .inr ⟨by lia,by lia,_,p,jI rows,rfl,λQ q=>kat_kind kt (by lia) ht rfl q,λi j b C ea hc=>?_,by rw[hl];exact run⟩;obtain⟨x,y,ex,ey,_,lt⟩:=ED ea;obtain⟨xv,gx,ax,rfl,hx⟩:=t9 r ex;obtain⟨yv,gy,ay,rfl,hy⟩:=t9 r ey;obtain⟨ux,wx,qx⟩:=v.get gx;obtain⟨uy,wy,qy⟩:=v.get gy;obtain rfl:ux=Value.ref ax:=qx;obtain rfl:uy=Value.ref ay:=qy;unfold kas_ask;rw[getD_some wx,getD_some wy];exact Ht (jw ok hx) (jw ok hy) lt hc
end
noncomputable def mj(xs:List V)(ix:List Nat):List V:=ix.map λi=>xs.getD i .non
theorem yM{xs:List V}{us:List af}(v:Vals xs us):∀(ix:List Nat),Vals (mj xs ix) (picked us ix)
 |[]=>.nil
 |i::r=>by
   refine .cons ?_ (yM v r);show aN (xs.getD i .non) (us.getD i Value.none);by_cases hi:i<xs.length
   ·obtain⟨u,e,q⟩:=v.get (i:=i) (x:=xs[i]) (by simp[hi]);have e1:xs.getD i .non=xs[i]:=by simp[hi]
    rw[e1,getD_some e];exact q
   ·have e1:xs.getD i .non=.non:=by simp[kJ hi]
    have e2:us.getD i Value.none=Value.none:=by
     have:=v.length;simp[show us.length≤i by lia]
    rw[e1,e2];rfl
theorem zW:∀{ys:List MV}{r:List MKey}{vs:List V},k9 ys=some r->VRs G m H ys vs->vs=r.map kV
 |[],r,vs,e,q=>by cases e;cases q;rfl
 |y::ys,r,vs,e,q=>by
   unfold k9 at e;cases ey:tO y with
   |none=>rw[ey]at e;cases e
   |some k=>cases er:k9 ys with
     |none=>rw[ey,er]at e;cases e
     |some ks=>
       rw[ey,er]at e;cases e;cases q with
       |@cons _ v' _ vs' q1 q2=>
         have e2:=zW er q2;cases y <;> first|cases ey|skip
         ·rw[show v'=V.int _ from q1,e2];rfl
         ·rw[show v'=V.str _ from q1,e2];rfl
theorem C9{x:MV}{r:List MKey}{v:V}(e:jK x=some r)(q:VR G m H x v):uW H v r:=by
 cases x <;> first|cases e|skip
 obtain⟨a,vs,e1,_,e2,t⟩:=q;subst e1;exact⟨a,rfl,by rw[e2,zW e t.to]⟩
theorem xo{f:MV->Option (List MKey)}{Rr:V->List MKey->Prop}(hf:∀x r v,f x=some r->VR G m H x v->Rr v r):∀{xs:List MV}{rows:List (List MKey)}{vs:List V},gN f xs=some rows->VRs G m H xs vs->Paired Rr vs rows
 |[],rows,vs,e,q=>by cases e;cases q;exact .nil
 |y::ys,rows,vs,e,q=>by
   unfold gN at e;cases ey:f y with
   |none=>rw[ey]at e;cases e
   |some k=>cases er:gN f ys with
     |none=>rw[ey,er]at e;cases e
     |some ks=>
       rw[ey,er]at e;cases e;cases q with
       |cons q1 q2=>exact .cons (hf _ _ _ ey q1) (xo hf er q2)
theorem vI{xs:List MV}{vs:List V}(v:VRs G m H xs vs):∀(ix:List Nat),VRs G m H (pick xs ix) (mj vs ix)
 |[]=>.nil
 |i::r=>by
   refine .cons ?_ (vI v r);show VR G m H (xs.getD i .non) (vs.getD i .non);by_cases hi:i<xs.length
   ·obtain⟨u,e,q⟩:=f8 v (i:=i) (x:=xs[i]) (by simp[hi]);have e1:xs.getD i .non=xs[i]:=by simp[hi]
    have e2:vs.getD i .non=u:=by simp[e]
    rw[e1,e2];exact q
   ·have hl:=Paired.length v;have e1:xs.getD i .non=.non:=by simp[kJ hi]
    have e2:vs.getD i .non=.non:=by simp[show vs.length≤i by lia]
    rw[e1,e2];rfl
structure t7(K:Frag)(mg:Str->Option af)(cl:Nat->ae)(cdv:af):Prop where
 on:cl 996≠0
 code:∃c,cdv=.ref c/\∃o vs file tf flags tg inF text tt,K.lookup c=some o/\o.cls=.type "code"/\o.data=.fields vs/\vs[11]?=some (.ref (cl 999))/\vs.getD 11 .none=.ref (cl 999)/\vs.getD 18 .none=.str file tf /\
  vs.getD 7 .none=.int flags tg/\vs.getD 9 .none=.bool inF/\vs.getD 10 .none=.int text tt
 blt:∃bm ob,mg "__builtins__"=some (.ref bm)/\bm≠builtinsNs/\bm≠dz/\K.lookup bm=some ob/\ob.cls=.type "module"/\ob.dict=some builtinsNs/\ob.data=.plain
section
variable {M:Model}{A:aX}{pins:List (ae×aB)}{s:aj}{params:Arguments}{body:aw}{scope:Scope}{pos:Pos}{cls:List (Str×ae)}{Q:af->aj->Prop}
noncomputable abbrev iy(params:Arguments)(body:aw)(scope:Scope)(cls:List (Str×ae))(pm:af)(c':ae)(ctv:af):aB:=kla_obj "<lambda>" ie params body scope cls pm c' ctv
theorem Inv.addPin{f:ae}{o:aB}(I:Inv X pins σ' H s)(e:s.heap.get? f=some o)(n:H f=none)(l:f≠X.env.locals)(fs:f∉X.fs)(d:∀v,o.data≠.cell v):Inv X ((f,o)::pins) σ' H s:=
 I.pins_of λp hp=>by
  rcases bu.mp hp with z|z
  ·subst z;exact⟨e,n,l,fs,d⟩
  ·exact I.pin p (cM _ z)
theorem AG(hL:t7 X.K X.mg G.cl X.env.code)(I:Inv X pins σ' H s)(R:HR G m h H)(hp1:(pos.line:Int)=G.cl 998)(hp2:(pos.col:Int)=G.cl 997)(hcl:closureFor scope X.env=pure cls)(hdef:defaultsOf params X.env=([],[]))(hq:X.env.qual++"<lambda>"=ie)
  (k:∀f c' pm ctv H2 s2,Inv X ((f,iy params body scope cls pm c' ctv)::pins) σ' H2 s2->Ext m H m H2->HR G m h H2->H2 c'=some (.ext (LamΦ c'))->c'∉m->Q (.ref f) s2) :
  aq M A (aG (.Lambda params body scope pos) X.env) Q E s:=by
 refine kla_eval hdef ?_;rw[hq];obtain⟨c,ec,o,vs,file,tf,flags,tg,inF,text,tt,a1,a2,a3,a4,a5,a6,a7,a8,a9⟩:=hL.code;obtain⟨bm,ob,b1,b2,b3,b4,b5,b6,b7⟩:=hL.blt;have hg:s.heap.Ns dz X.mg:=I.mod.glob.keeps I.bk;have hbm:=I.bs bm ob (I.ok.mod.kin _ _ b4);have hc:=I.bs c o (I.ok.mod.kin _ _ a1);have hgn:H dz=none:=by
  obtain⟨og,es,ep,e,_⟩:=I.mod.glob;exact(I.bs dz og e).2
 rcases R.tab with t|⟨nP,t⟩
 ·exact absurd t hL.on
 have nn:∀b,H b=none->b≠G.cl 999:=λb e z=>by
  rw[z]at e;rcases t with t|⟨_,_,_,t⟩ <;> (rw[e]at t;cases t)
 have hb:s.heap.BuiltinsAt X.mg (G.cl 999):=⟨bm,ob,b1,b2,b3,nn bm hbm.2,hbm.1,b5,b6,b7⟩;have C:CodeHd s.heap c (G.cl 999):=⟨o,vs,file,tf,flags,tg,inF,text,tt,hc.1,a2,a3,a4,a5,a6,a7,a8,a9,nn c hc.2⟩;rcases t with t|⟨c',nc,ec',t⟩
 ·have hP:s.heap.get? (G.cl 999)=some (tabObj #[]):=I.hok _ _ t;refine kla_makeFunction hcl I.ok.glob hg ec C hP trivial rfl (nn _ hgn) hb λc' ctv h' tk hx hge hlt hrec htb=>?_;have hPs:G.cl 999<s.heap.objs.size:=bo hP;have ncP:c'≠G.cl 999:=λz=>by rw[z]at hge;exact absurd (cN hPs hge) (gU _)
  have fc:H c'=none:=I.hok.fresh hge;have fcm:c'∉m:=R.fresh fc;have e2:#[]++#[cE pos.line,cE pos.col,Value.ref c']=#[cE (G.cl 998),cE (G.cl 997),Value.ref c']:=by rw[hp1,hp2];simp
  rw[e2]at htb
  let H2:Hp:=upd (upd H c' (.ext (LamΦ c'))) (G.cl 999) (.tbl #[cE (G.cl 998),cE (G.cl 997),.ref c'])
  have hH2:∀b,b≠G.cl 999->b≠c'->H2 b=H b:=λb z1 z2=>by show upd _ _ _ b=_;rw[aY z1,aY z2]
  have hH2P:H2 (G.cl 999)=some (.tbl #[cE (G.cl 998),cE (G.cl 997),.ref c']):=dh;have hH2c:H2 c'=some (.ext (LamΦ c')):=by show upd _ _ _ c'=_;rw[aY ncP,dh]
  have some_ne:∀b u,H b=some u->(∀ps,u≠.tbl ps)->H2 b=some u:=λb u e nt=>by
   rw[hH2 b (λz=>by rw[z,t]at e;cases e;exact nt _ rfl) (dE e fc)];exact e
  have keepU:∀b u,H b=none->s.heap.get? b=some u->(h'.push (iy params body scope cls ((X.mg "__name__").getD .none) c' ctv)).get? b=some u:=λb u n e=>bG _ (hx b u (nn b n) e);have hfs:s.heap.objs.size≤h'.objs.size:=cB hge (kP hlt);have hPh:G.cl 999<h'.objs.size:=bo htb;have I2:Inv X pins σ' H2 { s with heap:=h'.push (iy params body scope cls ((X.mg "__name__").getD .none) c' ctv),toks:=tk }:=by
   refine I.step (ch:=[]) (g':=s.gens) (d':=s.drawn) (λ_ z=>nomatch z) (λb u _ _ _ e n=>keepU b u n e) (λb u _ _ _ e n=>⟨u.slots,keepU b u n e⟩) (λb u _ e n=>?_) (λb u _ e=>?_) (λb xs e=>some_ne b _ e λ_ z=>nomatch z) (λb o u e=>some_ne b _ e λ_ z=>nomatch z) (λb ps e=>?_) (λmm hm=>?_) (λb u e=>?_) I.bare
   ·rw[hH2 b (nn b n) (λz=>by subst z;exact absurd (bo e) (uA hge))];exact n
   ·by_cases hbP:b=G.cl 999
    ·subst hbP;exact⟨_,bG _ htb⟩
    ·exact⟨u,bG _ (hx b u hbP e)⟩
   ·by_cases hbP:b=G.cl 999
    ·subst hbP;rw[t]at e;cases e;exact⟨_,by rw[hH2P,←e2]⟩
    ·exact⟨#[],by rw[hH2 b hbP (dE e fc),e];simp⟩
   ·obtain⟨oo,es,ep,ho,r⟩:=hm;exact⟨oo,es,ep,keepU _ oo I.free ho,r⟩
   ·by_cases hbP:b=G.cl 999
    ·subst hbP;rw[hH2P]at e;cases e;exact bG _ htb
    ·by_cases hbc:b=c'
     ·subst hbc;rw[hH2c]at e;cases e;obtain⟨c₂,oc,ws,tq,z1,z2,z3,z4⟩:=hrec;cases z1;exact⟨⟨oc,ws,tq,bG _ z2,z3,z4⟩,⟨oc,bG _ z2⟩,λp1 p2 ⟨o1,w1,t1,y1,y2,y3⟩ kk=>⟨o1,w1,t1,kk o1 y1,y2,y3⟩⟩
     ·rw[hH2 b hbP hbc]at e;refine(I.hok b u e).stay (λd v hd q=>bG _ (hx d v ?_ q)) (λd q=>some_ne d _ q λ_ z=>nomatch z) λd xs q=>some_ne d _ q λ_ z=>nomatch z;rcases hd with z|z
      ·rw[z];exact hbP
      ·exact λy=>by rw[y,t]at z;cases z
  have x2:Ext m H m H2:=⟨⟨[],by simp⟩,λa u e n nt=>⟨some_ne a u e nt,n⟩,λa o u e=>some_ne a _ e λ_ z=>nomatch z⟩
  have mn:Mn m H m H2:=x2.mn;have R2:HR G m h H2:=⟨R.len,R.nd,λn a ob ea eo=>OR.mono mn (hH2 a (λz=>nP (z▸dZ ea)) (λz=>fcm (z▸dZ ea))) (R.ob n a ob ea eo),by
   rcases R.scr with⟨o',z⟩|z
   ·exact .inl ⟨o',some_ne _ _ z λ_ y=>nomatch y⟩
   ·exact .inr z,.inr ⟨nP,.inr ⟨c',fcm,hH2c,hH2P⟩⟩⟩
  refine k h'.objs.size c' _ ctv H2 _ (Inv.addPin I2 (cT _ rfl) ?_ (dB (cN I.lt hfs)) (I.nofs hfs) λv z=>nomatch z) x2 R2 hH2c fcm;rw[hH2 _ (dB hPh) (dB hlt)];exact I.hok.fresh hfs
 ·have hP:s.heap.get? (G.cl 999)=some (tabObj #[cE (G.cl 998),cE (G.cl 997),.ref c']):=I.hok _ _ t;refine kla_makeFunctionHit (cv:=.ref c') hcl I.ok.glob hg ec C hP trivial ?_ hb λctv h' tk hk hsz=>?_
  ·rw[←hp1,←hp2];simp[codeAmong,cE]
  ·have I2:Inv X pins σ' H { s with heap:=h'.push (iy params body scope cls ((X.mg "__name__").getD .none) c' ctv),toks:=tk }:=I.kept λb u e=>bG _ (hk b u e);exact k h'.objs.size c' _ ctv H _ (Inv.addPin I2 (cT _ rfl) (I.hok.fresh hsz) (dB (cN I.lt hsz)) (I.nofs hsz) λv z=>nomatch z) .refl R ec' nc
end
section
variable {pins:List (ae×aB)}{s:aj}
theorem Fp.turnedL{bs:List ae}{h':aH}{t':Nat}(f:∀b∈bs,Fp X pins H b)(I:Inv X pins σ' H s)(k:∀c o,c∉bs->s.heap.get? c=some o->h'.get? c=some o):Inv X pins σ' H { s with heap:=h',toks:=t' }:=by
 have n0:∀c o,X.s₀.heap.get? c=some o->c∉X.ex->c∉bs:=λc o q hx z=>by
  rcases(f c z).new with y|y
  ·exact hx y
  ·rw[y]at q;cases q
 have ck:∀x c v,X.env.cells.lookup x=some c->s.heap.IsCell c v->h'.IsCell c v:=λx c v q e0=>e0.elim λo e1=>e1.elim λho hd=>⟨o,k c o (λz=>(f c z).ce x c q rfl) ho,hd⟩;refine⟨I.ok,I.os,I.bare,⟨λc o q n hb hx=>k c o (n0 c o q hx) (I.base.keep c o q n hb hx),λc o q n hb hx=>?_,λc o q n hx=>I.base.free c o q n hx,λc o q hx=>?_,I.base.tups,I.base.frzs,I.base.tbls⟩,?_,λx c q=>?_,I.free,I.freeC,λp hp=>?_,λc u e=>?_,I.len⟩
 ·obtain⟨sl,z⟩:=I.base.slot c o q n hb hx;exact⟨sl,k c _ (n0 c o q hx) z⟩
 ·obtain⟨o',z⟩:=I.base.there c o q hx;exact⟨o',k c o' (n0 c o q hx) z⟩
 ·obtain⟨mm,⟨o,es,ep,ho,r⟩,hl⟩:=I.loc;refine⟨mm,⟨o,es,ep,k _ o (λz=>(f _ z).loc rfl) ho,r⟩,λi x v e1 e2 e3=>?_⟩;obtain⟨u,ru,l⟩:=hl i x v e1 e2 e3;refine⟨u,ru,?_⟩;rcases l with l|⟨kk,c,e,z⟩
  ·exact .inl l
  ·exact .inr ⟨kk,c,e,ck x c _ e z⟩
 ·obtain⟨v,z⟩:=I.cell x c q;exact⟨v,ck x c v q z⟩
 ·obtain⟨a1,a2,a3,a4,a5⟩:=I.pin p hp;exact⟨k _ _ (λz=>(f _ z).pin p hp rfl) a1,a2,a3,a4,a5⟩
 ·refine(I.hok c u e).stay (λd v hd q=>k d v ?_ q) (λ_ q=>q) λ_ _ q=>q;rcases hd with z|z
  ·rw[z];exact λy=>by rw[(f c y).un]at e;cases e
  ·exact λy=>by rw[(f d y).un]at z;cases z
noncomputable def j5(X:Cx)(A:aX)(N:List Str)(s:aj)(H:Hp)(env:Env):Cx:=
 { X with A:=A.deeper env,N:=N,s₀:=s,H₀:=H,env:=env,outer:=X.stack,stack:=env::X.stack,ex:=[],calm:=true,fn:=λ_=>false,pn:=[],xe:=λ_ _=>False }
structure oZ(X:Cx)(scope:Scope)(nm fv:Str)(i:Nat)(c:ae):Prop where
 kind:scope.kind=.function
 co:scope.isCoroutine=false
 gen:scope.isGenerator=false
 loc:scope.names.lookup nm=some .local
 fr:scope.names.lookup fv=some .free
 only:∀x∈scope.names,x.2≠.cell
 one:∀x,scope.names.lookup x=some .free->x=fv
 cl:X.env.cells.lookup fv=some c
 kc:X.env.kindOf fv=some .cell
 ix:X.N[i]?=some fv
 cls:closureFor scope X.env=pure [(fv,c)]
theorem IC{A:aX}{scope:Scope}{nm fv:Str}{i:Nat}{c c' f:ae}{v:V}{u:af}{hp:aH}{t:Nat}(L:oZ X scope nm fv i c)(I:Inv X pins σ' H s)(hh:A.handled=none)(hA:A.frames=X.A.frames)
  (ns:hp.Ns s.heap.objs.size (λx=>[(nm,u)].reverse.lookup x)) (k:∀b o,s.heap.get? b=some o->hp.get? b=some o) (ru:aN v u) :
  Inv (j5 X A [nm,fv] s H (envX ie scope s.heap.objs.size f (.ref c') [(fv,c)])) [] [some v,(σ'[i]?).getD none] H { s with heap:=hp,toks:=t }:=by
 have look1:∀x d,([(fv,c)]:List (Str×ae)).lookup x=some d->x=fv/\d=c:=λx d e=>by
  rw[bI]at e;cases hx:(x == fv) with
  |true=>rw[hx]at e;cases e;exact⟨eq_of_beq hx,rfl⟩
  |false=>rw[hx]at e;cases e
 obtain ⟨v0,hv0⟩:=I.cell fv c L.cl;have kc:∀w,s.heap.IsCell c w->hp.IsCell c w:=λw e0=>e0.elim λo e1=>e1.elim λho hd=>⟨o,k c o ho,hd⟩;refine ⟨⟨I.ok.mod,L.kind,rfl,rfl,aU _,λx y d h1 h2=>?_,λx hx=>?_,(λx d z=>nomatch z),λ_=>hh,Around.frames_deeper (hA.trans I.ok.frames),.inr ⟨rfl,rfl⟩,(λb z=>nomatch z),I.bs,cB I.ok.bsz I.sz,(λb _ _ z=>nomatch z),(λb z=>nomatch z),I.stack,I.stkFree⟩,
  rfl,I.bare,Un.kept k,⟨_,ns,λj x w e1 e2 e3=>?_⟩,λx d e=>?_,I.hok.fresh (aU _),λx d e=>?_,(λp hp=>nomatch hp),I.hok.kept k,rfl⟩
 ·rw[(look1 x d h1).1,(look1 y d h2).1]
 ·have hx:scope.names.lookup x=some .cell∨scope.names.lookup x=some .free:=hx;rcases hx with hx|hx
  ·exact absurd rfl (L.only _ (PySem.mem_of_lookup hx))
  ·rw[L.one x hx];exact⟨c,by show eL fv [(fv,c)]=some c;simp⟩
 ·match j,e1,e2 with
  |0,e1,e2=>
    have e1':nm=x:=by simpa[j5] using e1
    subst e1';have e2':v=w:=by simpa using e2
    subst e2';exact⟨u,ru,.inl ⟨L.loc,by show eL nm [(nm,u)]=some u;simp⟩⟩
  |1,e1,e2=>
    have e1':fv=x:=by simpa[j5] using e1
    subst e1';have e2':(σ'[i]?).getD none=some w:=by simpa using e2
    have e3':σ'[i]?=some (some w):=by
     cases q:σ'[i]? with
     |none=>rw[q]at e2';cases e2'
     |some z=>rw[q]at e2';rw[show z=some w from e2']
    obtain⟨mm,hn,hl⟩:=I.loc;obtain⟨u1,r1,l1⟩:=hl i fv w L.ix e3' (.inr (.inl L.kc));refine⟨u1,r1,?_⟩;rcases l1 with⟨z,_⟩|⟨_,d,e,z⟩
    ·rw[L.kc]at z;cases z
    ·rw[L.cl]at e;cases e;exact .inr ⟨.inr L.fr,c,by show eL fv [(fv,c)]=some c;simp,kc _ z⟩
  |j+2,e1,_=>simp[j5]at e1
 ·obtain⟨e1,e2⟩:=look1 x d e;rw[e2];exact⟨v0,kc _ hv0⟩
 ·obtain⟨e1,e2⟩:=look1 x d e;rw[e2];exact I.freeC fv c L.cl
theorem HG{A:aX}{params:Arguments}{body:aw}{scope:Scope}{nm fv:Str}{i:Nat}{c c' f:ae}{pm ctv:af}{ke:ME}{k:Str}{t:Tok}{kv:MV}(L:oZ X scope nm fv i c)(I:Inv X pins σ' H s)(S:SR G m H σ σ')(R:HR G m h H)
  (hf:(f,iy params body scope [(fv,c)] pm c' ctv)∈pins) (hc':H c'=some (.ext (LamΦ c'))) (hh:A.handled=none) (hA:A.frames=X.A.frames) (hroom:A.depth<recursionLimit)
  (hbind:∀(fd:bc) (v:af),fd.params=params->fd.defaults=.none->fd.kwdefaults=.none->bindArgs fd ⟨[v],[]⟩=pure [(nm,v)])
  (hbody:∀(L f:ae) (cdv:af) (s:aj) (H:Hp),GE G (j5 X A [nm,fv] s H (envX ie scope L f cdv [(fv,c)])) body ke) (he:ke [some (.str k),(σ[i]?).getD none] h=.ok kv h) :
  aq (av X.prog X.w) A (call (.ref f) [.str k t]) (λu s'=>∃v' H',Inv X pins σ' H' s'/\Ext m H m H'/\HR G m h H'/\aN v' u/\VR G m H' kv v') (λ_ _=>False) s:=by
 have hpf:=I.pin _ (cM _ hf);obtain⟨⟨oc,ws,tq,z1,z2,z3⟩,_,_⟩:=I.hok c' _ hc';refine wpAny_call (kla_callFunE hroom hpf.1 rfl L.co L.gen rfl ⟨c',oc,ws,tq,rfl,z1,z2,z3⟩ ?_);rw[hbind _ _ rfl rfl rfl];refine aL (wpAny_newFunctionEnv L.only (λx hx=>by rw[dF.mp hx];exact L.loc) (λh₁ hns hsb=>⟨I.nolimit.fresh _ hsb,?_⟩) L.kind);have hk₁:∀b o,s.heap.get? b=some o->h₁.get? b=some o:=λb o e=>hsb.extBut b o (dj (bo e)) (bG _ e);have I1:=IC (A:=A) (f:=f) (c':=c') (v:=.str k) (t:=s.toks+1) L I hh hA hns hk₁ ⟨t,rfl⟩;refine kla_codeExpr ?_;have S1:SR G m H [some (.str k),(σ[i]?).getD none] [some (.str k),(σ'[i]?).getD none]:=by
  refine⟨rfl,λj v e=>?_⟩
  match j,e with
  |0,e=>
    have e':MV.str k=v:=by simpa using e
    subst e';exact⟨.str k,rfl,rfl⟩
  |1,e=>
    have e':(σ[i]?).getD none=some v:=by simpa using e
    have e3:σ[i]?=some (some v):=by
     cases q:σ[i]? with
     |none=>rw[q]at e';cases e'
     |some z=>rw[q]at e';rw[show z=some v from e']
    obtain⟨v',q1,q2⟩:=S.sl i v e3;exact⟨v',by simp[q1],q2⟩
  |j+2,e=>simp at e
 refine bv (hbody s.heap.objs.size f (.ref c') s H (λ_ _=>False) ET [] _ _ H (λv' H'=>∃m',Ext m H m' H'/\HR G m' h H'/\VR G m' H' kv v') (I1.wish _) ⟨m,h,_,trivial,S1,R,by rw[he];exact λm' H' y R' v' r=>⟨m',y,R',r⟩⟩) (λu s' hq=>?_) λ_ _ z=>z.elim;obtain⟨v',H',I',r,m',x,R',rv⟩:=hq;have em:m'=m:=by
  obtain⟨e,pe⟩:=x.pre;have:e.length=0:=by
   have h1:=R'.len;have h2:=R.len;rw[pe,gX]at h1;lia
  rw[pe,List.eq_nil_of_length_eq_zero this,ug]
 subst em;exact⟨v',H',I.call' (s':=s') (ch:=[]) I'.os I'.base I'.hok I'.bare (λb z=>nomatch z),x,R',r,rv⟩
end
end L2.Rv
namespace L2.Rv
open PySem PySem.Spec PyProof.Rows PySem.W
variable {G:Gb}{m m' m1 m2:List ae}{h h' h1 h2:MH}{H H' H0 H1 H2:Hp}{X:Cx}{E:af->aj->Prop}{EX:St->Prop}{σ:MSt}{σ':St}
section
variable {pins:List (ae×aB)}{s:aj}{f c' D kS:ae}{fo:aB}{e1:Nat}
structure LS(G:Gb)(X:Cx)(σ':St)(m:List ae)(h:MH)(H0:Hp)(pins:List (ae×aB))(f:ae)(fo:aB)(c' D:ae)(e1:Nat)(kS:ae)(done:List MV)(us:List af)(H:Hp)(s:aj):Prop where
 inv:∃e,Inv X ((kS,seqObj "list" us.toArray e)::(D,seqObj "list" #[] e1)::(f,fo)::pins) σ' H s
 ext:Ext m H0 m H
 hr:HR G m h H
 vals:∃vs,VRs G m H done vs/\Vals vs us
 cd:H c'=some (.ext (LamΦ c'))
 cm:c'∉m
structure KSt(X:Cx)(pins:List (ae×aB))(kS:ae):Prop where
 new:kS∈X.ex∨X.s₀.heap.get? kS=none
 ce:∀x c,X.env.cells.lookup x=some c->c≠kS
 pin:∀p∈X.pn++pins,p.1≠kS
theorem KSt.fp{o:aB}(k:KSt X pins kS)(I:Inv X ((kS,o)::pins) σ' H s):Fp X pins H kS:=by
 obtain⟨_,a2,a3,a4,_⟩:=I.pin (kS,o) (cM _ (.head _));exact⟨a2,λz=>a3 z,a4,k.new,λx c e=>k.ce x c e,k.pin⟩
theorem Inv.dropPin{o:aB}(I:Inv X ((kS,o)::pins) σ' H s):Inv X pins σ' H s:=I.pins_of λp hp=>I.pin p (cM _ (.tail _ hp))
theorem vV{ke:ME}{fr:MSt}{k:Str}{r:List Str}{more:List MV}{hE:MH}(e:dQ ke fr (k::r) h=.ok more hE):∃kv more',ke (some (.str k)::fr) h=.ok kv h/\dQ ke fr r h=.ok more' hE/\more=kv::more':=by
 unfold dQ at e;cases ek:ke (some (.str k)::fr) h with
 |ok kv h1=>
   rw[ek]at e;dsimp only at e;split at e
   ·rename_i hh;subst hh;unfold bnd at e;cases er:dQ ke fr r h1 with
    |ok more' h2=>
      rw[er]at e;injection e with e1 e2;subst e1;subst e2;exact⟨kv,more',rfl,rfl,rfl⟩
    |exc c h2=>rw[er]at e;cases e
    |stuck=>rw[er]at e;cases e
   ·cases e
 |exc c h1=>rw[ek]at e;cases e
 |stuck=>rw[ek]at e;cases e
theorem An{ke:ME}{fr:MSt}:∀{r:List Str}{more:List MV}{hE:MH},dQ ke fr r h=.ok more hE->hE=h
 |[],more,hE,e=>by unfold dQ at e;injection e with _ e2;exact e2.symm
 |k::r,more,hE,e=>by
   obtain⟨_,_,_,e2,_⟩:=vV e;exact An e2
theorem xX{ke:ME}{fr:MSt}:∀{r:List Str}{c:Nat}{hE:MH},dQ ke fr r h≠.exc c hE
 |[],c,hE,e=>by unfold dQ at e;cases e
 |k::r,c,hE,e=>by
   unfold dQ at e;cases ek:ke (some (.str k)::fr) h with
   |ok kv h1=>
     rw[ek]at e;dsimp only at e;split at e
     ·unfold bnd at e;cases er:dQ ke fr r h with
      |ok more' h2=>rw[er]at e;cases e
      |exc c' h2=>exact xX er
      |stuck=>rw[er]at e;cases e
     ·cases e
   |exc c h1=>rw[ek]at e;cases e
   |stuck=>rw[ek]at e;cases e
theorem xQ{A:aX}{params:Arguments}{body:aw}{scope:Scope}{nm fv:Str}{i:Nat}{c:ae}{pm ctv:af}{ke:ME}{Fin:List af->aj->Prop}(L:oZ X scope nm fv i c)(hfo:fo=iy params body scope [(fv,c)] pm c' ctv)
  (hh:A.handled=none) (hA:A.frames=X.A.frames) (hroom:A.depth<recursionLimit) (hbind:∀(fd:bc) (v:af),fd.params=params->fd.defaults=.none->fd.kwdefaults=.none->bindArgs fd ⟨[v],[]⟩=pure [(nm,v)])
  (hbody:∀(L f:ae) (cdv:af) (s:aj) (H:Hp),GE G (j5 X A [nm,fv] s H (envX ie scope L f cdv [(fv,c)])) body ke) (S:SR G m H0 σ σ')
  (K:KSt X ((D,seqObj "list" #[] e1)::(f,fo)::pins) kS):∀{r:List Str}{rv:List af}{done more:List MV}{us:List af}{H:Hp}{s:aj},Paired (λk v=>∃t,v=Value.str k t) r rv->dQ ke [(σ[i]?).getD none] r h=.ok more h ->
   LS G X σ' m h H0 pins f fo c' D e1 kS done us H s->(∀us' H' s',LS G X σ' m h H0 pins f fo c' D e1 kS (done++more) us' H' s'->Fin us' s')->js X.prog X.w A (.ref f) kS Fin rv us s
 |[],_,done,more,us,H,s,.nil,e,l,fin=>by
   unfold dQ at e;injection e with e1 _;subst e1;exact fin us H s (by simpa using l)
 |k::r,_,done,more,us,H,s,.cons ⟨t,ev⟩ q,e,l,fin=>by
   subst ev;obtain⟨kv,more',e2,e3,rfl⟩:=vV e;obtain⟨e0,I⟩:=l.inv;refine bv (HG (pm:=pm) (ctv:=ctv) L I (S.mono l.ext) l.hr (by rw[←hfo];exact .tail _ (.tail _ (.head _))) l.cd hh hA hroom hbind hbody e2) (λu s' hq=>?_) λ_ _ z=>z;obtain⟨v',H',I',x,R',ru,rv⟩:=hq;obtain⟨vs,z1,z2⟩:=l.vals;refine⟨e0,(I'.pin (kS,_) (cM _ (.head _))).1,λhp cc kb ek=>?_⟩;have fp:=K.fp I';have I2:=fp.turned (t':=s'.toks) (h':=hp) (Inv.dropPin I') kb;refine xQ L hfo hh hA hroom hbind hbody S K q e3 ⟨⟨cc,Inv.addPin I2 ek fp.un fp.loc fp.fs λv z=>nomatch z⟩,l.ext.trans x,R',⟨vs++[v'],iJ (x.vrs z1) (.cons rv .nil),iJ z2 (.cons ru .nil)⟩,(x.fr c' _ l.cd l.cm λ_ z=>nomatch z).1,l.cm⟩ λus' H'' s'' l'=>fin us' H'' s'' (by simpa using l')
end
theorem Hn{kvs:List (Str×MV)}{ws:List (Key×V)}(r:DR G m H kvs ws):ws.map (·.1)=kvs.map λkv=>(Sum.inr kv.1:Key):=by
 induction r with
 |nil=>rfl
 |cons q _ ih=>rw[bD,bD,ih,q.1]
theorem BJ{ws:List (Key×V)}{us:List (Key×af)}(r:KV ws us):us.map (·.1)=ws.map (·.1):=by
 induction r with
 |nil=>rfl
 |cons q _ ih=>rw[bD,bD,ih,q.1]
theorem xT:∀(l:List (Str×MV)),VRs G m H (l.map λkv=>MV.str kv.1) (l.map λkv=>V.str kv.1)
 |[]=>.nil
 |_::l=>.cons rfl (xT l)
theorem Bp{k:Nat}{o:aw}{go ke:ME}{params:Arguments}{body:aw}{scope:Scope}{lpos p pos kp:Pos}{nm fv:Str}{i:Nat}{c:ae}(hL:t7 X.K X.mg G.cl X.env.code)(ho:GE G X o go)(L:oZ X scope nm fv i c)(hm:X.mg "sorted"=none)(hr:Room (k+2) X.A)
  (hp1:(lpos.line:Int)=G.cl 998) (hp2:(lpos.col:Int)=G.cl 997) (hbind:∀(fd:bc) (v:af),fd.params=params->fd.defaults=.none->fd.kwdefaults=.none->bindArgs fd ⟨[v],[]⟩=pure [(nm,v)])
  (hbody:∀(L f:ae) (cdv:af) (s:aj) (H:Hp),Room k (X.A.in1.in1.deeper (envX ie scope L f cdv [(fv,c)]))->GE G (j5 X X.A.in1.in1 [nm,fv] s H (envX ie scope L f cdv [(fv,c)])) body ke)
  (hdef:defaultsOf params X.env=([],[]):=by rfl) (hq:X.env.qual++"<lambda>"=ie:=by rfl) (hg:Gl X "sorted":=by rfl) (hs:aJ [o] X.env=[(false,aG o X.env)]:=by rfl) :
  GE G X (.Call (.Name "sorted" p) [o] [⟨some "key",.Lambda params body scope lpos,kp⟩] pos) (qP go i ke):=λE EX pins s σ' H Q I ⟨m,h,σ,ex,S,R,P⟩=>by
 have hrb:∀(L f:ae) (cdv:af),Room k (X.A.in1.in1.deeper (envX ie scope L f cdv [(fv,c)])):=λL f cdv=>⟨hr.hd,by have:=hr.dp;show X.A.depth+1+3*k+5<_;lia,by have:=hr.un;show X.A.units+1+1+3+16*k+200<_;lia⟩
 refine wpAny_Call_Name_kw (gJ I hg hm boot_sorted ?_ (by decide) (by decide));refine callWith_kw (thn ((ho.a1 hs E EX) pos pins s σ' H (λvs H1=>∃(d:ae) (n:Nat) (kvs:List (Str × MV)) (m1:List ae) (h1:MH),vs=[V.ref d]/\m1[n]? = some d/\Ext m H m1 H1/\HR G m1 h1 H1/\h1[n]? = some (.dct kvs)/\kvs.length < 64 /\
   Post G X E EX m1 H1 (bnd (dQ ke [(σ[i]?).getD none] (kvs.map (·.1))) (λks=>(match gN jK ks with
    | some rows=>if rows.all jl=true then (match fU rows with
      |some ix=>new (.lst (pick (kvs.map λkv=>.str kv.1) ix))
      | none=>stk) else stk
    | none=>stk)) h1) λv m' _ H'=>∀v',VR G m' H' v v'->Q v' H') I (sub ex S R P λv m1 h1 H1 v' x1 R1 r1 P1=>?_)) λus s1 ⟨vs,H1,I1,r,d,n,kvs,m1,h1,ev,en,x1,R1,eh,h64,P1⟩=>?_) (by rw [hs];rfl) (by rw [hs];rfl) rfl rfl
 ·cases v <;> first|exact P1.elim|skip
  rename_i n;obtain⟨d,ea,rfl⟩:=r1;obtain⟨oa,e1,q1,P2⟩:=cb R1 ea P1;cases oa <;> first|exact P2.elim|skip
  rename_i kvs;dsimp only at P2;split at P2
  ·rename_i h64;exact⟨d,n,kvs,m1,h1,rfl,ea,x1,R1,e1,h64,P2⟩
  ·exact P2.elim
 ·subst ev;obtain⟨u,us',rfl,ru,rr⟩:=zI r;cases rr;obtain rfl:u=Value.ref d:=ru;have I1':Inv X pins σ' H1 s1:=I1.unwish;refine kws_cons (AG (X:=X) (M:=av X.prog X.w) (A:=X.A) (E:=E) hL I1' R1 hp1 hp2 L.cls hdef hq λf c' pm ctv H2 s2 I2 x2 R2 hc cm=>kws_nil ?_);show aq (av X.prog X.w) X.A (call (.builtin "sorted") [.ref d] [(aA "key",.ref f)]) _ E s2
  obtain⟨ws,dr,ed⟩:=R2.ob n d _ en eh;obtain⟨_,lo,vs2,kv2,dd⟩:=sY I2.hok ed;have hkeys:vs2.map (·.1)=kvs.map λkv=>(Sum.inr kv.1:Key):=(BJ kv2).trans (Hn dr);have hlen2:vs2.length=kvs.length:=by have:=congrArg o9 hkeys;simpa using this
  obtain⟨od,es,ep,dd⟩:=dd;have da:s2.heap.DictAt (de X.prog X.w) d vs2 ep:=⟨od,es,dd⟩;refine HS (kdl_dict (knd:=de X.prog X.w) (kvs:=vs2) (ep:=ep) lo) hr.hd da (by rw[hlen2];exact h64) λvs hp tk D kS e1 hk hit eD eK nD nK hne=>?_;have prd:Paired (λk v=>∃t,v=Value.str k t) (kvs.map (·.1)) vs:=by
   refine vD _ _ (by have:=hit.1;simp only[cG]at this;simp[this,hlen2]) λj kk v ek ev=>?_;obtain⟨k2,xx,g1,g2⟩:=hit.2 j v (by simpa using ev);have g3:(vs2.map (·.1))[j]?=some k2:=by rw[bZ,g1];rfl
   rw[hkeys,bZ]at g3;rw[bZ]at ek;cases e0:kvs[j]? with
   |none=>rw[e0]at ek;cases ek
   |some kv=>
     rw[e0]at ek g3;cases ek;cases g3;exact uz g2
  have fD:H2 D=none:=HOk.none I2.hok nD;have fK:H2 kS=none:=HOk.none I2.hok nK;have FD:Fp X _ H2 D:=Fp.of I2 nD fD;have FK:Fp X _ H2 kS:=Fp.of I2 nK fK;have I3:Inv X _ σ' H2 { s2 with heap:=hp,toks:=tk }:=I2.kept hk;have I4:=Inv.addPin (Inv.addPin I3 eD fD FD.loc FD.fs λv z=>nomatch z) eK fK FK.loc FK.fs λv z=>nomatch z;have KK:KSt X ((D,seqObj "list" #[] e1)::(f,iy params body scope [(fv,c)] pm c' ctv)::pins) kS:=⟨FK.new,λx c e=>FK.ce x c e,λp hp=>by
   rcases fJ.mp hp with z|z
   ·exact FK.pin p (gB _ z)
   ·rcases bu.mp z with y|y
    ·subst y;exact hne
    ·exact FK.pin p (cM _ y)⟩
  cases ek:dQ ke [(σ[i]?).getD none] (kvs.map (·.1)) h1 with
  |exc c2 hE=>exact absurd ek xX
  |stuck=>unfold bnd at P1;rw[ek]at P1;exact P1.elim
  |ok more hE=>
    obtain rfl:=An ek;unfold bnd at P1;rw[ek]at P1;dsimp only at P1;cases er:gN jK more with
    |none=>rw[er]at P1;exact P1.elim
    |some rows=>
      rw[er]at P1;dsimp only at P1;split at P1
      case isFalse=>exact P1.elim
      case isTrue hall=>
      cases es2:fU rows with
      |none=>rw[es2]at P1;exact P1.elim
      |some ix=>
        rw[es2]at P1;refine xQ (A:=X.A.in1.in1) (done:=[]) (us:=[]) L rfl hr.hd rfl (by show X.A.depth<_;exact hr.depth) hbind (λL f cdv s H=>hbody L f cdv s H (hrb L f cdv)) (S.mono (x1.trans x2)) KK prd ek ⟨⟨0,I4⟩,.refl,R2,⟨[],.nil,.nil⟩,hc,cm⟩ λus' H' s' l=>?_;obtain⟨e0,I5⟩:=l.inv;obtain⟨vsk,z1,z2⟩:=l.vals;have gK:=I5.pin (kS,_) (cM _ (.head _));have gD:=I5.pin (D,_) (cM _ (.tail _ (.head _)));refine⟨e0,ix,gK.1,gD.1,Ne.symm hne,A1 I5.hok (xo (λ_ _ _=>C9) er (by simpa using z1)) z2 hall es2,λh2 cc kb _ hln eD2=>?_⟩;have I6:=Inv.dropPin (Inv.dropPin I5);have FD':Fp X ((f,iy params body scope [(fv,c)] pm c' ctv)::pins) H' D:=⟨gD.2.1,FD.loc,FD.fs,FD.new,FD.ce,FD.pin⟩;have FK':Fp X ((f,iy params body scope [(fv,c)] pm c' ctv)::pins) H' kS:=⟨gK.2.1,FK.loc,FK.fs,FK.new,FK.ce,FK.pin⟩;have I7:Inv X _ σ' H' { s' with heap:=h2 }:=Fp.turnedL (bs:=[D,kS]) (t':=s'.toks) (λb hb=>by
         rcases bu.mp hb with z|z
         ·subst z;exact FD'
         ·rw [dF.mp z];exact FK') I6 λb o hb e=>kb b o (λz=>hb (by simp [z])) (λz=>hb (by simp [z])) e
        have vv:Vals (kvs.map λkv=>V.str kv.1) vs:=by
         have:∀{l:List (Str×MV)}{us:List af},Paired (λk v=>∃t,v=Value.str k t) (l.map (·.1)) us->Vals (l.map λkv=>V.str kv.1) us:=by
          intro l
          induction l with
          |nil=>intro us q;cases q;exact .nil
          |cons a l ih=>intro us q;cases q with|cons q1 q2=>exact .cons q1 (ih q2)
         exact this prd
        have vr:VRs G m1 H' (kvs.map λkv=>MV.str kv.1) (kvs.map λkv=>V.str kv.1):=xT kvs;have I8:=Inv.trackO (v:=.lst (mj (kvs.map λkv=>V.str kv.1) ix)) I7 FD' ⟨by
         have:(mj (kvs.map λkv=>V.str kv.1) ix).length=vs.length:=by rw[←hln];simp[mj,picked]
         rw [this,←vv.length,c6];exact small (by lia),_,cc,yM vv ix,eD2⟩
        exact⟨.ref D,_,(Inv.dropPin I8).wish E,rfl,jx l.hr (vI vr ix) (P1.ext (x2.trans l.ext)) gD.2.1⟩
end L2.Rv
namespace L2.Rv
open PySem PySem.Spec PyProof.Rows
variable {G:Gb}{m m' m1 m2:List ae}{h h' h1 h2:MH}{H H' H1 H2:Hp}{X:Cx}{E:af->aj->Prop}{EX:St->Prop}{σ:MSt}{σ':St}
theorem mK{pos:Pos}:GE G X (.Dict [] [] pos) jU:=λE EX=>dC Dn λσ' H Q e0=>bK e0 λm h σ ex S R P=>λp hp=>by
 have x:=Ext.new (u:=.dK []) R hp;refine P (m++[p]) (upd H p (.dK [])) x (R.new hp ⟨[],.nil,dh⟩) (.ref p) ⟨p,?_,rfl⟩;rw[←R.len];simp
theorem yC{xs:List MV}{vs:List V}{lo hi:Option Int}(r:VRs G m H xs vs):VRs G m H (iQ xs lo hi) (jy vs lo hi):=by
 have hl:=Paired.length r;have e:∀(n d:Nat) (o:Option Int),HT.sIx n d o=dU n d o:=λn d o=>by
  unfold HT.sIx dU;cases o with
  |none=>rfl
  |some v=>rfl
 unfold iQ jy;rw[e,e,hl];have dr:∀(k:Nat) {xs:List MV} {vs:List V},VRs G m H xs vs->VRs G m H (xs.drop k) (vs.drop k):=by
  intro k
  induction k with
  |zero=>intro xs vs q;exact q
  |succ k ih=>intro xs vs q;cases q with
    |nil=>exact .nil
    |cons q1 q2=>exact ih q2
 have tk:∀(k:Nat) {xs:List MV} {vs:List V},VRs G m H xs vs->VRs G m H (xs.take k) (vs.take k):=by
  intro k
  induction k with
  |zero=>intro xs vs q;exact .nil
  |succ k ih=>intro xs vs q;cases q with
    |nil=>exact .nil
    |cons q1 q2=>exact .cons q1 (ih q2)
 exact tk _ (dr _ r)
def xM:V->Option Int->Option Int->Hp->VK->Prop:=λx lo hi H Q=>∃y:Str,x=.str y/\y.length≤aV/\Q (.str (Txt.slice y lo hi)) H
theorem Ig:SlR X xM:=by
 rintro pins s σ H x v vl vu lo hi sl Q I rx hs pl pu ⟨y,e,hz,q⟩;subst e;obtain⟨t,rfl⟩:=rx;obtain⟨l,el,ml⟩:∃l:Option (Int×Tok),vl=partValue l/\l.map (·.1)=lo:=by
  cases pl with
  |none=>exact⟨none,rfl,rfl⟩
  |int i t=>exact⟨some (i,t),rfl,rfl⟩
 obtain⟨u,eu,mu⟩:∃l:Option (Int×Tok),vu=partValue l/\l.map (·.1)=hi:=by
  cases pu with
  |none=>exact⟨none,rfl,rfl⟩
  |int i t=>exact⟨some (i,t),rfl,rfl⟩
 subst el;subst eu;subst ml;subst mu;refine⟨"str",_,PySem.F.slot_str_getitem.lookup,typeIs_str _ _ _,wpAny_getItem_str_slice (l:=l) (u:=u) (st:=none) (by obtain⟨o,a1,a2,a3⟩:=hs;exact⟨o,a1,a2,a3⟩) rfl ?_⟩;exact post_val_or_str ⟨cB (Txt.slice_le y _ _) hz,λt' k=>⟨.str _,H,I.tok _,⟨_,rfl⟩,q⟩⟩
def tGo(G:Gb)(X:Cx)(E:af->aj->Prop)(EX:St->Prop):Option ME->TO
 |none=>Ah
 |some g=>wz (TGe G X E EX g)
def GO(G:Gb)(X:Cx):Option aw->Option ME->Prop
 |none,none=>True
 |some e,some g=>GE G X e g
 |_,_=>False
theorem yP{e:Option aw}{ge:Option ME}(he:GO G X e ge):PO (X.wish E) e (tGo G X E EX ge):=by
 cases e with
 |none=>cases ge with
   |none=>exact HU
   |some _=>exact he.elim
 |some e=>cases ge with
   |none=>exact he.elim
   |some g=>exact Hx (he E EX)
theorem yF{β:Type}{ge:Option ME}{k:Option Int->M β}{Q:β->List ae->MH->Hp->Prop}(ex:EX σ')(S:SR G m H σ σ')(R:HR G m h H)(P:Post G X E EX m H (bnd (part ge σ) k h) Q){Rr:Option Int->Hp->Prop}
  (hk:∀v m1 h1 H1,Ext m H m1 H1->HR G m1 h1 H1->Post G X E EX m1 H1 (k v h1) Q->Rr v H1):tGo G X E EX ge σ' H Rr:=by
 cases ge with
 |none=>exact hk none m h H .refl R P
 |some g=>
   have P':Post G X E EX m H (bnd (bnd (g σ) λv=>match v with
    |.int i=>ret (some i)
    | _=>stk) k h) Q:=P
   rw[jm]at P';refine sub ex S R P' λv m1 h1 H1 v' x1 R1 r1 P1=>?_;cases v with
   |int i=>cases(show v'=V.int i from r1);exact⟨i,rfl,hk (some i) m1 h1 H1 x1 R1 P1⟩
   |_=>exact P1.elim
def D9(K:PySem.W.Frag):V->Option Int->Option Int->Hp->VK->Prop:=λx lo hi H Q=>w8 K x lo hi H Q∨(yY K x lo hi H Q∨xM x lo hi H Q)
theorem xG(n d:Nat)(o:Option Int):HT.sIx n d o=dU n d o:=by
 unfold HT.sIx dU;cases o <;> rfl
theorem xq{a:aw}{lo hi:Option aw}{ga:ME}{gl gh:Option ME}{pos p2:Pos}(ha:GE G X a ga)(hl:GO G X lo gl)(hh:GO G X hi gh)(hK:X.K=G.K:=by rfl) :
  GE G X (.Subscript a (.Slice lo hi none p2) pos) (eSl ga gl gh):=λE EX=>dC (Fr (X:=X.wish E) (r:=D9 X.K) (BR.or (Gc.or Ig)) (ha E EX) (yP (EX:=EX) hl) (yP (EX:=EX) hh)) λσ' H Q e0=>bK e0 λm h σ ex S R P=>
 sub ex S R P λv m1 h1 H1 v' x1 R1 r1 P1=>yF ex (S.mono x1) R1 P1 λl m2 h2 H2 x2 R2 P2=>yF ex ((S.mono x1).mono x2) R2 P2 λu m3 h3 H3 x3 R3 P3=>by
  have r3:=x3.vr (x2.vr r1);rw[hK];cases v with
  |ref n=>
    obtain⟨aa,ea,rfl⟩:=r3;obtain⟨ob,eo,qo,P4⟩:=cb R3 ea P3;cases ob with
    |lst xs=>
      obtain⟨vs,rr,z⟩:=qo;exact .inl ⟨aa,vs,rfl,SqL.of z,λp hp=>jx R3 (yC rr) P4 hp⟩
    |_=>exact P4.elim
  |tup xs=>
    obtain⟨aa,vs,rfl,na,z,rr⟩:=r3;have rr':=rr.to;have hlen:=Paired.length rr';unfold jg at P3;dsimp only at P3;split at P3
    ·exact P3.elim
    ·rename_i hw;refine .inr (.inl ⟨aa,vs,rfl,.inl (.inl z),?_,λp hp=>yW R3 (yC rr') P3 hp⟩);rw[xG,xG,←hlen];exact hw
  |str y=>
    cases(show v'=V.str y from r3);unfold jg at P3;dsimp only at P3
    split at P3
    ·rename_i hz;exact .inr (.inr ⟨y,rfl,big hz,Post.here R3 P3 _ rfl⟩)
    ·exact P3.elim
  |_=>exact P3.elim
theorem tN{o e f:aw}{go gk gx:ME}{apos cpos:Pos}(hu:X.A.units+1<cLine)(ho:GE G X o go)(he:GE G X e gk)(hf:GE G X f gx)(mm:M2 X o "get" apos e f cpos:=by exact⟨rfl,rfl,rfl,rfl⟩) :
  GE G X (.Call (.Attribute o "get" apos) [e,f] [] cpos) (ku go gk gx):=λE EX=>dC (Gd (X:=X.wish E) hu (ho E EX) (he E EX) (hf E EX) ⟨mm.base,mm.few,mm.line,mm.trees⟩) λσ' H Q e0=>bK e0 λm h σ ex S R P=>
 sub ex S R P λv m1 h1 H1 v' x1 R1 r1 P1=>by
  cases v with
  |ref n=>
    obtain⟨aa,ea,rfl⟩:=r1;obtain⟨ob,eo,qo,P2⟩:=cb R1 ea P1;cases ob with
    |dct kvs=>
      obtain⟨ws,rr,z⟩:=qo;refine⟨aa,rfl,.inl ⟨ws,.inl z⟩,sub ex (S.mono x1) R1 P2 λy m2 h2 H2 y' x2 R2 r2 P3=>sub ex ((S.mono x1).mono x2) R2 P3 λw m3 h3 H3 w' x3 R3 r3 P4=>?_⟩;cases y with
      |str k=>
        cases(show y'=V.str k from r2);have ea3:=x3.get (x2.get ea);obtain⟨ob3,eo3,qo3,P5⟩:=cb R3 ea3 P4;cases ob3 with
        |dct kvs3=>
          obtain⟨ws3,rr3,z3⟩:=qo3;refine⟨eM ws3 (Sum.inr k),.inl ⟨ws3,Sum.inr k,.inl z3,rfl,rfl⟩,?_⟩;dsimp only at P5;obtain⟨d1,d2⟩:=kL (k:=k) rr3;cases ed:dget k kvs3 with
          |some v0=>
            obtain⟨v0',e1,e2⟩:=d1 v0 ed;rw[e1];rw[ed]at P5;exact Post.here R3 P5 _ e2
          |none=>
            rw[d2 ed];rw[ed]at P5;exact Post.here R3 P5 _ r3
        |_=>exact P5.elim
      |_=>exact P4.elim
    |_=>exact P2.elim
  |_=>exact P1.elim
theorem vC{o e:aw}{go gk:ME}{apos cpos:Pos}(ho:GE G X o go)(he:GE G X e gk)(mm:M1 X o "pop" apos e cpos:=by exact⟨rfl,rfl,rfl,rfl⟩) :
  GE G X (.Call (.Attribute o "pop" apos) [e] [] cpos) (nu go gk):=λE EX=>dC (E1 (X:=X.wish E) (ho E EX) (he E EX) ⟨mm.base,mm.few,mm.line,mm.trees⟩) λσ' H Q e0=>bK e0 λm h σ ex S R P=>
 sub ex S R P λv m1 h1 H1 v' x1 R1 r1 P1=>by
  cases v with
  |ref n=>
    obtain⟨aa,ea,rfl⟩:=r1;obtain⟨ob,eo,qo,P2⟩:=cb R1 ea P1;cases ob with
    |dct kvs=>
      obtain⟨ws,rr,z⟩:=qo;refine⟨aa,rfl,.inl ⟨ws,.inl z⟩,sub ex (S.mono x1) R1 P2 λy m2 h2 H2 y' x2 R2 r2 P3=>?_⟩;cases y with
      |str k=>
        cases(show y'=V.str k from r2);have ea2:=x2.get ea;obtain⟨ob3,eo3,qo3,P5⟩:=cb R2 ea2 P3;cases ob3 with
        |dct kvs3=>
          obtain⟨ws3,rr3,z3⟩:=qo3;obtain⟨d1,d2⟩:=kL (k:=k) rr3;dsimp only at P5;cases ed:dget k kvs3 with
          |some v0=>
            obtain⟨v0',e1,e2⟩:=d1 v0 ed;rw[ed]at P5;dsimp only at P5;refine⟨ws3,Sum.inr k,v0',z3,rfl,e1,?_⟩;have P6:=n9 R2 ea2 P5;have x3:Ext m2 H2 m2 (upd H2 aa (.dK (jb ws3 (Sum.inr k)))):=Ext.upd ea2 z3;exact P6 _ _ x3 (R2.upd ea2 (λo' yy zz=>by rw[z3]at zz;cases zz) ⟨_,DR.mono x3.mn (Ja rr3),dh⟩) _ (x3.vr e2)
          |none=>rw[ed]at P5;exact P5.elim
        |_=>exact P5.elim
      |_=>exact P3.elim
    |_=>exact P2.elim
  |_=>exact P1.elim
inductive GF(G:Gb)(X:Cx):aw->FP->Prop where
 |lit {x:Str} {j:Nat} {pos:Pos}:GF G X (.Constant (.str x) j pos) (.lit x)
 |pl {e:aw} {g:ME} {pos:Pos} (he:GE G X e g):GF G X (.FormattedValue e (-1) none pos) (.pl g)
 |rp {e:aw} {g:ME} {pos:Pos} (he:GE G X e g):GF G X (.FormattedValue e 114 none pos) (.rp g)
theorem Bk{e:aw}{es:List aw}{env:Env}:evalEach (e::es) env=aG e env::evalEach es env:=rfl
theorem Ci{e:aw}{p:FP}{β:Type}{k:Option Str->M β}{Q:β->List ae->MH->Hp->Prop}(g:GF G X e p){pins:List (ae×aB)}{s:aj}(I:Inv (X.wish E) pins σ' H s)(ex:EX σ')(S:SR G m H σ σ')(R:HR G m h H)(P:Post G X E EX m H (bnd (gG p σ) k h) Q)
  {W:af->aj->Prop} (hk:∀(o:Option Str) (y:Str) (t:Tok) m1 h1 H1 s1,Ext m H m1 H1->HR G m1 h1 H1->Inv (X.wish E) pins σ' H1 s1->(∀z,o=some z->y=z)->y.length≤10002->Post G X E EX m1 H1 (k o h1) Q->W (.str y t) s1) :
  aq (av X.prog X.w) X.A (aG e X.env) W E s:=by
 cases g with
 |@lit x j pos=>
   have P':Post G X E EX m H (bnd (if x.length≤1000 then ret (some x) else stk) k h) Q:=P;split at P'
   ·rename_i hz;refine thn (xn (X:=X.wish E) (x:=x) (j:=j) (pos:=pos) pins s σ' H (λv H1=>v=.str x/\H1=H) I ⟨rfl,rfl⟩) λu s1 ⟨v,H1,I1,r,e1,e2⟩=>?_;subst e1;subst e2;obtain⟨t,rfl⟩:=r;exact hk (some x) x t m h H1 s1 .refl R I1 (λz e=>by injection e) (by lia) P'
   ·exact P'.elim
 |@pl e g pos he=>
   refine wpAny_FormattedValue_plain (thn (he E EX pins s σ' H (λv' H1=>∃v m1 h1,Ext m H m1 H1/\HR G m1 h1 H1/\VR G m1 H1 v v'/\Post G X E EX m1 H1 (bnd ((λv=>match v with
     |.str s=>if s.length≤10000 then ret (some s) else stk
     |.int i=>if i.natAbs.log2<100 then ret (some (aA (toString i))) else stk
     | _=>stk:MV->M (Option Str)) v) k h1) Q) I (sub ex S R (k:=λv=>bnd ((λv=>match v with
     |.str s=>if s.length≤10000 then ret (some s) else stk
     |.int i=>if i.natAbs.log2<100 then ret (some (aA (toString i))) else stk
     | _=>stk:MV->M (Option Str)) v) k) (by
       have P':Post G X E EX m H (bnd (bnd (g σ) (λv=>match v with
        |.str s=>if s.length≤10000 then ret (some s) else stk
        |.int i=>if i.natAbs.log2<100 then ret (some (aA (toString i))) else stk
        | _=>stk:MV->M (Option Str))) k h) Q:=P
       rw [jm] at P';exact P') λv m1 h1 H1 v' x1 R1 r1 P1=>⟨v,m1,h1,x1,R1,r1,P1⟩)) λu s1 ⟨v',H1,I1,ru,v,m1,h1,x1,R1,r1,P1⟩=>?_)
   cases v with
   |str y=>
     cases(show v'=V.str y from r1);obtain⟨t,rfl⟩:=ru;dsimp only at P1
     split at P1
     ·rename_i hz;exact formatField_str (λt' tk=>hk (some y) y t' m1 h1 H1 _ x1 R1 (I1.tok _) (λz e=>by injection e) (by lia) P1) (cB hz (by decide))
     ·exact P1.elim
   |int i=>
     cases(show v'=V.int i from r1);obtain⟨t,rfl⟩:=ru;dsimp only at P1
     split at P1
     ·rename_i hz;refine wpAny_formatField_int (by lia) ?_;refine hk (some (aA (toString i))) _ _ m1 h1 H1 _ x1 R1 (I1.tok _) (λz e=>by injection e) ?_ P1;have:=int_text_len_1921 (i:=i) (by lia)
      lia
     ·exact P1.elim
   |_=>exact P1.elim
 |@rp e g pos he=>
   refine wpAny_FormattedValue_repr (thn (he E EX pins s σ' H (λv' H1=>∃v m1 h1,Ext m H m1 H1/\HR G m1 h1 H1/\VR G m1 H1 v v'/\Post G X E EX m1 H1 (bnd ((λv=>match v with
     |.str s=>if d9 s=true then ret none else stk
     | _=>stk:MV->M (Option Str)) v) k h1) Q) I (sub ex S R (k:=λv=>bnd ((λv=>match v with
     |.str s=>if d9 s=true then ret none else stk
     | _=>stk:MV->M (Option Str)) v) k) (by
       have P':Post G X E EX m H (bnd (bnd (g σ) (λv=>match v with
        |.str s=>if d9 s=true then ret none else stk
        | _=>stk:MV->M (Option Str))) k h) Q:=P
       rw [jm] at P';exact P') λv m1 h1 H1 v' x1 R1 r1 P1=>⟨v,m1,h1,x1,R1,r1,P1⟩)) λu s1 ⟨v',H1,I1,ru,v,m1,h1,x1,R1,r1,P1⟩=>?_)
   cases v with
   |str y=>
     cases(show v'=V.str y from r1);obtain⟨t,rfl⟩:=ru;dsimp only at P1
     split at P1
     ·rename_i hz;unfold d9 at hz;rw[d7,decide_eq_true_eq,iS]at hz;have hl:=PySem.StrLaws.reprText_len y (λc hc=>by simpa using hz.2 c hc);refine pyReprObj_str ?_ (cB (show(reprText y).length≤10002 by lia) (by decide));exact formatField_str (λt' tk=>hk none (reprText y) t' m1 h1 H1 _ x1 R1 (I1.tok _) (λz e=>nomatch e) (by lia) P1) (cB (show(reprText y).length≤10002 by lia) (by decide))
     ·exact P1.elim
   |_=>exact P1.elim
theorem yd{pins:List (ae×aB)}{W:Str->aj->Prop}:∀{es:List aw}{ps:List FP},Paired (GF G X) es ps->∀{β:Type}{k:List (Option Str)->M β}{Q:β->List ae->MH->Hp->Prop}{s:aj}{m:List ae}{h:MH}{H:Hp} (acc:Str) (n:Nat) (oa:Option Str),
  Inv (X.wish E) pins σ' H s->EX σ'->SR G m H σ σ'->HR G m h H->Post G X E EX m H (bnd (fA ps σ) k h) Q->acc.length≤10002*n->n+ps.length≤100->(∀z,oa=some z->acc=z) ->
  (∀(xs:List (Option Str)) (out:Str) m1 h1 H1 s1,Ext m H m1 H1->HR G m1 h1 H1->Inv (X.wish E) pins σ' H1 s1->(∀z a,oa=some a->iY a xs=some z->out=z)->out.length≤aV->Post G X E EX m1 H1 (k xs h1) Q->W out s1) ->
  Joins (av X.prog X.w) X.A E (evalEach es X.env) acc W s
 |_,_,.nil,β,k,Q,s,m,h,H,acc,n,oa,I,ex,S,R,P,hl,hn,ho,hk=>by
   refine hk [] acc m h H s .refl R I (λz a e1 e2=>?_) (cB hl (cB (Nat.mul_le_mul_left _ (show n≤100 by simp at hn;lia)) (by decide))) P;have:=ho a e1;simp only[iY,Option.some.injEq]at e2;rw[this,e2]
 |_,_,.cons (a:=e) (b:=p) (l₁:=es) (l₂:=ps) g tt,β,k,Q,s,m,h,H,acc,n,oa,I,ex,S,R,P,hl,hn,ho,hk=>by
   rw[Bk];have P':Post G X E EX m H (bnd (gG p σ) (λx=>bnd (fA ps σ) λxs=>k (x::xs)) h) Q:=by
    have P0:Post G X E EX m H (bnd (bnd (gG p σ) λx=>bnd (fA ps σ) λxs=>ret (x::xs)) k h) Q:=P;rw[jm]at P0;have e0:(λx=>bnd (bnd (fA ps σ) λxs=>ret (x::xs)) k)=λx=>bnd (fA ps σ) λxs=>k (x::xs):=by
     funext x;rw[jm];rfl
    rw[e0]at P0;exact P0
   refine Ci g I ex S R P' λo y t m1 h1 H1 s1 x1 R1 I1 ho1 hy P1=>?_;have hla:(acc++y).length≤10002*(n+1):=by rw[strLen_append];lia
   refine⟨y,t,rfl,cB hla (cB (Nat.mul_le_mul_left _ (show n+1≤100 by simp at hn;lia)) (by decide)),?_⟩;refine yd tt (acc++y) (n+1) (match oa,o with|some a,some z=>some (a++z)|_,_=>none) I1 ex (S.mono x1) R1 P1 hla (by simp at hn;lia) (λz e=>?_) λxs out m2 h2 H2 s2 x2 R2 I2 hg hz P2=>?_
   ·cases oa with
    |none=>cases e
    |some a=>cases o with
      |none=>cases e
      |some z0=>injection e with e;rw[←e,ho a rfl,ho1 z0 rfl]
   ·refine hk (o::xs) out m2 h2 H2 s2 (x1.trans x2) R2 I2 (λz a e1 e2=>?_) hz P2;subst e1;cases o with
    |none=>simp[iY]at e2
    |some z0=>exact hg z (a++z0) rfl (by simpa[iY] using e2)
theorem nv{e1 e2:aw}{es:List aw}{ps:List FP}{pos:Pos}(hp:Paired (GF G X) (e1::e2::es) ps):GE G X (.JoinedStr (e1::e2::es) pos) (gr ps):=λE EX pins s σ' H Q I e0=>bK e0 λm h σ ex S R P=>by
 unfold gr at P;split at P
 ·rename_i hn;refine wpAny_JoinedStr (yd hp Str.empty 0 (some Str.empty) I ex S R P (by decide) (by lia) (λz e=>by injection e) λxs out m1 h1 H1 s1 x1 R1 I1 hg hz P1=>⟨hz,.str out,H1,I1.tok _,⟨_,rfl⟩,?_⟩);cases eg:iY Str.empty xs with
  |some z=>
    rw[eg]at P1;rw[hg z _ rfl eg];exact Post.here R1 P1 _ rfl
  |none=>
    rw[eg]at P1;exact Post.here R1 P1 _ trivial
 ·exact P.elim
end L2.Rv
namespace L2.Rv
noncomputable section
open PySem (Str)
noncomputable def fh(h:MH)(w:PySem.PyData):List MV->Option Nat
 |[]=>none
 |y::r=>match dat h 6 y with
   | some d=>if PySem.SeqAt.shaped d=true then (if PySem.PyData.eqv d w=true then some 0 else (match fh h w r with
     |some j=>some (j+1)
     | none=>none)) else none
   |none=>none
noncomputable def mi(n:Nat)(v:MV):M Nat:=λh=>match h[n]? with
 | some (.lst ys)=>(match dat h 6 v with
   | some d=>if PySem.SeqAt.shaped d=true then (match fh h d ys with
     |some j=>.ok j h
     | none=>.stuck) else .stuck
   | none=>.stuck)
 |_=>.stuck
noncomputable def mH(o e:ME)(f:Nat->MV->M MV):ME:=λσ=>bnd (o σ) λx=>match x with
 |.ref n=>bnd (look n) λob=>match ob with
   |.lst _=>bnd (e σ) λv=>f n v
   |_=>stk
 |_=>stk
noncomputable def nE(n:Nat)(v:MV):M MV:=bnd (mi n v) λj=>ret (.int j)
noncomputable def yB(o e:ME):ME:=mH o e nE
end
end L2.Rv
namespace L2.Rv
open PySem PySem.Spec PyProof.Rows
variable {G:Gb}{m m' m1 m2:List ae}{h h' h1 h2:MH}{H H' H1 H2:Hp}{X:Cx}{E:af->aj->Prop}{EX:St->Prop}{σ:MSt}{σ':St}
theorem u70{k:Nat}{A:aX}(r:Room k A):A.units+70<cLine:=by have:=r.un;lia
section
open PySem.SeqAt PySem.MeetsSeq
open PySem.AutoSeq1 (wpAny_loadPart')
noncomputable abbrev j0(ys:Array af)(c:Nat):aB:={ cls:=.type "list",dict:=none,data:=.seq ys c,slots:=#[] }
theorem GG(a:ae)(ys:Array af)(c:Nat)(q:af)(b:Nat->Bool)(to:Int)(p:Nat)(hp:p<ys.size)(hto:(p:Int)<to)(yes:b p=true)(d:Nat) :
  ∀t:Nat,p-t=d->t≤p->(∀k,k<ys.size->t≤k->k<p->b k=false)->Meets (Builtin.«list.index.loop» ⟨[.ref a,q,cE t,cE to],[]⟩)
   (λA R s=>s.heap.get? a=some (j0 ys c)/\(∀k (hk:k<ys.size),k≤p->EqAt A.in1 s ys[k] q (b k))/\R (.ok (.ret (.int p s.toks))) { s with toks:=s.toks+1 }):=by
 induction d with
 |zero=>
   intro t e1 e2 no prog w A R s z;obtain⟨hh,gg,dd,tt,oo⟩:=s;obtain⟨ga,eq,fin⟩:=z;obtain rfl:t=p:=by lia
   wp_walk using wpAny_loadPart' ga
   have at':(if(t:Int)<to then ys[((t:Nat):Int).toNat]? else none)=some ys[t]:=by simp[hto,hp]
   rw[at'];refine ak (eq t hp (aU _) prog w _ _ ?_);rw[yes]
   wp_walk
   exact fin
 |succ d ih=>
   intro t e1 e2 no prog w A R s z;obtain⟨hh,gg,dd,tt,oo⟩:=s;obtain⟨ga,eq,fin⟩:=z;have ht:t<ys.size:=by lia
   have ht2:(t:Int)<to:=by lia
   wp_walk using wpAny_loadPart' ga
   have at':(if(t:Int)<to then ys[((t:Nat):Int).toNat]? else none)=some ys[t]:=by simp[ht2,ht]
   have up:((t:Int)+1)=((t+1:Nat):Int):=by push_cast;rfl
   rw[at'];refine ak (eq t ht (by lia) prog w _ _ ?_);rw[no t ht (aU _) (by lia)]
   wp_walk
   rw [up];exact ⟨plainId_quiet plain_index_loop _,codeAny_builtin entry_index_loop (by
    rw [Around.under_plainId plain_index_loop _];exact ih (t + 1) (by lia) (by lia) (λk k1 k2 k3=>no k k1 (by lia) k3) prog w A R _ ⟨ga,eq,fin⟩)⟩
theorem DU(a:ae)(ys:Array af)(c:Nat)(q:af)(b:Nat->Bool)(p:Nat)(hp:p<ys.size)(yes:b p=true)(no:∀k,k<ys.size->k<p->b k=false)(hto:(p:Int)<2 ^ 63-1) :
  Meets (Builtin.«list.index» ⟨[.ref a,q],[]⟩)
   (λA R s=>s.heap.get? a=some (j0 ys c)/\(∀k (hk:k<ys.size),k≤p->EqAt A.in1 s ys[k] q (b k))/\R (.ok (.ret (.int p s.toks))) { s with toks:=s.toks+1 }):=by
 intro prog w A R s z;obtain⟨hh,gg,dd,tt,oo⟩:=s;obtain⟨ga,eq,fin⟩:=z
 wp_walk using wpAny_loadPart' ga
 have lo:((λi:Int=>if i<0 then max 0 (i+(ys.size:Int)) else i) ((none:Option Int).getD 0))=((0:Nat):Int):=by simp
 have hi:((λi:Int=>if i<0 then max 0 (i+(ys.size:Int)) else i) ((none:Option Int).getD (2 ^ 63-1)))=2 ^ 63-1:=by simp
 rw [lo,hi];exact ⟨plainId_quiet plain_index_loop _,codeAny_builtin entry_index_loop (by
  rw [Around.under_plainId plain_index_loop _];exact GG a ys c q b (2 ^ 63 - 1) p hp hto yes _ 0 rfl (fg _) (λk k1 _ k3=>no k k1 k3) prog w A R _ ⟨ga,eq,fin⟩)⟩
end
theorem yS{pins:List (ae×aB)}{s:aj}{σ2:St}(I:Inv X pins σ2 H s)(R:HR G m h H){A:aX}(hu:A.units+64<cLine){w:MV}{w':V}{u:af}{d:PyData}(rw':VR G m H w w')(ru:aN w' u)(dw:dat h 6 w=some d)(sw:SeqAt.shaped d=true) :
  ∀{ys:List MV}{ws:List V}{us:List af}{j:Nat},VRs G m H ys ws->Vals ws us->fh h d ys=some j->∃b:Nat->Bool,j<us.length/\b j=true/\(∀i,i<j->b i=false)/\∀i v,i≤j->us[i]?=some v->SeqAt.EqAt A s v u (b i)
 |[],_,_,j,.nil,.nil,e=>by cases e
 |y::ys,_,_,j,.cons r t,.cons q tt,e=>by
   obtain⟨bs,r2⟩:=kD I R 6 w w' u d rw' ru dw;unfold fh at e;cases ey:dat h 6 y with
   |none=>rw[ey]at e;cases e
   |some dy=>
     rw[ey]at e;dsimp only at e;obtain⟨as,r1⟩:=kD I R 6 y _ _ dy r q ey;split at e
     case isFalse=>cases e
     case isTrue sy=>
      have EQ:∀v,_=v->SeqAt.EqAt A s v u (PyData.eqv dy d):=λv ev=>ev▸SeqAt.eqAt_reads dy d A s _ u as bs r1 r2 (SeqAt.canLay_of_shaped sy) (SeqAt.canLay_of_shaped sw) (SeqAt.room_of_shaped sy hu);split at e
      ·rename_i ht;cases e;refine⟨λ_=>true,by simp,rfl,λi hi=>absurd hi (oX _),λi v hi ev=>?_⟩
       obtain rfl:i=0:=by lia
       have:=EQ v (by simpa using ev);rw[ht]at this;exact this
      ·rename_i ht;cases ef:fh h d ys with
       |none=>rw[ef]at e;cases e
       |some j'=>
         rw [ef] at e;cases e;obtain ⟨b,b1,b2,b3,b4⟩:=yS I R hu rw' ru dw sw t tt ef;refine ⟨λi=>match i with
          |0=>false
          | i + 1=>b i,by simpa using b1,b2,λi hi=>?_,λi v hi ev=>?_⟩
         ·cases i with
          |zero=>rfl
          |succ i=>exact b3 i (by lia)
         ·cases i with
          |zero=>
            have:=EQ v (by simpa using ev);rw[Bool.eq_false_iff.mpr ht]at this;exact this
          |succ i=>exact b4 i v (by lia) (by simpa using ev)
def HW(K:ae->List V->Nat->Prop)(x:V)(vs:List V)(H:Hp):Prop:=∃(G:Gb) (m:List ae) (h:MH) (l:ae) (ys:List MV) (ws:List V) (w:MV) (w':V) (d:PyData) (j:Nat),x=.ref l/\vs=[w']/\HR G m h H/\H l=some (.lst ws)/\VRs G m H ys ws/\VR G m H w w'/\dat h 6 w=some d/\SeqAt.shaped d=true/\fh h d ys=some j/\K l ws j
def yI:V->List V->Hp->VK->Prop:=λx vs H Q=>HW (λ_ _ j=>Q (.int j) H) x vs H
theorem Fv(hu:X.A.units+70<cLine):MtM X "list.index" yI:=by
 rintro pins s σ H x vs v us Q I rx rv ⟨G,m,h,l,ys,ws,w,w',d,j,e1,e2,R,hH,r1,r2,dw,sw,fj,q⟩;subst e1;subst e2;cases rx;obtain⟨u,rfl,ru⟩:=rv.one;obtain⟨z,its,n,r,hl,e⟩:=I.lstM hH;obtain⟨b,lj,bj,bn,be⟩:=yS (A:=X.A.in1) I R (by show X.A.units+1+64<cLine;lia) r2 ru dw sw r1 r fj
 have hsz:(j:Int)<2 ^ 63-1:=by
  have:aV≤2 ^ 62:=by decide
  lia
 refine call_meets F.slot_list_index ⟨_,e,rfl⟩ F.entry_list_index (F.args_list_index_2 _ _) (DU l its.toArray n u b j (by simpa using lj) bj (λi _ hi=>bn i hi) hsz) ⟨e,λi hi hij=>be i _ hij ?_,?_⟩
 ·rw[bM];exact⟨by simpa using hi,by simp⟩
 ·exact⟨.int j,H,I.tok _,⟨_,rfl⟩,q⟩
def VOL(G:Gb)(f:Nat->MV->M MV)(r:V->List V->Hp->VK->Prop):Prop:=∀(X:Cx) (E:af->aj->Prop) (EX:St->Prop) (m:List ae) (h:MH) (H:Hp) (n:Nat) (aa:ae) (w:MV) (w':V) (Q:VK),HR G m h H->m[n]?=some aa->VR G m H w w' ->
 Post G X E EX m H (f n w h) (λv m' _ H'=>∀v',VR G m' H' v v'->Q v' H')->r (.ref aa) [w'] H Q
theorem Bz{β:Type}{n:Nat}{aa:ae}{v:MV}{k:Nat->M β}{Q:β->List ae->MH->Hp->Prop}(R:HR G m h H)(ea:m[n]?=some aa)(P:Post G X E EX m H (bnd (mi n v) k h) Q) :
  ∃ys ws d j,VRs G m H ys ws/\h[n]?=some (.lst ys)/\H aa=some (.lst ws)/\dat h 6 v=some d/\SeqAt.shaped d=true/\fh h d ys=some j/\Post G X E EX m H (k j h) Q:=by
 obtain⟨o,eo,qo⟩:=R.get ea;unfold bnd mi at P;rw[eo]at P;cases o with
 |lst ys=>
   obtain⟨ws,r,z⟩:=qo;dsimp only at P;cases ed:dat h 6 v with
   |none=>rw[ed]at P;exact P.elim
   |some d=>
     rw[ed]at P;dsimp only at P;by_cases c:SeqAt.shaped d=true
     ·rw[if_pos c]at P;cases ej:fh h d ys with
      |none=>rw[ej]at P;exact P.elim
      |some j=>rw[ej]at P;exact⟨ys,ws,d,j,r,eo,z,rfl,c,ej,P⟩
     ·rw[if_neg c]at P;exact P.elim
 |_=>exact P.elim
theorem G9:VOL G nE yI:=by
 intro X E EX m h H n aa w w' Q R ea rw' P;obtain⟨ys,ws,d,j,r,en,z,dw,sw,fj,P1⟩:=Bz R ea P;exact⟨G,m,h,aa,ys,ws,w,w',d,j,rfl,rfl,R,z,r,rw',dw,sw,fj,Post.here R P1 _ rfl⟩
section
variable {o e f:aw}{go ge gf:ME}{apos cpos:Pos}
theorem HB{mn id:String}{g:Nat->MV->M MV}{r:V->List V->Hp->VK->Prop}(slot:Slot "list" (aA mn) id)(ty:typeOf (.builtin id)=pure (.type "method_descriptor"))(mt:∀E,MtM (X.wish E) id r)(vo:VOL G g r)(ho:GE G X o go)(he:GE G X e ge)
  (hbase:attributeBase o (aA mn) X.env (aG o X.env)=aG o X.env:=by rfl)
  (hfew:((cL cpos (aJ [e] X.env)).all (λx=>!x.1) && (backToKw cpos (keywordEach [] X.env)).all (λx=>x.1.isSome)
   && decide ([e].length + ([]:List Keyword).length + (if ([]:List Keyword).isEmpty then 0 else 1) < 30))=true:=by rfl)
  (hline:(apos.endLine == cpos.line)=true:=by rfl) (hs:aJ [e] X.env=[(false,aG e X.env)]:=by rfl):GE G X (.Call (.Attribute o (aA mn) apos) [e] [] cpos) (mH go ge g):=λE EX=>
 dC (uN (X:=X.wish E) PySem.F.plainAttrs_list slot ty (mt E) (ho E EX) (he.a1 hs E EX) hbase hfew hline hs rfl) λσ' H Q e0=>bK e0 λm h σ ex S R P=>
  sub ex S R P λv m1 h1 H1 v' x1 R1 r1 P1=>by
   cases v with
   |ref n=>
     obtain⟨aa,ea,rfl⟩:=r1;obtain⟨ob,eo,qo,P2⟩:=cb R1 ea P1;cases ob with
     |lst xs=>
       obtain⟨vs,rr,z⟩:=qo;exact⟨.inl ⟨rfl,vs,SqL.of z⟩,sub ex (S.mono x1) R1 P2 λw m2 h2 H2 w' x2 R2 r2 P3=>vo _ _ _ _ _ _ _ _ _ _ _ R2 (x2.get ea) r2 P3⟩
     |_=>exact P2.elim
   |_=>exact P1.elim
end
def VO2(G:Gb)(f:Op2)(r:List V->Hp->VK->Prop):Prop:=∀(X:Cx) (E:af->aj->Prop) (EX:St->Prop) (m:List ae) (h:MH) (H:Hp) (x y:MV) (x' y':V) (Q:VK),HR G m h H->VR G m H x x'->VR G m H y y' ->
 Post G X E EX m H (f x y h) (λv m' _ H'=>∀v',VR G m' H' v v'->Q v' H')->r [x',y'] H Q
section
variable {a b:aw}{ga gb:ME}{x:Str}{p pos:Pos}{id:String}{f:Op2}{r:List V->Hp->VK->Prop}
theorem vM(hc:∀E,dR (X.wish E) (.builtin id) r)(vo:VO2 G f r)(ha:GE G X a ga)(hb:GE G X b gb)(hm:X.mg x=none)(hv:bootBuiltins x=some (.builtin id))(hg:Gl X x:=by rfl)(hn:x≠"__name__":=by decide)(hdb:(x == ("__debug__":Str))=false:=by decide)
  (hs:aJ [a,b] X.env=[(false,aG a X.env),(false,aG b X.env)]:=by rfl) (hs2:aJ [b] X.env=[(false,aG b X.env)]:=by rfl):GE G X (.Call (.Name x p) [a,b] [] pos) (aC f ga gb):=λE EX=>
 dC (sC (X:=X.wish E) (hc E) hg hm hv (fH (X:=X.wish E) (ha E EX) (hb.a1 hs2 E EX) (by show aJ [a,b] X.env=(false,aG a X.env)::aJ [b] X.env;rw[hs,hs2])) hn hdb (by show aJ [a,b] X.env=(false,aG a X.env)::aJ [b] X.env;rw[hs,hs2]) (by show(cL pos (aJ [b] X.env)).any (·.1)=false;rw[hs2];rfl)) λσ' H Q e0=>bK e0 λm h σ ex S R P=>
  sub ex S R P λv m1 h1 H1 v' x1 R1 r1 P1=>sub ex (S.mono x1) R1 P1 λw m2 h2 H2 w' x2 R2 r2 P2=>vo _ _ _ _ _ _ _ _ _ _ _ R2 (x2.vr r1) r2 P2
end
def v7:List V->Hp->VK->Prop:=λxs H Q=>∃i j,xs=[.int i,.int j]/\Q (.int (if j<i then j else i)) H
def zj:List V->Hp->VK->Prop:=λxs H Q=>∃i j,xs=[.int i,.int j]/\Q (.int (if i<j then j else i)) H
theorem Gy(hd:X.A.handled=none):dR X (.builtin "min") v7:=by
 rintro pins s σ H xs us Q I r ⟨i,j,e,q⟩;subst e;obtain⟨u,w',rfl,⟨t,rfl⟩,⟨t',rfl⟩⟩:=vals2 r;refine min_two_ints hd λh' tk k=>⟨_,H,I.kept k,?_,q⟩
 by_cases hj:j<i
 ·rw[if_pos hj,if_pos hj];exact⟨_,rfl⟩
 ·rw[if_neg hj,if_neg hj];exact⟨_,rfl⟩
theorem EI(hd:X.A.handled=none):dR X (.builtin "max") zj:=by
 rintro pins s σ H xs us Q I r ⟨i,j,e,q⟩;subst e;obtain⟨u,w',rfl,⟨t,rfl⟩,⟨t',rfl⟩⟩:=vals2 r;refine max_two_ints hd λh' tk k=>⟨_,H,I.kept k,?_,q⟩
 by_cases hj:j>i
 ·rw[if_pos hj,if_pos hj];exact⟨_,rfl⟩
 ·rw[if_neg hj,if_neg hj];exact⟨_,rfl⟩
theorem Gp:VO2 G sE v7:=by
 intro X E EX m h H x y x' y' Q R rx ry P;cases x with
 |int i=>cases y with
   |int j=>
     cases(show x'=V.int i from rx);cases(show y'=V.int j from ry);exact⟨i,j,rfl,Post.here R P _ rfl⟩
   |_=>exact P.elim
 |_=>exact P.elim
theorem DW:VO2 G ui zj:=by
 intro X E EX m h H x y x' y' Q R rx ry P;cases x with
 |int i=>cases y with
   |int j=>
     cases(show x'=V.int i from rx);cases(show y'=V.int j from ry);exact⟨i,j,rfl,Post.here R P _ rfl⟩
   |_=>exact P.elim
 |_=>exact P.elim
theorem xa:∀{xs:List MV}{is:List Int}{vs:List V},iF xs=some is->VRs G m H xs vs->vs=is.map V.int
 |[],is,vs,e,q=>by cases e;cases q;rfl
 |x::xs,is,vs,e,q=>by
   cases x <;> first|cases e|skip
   rename_i y;cases er:iF xs with
   |none=>simp[iF,er]at e
   |some ks=>
     simp only[iF,er,Option.some.injEq]at e;subst e;cases q with
     |@cons _ v' _ vs' q1 q2=>rw[show v'=V.int y from q1,xa er q2];rfl
theorem wU:∀{is:List Int}{us:List af},Vals (is.map V.int) us->∃xs:List (Int×Tok),us.toArray=intItems xs.toArray/\xs.map (·.1)=is
 |[],_,.nil=>⟨[],by simp[intItems],rfl⟩
 |i::is,_,.cons q t=>by
   obtain⟨t0,rfl⟩:=(show ∃t,_=Value.int i t from q);obtain⟨xs,e1,e2⟩:=wU t;refine⟨(i,t0)::xs,?_,by simp[e2]⟩;have e3:∀(l:List af),(Value.int i t0::l).toArray=#[Value.int i t0]++l.toArray:=λl=>by simp
   rw[e3,e1];simp[intItems]
theorem wP{f:Nat->Int}:∀(k:Nat),f (argBest (λi j=>decide (f i<f j)) k)=eZ (f 0) ((cK k).map λi=>f (i+1))
 |0=>rfl
 |k+1=>by
   have app:∀(l:List Int) (a b:Int),eZ a (l++[b])=if b<eZ a l then b else eZ a l:=by
    intro l
    induction l with
    |nil=>intro a b;rfl
    |cons c l ih=>intro a b;exact ih _ _
   rw[uI,jQ,bD,gq,app,←wP k];show f (if decide (f (k+1)<f (argBest (λi j=>decide (f i<f j)) k))=true then k+1 else argBest (λi j=>decide (f i<f j)) k)=_;by_cases c:f (k+1)<f (argBest (λi j=>decide (f i<f j)) k)
   ·rw[if_pos (by simpa using c),if_pos c]
   ·rw[if_neg (by simpa using c),if_neg c]
def yG:List V->Hp->VK->Prop:=λvs H Q=>∃(l:ae) (i:Int) (is:List Int),vs=[.ref l]/\H l=some (.lst ((i::is).map V.int))/\Q (.int (eZ i is)) H
theorem Ij(hd:X.A.handled=none):dR X (.builtin "min") yG:=by
 rintro pins s σ H vs us Q I r ⟨l,i,is,e,hH,q⟩;subst e;obtain⟨u,rfl,ru⟩:=vals1 r;cases ru;obtain⟨z,its,n,rr,hl,e⟩:=I.lstM hH;obtain⟨xs,e1,e2⟩:=wU rr;have sz:xs.length=is.length+1:=by have:=congrArg o9 e2;simpa using this
 rw[e1]at e;refine min_intList (xs:=xs.toArray) hd ⟨_,e,rfl,n,rfl⟩ (by simp;lia) λv hp tk ev kk=>?_;obtain⟨t,rfl⟩:=intItems_at ev;have na:∀k,k<is.length+1->numAt xs.toArray k=(i::is).getD k 0:=λk hk=>by
  rw[←e2];unfold numAt;simp[List.getD]
 have em:eZ (numAt xs.toArray 0) ((cK (xs.toArray.size-1)).map λk=>numAt xs.toArray (k+1))=eZ i is:=by
  have a0:numAt xs.toArray 0=i:=by rw[na 0 (by lia)];rfl
  have a1:(cK (xs.toArray.size-1)).map (λk=>numAt xs.toArray (k+1))=is:=by
   apply j6;intro k;by_cases hk:k<is.length
   ·rw[bZ,iB (by simp;lia)];simp only[Option.map_some];rw[na (k+1) (by lia)];simp[hk]
   ·rw[nQ (by simp;lia),nQ (by lia)]
  rw[a0,a1]
 have bst:=wP (f:=numAt xs.toArray) (xs.toArray.size-1);exact⟨.int (eZ i is),H,I.kept kk,⟨t,by rw[bst,em]⟩,q⟩
theorem CQ:VO1 G q9 yG:=by
 intro X E EX m h H x x' Q R rx P;cases x with
 |ref a=>
   obtain⟨aa,ea,rfl⟩:=rx;obtain⟨o,eo,qo,P1⟩:=cb R ea P;cases o with
   |lst xs=>
     obtain⟨vs,r,z⟩:=qo;dsimp only at P1;cases ei:iF xs with
     |none=>rw[ei]at P1;exact P1.elim
     |some is=>
       rw[ei]at P1;cases is with
       |nil=>exact P1.elim
       |cons i is=>
         dsimp only at P1;split at P1
         ·have:=xa ei r;subst this;exact⟨aa,i,is,rfl,z,Post.here R P1 _ rfl⟩
         ·exact P1.elim
   |_=>exact P1.elim
 |_=>exact P.elim
section
variable {a b c:aw}{ga gb gc:ME}{f g:Op2}{r r':R2}{pos:Pos}
end
theorem ba.two{c d:Nat}{f:String}(a:Cls G.K (G.cl c))(b:cZ G.K (G.cl c) (aA f))(a':Cls G.K (G.cl d))(b':cZ G.K (G.cl d) (aA f)):ba G [c,d] f:=λc' q=>by
 rcases bu.mp q with z|z
 ·subst z;exact⟨a,b⟩
 ·cases dF.mp z;exact⟨a',b'⟩
end L2.Rv
namespace L2.Rv
open PySem PySem.Spec PyProof.Rows
noncomputable abbrev kY(u:af)(f:Bool)(P O:ae):aB:={ cls:=.type "zip",dict:=none,data:=.fields #[u,.bool f,.bool false,.ref P,.ref O],slots:=#[] }
section
variable {prog:bi}{w:aQ}{A:aX}{E:af->aj->Prop}{s:aj}{zo P O T j1 j2 l1 l2:ae}{k1 k2:Nat}{xs ys:Array af}{x y:af}{f:Bool}{oT:aB}
theorem zY{Q:Bool->aj->Prop}(gz:s.heap.get? zo=some (kY (cE T) f P O))(gT:s.heap.get? T=some oT)
  (fin:∀hp,hp.get? zo=some (kY (cE T) true P O)->jR zo s.heap hp->Q false { s with heap:=hp }):aq (av prog w) A (Builtin.SmallTypes.ownedTupleIsFree (.ref zo)) Q E s:=by
 unfold Builtin.SmallTypes.ownedTupleIsFree;refine ak (cX gz rfl (x:=cE T) rfl ?_);show aq _ _ (loadIfAlive ((T:Int).toNat) >>= _) _ E s;rw[t6];refine ak (PySem.W.kdx_alive gT ?_);simp only[Option.isNone_some,c9,if_false];refine ak (cX gz rfl (x:=.bool f) rfl ?_);cases f with
 |true=>
   have nb:¬((Value.bool true != Value.bool true)=true):=bW;rw[if_neg nb];exact aL (fin s.heap gz (Heap.SameBut.refl _ _))
 |false=>
   have yb:(Value.bool false != Value.bool true)=true:=rfl;rw[if_pos yb];refine ak (wpAny_setField_rec gz (by simp) λh1 g1 s1=>?_);exact aL (fin h1 g1 s1)
theorem HK{Q:af->aj->Prop}(D:ZipApart zo P O j1 j2 l1 l2)(gz:s.heap.get? zo=some (kY (cE T) f P O))(gT:s.heap.get? T=some oT)(gP:IsPair s.heap P (.ref j1) (.ref j2))
  (g1:s.heap.IsListIter j1 l1 k1) (g2:s.heap.IsListIter j2 l2 k2) (q1:s.heap.IsList l1 xs) (q2:s.heap.IsList l2 ys) (ex:xs[k1]?=some x) (ey:ys[k2]?=some y)
  (fin:∀hp,hp.get? zo=some (kY (cE T) true P O)->hp.IsListIter j1 l1 (k1+1)->hp.IsListIter j2 l2 (k2+1)->IsPair hp s.heap.objs.size x y->(∀c o,c≠zo->c≠j1->c≠j2->s.heap.get? c=some o->hp.get? c=some o)->Q (.ref s.heap.objs.size) { s with heap:=hp }) :
  aq (av prog w) A (Builtin.«zip.__next__» ⟨[.ref zo],[]⟩) (λr s'=>∃v,r=.done (.ret v)/\Q v s') E s:=by
 show aq _ _ (field (.ref zo) 2 >>= _) _ E s;refine ak (cX gz rfl (x:=.bool false) rfl ?_);show aq _ _ (field (.ref zo) 3 >>= _) _ E s;refine ak (cX gz rfl (x:=.ref P) rfl ?_);refine ak (wpAny_seqItems gP rfl ?_);show aq _ _ (Builtin.SmallTypes.ownedTupleIsFree (.ref zo) >>= _) _ E s;refine ak (zY gz gT λh1 z1 s1=>?_);simp only[c9,if_false,uj,j7,i6];have e1:=s1.1;refine ak (ak (ak (wpAny_holding ?_)));show aq _ _ (Builtin.SmallTypes.nextOf (.ref j1) >>= _) _ E _;refine ak (wpAny_nextOf_list_item (g1.extBut s1.extBut D.i1z) (q1.extBut s1.extBut D.l1z) ex λh2 a2 s2=>aL ?_);have e2:=s2.1;refine aL ?_;refine ak (ak (wpAny_holding ?_));show aq _ _ (Builtin.SmallTypes.nextOf (.ref j2) >>= _) _ E _;refine ak (wpAny_nextOf_list_item ((g2.extBut s1.extBut D.i2z).extBut s2.extBut D.i12.symm) ((q2.extBut s1.extBut D.l2z).extBut s2.extBut D.l2i1) ey λh3 a3 s3=>aL ?_);have e3:=s3.1;refine aL ?_;refine aL ?_;show aq _ _ (newTuple [x,y] >>= _) _ E _;refine ak (wpAny_newTuple ?_);have sz:h3.objs.size=s.heap.objs.size:=by rw[e3,e2,e1]
 refine aL ⟨_,rfl,?_⟩;show Q (.ref h3.objs.size) _;have up:∀c o,c≠zo->c≠j1->c≠j2->s.heap.get? c=some o->h3.get? c=some o:=λc o c1 c2 c3 e=>s3.extBut _ _ c3 (s2.extBut _ _ c2 (s1.extBut _ _ c1 e));have new:(h3.push { cls:=.type "tuple",data:=.seq #[x,y] }).get? h3.objs.size=some { cls:=.type "tuple",data:=.seq #[x,y] }:=cT _ rfl;rw[sz]at new;rw[sz];exact fin _ (bG _ (s3.extBut _ _ D.i2z.symm (s2.extBut _ _ D.i1z.symm z1))) (((a2.extBut s3.extBut D.i12)).at λo e=>bG _ e) (a3.at λo e=>bG _ e) new λc o c1 c2 c3 e=>bG _ (up c o c1 c2 c3 e)
theorem BX{Q:Fin->aj->Prop}(hh:A.handled=none)(D:ZipApart zo P O j1 j2 l1 l2)(gz:s.heap.get? zo=some (kY (cE T) f P O))(gT:s.heap.get? T=some oT)(gP:IsPair s.heap P (.ref j1) (.ref j2))
  (g1:s.heap.IsListIter j1 l1 k1) (g2:s.heap.IsListIter j2 l2 k2) (q1:s.heap.IsList l1 xs) (q2:s.heap.IsList l2 ys) (no:xs[k1]?=none∨ys[k2]?=none)
  (fin:∀hp e,(∀c o,c≠zo->c≠j1->c≠j2->s.heap.get? c=some o->hp.get? c=some o)->(∃o,hp.get? e=some o/\o.cls=.type "StopIteration")->E (.ref e) { s with heap:=hp }) :
  aq (av prog w) A (Builtin.«zip.__next__» ⟨[.ref zo],[]⟩) Q E s:=by
 show aq _ _ (field (.ref zo) 2 >>= _) _ E s;refine ak (cX gz rfl (x:=.bool false) rfl ?_);show aq _ _ (field (.ref zo) 3 >>= _) _ E s;refine ak (cX gz rfl (x:=.ref P) rfl ?_);refine ak (wpAny_seqItems gP rfl ?_);show aq _ _ (Builtin.SmallTypes.ownedTupleIsFree (.ref zo) >>= _) _ E s;refine ak (zY gz gT λh1 z1 s1=>?_);simp only[c9,if_false,uj,j7,i6];refine ak (ak (ak (wpAny_holding ?_)));show aq _ _ (Builtin.SmallTypes.nextOf (.ref j1) >>= _) _ E _;cases ex:xs[k1]? with
 |none=>
   refine ak (wpAny_nextOf_list_end hh (g1.extBut s1.extBut D.i1z) (q1.extBut s1.extBut D.l1z) ex λh2 e s2 oe=>?_);exact fin h2 e (λc o c1 c2 c3 z=>s2 _ _ c2 (s1.extBut _ _ c1 z)) oe
 |some x0=>
   have ey:ys[k2]?=none:=by
    rcases no with z|z
    ·rw[ex]at z;cases z
    ·exact z
   refine ak (wpAny_nextOf_list_item (g1.extBut s1.extBut D.i1z) (q1.extBut s1.extBut D.l1z) ex λh2 a2 s2=>aL ?_);refine aL ?_;refine ak (ak (wpAny_holding ?_));show aq _ _ (Builtin.SmallTypes.nextOf (.ref j2) >>= _) _ E _;refine ak (wpAny_nextOf_list_end hh ((g2.extBut s1.extBut D.i2z).extBut s2.extBut D.i12.symm) ((q2.extBut s1.extBut D.l2z).extBut s2.extBut D.l2i1) ey λh3 e s3 oe=>?_);exact fin h3 e (λc o c1 c2 c3 z=>s3 _ _ c3 (s2.extBut _ _ c2 (s1.extBut _ _ c1 z))) oe
structure ZS(zo P O j1 j2 l1 l2 S:ae)(xs ys:Array af)(i:Nat)(hp:aH):Prop where
 pz:IsZip hp zo P O .none∨∃(T:ae) (f:Bool) (oT:aB),hp.get? zo=some (kY (cE T) f P O)/\hp.get? T=some oT/\T≠zo/\T≠O/\T≠j1/\T≠j2/\T≠S
 gP:IsPair hp P (.ref j1) (.ref j2)
 gO:∃a b,IsPair hp O a b
 g1:hp.IsListIter j1 l1 i
 g2:hp.IsListIter j2 l2 i
 q1:hp.IsList l1 xs
 q2:hp.IsList l2 ys
variable {S:ae}{i:Nat}
theorem ZS.item{Q:Option af->aj->Prop}(D:ZipApart zo P O j1 j2 l1 l2)(Z:ZS zo P O j1 j2 l1 l2 S xs ys i s.heap)(hS:S<s.heap.objs.size)(ex:xs[i]?=some x)(ey:ys[i]?=some y)
  (fin:∀hp,ZS zo P O j1 j2 l1 l2 S xs ys (i+1) hp->IsPair hp s.heap.objs.size x y->(∀c o,c≠zo->c≠O->c≠j1->c≠j2->s.heap.get? c=some o->hp.get? c=some o)->Q (some (.ref s.heap.objs.size)) { s with heap:=hp }):aq (av prog w) A (pyNext (.ref zo)) Q E s:=by
 obtain⟨a,b,gO⟩:=Z.gO;have lt:∀{c o},s.heap.get? c=some o->s.heap.objs.size≠c:=λe=>dB (bo e);have n1:s.heap.objs.size≠j1:=by obtain⟨_,e,_⟩:=Z.g1;exact lt e
 have n2:s.heap.objs.size≠j2:=by obtain⟨_,e,_⟩:=Z.g2;exact lt e
 rcases Z.pz with gz|⟨T,f,oT,gz,gT,t1,t2,t3,t4,t5⟩
 ·refine wpAny_pyNext_zip_item D gz Z.gP gO Z.g1 Z.g2 Z.q1 Z.q2 ex ey λhp a1 a2 a3 a4 a5 a6 kk=>?_;exact fin hp ⟨.inr ⟨_,false,_,a1,a5,lt gz,lt gO,n1,n2,dB hS⟩,kk _ _ D.TIz D.TITO D.TIi1 D.TIi2 Z.gP,⟨_,_,a2⟩,a3,a4,Z.q1.at λo e=>kk _ o D.l1z D.l1TO D.l1i1 D.l1i2 e,Z.q2.at λo e=>kk _ o D.l2z D.l2TO D.l2i1 D.l2i2 e⟩ a5 kk
 ·have ty:s.TypeIs (.ref zo) "zip":=⟨_,gz,rfl⟩
  unfold pyNext;refine ak (wpAny_attempt (wpAny_callSpecial?_slot (name:=aA "__next__") ty F.slot_zip_next (wpAny_call_entry F.slot_zip_next ty F.entry_zip_next (HK D gz gT Z.gP Z.g1 Z.g2 Z.q1 Z.q2 ex ey λhp a1 a2 a3 a4 kk=>aL ?_) (F.args_zip_next_1 _))));exact fin hp ⟨.inr ⟨T,true,oT,a1,kk _ _ t1 t3 t4 gT,t1,t2,t3,t4,t5⟩,kk _ _ D.TIz D.TIi1 D.TIi2 Z.gP,⟨a,b,kk _ _ D.TOz D.TOi1 D.TOi2 gO⟩,a2,a3,Z.q1.at λo e=>kk _ o D.l1z D.l1i1 D.l1i2 e,Z.q2.at λo e=>kk _ o D.l2z D.l2i1 D.l2i2 e⟩ a4 λc o c1 _ c3 c4 e=>kk c o c1 c3 c4 e
theorem ZS.end{Q:Option af->aj->Prop}(hh:A.handled=none)(D:ZipApart zo P O j1 j2 l1 l2)(Z:ZS zo P O j1 j2 l1 l2 S xs ys i s.heap)(no:xs[i]?=none∨ys[i]?=none)
  (fin:∀hp,(∀c o,c≠zo->c≠O->c≠j1->c≠j2->s.heap.get? c=some o->hp.get? c=some o)->Q none { s with heap:=hp }):aq (av prog w) A (pyNext (.ref zo)) Q E s:=by
 obtain⟨a,b,gO⟩:=Z.gO;rcases Z.pz with gz|⟨T,f,oT,gz,gT,t1,t2,t3,t4,t5⟩
 ·exact wpAny_pyNext_zip_end hh D gz Z.gP gO Z.g1 Z.g2 Z.q1 Z.q2 no fin
 ·have ty:s.TypeIs (.ref zo) "zip":=⟨_,gz,rfl⟩
  unfold pyNext;refine ak (wpAny_attempt (wpAny_callSpecial?_slot (name:=aA "__next__") ty F.slot_zip_next (wpAny_call_entry F.slot_zip_next ty F.entry_zip_next (BX hh D gz gT Z.gP Z.g1 Z.g2 Z.q1 Z.q2 no λhp e kk oe=>?_) (F.args_zip_next_1 _))));obtain⟨o,go,co⟩:=oe;refine ak (wpAny_isInstance (T:="StopIteration") (b:=true) ⟨o,go,co⟩ isSubtype_stop ?_);exact aL (fin _ λc o c1 _ c3 c4 e=>kk c o c1 c3 c4 e)
theorem ZS.frame{hp hp':aH}(nS:S≠zo/\S≠P/\S≠O/\S≠j1/\S≠j2/\S≠l1/\S≠l2)(Z:ZS zo P O j1 j2 l1 l2 S xs ys i hp)(k:∀c o,c≠S->hp.get? c=some o->hp'.get? c=some o):ZS zo P O j1 j2 l1 l2 S xs ys i hp':=by
 obtain⟨n1,n2,n3,n4,n5,n6,n7⟩:=nS;obtain⟨a,b,gO⟩:=Z.gO;refine⟨?_,k _ _ n2.symm Z.gP,⟨a,b,k _ _ n3.symm gO⟩,Z.g1.at λo e=>k _ o n4.symm e,Z.g2.at λo e=>k _ o n5.symm e,Z.q1.at λo e=>k _ o n6.symm e,Z.q2.at λo e=>k _ o n7.symm e⟩;rcases Z.pz with gz|⟨T,f,oT,gz,gT,t1,t2,t3,t4,t5⟩
 ·exact .inl (k _ _ n1.symm gz)
 ·exact .inr ⟨T,f,oT,k _ _ n1.symm gz,k _ _ t5 gT,t1,t2,t3,t4,t5⟩
def Pairs(xs ys:Array af)(lo:Nat)(us:List ae)(hp:aH):Prop:=us.Nodup/\∀(j:Nat) (t:ae),us[j]?=some t->lo≤t/\∃x y,xs[j]?=some x/\ys[j]?=some y/\IsPair hp t x y
theorem Pairs.push{lo t:Nat}{us:List ae}{hp hp':aH}(p:Pairs xs ys lo us hp)(k:∀(j:Nat) (t:ae) (o:aB),us[j]?=some t->hp.get? t=some o->hp'.get? t=some o)(hn:t∉us)(hl:lo≤t)(ex:xs[us.length]?=some x)(ey:ys[us.length]?=some y)(g:IsPair hp' t x y):Pairs xs ys lo (us++[t]) hp':=by
 refine⟨j9.mpr ⟨p.1,by simp,λa ha b hb z=>hn ?_⟩,λj u e=>?_⟩
 ·rw[dF.mp hb]at z;exact z▸ha
 ·by_cases hj:j<us.length
  ·rw[eJ hj]at e;obtain⟨a1,a,b,a2,a3,a4⟩:=p.2 j u e;exact⟨a1,a,b,a2,a3,k j u _ e a4⟩
  ·rw[iO (by lia)]at e;have hj':j=us.length:=by
    have:=(bM.mp e).1;simp at this;lia
   subst hj';simp at e;subst e;exact⟨hl,x,y,ex,ey,g⟩
theorem Ce{R:Result->aj->Prop}{res:af}{lo:Nat}(hh:A.handled=none)(D:ZipApart zo P O j1 j2 l1 l2)(nS:S≠zo/\S≠P/\S≠O/\S≠j1/\S≠j2/\S≠l1/\S≠l2)(few:min xs.size ys.size≤aV)(hlo:S<lo/\zo<lo/\O<lo/\j1<lo/\j2<lo) :
  ∀(k i:Nat) (s:aj) (us:List ae) (c:Nat),min xs.size ys.size-i=k->i≤min xs.size ys.size->ZS zo P O j1 j2 l1 l2 S xs ys i s.heap->s.heap.get? S=some (j0 (us.map Value.ref).toArray c)->us.length=i->Pairs xs ys lo us s.heap->lo≤s.heap.objs.size ->
  (∀hp us c,hp.get? S=some (j0 (us.map Value.ref).toArray c)->us.length=min xs.size ys.size->Pairs xs ys lo us hp->(∀c o,c≠S->c≠zo->c≠O->c≠j1->c≠j2->s.heap.get? c=some o->hp.get? c=some o)->R (.ok (.ret res)) { s with heap:=hp }) ->
  codeAny (av prog w) A (.builtin "list.extend.loop" ⟨[.ref S,.ref zo,res],[]⟩) R s:=by
 intro k
 induction k with
 |zero=>
   intro i s us c e1 e2 Z gS lu pr ls fin;have no:xs[i]?=none∨ys[i]?=none:=by
    rcases Nat.le_total xs.size ys.size with z|z
    ·exact .inl (Array.getElem?_eq_none (by lia))
    ·exact .inr (Array.getElem?_eq_none (by lia))
   refine codeAny_builtin F.entry_extend_loop ?_;rw[Around.under_plainId F.plain_extend_loop _];show aq _ A.in1 (pyNext (.ref zo) >>= _) _ _ s;refine ak (Z.end (A:=A.in1) hh D no λhp kk=>?_);refine aL (fin hp us c (kk _ _ nS.1 nS.2.2.1 nS.2.2.2.1 nS.2.2.2.2.1 gS) (by lia) ⟨pr.1,λj t e=>?_⟩ λc o _ c1 c2 c3 c4 e=>kk c o c1 c2 c3 c4 e);obtain⟨a1,a,b,a2,a3,a4⟩:=pr.2 j t e;have nt:∀{c:ae},c<lo->t≠c:=λhc=>dB (cN hc a1);exact⟨a1,a,b,a2,a3,kk _ _ (nt hlo.2.1) (nt hlo.2.2.1) (nt hlo.2.2.2.1) (nt hlo.2.2.2.2) a4⟩
 |succ k ih=>
   intro i s us c e1 e2 Z gS lu pr ls fin;have hx:i<xs.size:=by lia
   have hy:i<ys.size:=by lia
   refine codeAny_builtin F.entry_extend_loop ?_;rw[Around.under_plainId F.plain_extend_loop _];show aq _ A.in1 (pyNext (.ref zo) >>= _) _ _ s;refine ak (Z.item (A:=A.in1) D (bo gS) (n8 hx) (n8 hy) λhp Z1 g1 kk=>?_);have gS1:=kk _ _ nS.1 nS.2.2.1 nS.2.2.2.1 nS.2.2.2.2.1 gS;show aq _ A.in1 (updateSeq S (·.push (.ref s.heap.objs.size)) >>= _) _ _ _;have sz:(us.map Value.ref).toArray.size=i:=by simp[lu]
   refine ak (wpAny_updateSeq gS1 rfl (aL ⟨plainId_quiet F.plain_extend_loop _,?_⟩) (by rw[sz];lia) (by show((us.map Value.ref).toArray.push _).size≤_;rw[Array.size_push,sz];lia));have gS2:=fi (Obj.mapSeq (·.push (.ref s.heap.objs.size))) gS1 rfl;have oth:∀c o,c≠S->hp.get? c=some o->(hp.update S (Obj.mapSeq (·.push (.ref s.heap.objs.size)))).get? c=some o:=λc o hc e=>(dP _ _ (Ne.symm hc)).trans e;have nT:s.heap.objs.size≠S:=dB (bo gS);have ap:(us.map Value.ref).toArray.push (.ref s.heap.objs.size)=((us++[s.heap.objs.size]).map Value.ref).toArray:=by simp
   refine ih (i+1) { s with heap:=hp.update S (Obj.mapSeq (·.push (.ref s.heap.objs.size))) } (us++[s.heap.objs.size]) _ (by lia) (by lia) (Z1.frame nS oth) (by rw[←ap];exact gS2) (by simp[lu]) ?_ ?_ λhp2 us2 c2 a1 a2 a3 a4=>?_
   ·refine Pairs.push (x:=xs[i]) (y:=ys[i]) pr (λj t o e g=>?_) (λz=>?_) ls (by rw[lu];exact n8 hx) (by rw[lu];exact n8 hy) (oth _ _ nT g1)
    ·have lt:=(pr.2 j t e).1;have nt:∀{c:ae},c<lo->t≠c:=λhc=>dB (cN hc lt);exact oth _ _ (nt hlo.1) (kk _ _ (nt hlo.2.1) (nt hlo.2.2.1) (nt hlo.2.2.2.1) (nt hlo.2.2.2.2) g)
    ·obtain⟨j,ej⟩:=jY.mp z;obtain⟨_,_,_,_,_,g⟩:=pr.2 j _ ej;exact absurd (bo g) (gU _)
   ·show lo≤(hp.update S _).objs.size;exact cB ls (kP (bo (oth _ _ nT g1)))
   ·exact fin hp2 us2 c2 a1 a2 a3 λc o c1 c2 c3 c4 c5 e=>a4 c o c1 c2 c3 c4 c5 (oth c o c1 (kk c o c2 c3 c4 c5 e))
theorem HD:typeLookup (.type "zip") "__len__"=pure none:=by rw[typeLookup_type,builtinLookup_eq_fast];kernel_rfl
theorem CP:typeLookup (.type "zip") "__length_hint__"=pure none:=by rw[typeLookup_type,builtinLookup_eq_fast];kernel_rfl
theorem Ba{R:Result->aj->Prop}{res:af}{lo:Nat}(hh:A.handled=none)(D:ZipApart zo P O j1 j2 l1 l2)(nS:S≠zo/\S≠P/\S≠O/\S≠j1/\S≠j2/\S≠l1/\S≠l2)(few:min xs.size ys.size≤aV)(hlo:S<lo/\zo<lo/\O<lo/\j1<lo/\j2<lo){c0:Nat}
  (Z:ZS zo P O j1 j2 l1 l2 S xs ys 0 s.heap) (fresh:IsZip s.heap zo P O .none) (gS:s.heap.get? S=some (j0 #[] c0)) (ls:lo≤s.heap.objs.size)
  (fin:∀hp us c,hp.get? S=some (j0 (us.map Value.ref).toArray c)->us.length=min xs.size ys.size->Pairs xs ys lo us hp->(∀c o,c≠S->c≠zo->c≠O->c≠j1->c≠j2->s.heap.get? c=some o->hp.get? c=some o)->R (.ok (.ret res)) { s with heap:=hp }) :
  aq (av prog w) A.in1 (Builtin.List.listExtendWith (.ref S) (.ref zo) res)
   (λr s'=>match r with|.done f=>R (.ok f) s'|.again c'=>c'.quiet=true/\codeAny (av prog w) A c' R s') (λe s'=>R (.error e) s') s:=by
 have ty:s.TypeIs (.ref zo) "zip":=⟨_,fresh,rfl⟩
 unfold Builtin.List.listExtendWith;refine ak (wpAny_typeOf ty ?_);have b1:Builtin.List.listSameRef (.ref S) (.ref zo)=false:=by simp[Builtin.List.listSameRef,nS.1]
 have b2:(Value.type "zip" == Value.type "list")=false:=by decide
 have b3:(Value.type "zip" == Value.type "tuple")=false:=by decide
 simp only[b1,b2,b3,Bool.or_false,c9,if_false];refine ak (wpAny_pyIter_zip fresh ?_);refine ak (wpAny_holding ?_);unfold Builtin.List.listLengthHint;refine ak (wpAny_specialOf ty HD ?_);show aq _ A.in1 (specialOf (Value.ref zo) (aA "__length_hint__") >>= _) _ _ s;refine ak (wpAny_specialOf ty CP ?_);refine aL ?_;show aq _ A.in1 (rule "list.extend.makes-room" >>= λ_=>Builtin.List.listTouch (.ref S) >>= λ_=>again (.builtin "list.extend.loop" ⟨[.ref S,.ref zo,res],[]⟩)) _ _ s;refine ak (wpAny_rule ?_);refine ak ?_;show aq _ A.in1 (updateSeq S (·.push .none) >>= λ_=>updateSeq S (·.pop)) _ _ s;refine ak (wpAny_updateSeq gS rfl ?_);have g2:=fi (Obj.mapSeq (·.push Value.none)) gS rfl;refine wpAny_updateSeq (hz:=by seq_fits) g2 rfl ?_;have g3:=fi (Obj.mapSeq (·.pop)) g2 rfl;have oth:∀b o,b≠S->s.heap.get? b=some o->((s.heap.update S (Obj.mapSeq (·.push Value.none))).update S (Obj.mapSeq (·.pop))).get? b=some o:=λb o hb e=>(dP _ _ (Ne.symm hb)).trans ((dP _ _ (Ne.symm hb)).trans e);refine aL ⟨plainId_quiet F.plain_extend_loop _,Ce hh D nS few hlo _ 0 _ [] _ rfl (fg _) (Z.frame nS oth) g3 rfl ⟨List.nodup_nil,λj t e=>by simp at e⟩ ?_ λhp us c a1 a2 a3 a4=>?_⟩
 ·show lo≤((s.heap.update S _).update S _).objs.size;rw[kK,kK];exact ls
 ·exact fin hp us c a1 a2 a3 λc o c1 c2 c3 c4 c5 e=>a4 c o c1 c2 c3 c4 c5 (oth c o c1 e)
theorem Ct{Q:af->aj->Prop}(hh:A.handled=none)(D:ZipApart zo P O j1 j2 l1 l2)(few:min xs.size ys.size≤aV)(gz:IsZip s.heap zo P O .none)(gP:IsPair s.heap P (.ref j1) (.ref j2))(gO:∃a b,IsPair s.heap O a b)(g1:s.heap.IsListIter j1 l1 0)(g2:s.heap.IsListIter j2 l2 0)(q1:s.heap.IsList l1 xs)(q2:s.heap.IsList l2 ys)
  (fin:∀hp us c,hp.get? s.heap.objs.size=some (j0 (us.map Value.ref).toArray c)->us.length=min xs.size ys.size->Pairs xs ys (s.heap.objs.size+1) us hp->(∀c o,c≠zo->c≠O->c≠j1->c≠j2->s.heap.get? c=some o->hp.get? c=some o)->Q (.ref s.heap.objs.size) { s with heap:=hp }) :
  aq (av prog w) A (call (.type "list") [.ref zo]) Q E s:=by
 refine callType_codes (Q₁:=λobj s1=>obj=.ref s.heap.objs.size/\s1={ s with heap:=s.heap.push { cls:=.type "list",data:=.seq #[] } }) F.called_list (F.typeCall_list_1 _) F.entry_list_init (code_list_new _ ⟨rfl,rfl⟩) λobj s1 ho=>?_;obtain⟨rfl,rfl⟩:=ho;have gS:(s.heap.push { cls:=.type "list",data:=.seq #[] }).get? s.heap.objs.size=some { cls:=.type "list",data:=.seq #[] }:=cT _ rfl;have lt:∀{c o},s.heap.get? c=some o->c<s.heap.objs.size:=λe=>bo e;obtain⟨a,b,gO⟩:=gO;have z1:=lt gz;have z2:=lt gP;have z3:=lt gO;have z4:j1<s.heap.objs.size:=by obtain⟨_,e,_⟩:=g1;exact lt e
 have z5:j2<s.heap.objs.size:=by obtain⟨_,e,_⟩:=g2;exact lt e
 have z6:l1<s.heap.objs.size:=by obtain⟨_,e,_⟩:=q1;exact lt e
 have z7:l2<s.heap.objs.size:=by obtain⟨_,e,_⟩:=q2;exact lt e
 have nS:s.heap.objs.size≠zo/\s.heap.objs.size≠P/\s.heap.objs.size≠O/\s.heap.objs.size≠j1/\s.heap.objs.size≠j2/\s.heap.objs.size≠l1/\s.heap.objs.size≠l2:=⟨dB z1,dB z2,dB z3,dB z4,dB z5,dB z6,dB z7⟩;refine⟨⟨_,gS,rfl⟩,F.args_list_init_2 _ _,?_⟩;show aq _ A.in1.in1 (do let old ←Builtin.List.listItems (.ref s.heap.objs.size);Builtin.List.listUpdate (.ref s.heap.objs.size) (λ_=>#[]);letGo old.toList.reverse;Builtin.List.listExtendWith (.ref s.heap.objs.size) (.ref zo) .none) _ _ _;refine ak ?_;unfold Builtin.List.listItems;refine ak (wpAny_seqItems gS rfl (aL ?_));show aq _ A.in1.in1 (updateSeq s.heap.objs.size (λ_=>#[]) >>= λ_=>letGo (#[]:Array af).toList.reverse >>= λ_=>Builtin.List.listExtendWith (.ref s.heap.objs.size) (.ref zo) .none) _ _ _;refine ak (wpAny_updateSeq gS rfl ?_);have gS2:=fi (Obj.mapSeq (λ_=>(#[]:Array af))) gS rfl;have oth:∀b o,s.heap.get? b=some o->((s.heap.push { cls:=.type "list",data:=.seq #[] }).update s.heap.objs.size (Obj.mapSeq (λ_=>(#[]:Array af)))).get? b=some o:=λb o e=>(dP _ _ (Ne.symm (dj (lt e)))).trans (bG _ e);refine ak (wpAny_letGo ?_);refine Ba (A:=A.in1) (lo:=s.heap.objs.size+1) hh D nS few ⟨qY _,qT z1,qT z3,qT z4,qT z5⟩ (s:={ s with heap:=(s.heap.push { cls:=.type "list",data:=.seq #[] }).update s.heap.objs.size (Obj.mapSeq (λ_=>(#[]:Array af))) })
  ⟨.inl (oth _ _ gz),oth _ _ gP,⟨a,b,oth _ _ gO⟩,g1.at λo e=>oth _ o e,g2.at λo e=>oth _ o e,q1.at λo e=>oth _ o e,q2.at λo e=>oth _ o e⟩ (oth _ _ gz) gS2 ?_ λhp us c a1 a2 a3 a4=>?_
 ·show s.heap.objs.size+1≤((s.heap.push _).update _ _).objs.size;rw[kK,iV];exact aU _
 ·exact⟨rfl,fin hp us c a1 a2 a3 λc o c2 c3 c4 c5 e=>a4 c o (dj (lt e)) c2 c3 c4 c5 (oth c o e)⟩
end
variable {G:Gb}{m m' m1 m2:List ae}{h h' h1 h2:MH}{H H' H1 H2:Hp}{X:Cx}{E:af->aj->Prop}{EX:St->Prop}{σ:MSt}{σ':St}
theorem yA{pins:List (ae×aB)}{s:aj}:∀(us:List ae) (xs ys:List MV) (vs ws:List V) (its its2:List af) (H:Hp),Inv X pins σ' H s->HR G m h H->VRs G m H xs vs->VRs G m H ys ws->Vals vs its->Vals ws its2->us.length=min its.length its2.length->us.Nodup ->
  (∀(j:Nat) (t:ae),us[j]?=some t->∃x y,its[j]?=some x/\its2[j]?=some y/\IsPair s.heap t x y)->(∀t∈us,Fp X pins H t)->∃H',Inv X pins σ' H' s/\HR G m h H'/\Ext m H m H'/\VRs G m H' (gI xs ys) (us.map V.ref)/\∀a,a∉us->H' a=H a
 |[],xs,ys,vs,ws,its,its2,H,I,R,r1,r2,v1,v2,hl,nd,pr,fp=>by
   refine⟨H,I,R,.refl,?_,λ_ _=>rfl⟩;have l1:=Paired.length r1;have l2:=Paired.length r2;have l3:=v1.length;have l4:=v2.length;have:gI xs ys=[]:=by
    cases xs with
    |nil=>rfl
    |cons x xs=>cases ys with
      |nil=>rfl
      |cons y ys=>simp at l1 l2 hl;lia
   rw[this];exact .nil
 |t::us,xs,ys,vs,ws,its,its2,H,I,R,r1,r2,v1,v2,hl,nd,pr,fp=>by
   obtain⟨x0,y0,e1,e2,g⟩:=pr 0 t rfl;cases v1 with
   |nil=>simp at e1
   |@cons v u vs' its' q1 t1=>cases v2 with
     |nil=>simp at e2
     |@cons w u2 ws' its2' q2 t2=>cases r1 with
       |@cons x _ xs' _ p1 s1=>cases r2 with
         |@cons y _ ys' _ p2 s2=>
           simp at e1 e2;subst e1;subst e2;obtain⟨nt,nd'⟩:=ig.mp nd;have F:=fp t fu;have I1:=Inv.trackO (v:=.tup [v,w]) I F ⟨by show 2≤aV;decide,[u,u2],.cons q1 (.cons q2 .nil),⟨_,g,rfl,0,rfl⟩⟩;have x1:Ext m H m (upd H t (.tup [v,w])):=Ext.side F.un;obtain ⟨H',a1,a2,a3,a4,a5⟩:=yA us xs' ys' vs' ws' its' its2' (upd H t (.tup [v,w])) I1 (R.side F.un) (x1.vrs s1) (x1.vrs s2) t1 t2 (by simp at hl;lia) nd' (λj t' e=>by
            obtain⟨a,b,b1,b2,b3⟩:=pr (j+1) t' (by simpa using e);exact ⟨a,b,by simpa using b1,by simpa using b2,b3⟩) λt' ht=>by
             have F':=fp t' (d5 _ ht);have ne:t'≠t:=λz=>nt (z▸ht);exact⟨by rw[aY ne];exact F'.un,F'.loc,F'.fs,F'.new,F'.ce,F'.pin⟩
           refine⟨H',a1,a2,x1.trans a3,.cons ⟨t,[v,w],rfl,R.fresh F.un,?_,VRl.of (.cons (a3.vr (x1.vr p1)) (.cons (a3.vr (x1.vr p2)) .nil))⟩ a4,λa ha=>?_⟩
           ·rw[a5 t nt,dh]
           ·simp only[bu,not_or]at ha;rw[a5 a ha.2,aY ha.1]
theorem Dq{a b:aw}{ga gb:ME}{p q pos pos':Pos}(ha:GE G X a ga)(hb:GE G X b gb)(hm:X.mg "zip"=none)(hl:X.mg "list"=none)(hd:X.A.handled=none)(hg:Gl X "zip":=by rfl)(hg2:Gl X "list":=by rfl)(hs:aJ [a,b] X.env=[(false,aG a X.env),(false,aG b X.env)]:=by rfl)
  (hs2:aJ [b] X.env=[(false,aG b X.env)]:=by rfl) (hs3:aJ [.Call (.Name "zip" q) [a,b] [] pos'] X.env=[(false,aG (.Call (.Name "zip" q) [a,b] [] pos') X.env)]:=by rfl):GE G X (.Call (.Name "list" p) [.Call (.Name "zip" q) [a,b] [] pos'] [] pos) (aC ol ga gb):=λE EX pins s σ' H Q I ⟨m,h,σ,ex,S,R,P⟩=>by
 refine wpAny_Call_Name_kw (gJ I hg2 hl PyProof.Rows.Boot.«list» ?_ (by decide) (by decide));refine PyProof.Rows.callWith_type1 ?_ hs3 rfl;show aq _ _ (spliced (cL pos (aJ [.Call (.Name "zip" q) [a,b] [] pos'] X.env))) _ _ s;rw[hs3];refine Calls.spliced_cons ?_;have hpa:PA (X.wish E) [a,b] (mf (TGe G X E EX ga) (mf (TGe G X E EX gb) qi)):=fH (X:=X.wish E) (ha E EX) (hb.a1 hs2 E EX) (by show aJ [a,b] X.env=(false,aG a X.env)::aJ [b] X.env;rw[hs,hs2]);refine Call_ (gJ I hg hm PyProof.Rows.Boot.«zip» (PyProof.Rows.callWith_type1 (thn (hpa pos' pins s σ' H (λvs H2=>∃m2 h2 aa bb xs ys vs1 vs2,vs=[V.ref aa,V.ref bb]/\HR G m2 h2 H2/\VRs G m2 H2 xs vs1/\H2 aa=some (.lst vs1)/\VRs G m2 H2 ys vs2/\H2 bb=some (.lst vs2)/\(xs.length≤10000/\ys.length≤10000)/\Post G X E EX m2 H2 (new (.lst (gI xs ys)) h2) (λv m' _ H'=>∀v',VR G m' H' v v'->Q v' H')) I ?_) λus s1 ⟨vs,H1,I1,r1,m2,h2,aa,bb,xs,ys,vs1,vs2,ev,R2,rx,zx,ry,zy,hz,P4⟩=>?_) (by rw[hs,hs2]) (by rw[hs2];rfl)))
 ·refine sub ex S R P λv m1 h1 H1 v' x1 R1 r1 P1=>sub ex (S.mono x1) R1 P1 λw m2 h2 H2 w' x2 R2 r2 P2=>?_;cases v with
  |ref n=>cases w with
    |ref k=>
      obtain⟨aa,ea,rfl⟩:=x2.vr r1;obtain⟨bb,eb,rfl⟩:=r2;obtain⟨oa,e1,q1,P3⟩:=cb R2 ea P2;obtain⟨ob,e2,q2,P4⟩:=cb R2 eb P3;cases oa with
      |lst xs=>cases ob with
        |lst ys=>
          obtain⟨vs,r,z⟩:=q1;obtain⟨ws,r',z'⟩:=q2;dsimp only at P4;split at P4
          ·rename_i hz;exact⟨m2,h2,aa,bb,xs,ys,vs,ws,rfl,R2,r,z,r',z',hz,P4⟩
          ·exact P4.elim
        |_=>exact P4.elim
      |_=>exact P4.elim
    |_=>exact P2.elim
  |_=>exact P2.elim
 ·subst ev;obtain⟨u1,u2,rfl,rr1,rr2⟩:=vals2 r1;cases rr1;cases rr2;obtain⟨z1,its,n1,v1,hl1,e1⟩:=I1.lstM zx;obtain⟨z2,its2,n2,v2,hl2,e2⟩:=I1.lstM zy;have a1:aa<s1.heap.objs.size:=bo e1;have a2:bb<s1.heap.objs.size:=bo e2;have q1:s1.heap.IsList aa its.toArray:=⟨_,e1,rfl,n1,rfl⟩;have q2:s1.heap.IsList bb its2.toArray:=⟨_,e2,rfl,n2,rfl⟩;refine call_zip_2 q1 q2 λhp hz hTI hTO hi1 hi2 hsz hk=>?_;refine Calls.spliced_nil ?_;have lx:=Paired.length rx;have ly:=Paired.length ry;have few:min its.toArray.size its2.toArray.size≤aV:=by
   rw[cG,cG];lia
  refine Ct (s:={ s1 with heap:=hp }) hd (zipApart_new a1 a2) few hz hTI ⟨_,_,hTO⟩ hi1 hi2 (q1.at λo e=>hk _ o e) (q2.at λo e=>hk _ o e) λhp2 us c g len pr kk=>?_;have kept:∀c o,s1.heap.get? c=some o->hp2.get? c=some o:=λc o e=>by
   have lt:=bo e;have ne:∀{d:Nat},s1.heap.objs.size≤d->c≠d:=λhd=>dj (cN lt hd);exact kk c o (ne (nH _ _)) (ne (nH _ _)) (ne (aU _)) (ne (nH _ _)) (hk c o e)
  have I2:Inv X pins σ' H1 { s1 with heap:=hp2 }:=I1.unwish.kept (t':=s1.toks) kept;have nn:∀t,s1.heap.objs.size≤t->Fp X pins H1 t:=λt ht=>Fp.of I1.unwish (jf ht) (I1.hok.fresh ht);have hS:({ s1 with heap:=hp }:aj).heap.objs.size=s1.heap.objs.size + 5:=hsz;rw [hS] at g pr ⊢;obtain ⟨H3,b1,b2,b3,b4,b5⟩:=yA us xs ys vs1 vs2 its its2 H1 I2 R2 rx ry v1 v2 (by simpa using len) pr.1 (λj t e=>by
   obtain ⟨_,x,y,c1,c2,c3⟩:=pr.2 j t e;exact ⟨x,y,by simpa using c1,by simpa using c2,c3⟩) λt ht=>by
    obtain⟨j,ej⟩:=jY.mp ht;exact nn t (cB (cB (nH _ 5) (Nat.le_succ _)) (pr.2 j t ej).1)
  have nS:s1.heap.objs.size+5∉us:=λz=>by
   obtain⟨j,ej⟩:=jY.mp z;exact absurd (pr.2 j _ ej).1 (Nat.not_succ_le_self _)
  have F0:=nn (s1.heap.objs.size+5) (nH _ _);have FS:Fp X pins H3 (s1.heap.objs.size+5):=⟨by rw[b5 _ nS];exact F0.un,F0.loc,F0.fs,F0.new,F0.ce,F0.pin⟩
  have vv:∀(l:List ae),Vals (l.map V.ref) (l.map Value.ref):=by
   intro l
   induction l with
   |nil=>exact .nil
   |cons a l ih=>exact .cons rfl ih
  have I4:=Inv.trackO (v:=.lst (us.map V.ref)) b1 FS ⟨by rw[c6,len];exact few,us.map Value.ref,c,vv us,g⟩;exact⟨.ref (s1.heap.objs.size+5),_,I4.wish E,rfl,jx b2 b4 (P4.ext b3) FS.un⟩
end L2.Rv
namespace L2.Rv
noncomputable section
end
end L2.Rv
namespace L2.Rv
open PySem PySem.Spec PyProof.Rows
variable {G:Gb}{m m' m1 m2:List ae}{h h' h1 h2:MH}{H H' H1 H2:Hp}{X:Cx}{E:af->aj->Prop}{EX:St->Prop}{σ:MSt}{σ':St}
end L2.Rv
namespace L2.Rv
noncomputable section
end
end L2.Rv
namespace L2.Rv
open PySem PySem.Spec PyProof.Rows
variable {G:Gb}{m m' m1 m2:List ae}{h h' h1 h2:MH}{H H' H1 H2:Hp}{X:Cx}{E:af->aj->Prop}{EX:St->Prop}{σ:MSt}{σ':St}
section
open PySem.SeqAt PySem.MeetsSeq PySem.MeetsSeq2 PySem.SeqRoads2
open PySem.AutoSeq1 (wpAny_loadPart')
end
end L2.Rv
namespace L2.Rv
noncomputable section
noncomputable def cQ:List MV->List MV->List MV->List (List MV)
 |x::xs,y::ys,z::zs=>[x,y,z]::cQ xs ys zs
 |_,_,_=>[]
noncomputable def oz(e e' e'':ME):MI:=λσ=>bnd (e σ) λx=>bnd (e' σ) λy=>bnd (e'' σ) λz=>match x,y,z with
 |.ref n,.ref k,.ref j=>bnd (look n) λo=>bnd (look k) λo'=>bnd (look j) λo''=>match o,o',o'' with
   |.lst xs,.lst ys,.lst zs=>ret ⟨cQ xs ys zs,[(n,xs),(k,ys),(j,zs)]⟩
   |_,_,_=>stk
 |_,_,_=>stk
end
end L2.Rv
namespace L2.Rv
open PySem PySem.Spec PyProof.Rows
abbrev Tri(h:aH)(T:ae)(a b c:af):Prop:=h.get? T=some { cls:=.type "tuple",data:=.seq #[a,b,c] }
structure Ap3(z U T p q r l m n:ae):Prop where
 nd:[z,U,T,p,q,r].Nodup
 a:l∉[z,T,p,q,r]
 b:m∉[z,T,p,q,r]
 c:n∉[z,T,p,q,r]
section
variable {prog:bi}{w:aQ}{A:aX}{E:af->aj->Prop}{s:aj}{z U T p q r l m n:ae}
theorem Ap3.all(D:Ap3 z U T p q r l m n):(z≠U/\z≠T/\z≠p/\z≠q/\z≠r)/\(U≠T/\U≠p/\U≠q/\U≠r)/\(T≠p/\T≠q/\T≠r)/\(p≠q/\p≠r)/\q≠r:=by
 have:=D.nd;simp only[ig,bu,cW,or_false,not_or,not_false_eq_true,List.nodup_nil,and_true]at this;obtain⟨h1,h2,h3,h4,h5⟩:=this;exact⟨h1,h2,h3,h4,h5⟩
theorem off5{x a b c d e:ae}(h:x∉[a,b,c,d,e]):x≠a/\x≠b/\x≠c/\x≠d/\x≠e:=by simpa using h
theorem nL{a b c x:af}{k:Nat}{Q:Unit->aj->Prop}(eT:Tri s.heap T a b c)
  (f:∀h',h'.get? T=some { cls:=.type "tuple",data:=.seq ((#[a,b,c]:Array af).setIfInBounds k x) }->jR T s.heap h'->Q () { s with heap:=h' }):aq (av prog w) A (updateSeq T (·.setIfInBounds k x)) Q E s:=by
 refine wpAny_updateSeq eT rfl (f _ ?_ (Heap.SameBut.update ..));rw[fi _ eT rfl];simp[Obj.mapSeq]
theorem HJ{j:Nat}{xs ys us:Array af}{x y u a b c:af}{Q:af->aj->Prop}(D:Ap3 z U T p q r l m n)
  (ez:IsZip s.heap z U T .none) (eU:Tri s.heap U (.ref p) (.ref q) (.ref r)) (eT:Tri s.heap T a b c) (ep:s.heap.IsListIter p l j) (eq:s.heap.IsListIter q m j) (er:s.heap.IsListIter r n j)
  (el:s.heap.IsList l xs) (em:s.heap.IsList m ys) (en:s.heap.IsList n us) (gx:xs[j]?=some x) (gy:ys[j]?=some y) (gu:us[j]?=some u)
  (f:∀h',IsZip h' z U T (cE s.heap.objs.size)->Tri h' T x y u->h'.IsListIter p l (j + 1)->h'.IsListIter q m (j + 1)->h'.IsListIter r n (j + 1)->Tri h' s.heap.objs.size x y u ->
   (∀k o,k∉[z,T,p,q,r]->s.heap.get? k=some o->h'.get? k=some o)->Q (.ref s.heap.objs.size) { s with heap:=h' }) :
  aq (av prog w) A (Builtin.«zip.__next__» ⟨[.ref z],[]⟩) (λfin s'=>∃v,fin=.done (.ret v)/\Q v s') E s:=by
 obtain⟨⟨zU,zT,zp,zq,zr⟩,⟨UT,Up,Uq,Ur⟩,⟨Tp,Tq,Tr⟩,⟨pq,pr⟩,qr⟩:=D.all;obtain⟨lz,lT,lp,lq,lr⟩:=off5 D.a;obtain⟨mz,mT,mp,mq,mr⟩:=off5 D.b;obtain⟨nz,nT,np,nq,nr⟩:=off5 D.c;show aq _ _ (field (.ref z) 2 >>= _) _ _ _;refine ak (cX ez rfl (x:=.bool false) rfl ?_);show aq _ _ (field (.ref z) 3 >>= _) _ _ _;refine ak (cX ez rfl (x:=.ref U) rfl ?_);refine ak (wpAny_seqItems eU rfl ?_);show aq _ _ (Builtin.SmallTypes.ownedTupleIsFree (.ref z) >>= _) _ _ _;refine ak ?_;unfold Builtin.SmallTypes.ownedTupleIsFree;refine ak (cX ez rfl (x:=.none) rfl (aL ?_));simp only[if_true];refine ak (wpAny_rule ?_);refine ak (cX ez rfl (x:=.ref T) rfl ?_);refine ak (wpAny_setField_rec ez (by simp) λh1 ez1 b1=>?_);replace ez1:IsZip h1 z U T .ellipsis:=ez1;refine ak ?_;simp only[List.zipIdx_cons,List.zipIdx_nil,j7,i6];refine ak (ak (wpAny_onRaise ?_));show aq _ _ (Builtin.SmallTypes.nextOf (.ref p) >>= _) _ _ _;refine ak (wpAny_nextOf_list_item (ep.extBut b1.extBut zp.symm) (el.extBut b1.extBut lz) gx λh2 ep2 b2=>aL ?_);have eT2:Tri h2 T a b c:=b2.extBut _ _ Tp (b1.extBut _ _ zT.symm eT);refine ak (wpAny_seqItems eT2 rfl ?_);refine ak (nL eT2 λh3 eT3 b3=>?_);replace eT3:Tri h3 T x b c:=eT3;refine ak (wpAny_letGo (aL ?_));refine ak (ak (wpAny_onRaise ?_));show aq _ _ (Builtin.SmallTypes.nextOf (.ref q) >>= _) _ _ _;have k3:∀{k:ae}{o:aB},k≠z->k≠p->k≠T->s.heap.get? k=some o->h3.get? k=some o:=λc1 c2 c3 e=>b3.extBut _ _ c3 (b2.extBut _ _ c2 (b1.extBut _ _ c1 e));refine ak (wpAny_nextOf_list_item (eq.at λo e=>k3 zq.symm pq.symm Tq.symm e) (em.at λo e=>k3 mz mp mT e) gy λh4 eq4 b4=>aL ?_);have eT4:Tri h4 T x b c:=b4.extBut _ _ Tq eT3;refine ak (wpAny_seqItems eT4 rfl ?_);refine ak (nL eT4 λh5 eT5 b5=>?_);replace eT5:Tri h5 T x y c:=eT5;refine ak (wpAny_letGo (aL ?_));refine ak (ak (wpAny_onRaise ?_));show aq _ _ (Builtin.SmallTypes.nextOf (.ref r) >>= _) _ _ _;have k5:∀{k:ae}{o:aB},k≠z->k≠p->k≠T->k≠q->s.heap.get? k=some o->h5.get? k=some o:=λc1 c2 c3 c4 e=>b5.extBut _ _ c3 (b4.extBut _ _ c4 (k3 c1 c2 c3 e));refine ak (wpAny_nextOf_list_item (er.at λo e=>k5 zr.symm pr.symm Tr.symm qr.symm e) (en.at λo e=>k5 nz np nT nq e) gu λh6 er6 b6=>aL ?_);have eT6:Tri h6 T x y c:=b6.extBut _ _ Tr eT5;refine ak (wpAny_seqItems eT6 rfl ?_);refine ak (nL eT6 λh7 eT7 b7=>?_);replace eT7:Tri h7 T x y u:=eT7;refine ak (wpAny_letGo (aL (aL ?_)));refine ak (wpAny_seqItems eT7 rfl ?_);refine ak (wpAny_newTuple ?_);have sz:h7.objs.size=s.heap.objs.size:=by rw[b7.1,b6.1,b5.1,b4.1,b3.1,b2.1,b1.1]
 have ez7:IsZip h7 z U T .ellipsis:=b7.extBut _ _ zT (b6.extBut _ _ zr (b5.extBut _ _ zT (b4.extBut _ _ zq (b3.extBut _ _ zT (b2.extBut _ _ zp ez1)))));have k7:∀k o,k∉[z,T,p,q,r]->s.heap.get? k=some o->h7.get? k=some o:=λk o nk e=>by
  obtain⟨c1,c2,c3,c4,c5⟩:=off5 nk;exact b7.extBut _ _ c2 (b6.extBut _ _ c5 (k5 c1 c3 c2 c4 e))
 have ep7:h7.IsListIter p l (j+1):=ep2.at λo e=>b7.extBut _ _ Tp.symm (b6.extBut _ _ pr (b5.extBut _ _ Tp.symm (b4.extBut _ _ pq (b3.extBut _ _ Tp.symm e))));have eq7:h7.IsListIter q m (j+1):=eq4.at λo e=>b7.extBut _ _ Tq.symm (b6.extBut _ _ qr (b5.extBut _ _ Tq.symm e));have er7:h7.IsListIter r n (j+1):=er6.at λo e=>b7.extBut _ _ Tr.symm e;have lz7:z<h7.objs.size:=bo ez7;show aq _ _ (Builtin.SmallTypes.ownedTupleHandOut (.ref z) (.ref h7.objs.size) >>= _) _ _ _;refine ak ?_;unfold Builtin.SmallTypes.ownedTupleHandOut;have ez8:IsZip (h7.push { cls:=.type "tuple",data:=.seq #[x,y,u] }) z U T .ellipsis:=bG _ ez7;refine ak (wpAny_setField_rec ez8 (by simp) λh9 ez9 b9=>?_);replace ez9:IsZip h9 z U T (cE h7.objs.size):=ez9;refine wpAny_setField_rec ez9 (by simp) λhA ezA bA=>?_;replace ezA:IsZip hA z U T (cE h7.objs.size):=ezA;have up:∀k o,k≠z->h7.get? k=some o->hA.get? k=some o:=λk o c1 e=>bA.extBut _ _ c1 (b9.extBut _ _ c1 (bG _ e));have eN:Tri hA h7.objs.size x y u:=bA.extBut _ _ (dB lz7) (b9.extBut _ _ (dB lz7) (cT _ rfl));rw[sz]at ezA eN;refine aL ⟨_,rfl,?_⟩;show Q (.ref h7.objs.size) _;rw[sz];exact f hA ezA (up _ _ zT.symm eT7) (ep7.at λo e=>up _ o zp.symm e) (eq7.at λo e=>up _ o zq.symm e) (er7.at λo e=>up _ o zr.symm e) eN λk o nk e=>up k o (off5 nk).1 (k7 k o nk e)
theorem Ho{j:Nat}{xs ys us:Array af}{a b c:af}{Q:PySem.Fin->aj->Prop}(hh:A.handled=none)(D:Ap3 z U T p q r l m n)
  (ez:IsZip s.heap z U T .none) (eU:Tri s.heap U (.ref p) (.ref q) (.ref r)) (eT:Tri s.heap T a b c) (ep:s.heap.IsListIter p l j) (eq:s.heap.IsListIter q m j) (er:s.heap.IsListIter r n j)
  (el:s.heap.IsList l xs) (em:s.heap.IsList m ys) (en:s.heap.IsList n us) (out:xs[j]?=none∨ys[j]?=none∨us[j]?=none)
  (f:∀h' e,(∀k o,k∉[z,T,p,q,r]->s.heap.get? k=some o->h'.get? k=some o)->(∃o,h'.get? e=some o/\o.cls=.type "StopIteration")->E (.ref e) { s with heap:=h' }) :
  aq (av prog w) A (Builtin.«zip.__next__» ⟨[.ref z],[]⟩) Q E s:=by
 obtain⟨⟨zU,zT,zp,zq,zr⟩,⟨UT,Up,Uq,Ur⟩,⟨Tp,Tq,Tr⟩,⟨pq,pr⟩,qr⟩:=D.all;obtain⟨lz,lT,lp,lq,lr⟩:=off5 D.a;obtain⟨mz,mT,mp,mq,mr⟩:=off5 D.b;obtain⟨nz,nT,np,nq,nr⟩:=off5 D.c;show aq _ _ (field (.ref z) 2 >>= _) _ _ _;refine ak (cX ez rfl (x:=.bool false) rfl ?_);show aq _ _ (field (.ref z) 3 >>= _) _ _ _;refine ak (cX ez rfl (x:=.ref U) rfl ?_);refine ak (wpAny_seqItems eU rfl ?_);show aq _ _ (Builtin.SmallTypes.ownedTupleIsFree (.ref z) >>= _) _ _ _;refine ak ?_;unfold Builtin.SmallTypes.ownedTupleIsFree;refine ak (cX ez rfl (x:=.none) rfl (aL ?_));simp only[if_true];refine ak (wpAny_rule ?_);refine ak (cX ez rfl (x:=.ref T) rfl ?_);refine ak (wpAny_setField_rec ez (by simp) λh1 ez1 b1=>?_);replace ez1:IsZip h1 z U T .ellipsis:=ez1;refine ak ?_;simp only[List.zipIdx_cons,List.zipIdx_nil,j7,i6];have last:∀(h2:aH) (e:ae),IsZip h2 z U T .ellipsis->(∀k o,k∉[z,T,p,q,r]->s.heap.get? k=some o->h2.get? k=some o)->(∃o,h2.get? e=some o/\o.cls=.type "StopIteration")->aq (av prog w) A (setField (.ref z) 0 .none) (λ_ s'=>E (.ref e) s') E { s with heap:=h2 }:=λh2 e e2 k2 he=>by
  obtain⟨oe,ge,ce⟩:=he;have ne:e≠z:=λx=>by subst x;rw[e2]at ge;cases ge;simp at ce
  exact wpAny_setField_rec e2 (by simp) λh3 _ b3=>f h3 e (λk o nk x=>b3.extBut _ _ (off5 nk).1 (k2 k o nk x)) ⟨oe,b3.extBut _ _ ne ge,ce⟩
 refine ak (ak (wpAny_onRaise ?_));show aq _ _ (Builtin.SmallTypes.nextOf (.ref p) >>= _) _ _ _;cases gx:xs[j]? with
 |none=>
   refine ak (wpAny_nextOf_list_end hh (ep.extBut b1.extBut zp.symm) (el.extBut b1.extBut lz) gx λh2 e b2 he=>?_);exact last h2 e (b2 _ _ zp ez1) (λk o nk x=>b2 _ _ (off5 nk).2.2.1 (b1.extBut _ _ (off5 nk).1 x)) he
 |some x=>
   refine ak (wpAny_nextOf_list_item (ep.extBut b1.extBut zp.symm) (el.extBut b1.extBut lz) gx λh2 ep2 b2=>aL ?_);have eT2:Tri h2 T a b c:=b2.extBut _ _ Tp (b1.extBut _ _ zT.symm eT);refine ak (wpAny_seqItems eT2 rfl ?_);refine ak (nL eT2 λh3 eT3 b3=>?_);replace eT3:Tri h3 T x b c:=eT3;refine ak (wpAny_letGo (aL ?_));refine ak (ak (wpAny_onRaise ?_));show aq _ _ (Builtin.SmallTypes.nextOf (.ref q) >>= _) _ _ _;have k3:∀{k:ae}{o:aB},k≠z->k≠p->k≠T->s.heap.get? k=some o->h3.get? k=some o:=λc1 c2 c3 e=>b3.extBut _ _ c3 (b2.extBut _ _ c2 (b1.extBut _ _ c1 e));have ez3:IsZip h3 z U T .ellipsis:=b3.extBut _ _ zT (b2.extBut _ _ zp ez1);cases gy:ys[j]? with
   |none=>
     refine ak (wpAny_nextOf_list_end hh (eq.at λo e=>k3 zq.symm pq.symm Tq.symm e) (em.at λo e=>k3 mz mp mT e) gy λh4 e b4 he=>?_);exact last h4 e (b4 _ _ zq ez3) (λk o nk x=>by obtain⟨c1,c2,c3,c4,c5⟩:=off5 nk;exact b4 _ _ c4 (k3 c1 c3 c2 x)) he
   |some y=>
     have gu:us[j]?=none:=by
      rcases out with h|h|h
      ·rw[gx]at h;cases h
      ·rw[gy]at h;cases h
      ·exact h
     refine ak (wpAny_nextOf_list_item (eq.at λo e=>k3 zq.symm pq.symm Tq.symm e) (em.at λo e=>k3 mz mp mT e) gy λh4 eq4 b4=>aL ?_);have eT4:Tri h4 T x b c:=b4.extBut _ _ Tq eT3;refine ak (wpAny_seqItems eT4 rfl ?_);refine ak (nL eT4 λh5 eT5 b5=>?_);refine ak (wpAny_letGo (aL ?_));refine ak (ak (wpAny_onRaise ?_));show aq _ _ (Builtin.SmallTypes.nextOf (.ref r) >>= _) _ _ _;have k5:∀{k:ae}{o:aB},k≠z->k≠p->k≠T->k≠q->s.heap.get? k=some o->h5.get? k=some o:=λc1 c2 c3 c4 e=>b5.extBut _ _ c3 (b4.extBut _ _ c4 (k3 c1 c2 c3 e));have ez5:IsZip h5 z U T .ellipsis:=b5.extBut _ _ zT (b4.extBut _ _ zq ez3);refine ak (wpAny_nextOf_list_end hh (er.at λo e=>k5 zr.symm pr.symm Tr.symm qr.symm e) (en.at λo e=>k5 nz np nT nq e) gu λh6 e b6 he=>?_);exact last h6 e (b6 _ _ zr ez5) (λk o nk x=>by obtain⟨c1,c2,c3,c4,c5⟩:=off5 nk;exact b6 _ _ c5 (k5 c1 c3 c2 c4 x)) he
theorem CL{j:Nat}{xs ys us:Array af}{x y u a b c:af}{Q:Option af->aj->Prop}(D:Ap3 z U T p q r l m n)
  (ez:IsZip s.heap z U T .none) (eU:Tri s.heap U (.ref p) (.ref q) (.ref r)) (eT:Tri s.heap T a b c) (ep:s.heap.IsListIter p l j) (eq:s.heap.IsListIter q m j) (er:s.heap.IsListIter r n j)
  (el:s.heap.IsList l xs) (em:s.heap.IsList m ys) (en:s.heap.IsList n us) (gx:xs[j]?=some x) (gy:ys[j]?=some y) (gu:us[j]?=some u)
  (f:∀h',IsZip h' z U T (cE s.heap.objs.size)->Tri h' T x y u->h'.IsListIter p l (j + 1)->h'.IsListIter q m (j + 1)->h'.IsListIter r n (j + 1)->Tri h' s.heap.objs.size x y u ->
   (∀k o,k∉[z,T,p,q,r]->s.heap.get? k=some o->h'.get? k=some o)->Q (some (.ref s.heap.objs.size)) { s with heap:=h' }):aq (av prog w) A (pyNext (.ref z)) Q E s:=by
 have ty:s.TypeIs (.ref z) "zip":=⟨_,ez,rfl⟩
 unfold pyNext;exact ak (wpAny_attempt (wpAny_callSpecial?_slot (name:=aA "__next__") ty F.slot_zip_next (wpAny_call_entry F.slot_zip_next ty F.entry_zip_next
  (HJ D ez eU eT ep eq er el em en gx gy gu λh' a1 a2 a3 a4 a5 a6 a7=>aL (f h' a1 a2 a3 a4 a5 a6 a7)) (F.args_zip_next_1 _))))
theorem C0{j:Nat}{xs ys us:Array af}{a b c:af}{Q:Option af->aj->Prop}(hh:A.handled=none)(D:Ap3 z U T p q r l m n)
  (ez:IsZip s.heap z U T .none) (eU:Tri s.heap U (.ref p) (.ref q) (.ref r)) (eT:Tri s.heap T a b c) (ep:s.heap.IsListIter p l j) (eq:s.heap.IsListIter q m j) (er:s.heap.IsListIter r n j)
  (el:s.heap.IsList l xs) (em:s.heap.IsList m ys) (en:s.heap.IsList n us) (out:xs[j]?=none∨ys[j]?=none∨us[j]?=none)
  (f:∀h',(∀k o,k∉[z,T,p,q,r]->s.heap.get? k=some o->h'.get? k=some o)->Q none { s with heap:=h' }):aq (av prog w) A (pyNext (.ref z)) Q E s:=by
 have ty:s.TypeIs (.ref z) "zip":=⟨_,ez,rfl⟩
 unfold pyNext;refine ak (wpAny_attempt (wpAny_callSpecial?_slot (name:=aA "__next__") ty F.slot_zip_next (wpAny_call_entry F.slot_zip_next ty F.entry_zip_next
  (Ho hh D ez eU eT ep eq er el em en out λh' e k he=>?_) (F.args_zip_next_1 _))))
 obtain⟨o,go,co⟩:=he;exact ak (wpAny_isInstance (T:="StopIteration") (b:=true) ⟨o,go,co⟩ isSubtype_stop (aL (f _ k)))
end
theorem ty3(a b c:af):checkTypeCall "zip" ⟨[a,b,c],[]⟩=pure ():=by kernel_rfl
theorem new3(a b c:af):checkBuiltinCall "zip.__new__" ⟨[.type "zip",a,b,c],[]⟩=pure ():=by kernel_rfl
theorem obj4(a b c d:af):argsOk "object.__init__" ⟨[a,b,c,d],[]⟩:=by
 unfold argsOk;rw[signature?_of (id:="object.__init__") (n:=['_','_','t','i','n','i','_','_']) (o:=['t','c','e','j','b','o']) (by kernel_rfl) F.owner_object];kernel_rfl
noncomputable abbrev lIt(l:ae):aB:={ cls:=.type "list_iterator",data:=.fields #[.ref l,.int 0 0] }
noncomputable abbrev oO(h:aH)(l m n:ae):aH:=((h.push (lIt l)).push (lIt m)).push (lIt n)
noncomputable abbrev sr(h:aH)(l m n:ae):aH:=(oO h l m n).push { cls:=.type "tuple",data:=.seq #[.ref h.objs.size,.ref (h.push (lIt l)).objs.size,.ref ((h.push (lIt l)).push (lIt m)).objs.size] }
noncomputable abbrev rM(h:aH)(l m n:ae):aH:=(sr h l m n).push { cls:=.type "tuple",data:=.seq #[.none,.none,.none] }
noncomputable abbrev j3(h:aH)(l m n:ae):aH:=(rM h l m n).push { cls:=.type "zip",data:=.fields #[.none,.bool false,.bool false,.ref (oO h l m n).objs.size,.ref (sr h l m n).objs.size] }
set_option maxHeartbeats 1000000 in
theorem A4(l m n:ae)(xs ys us:Array af):Meets (Builtin.«zip.__new__» ⟨[.type "zip",.ref l,.ref m,.ref n],[]⟩) (λ_ R s=>s.heap.IsList l xs/\s.heap.IsList m ys/\s.heap.IsList n us/\R (.ok (.ret (.ref (rM s.heap l m n).objs.size))) { s with heap:=j3 s.heap l m n }):=
 .of_wp λprog w A R s h=>by
  obtain⟨hp,g,d,tk,os⟩:=s;obtain⟨el,em,en,h⟩:=h;have hsub:=sub_zip;have L1:Heap.IsList (Shared.heap ⟨hp,g,d,tk,os⟩) l xs:=el;have L2:Heap.IsList (Shared.heap ⟨hp.push { cls:=.type "list_iterator",data:=.fields #[.ref l,.int 0 0] },g,d,tk,os⟩) m ys:=Heap.IsList.push em _;have L3:Heap.IsList (Shared.heap ⟨(hp.push { cls:=.type "list_iterator",data:=.fields #[.ref l,.int 0 0] }).push { cls:=.type "list_iterator",data:=.fields #[.ref m,.int 0 0] },g,d,tk,os⟩) n us:=Heap.IsList.push (Heap.IsList.push en _) _
  wp_walk using wpAny_pyIter_list L1,wpAny_pyIter_list L2,wpAny_pyIter_list L3
  exact⟨_,rfl,h⟩
theorem IK{prog:bi}{w:aQ}{A:aX}{E:af->aj->Prop}{s:aj}{l m n:ae}{xs ys us:Array af}{Q:af->aj->Prop}(el:s.heap.IsList l xs)(em:s.heap.IsList m ys)(en:s.heap.IsList n us)
  (f:∀h',IsZip h' (s.heap.objs.size + 5) (s.heap.objs.size + 3) (s.heap.objs.size + 4) .none->Tri h' (s.heap.objs.size + 3) (.ref s.heap.objs.size) (.ref (s.heap.objs.size + 1)) (.ref (s.heap.objs.size + 2))->Tri h' (s.heap.objs.size + 4) .none .none .none ->
   h'.IsListIter s.heap.objs.size l 0->h'.IsListIter (s.heap.objs.size + 1) m 0->h'.IsListIter (s.heap.objs.size + 2) n 0->(∀c o,s.heap.get? c=some o->h'.get? c=some o)->Q (.ref (s.heap.objs.size + 5)) { s with heap:=h' }) :
  aq (av prog w) A (call (.type "zip") [.ref l,.ref m,.ref n]) Q E s:=by
 refine callType_new F.called_zip (by decide) (ty3 _ _ _) (new3 _ _ _) (λobj=>obj4 obj _ _ _) F.entry_zip_new (A4 l m n xs ys us) ⟨el,em,en,?_⟩;have s1:(s.heap.push (lIt l)).objs.size=s.heap.objs.size+1:=iV ..;have s2:((s.heap.push (lIt l)).push (lIt m)).objs.size=s.heap.objs.size+2:=by rw[iV,s1]
 have s3:(oO s.heap l m n).objs.size=s.heap.objs.size+3:=by rw[iV,s2]
 have s4:(sr s.heap l m n).objs.size=s.heap.objs.size+4:=by rw[iV,s3]
 have s5:(rM s.heap l m n).objs.size=s.heap.objs.size+5:=by rw[iV,s4]
 have up:∀{h:aH}{c:ae}{o o':aB},h.get? c=some o->(h.push o').get? c=some o:=λe=>bG _ e;have g6:(j3 s.heap l m n).get? (rM s.heap l m n).objs.size=some _:=cT _ rfl;have g5:(j3 s.heap l m n).get? (sr s.heap l m n).objs.size=some _:=up (cT _ rfl);have g4:(j3 s.heap l m n).get? (oO s.heap l m n).objs.size=some _:=up (up (cT _ rfl));have g3:(j3 s.heap l m n).get? ((s.heap.push (lIt l)).push (lIt m)).objs.size=some _:=up (up (up (cT _ rfl)));have g2:(j3 s.heap l m n).get? (s.heap.push (lIt l)).objs.size=some _:=up (up (up (up (cT _ rfl))));have g1:(j3 s.heap l m n).get? s.heap.objs.size=some _:=up (up (up (up (up (cT _ rfl)))));show _/\_;rw[s3,s4,s5]at g6;rw[s1,s2,s3]at g4;rw[s4]at g5;rw[s2]at g3;rw[s1]at g2;rw[s5];exact⟨⟨_,g6,rfl⟩,f _ g6 g4 g5 ⟨_,g1,rfl,rfl⟩ ⟨_,g2,rfl,rfl⟩ ⟨_,g3,rfl,rfl⟩ λc o x=>up (up (up (up (up (up x)))))⟩
end L2.Rv
namespace L2.Rv
open PySem PySem.Spec PyProof.Rows
variable {G:Gb}{m m' m1 m2:List ae}{h h' h1 h2:MH}{H H' H1 H2:Hp}{X:Cx}{E:af->aj->Prop}{EX:St->Prop}{σ:MSt}{σ':St}
noncomputable def Itz3(K:PySem.W.Frag)(l1 l2 l3:ae):It where
 go:=λi H=>∃xs ys us x y u,SqL K H l1 xs/\SqL K H l2 ys/\SqL K H l3 us/\xs[i]?=some x/\ys[i]?=some y/\us[i]?=some u
 yld:=λi H v H'=>∃T x y u,v=.ref T/\H T=none/\H'=upd H T (.tup [x,y,u])/\(∀xs,SqL K H l1 xs->xs[i]?=some x)/\(∀ys,SqL K H l2 ys->ys[i]?=some y)/\∀us,SqL K H l3 us->us[i]?=some u
 stop:=λi H=>∃xs ys us,SqL K H l1 xs/\SqL K H l2 ys/\SqL K H l3 us/\(xs.length≤i∨ys.length≤i∨us.length≤i)
theorem off6{a b c d e f x:ae}(h:x∉[a,b,c,d,e,f]):x∉[a,c,d,e,f]:=λz=>h (by
 simp only [bu,cW,or_false] at z ⊢;rcases z with z | z | z | z | z <;> simp [z])
theorem DB{P:bi}{w:aQ}{K:PySem.W.Frag}{elts:List aw}{x1:Nat}{tp:Pos}{z U T p q r l1 l2 l3:ae}(D:Ap3 z U T p q r l1 l2 l3) :
  Turn P w K (.Tuple elts x1 tp) (Itz3 K l1 l2 l3) [z,U,T,p,q,r] z (λi h=>IsZip h z U T .none/\Tri h U (.ref p) (.ref q) (.ref r)/\(∃a b c,Tri h T a b c)/\h.IsListIter p l1 i/\h.IsListIter q l2 i/\h.IsListIter r l3 i) where
 mem:=by simp
 obj:=λi h e0 c hc=>by
  obtain⟨ez,eU,⟨a,b,d,eT⟩,k1,k2,k3⟩:=e0;simp only[bu,cW,or_false]at hc;rcases hc with rfl|rfl|rfl|rfl|rfl|rfl
  ·exact⟨_,ez,λv y=>by cases(show Data.fields _=Data.cell v from y)⟩
  ·exact⟨_,eU,λv y=>by cases(show Data.seq _ _=Data.cell v from y)⟩
  ·exact⟨_,eT,λv y=>by cases(show Data.seq _ _=Data.cell v from y)⟩
  ·obtain⟨o,e,q1,q2⟩:=k1;exact⟨o,e,λv y=>by rw[q2]at y;cases y⟩
  ·obtain⟨o,e,q1,q2⟩:=k2;exact⟨o,e,λv y=>by rw[q2]at y;cases y⟩
  ·obtain⟨o,e,q1,q2⟩:=k3;exact⟨o,e,λv y=>by rw[q2]at y;cases y⟩
 keep:=λi h h' e0 k=>by
  obtain⟨ez,eU,⟨a,b,d,eT⟩,k1,k2,k3⟩:=e0;exact⟨k z (by simp) _ ez,k U (by simp) _ eU,⟨a,b,d,k T (by simp) _ eT⟩,k1.at λo e=>k p (by simp) o e,k2.at λo e=>k q (by simp) o e,k3.at λo e=>k r (by simp) o e⟩
 item:=by
  rintro X hP hw hK hc i pins s σ H E I hf ⟨ez,eU,⟨a,b,d,eT⟩,k1,k2,k3⟩ ⟨xs,ys,us,x,y,u,q1,q2,q3,e1,e2,e3⟩;subst hP hw hK;obtain⟨⟨zU,zT,zp,zq,zr⟩,⟨UT,Up,Uq,Ur⟩,⟨Tp,Tq,Tr⟩,⟨pq,pr⟩,qr⟩:=D.all;obtain⟨is1,rv1,p1,_⟩:=I.list q1;obtain⟨is2,rv2,p2,_⟩:=I.list q2;obtain⟨is3,rv3,p3,_⟩:=I.list q3;obtain⟨v1,g1,r1⟩:=rv1.get e1;obtain⟨v2,g2,r2⟩:=rv2.get e2;obtain⟨v3,g3,r3⟩:=rv3.get e3;refine CL D ez eU eT k1 k2 k3 p1.isList p2.isList p3.isList (x:=v1) (y:=v2) (u:=v3) (by simpa using g1) (by simpa using g2) (by simpa using g3) λhp' a1 a2 a3 a4 a5 a6 kk=>?_;refine⟨_,rfl,wpAny_letOwnedTupleGo_zip a1 λhp2 b1 b2=>?_⟩;have kz:∀c o,c∉[z,T,p,q,r]->s.heap.get? c=some o->hp2.get? c=some o:=λc o nc e=>b2.extBut _ _ (off5 nc).1 (kk c o nc e);have I1:Inv X pins σ H { s with heap:=hp2,toks:=s.toks }:=Inv.turnedL I hf λc o hc' e=>kz c o (off6 hc') e;have nT:∀c o,s.heap.get? c=some o->s.heap.objs.size≠c:=λc o e=>dB (bo e);have gT:hp2.get? s.heap.objs.size=some { cls:=.type "tuple",data:=.seq #[v1,v2,v3] }:=b2.extBut _ _ (nT z _ ez) a6;have fT:Fp X pins H s.heap.objs.size:=Fp.of I (jf (aU _)) (I.hok.fresh (aU _));have I2:=Inv.trackO (v:=.tup [x,y,u]) I1 fT ⟨by show 3≤aV;decide,[v1,v2,v3],.cons r1 (.cons r2 (.cons r3 .nil)),⟨_,gT,rfl,0,rfl⟩⟩;refine⟨.ref s.heap.objs.size,_,I2,rfl,⟨s.heap.objs.size,x,y,u,rfl,fT.un,rfl,λws hw=>by rw[I.list_inj hw q1];exact e1,λws hw=>by rw[I.list_inj hw q2];exact e2,λws hw=>by rw[I.list_inj hw q3];exact e3⟩,⟨b1,?_,⟨v1,v2,v3,b2.extBut _ _ zT.symm a2⟩,a3.extBut b2.extBut zp.symm,a4.extBut b2.extBut zq.symm,a5.extBut b2.extBut zr.symm⟩,λc hc'=>?_⟩
  ·exact kz _ _ (by simp[zU.symm,UT,Up,Uq,Ur]) eU
  ·rw[aY]
   ·exact(hf c hc').1
   ·simp only[bu,cW,or_false]at hc';rcases hc' with rfl|rfl|rfl|rfl|rfl|rfl
    ·exact(nT _ _ ez).symm
    ·exact(nT _ _ eU).symm
    ·exact(nT _ _ eT).symm
    ·obtain⟨o,e,_⟩:=k1;exact(nT _ _ e).symm
    ·obtain⟨o,e,_⟩:=k2;exact(nT _ _ e).symm
    ·obtain⟨o,e,_⟩:=k3;exact(nT _ _ e).symm
 done:=by
  rintro X hP hw hK hc i pins s σ H E I hf ⟨ez,eU,⟨a,b,d,eT⟩,k1,k2,k3⟩ ⟨xs,ys,us,q1,q2,q3,e1⟩;subst hP hw hK;obtain⟨is1,rv1,p1,_⟩:=I.list q1;obtain⟨is2,rv2,p2,_⟩:=I.list q2;obtain⟨is3,rv3,p3,_⟩:=I.list q3;have n1:=rv1.length;have n2:=rv2.length;have n3:=rv3.length;refine C0 (I.ok.hd hc) D ez eU eT k1 k2 k3 p1.isList p2.isList p3.isList ?_ λhp' kk=>⟨rfl,Inv.turnedL (t:=s.toks) I hf λc o hc' e=>kk c o (off6 hc') e⟩;rcases e1 with e1|e1|e1
  ·exact .inl (by simp;lia)
  ·exact .inr (.inl (by simp;lia))
  ·exact .inr (.inr (by simp;lia))
 self:=λ_ _ _ _ _ st h=>wpAny_pyIter_zip st.1 h
theorem vals3{a b c:V}{us:List af}(r:Vals [a,b,c] us):∃u v w,us=[u,v,w]/\aN a u/\aN b v/\aN c w:=by
 cases r with
 |cons q t=>cases t with
   |cons q2 t2=>cases t2 with
     |cons q3 t3=>cases t3;exact⟨_,_,_,rfl,q,q2,q3⟩
theorem nd6(n:Nat):[n+5,n+3,n+4,n,n+1,n+2].Nodup:=by simp
theorem sD{l n:Nat}(h:l<n):l∉[n+5,n+4,n,n+1,n+2]:=by simp;lia
theorem Iq{a b c:aw}{ta:TA}{elts:List aw}{x1:Nat}{tp p pos:Pos}(hg:Gl X "zip")(hm:X.mg "zip"=none)(ha:PA X [a,b,c] ta)(hs:aJ [a,b,c] X.env=[(false,aG a X.env),(false,aG b X.env),(false,aG c X.env)]:=by rfl)(hs2:aJ [b,c] X.env=[(false,aG b X.env),(false,aG c X.env)]:=by rfl) :
  PI X (.Tuple elts x1 tp) (.Call (.Name "zip" p) [a,b,c] [] pos) (λσ H R=>ta σ H λvs H1=>∃l1 l2 l3 xs ys us,vs=[.ref l1,.ref l2,.ref l3]/\SqL X.K H1 l1 xs/\SqL X.K H1 l2 ys/\SqL X.K H1 l3 us/\R (Itz3 X.K l1 l2 l3) H1):=by
 intro pins s σ H R I t;refine Call_ (gJ I hg hm PyProof.Rows.Boot.«zip» (PyProof.Rows.callWith_type1 (thn (ha pos pins s σ H _ I t) λus s1 e0=>bp e0 λvs H1 I1 r1 q1=>?_) (by rw[hs,hs2]) (by rw[hs2];rfl)));obtain⟨l1,l2,l3,xs,ys,ws,rfl,q1,q2,q3,qq⟩:=q1;obtain⟨v,w,u,rfl,rx,ry,rz⟩:=vals3 r1;cases rx;cases ry;cases rz;obtain⟨is1,rv1,p1,_⟩:=I1.list q1;obtain⟨is2,rv2,p2,_⟩:=I1.list q2;obtain⟨is3,rv3,p3,_⟩:=I1.list q3;have a1:l1<s1.heap.objs.size:=by obtain⟨_,e,_⟩:=p1.isList;exact bo e
 have a2:l2<s1.heap.objs.size:=by obtain⟨_,e,_⟩:=p2.isList;exact bo e
 have a3:l3<s1.heap.objs.size:=by obtain⟨_,e,_⟩:=p3.isList;exact bo e
 refine IK p1.isList p2.isList p3.isList λhp hz hU hT k1 k2 k3 hk=>?_;refine wpAny_pyIter_zip (s:={ s1 with heap:=hp }) hz ?_;have D:Ap3 (s1.heap.objs.size+5) (s1.heap.objs.size+3) (s1.heap.objs.size+4) s1.heap.objs.size (s1.heap.objs.size+1) (s1.heap.objs.size+2) l1 l2 l3:=by
  exact⟨nd6 _,sD a1,sD a2,sD a3⟩
 refine⟨_,[s1.heap.objs.size+5,s1.heap.objs.size+3,s1.heap.objs.size+4,s1.heap.objs.size,s1.heap.objs.size+1,s1.heap.objs.size+2],_,_,H1,rfl,I1.kept (t':=s1.toks) hk,DB D,⟨hz,hU,⟨_,_,_,hT⟩,k1,k2,k3⟩,λb hb=>?_,qq⟩;have lb:s1.heap.objs.size≤b:=by
  simp only[bu,cW,or_false]at hb;rcases hb with rfl|rfl|rfl|rfl|rfl|rfl <;> lia
 exact I1.fpOk lb (I1.hok.fresh lb)
theorem zK:∀{xs ys zs:List MV}{i:Nat}{r:List MV},(cQ xs ys zs)[i]?=some r->∃x y z,xs[i]?=some x/\ys[i]?=some y/\zs[i]?=some z/\r=[x,y,z]
 |[],ys,zs,i,r,e=>by simp[cQ]at e
 |_::_,[],zs,i,r,e=>by simp[cQ]at e
 |_::_,_::_,[],i,r,e=>by simp[cQ]at e
 |x::xs,y::ys,z::zs,0,r,e=>by simp[cQ]at e;exact⟨x,y,z,rfl,rfl,rfl,e.symm⟩
 |x::xs,y::ys,z::zs,i+1,r,e=>by
   obtain⟨a,b,c,h1,h2,h3,h4⟩:=zK (xs:=xs) (ys:=ys) (zs:=zs) (i:=i) (by simpa[cQ] using e);exact⟨a,b,c,by simpa using h1,by simpa using h2,by simpa using h3,h4⟩
theorem vW:∀(xs ys zs:List MV),(cQ xs ys zs).length=min xs.length (min ys.length zs.length)
 |[],ys,zs=>by simp[cQ]
 |_::_,[],zs=>by simp[cQ]
 |_::_,_::_,[]=>by simp[cQ]
 |x::xs,y::ys,z::zs=>by simp[cQ,vW xs ys zs]
theorem E3{n k j:Nat}{a b c:ae}{xs ys zs:List MV}(ea:m[n]?=some a)(eb:m[k]?=some b)(ec:m[j]?=some c):JOk G (Itz3 G.K a b c) ⟨cQ xs ys zs,[(n,xs),(k,ys),(j,zs)]⟩ false 3 m H:=by
 intro m2 h2 H2 pre R ok;have ea2:m2[n]?=some a:=pre.get ea;have eb2:m2[k]?=some b:=pre.get eb;have ec2:m2[j]?=some c:=pre.get ec;have eo:h2[n]?=some (.lst xs)/\h2[k]?=some (.lst ys)/\h2[j]?=some (.lst zs):=by simpa[Src.okIn,hI] using ok
 obtain⟨vs,r1,z1⟩:=R.ob n a _ ea2 eo.1;obtain⟨ws,r2,z2⟩:=R.ob k b _ eb2 eo.2.1;obtain⟨us,r3,z3⟩:=R.ob j c _ ec2 eo.2.2;refine⟨λi row ei=>?_,⟨vs,ws,us,SqL.of z1,SqL.of z2,SqL.of z3,?_⟩⟩
 ·obtain⟨x,y,z,e1,e2,e3,rfl⟩:=zK ei;obtain⟨v,g1,rv⟩:=f8 r1 e1;obtain⟨w,g2,rw'⟩:=f8 r2 e2;obtain⟨u,g3,ru⟩:=f8 r3 e3;refine⟨rfl,⟨vs,ws,us,v,w,u,SqL.of z1,SqL.of z2,SqL.of z3,g1,g2,g3⟩,λuu H' yy=>?_⟩;obtain⟨T,x',y',u',rfl,hT,rfl,f1,f2,f3⟩:=yy;have q1:=f1 vs (SqL.of z1);have q2:=f2 ws (SqL.of z2);have q3:=f3 us (SqL.of z3);rw[g1]at q1;rw[g2]at q2;rw[g3]at q3;cases q1;cases q2;cases q3;have xx:Ext m2 H2 m2 (upd H2 T (.tup [v,w,u])):=Ext.side hT;exact⟨xx,R.side hT,T,[v,w,u],rfl,R.fresh hT,dh,VRl.of (.cons (xx.vr rv) (.cons (xx.vr rw') (.cons (xx.vr ru) .nil)))⟩
 ·show vs.length≤(cQ xs ys zs).length∨ws.length≤(cQ xs ys zs).length∨us.length≤(cQ xs ys zs).length;rw[vW,←Paired.length r1,←Paired.length r2,←Paired.length r3];lia
theorem IG{a b c:aw}{ga gb gc:ME}{elts:List aw}{x1:Nat}{tp p pos:Pos}(ha:GE G X a ga)(hb:GE G X b gb)(hc:GE G X c gc)(hm:X.mg "zip"=none)(hg:Gl X "zip":=by rfl)(hs:aJ [a,b,c] X.env=[(false,aG a X.env),(false,aG b X.env),(false,aG c X.env)]:=by rfl)
  (hs2:aJ [b,c] X.env=[(false,aG b X.env),(false,aG c X.env)]:=by rfl) (hs3:aJ [c] X.env=[(false,aG c X.env)]:=by rfl) (hK:X.K=G.K:=by rfl):GI G X (.Tuple elts x1 tp) (.Call (.Name "zip" p) [a,b,c] [] pos) false 3 (oz ga gb gc):=λE EX=>by
 refine⟨_,Iq (X:=X.wish E) hg hm (fH (X:=X.wish E) (ha E EX) (fH (X:=X.wish E) (hb E EX) (hc.a1 hs3 E EX) (by show aJ [b,c] X.env=(false,aG b X.env)::aJ [c] X.env;rw[hs2,hs3])) (by show aJ [a,b,c] X.env=(false,aG a X.env)::aJ [b,c] X.env;rw[hs,hs2])) hs hs2,λσ' H R e0=>bK e0 λm h σ ex S Rr P=>?_⟩;refine sub ex S Rr P λv m1 h1 H1 v' x1 R1 r1 P1=>sub ex (S.mono x1) R1 P1 λw m2 h2 H2 w' x2 R2 r2 P2=>sub ex ((S.mono x1).mono x2) R2 P2 λu m3 h3 H3 u' x3 R3 r3 P3=>?_;cases v with
 |ref n=>cases w with
   |ref k=>cases u with
     |ref j=>
       obtain⟨aa,ea,rfl⟩:=x3.vr (x2.vr r1);obtain⟨bb,eb,rfl⟩:=x3.vr r2;obtain⟨cc,ec,rfl⟩:=r3;obtain⟨oa,e1,q1,P4⟩:=cb R3 ea P3;obtain⟨ob,e2,q2,P5⟩:=cb R3 eb P4;obtain⟨oc,e3,q3,P6⟩:=cb R3 ec P5;cases oa with
       |lst xs=>cases ob with
         |lst ys=>cases oc with
           |lst zs=>
             obtain⟨vs,r,z⟩:=q1;obtain⟨ws,r',z'⟩:=q2;obtain⟨us,r'',z''⟩:=q3;refine⟨aa,bb,cc,vs,ws,us,rfl,SqL.of z,SqL.of z',SqL.of z'',?_⟩;have J:=Post.here R3 P6 (Itz3 G.K aa bb cc) (E3 ea eb ec);rw[←hK]at J;exact J
           |_=>exact P6.elim
         |_=>exact P6.elim
       |_=>exact P6.elim
     |_=>exact P3.elim
   |_=>exact P3.elim
 |_=>exact P3.elim
end L2.Rv
namespace L2.Rv
noncomputable section
open PySem (Str)
noncomputable def jB(s:Str)(n:Int):Str:=if(n == 1||s.length == 0)=true then s else⟨(br n.toNat s.cps).foldl (·++·) #[]⟩
end
end L2.Rv
namespace L2.Rv
open PySem PySem.Spec PyProof.Rows
variable {G:Gb}{m m' m1 m2:List ae}{h h' h1 h2:MH}{H H' H1 H2:Hp}{X:Cx}{E:af->aj->Prop}{EX:St->Prop}{σ:MSt}{σ':St}
def G4:R2:=λx y H Q=>∃(s:Str) (n:Int),x=.str s/\y=.int n/\1≤n/\n≤1000/\s.length*n.toNat≤10000/\Q (.str (jB s n)) H
theorem vN(a:Array Nat):∀(k:Nat) (acc:Array Nat),(jF (·++·) acc (br k a)).size=acc.size+k*a.size
 |0,acc=>by simp
 |k+1,acc=>by
   rw[fZ,vy,vN a k,Array.size_append,Nat.add_mul];lia
theorem Gr:OpR X (binaryOp .Mult) G4:=by
 rintro pins s σ H x y v u Q I rx ry ⟨i,n,e1,e2,h1,h2,h3,q⟩;subst e1;subst e2;obtain⟨t,rfl⟩:=rx;obtain⟨t',rfl⟩:=ry;have big:i.length*n.toNat≤aV:=cB h3 (by decide);refine PySem.P.mul_str (by
  rw [decide_eq_false (by lia),decide_eq_false (by lia)];rfl) (λ_ _=>?_) (λ_ _=>?_) ?_
 ·have:(i.length:Int)*n≤2 ^ 63-1:=by
   have e:((i.length*n.toNat:Nat):Int)=(i.length:Int)*n:=by
    rw[Int.natCast_mul,Int.toNat_of_nonneg (by lia)]
   lia
  have:=Int.le_ediv_of_mul_le (show 0<n by lia) this
  lia
 ·exact decide_eq_false (Nat.not_lt.mpr big)
 ·rw[if_neg (by lia)];unfold jB at q;split
  ·rename_i c;rw[if_pos c]at q;exact⟨.str i,H,I,⟨t,rfl⟩,q⟩
  ·rename_i c;rw[if_neg c]at q;refine⟨?_,⟨.str _,H,I.tok _,⟨_,rfl⟩,q⟩⟩;show(jF (·++·) #[] (br n.toNat i.cps)).size≤aV;rw[vN];have:i.cps.size=i.length:=rfl;rw[this,Nat.mul_comm];simpa using big
end L2.Rv
namespace L2.Rv
noncomputable section
end
end L2.Rv
namespace L2.Rv
open PySem PySem.Spec PyProof.Rows
variable {G:Gb}{X:Cx}{E:af->aj->Prop}{EX:St->Prop}
end L2.Rv
namespace L2.Rv
noncomputable section
open PySem (Str)
noncomputable def vk:Op1:=λx=>match x with
 |.int i=>if i.natAbs.log2<1000 then ret (.str (aA (toString i))) else stk
 |_=>stk
end
end L2.Rv
namespace L2.Rv
open PySem PySem.Spec PyProof.Rows
variable {G:Gb}
def Fw:List V->Hp->(V->Hp->Prop)->Prop:=λxs H Q=>∃i,xs=[.int i]/\i.natAbs.log2<1920/\Q (.str (toString i)) H
theorem Hs:VO1 G vk Fw:=by
 intro X E EX m h H x x' Q R rx P;cases x with
 |int i=>
   cases(show x'=V.int i from rx);unfold vk at P;dsimp only at P
   split at P
   ·rename_i c;exact⟨i,rfl,cN c (by decide),Post.here R P _ rfl⟩
   ·exact P.elim
 |_=>exact P.elim
end L2.Rv
namespace L2.Rv
noncomputable section
open PySem (Str)
end
end L2.Rv
namespace L2.Rv
open PySem PySem.Spec PyProof.Rows
variable {G:Gb}{m m' m1 m2:List ae}{h h' h1 h2:MH}{H H' H1 H2:Hp}{X:Cx}{E:af->aj->Prop}{EX:St->Prop}{σ:MSt}{σ':St}
end L2.Rv
namespace L2.Rv
noncomputable section
open PySem (Str)
end
end L2.Rv
namespace L2.Rv
open PySem PySem.Spec PyProof.Rows
section
variable {prog:bi}{w:aQ}{A:aX}{E:af->aj->Prop}{s:aj}
end
variable {G:Gb}{X:Cx}{E:af->aj->Prop}{EX:St->Prop}
end L2.Rv
namespace L2.Rv
open PySem PySem.Spec PyProof.Rows
section
variable {prog:bi}{w:aQ}{A:aX}{E:af->aj->Prop}{s:aj}
end
section
variable {G:Gb}{m:List ae}{h:MH}{H:Hp}
end
end L2.Rv
namespace L2.Rv
open PySem PySem.Spec PyProof.Rows
variable {G:Gb}{X:Cx}{E:af->aj->Prop}{EX:St->Prop}
end L2.Rv
namespace L2.Rv
open PySem PySem.Builtin PySem.Builtin.Str
noncomputable def dm(c:Nat):List Nat->List (List Nat)
 |[]=>[[]]
 |x::l=>if x=c then[]::dm c l else match dm c l with
   |[]=>[[x]]
   |p::ps=>(x::p)::ps
noncomputable def eF(c:Nat):List Nat->List Nat
 |[]=>[]
 |x::l=>(if x=c then[0] else[])++(eF c l).map (·+1)
noncomputable def jd(l:List Nat)(cs:List Nat)(n:Nat):List (List Nat):=((0::cs.map (·+1)).zip (cs++[n])).map λp=>(l.drop p.1).take (p.2-p.1)
theorem IU(x:Nat)(l cs:List Nat)(n:Nat):(((cs.map (·+1)).map (·+1)).zip ((cs.map (·+1)).tail++[n+1])).map (λp=>((x::l).drop p.1).take (p.2-p.1))=((cs.map (·+1)).zip (cs.tail++[n])).map λp=>(l.drop p.1).take (p.2-p.1):=by
 have e:(cs.map (·+1)).tail++[n+1]=(cs.tail++[n]).map (·+1):=by simp[List.map_tail]
 rw[e,List.zip_map,dJ];refine iP λp _=>?_;simp only[Function.comp,Prod.map,List.drop_succ_cons];rw[Nat.add_sub_add_right]
theorem vG(c:Nat):∀l:List Nat,jd l (eF c l) l.length=dm c l
 |[]=>rfl
 |x::l=>by
   have ih:=vG c l;by_cases h:x=c
   ·subst h;have e:eF x (x::l)=0::(eF x l).map (·+1):=by simp[eF]
    have es:dm x (x::l)=[]::dm x l:=by simp[dm]
    rw[e,es,←ih];unfold jd;have e1:(0::(eF x l).map (·+1))++[(x::l).length]=0::((eF x l)++[l.length]).map (·+1):=by simp
    have e2:(0::(0::(eF x l).map (·+1)).map (·+1))=0::(0::(eF x l).map (·+1)).map (·+1):=rfl;rw[e1,rP,bD,List.zip_map,dJ];simp only[List.drop_zero,Nat.sub_self,List.take_zero,List.cons.injEq,true_and];refine iP λp _=>?_;simp only[Function.comp,Prod.map,List.drop_succ_cons];rw[Nat.add_sub_add_right]
   ·have e:eF c (x::l)=(eF c l).map (·+1):=by simp[eF,h]
    rw[e];cases hp:eF c l with
    |nil=>
      rw[hp]at ih;have es:dm c l=[l]:=by rw[←ih];simp[jd]
      unfold dm;rw[if_neg h,es];simp[jd]
    |cons a cs=>
      rw[hp]at ih;have es:dm c l=l.take a::(((a::cs).map (·+1)).zip (cs++[l.length])).map (λp=>(l.drop p.1).take (p.2-p.1)):=by rw[←ih];simp[jd]
      unfold dm;rw[if_neg h,es];dsimp only;unfold jd;have e1:(((a::cs).map (·+1))++[(x::l).length])=(a+1)::((cs.map (·+1))++[l.length+1]):=by simp
      rw[e1,rP,bD];have:=IU x l (a::cs) l.length;simp only[bD,List.tail_cons]at this;simp only[List.drop_zero,Nat.sub_zero,List.take_succ_cons,List.cons.injEq,true_and];simp only[bD];exact this
theorem wj(c:Nat):∀l:List Nat,eF c l=(cK l.length).filter λi=>decide (l[i]?=some c)
 |[]=>rfl
 |x::l=>by
   unfold eF;rw[wj c l,eR,List.range_succ_eq_map,pV];have e:(List.map Nat.succ (cK l.length)).filter (λi=>decide ((x::l)[i]?=some c))=((cK l.length).filter λi=>decide (l[i]?=some c)).map (·+1):=by
    rw[tP];rfl
   rw[e];by_cases h:x=c <;> simp[h]
theorem G0{s:PySem.Str}{c i:Nat}(hi:i<s.cps.toList.length):subAt s ⟨#[c]⟩ i=decide (s.cps.toList[i]?=some c):=by
 have h:i<s.cps.size:=by simpa using hi
 unfold subAt;show(s.cps.extract i (i+1) == #[c])=_;have e:s.cps.extract i (i+1)=#[s.cps[i]]:=by
  apply Array.ext
  ·simp;lia
  ·intro j h1 h2;have:j=0:=by simp at h2;lia
   subst this;simp
 rw[e];have e2:s.cps.toList[i]?=some s.cps[i]:=by simp[h]
 rw[e2];by_cases hc:s.cps[i]=c
 ·simp[hc]
 ·simp[hc]
theorem pE{s:PySem.Str}{c:Nat}:∀(k a:Nat) (arr:Array Nat) (free:Nat),a+k≤s.cps.toList.length+1->free≤a->arr.size≤a ->
  (forIn (ij a k) (arr,free) (StrLaws.occBody s ⟨#[c]⟩ s.cps.toList.length (s.cps.toList.length+1))).run.fst.toList=arr.toList++(ij a k).filter λi=>decide (s.cps.toList[i]?=some c)
 |0,a,arr,free,_,_,_=>by simp[Id.run,pure]
 |k+1,a,arr,free,h1,h2,h3=>by
   rw[List.range'_succ,j7,pV];unfold StrLaws.occBody;have l1:(⟨#[c]⟩:PySem.Str).length=1:=rfl;by_cases ha:a<s.cps.toList.length
   ·rw[G0 ha];by_cases hc:s.cps.toList[a]?=some c
    ·rw[if_pos ⟨⟨⟨by show arr.size<_;lia,h2⟩,by rw[l1];lia⟩,by simpa using hc⟩];have:=pE (s:=s) (c:=c) k (a+1) (arr.push a) (a+1) (by lia) (aU _) (by simp;lia);rw[if_pos (by simpa using hc)];refine Eq.trans this ?_;simp
    ·rw[if_neg (λz=>hc (by simpa using z.2))];have:=pE (s:=s) (c:=c) k (a+1) arr free (by lia) (by lia) (by lia);rw[if_neg (by simpa using hc)];exact this
   ·have e:s.cps.toList[a]?=none:=nQ (by lia);rw[if_neg (λz=>by have:=z.1.2;rw[l1]at this;lia),e];have:=pE (s:=s) (c:=c) k (a+1) arr free (by lia) (by lia) (by lia);simp only[reduceCtorEq,decide_false,c9,if_false];exact this
theorem Jf{s:PySem.Str}{c:Nat}:occurrences s ⟨#[c]⟩ 0 s.length (s.length+1)=eF c s.cps.toList:=by
 have e:s.length=s.cps.toList.length:=by simp[PySem.Str.length]
 rw[StrLaws.occ_eq,e,wj];have:=pE (s:=s) (c:=c) (s.cps.toList.length+1) 0 #[] 0 (by lia) (aU _) (by simp);refine Eq.trans this ?_;simp only[i7];rw[←List.range_eq_range',uI,List.filter_append];simp
theorem By{s:PySem.Str}{c:Nat}(hc:c<256):PySem.Txt.split s ⟨#[c]⟩=(dm c s.cps.toList).map λl=>⟨l.toArray⟩:=by
 have e:s.length=s.cps.toList.length:=by simp[PySem.Str.length]
 have k1:PySem.Builtin.Str.strKind ⟨#[c]⟩=1:=by simp[PySem.Builtin.Str.strKind,hc]
 have k2:¬PySem.Builtin.Str.strKind s<1:=by
  unfold PySem.Builtin.Str.strKind;split
  ·lia
  ·split <;> lia
 have hs:(⟨s.cps.toList.toArray⟩:PySem.Str)=s:=by cases s;simp
 unfold PySem.Txt.split;rw[Jf,k1];by_cases h0:s.cps.toList=[]
 ·have l0:s.length<1:=by rw[e,h0];decide
  have:(decide (s.length<(⟨#[c]⟩:PySem.Str).length)||decide (PySem.Builtin.Str.strKind s<1))=true:=by
   have:(⟨#[c]⟩:PySem.Str).length=1:=rfl;rw[this];simp[l0]
  rw[if_pos this,h0];simp only[dm,bD,gq];rw[←hs,h0]
 ·have lp:0<s.cps.toList.length:=List.length_pos_iff.mpr h0;have:¬(decide (s.length<(⟨#[c]⟩:PySem.Str).length)||decide (PySem.Builtin.Str.strKind s<1))=true:=by
   have h1:(⟨#[c]⟩:PySem.Str).length=1:=rfl;rw[h1];simp;exact⟨by lia,by lia⟩
  rw[if_neg this,←vG];by_cases hp:eF c s.cps.toList=[]
  ·rw[hp];simp only[List.isEmpty_nil,if_true];simp only[jd,gq,i7,rP,List.zip_nil_right,bD,List.drop_zero,Nat.sub_zero,List.take_length]
  ·rw[if_neg (by simpa using hp)];unfold partsBetween jd;rw[dJ,e];refine iP λp _=>?_;obtain⟨i,j⟩:=p;simp only[Function.comp];unfold strSub;congr 1;apply tR.mp;simp[List.take_drop]
end L2.Rv
namespace L2.Rv
noncomputable section
open PySem (Str)
noncomputable def l7(o e:ME):ME:=λσ=>bnd (o σ) λx=>match x with
 |.str s=>bnd (e σ) λy=>match y with
   | .str t=>(match t.cps.toList with
     |[c]=>if s.length≤100000/\c<256 then new (.lst ((dm c s.cps.toList).map λl=>.str ⟨l.toArray⟩)) else stk
     | _=>stk)
   |_=>stk
 |_=>stk
noncomputable def kW:List MV->Option (List Bool)
 |[]=>some []
 | .bl b::r=>(match kW r with
   |some bs=>some (b::bs)
   | none=>none)
 |_=>none
noncomputable def wT:Op1:=λx=>match x with
 |.ref a=>bnd (look a) λo=>match o with
   | .lst xs=>(match kW xs with
     |some bs=>ret (.bl (bs.all id))
     | none=>stk)
   |_=>stk
 |_=>stk
noncomputable def v6(e:ME):MI:=λσ=>bnd (e σ) λx=>match x with
 |.str s=>if s.cps.all (·<128)=true then ret ⟨s.cps.toList.map λc=>[.str ⟨#[c]⟩],[]⟩ else stk
 |_=>stk
noncomputable def yN:Op2:=λx y=>match x,y with
 |.str s,.str t=>ret (.bl (!(PySem.Builtin.Str.occurrences t s 0 t.length 1).isEmpty))
 |_,_=>stk
noncomputable def hW:MS:=λ_=>stk
end
end L2.Rv
namespace L2.Rv
open PySem PySem.Spec PyProof.Rows
variable {G:Gb}{X:Cx}{E:af->aj->Prop}{EX:St->Prop}{m:List ae}{h:MH}{H:Hp}
noncomputable def Its(x:Str):It where
 go:=λi H=>i<x.cps.toList.length
 yld:=λi H v H'=>H'=H/\∃c,x.cps.toList[i]?=some c/\v=.str ⟨#[c]⟩
 stop:=λi H=>x.cps.toList.length≤i
theorem Ge{P:bi}{w:aQ}{K:PySem.W.Frag}{tg:aw}{it:ae}{x:Str}{t:Tok} :
  Turn P w K tg (Its x) [it] it (λi h=>h.IsStrIter it "str_ascii_iterator" x t i) where
 mem:=by simp
 obj:=λi h z b hb=>by
  cases dF.mp hb;obtain⟨o,e,c,z⟩:=z;exact⟨o,e,λv y=>by rw[z]at y;cases y⟩
 keep:=λi h h' z k=>by
  obtain⟨o,e,c,z⟩:=z;exact⟨o,k it (by simp) _ e,c,z⟩
 item:=by
  intro X hP hw hK hc i pins s σ H E I hf hz q;subst hP hw hK;have q':i<x.cps.toList.length:=q;obtain⟨c,ec⟩:∃c,x.cps.toList[i]?=some c:=⟨_,List.getElem?_eq_getElem q'⟩;refine wpAny_pyNext_ascii_item hz (c:=c) (by simpa using ec) λhp' a1 a2=>?_;have I1:Inv X pins σ H { s with heap:=hp',toks:=s.toks+1 }:=Inv.turnedL I hf λc o hc' e=>a2.extBut c o (by simpa using hc') e;obtain⟨oi,e,cc,z⟩:=id a1;exact⟨_,rfl,rk (s:={ s with heap:=hp',toks:=s.toks+1 }) e cc z (by decide) ⟨.str ⟨#[c]⟩,H,I1,⟨_,rfl⟩,⟨rfl,c,ec,rfl⟩,a1,λb hb=>(hf b hb).1⟩⟩
 done:=by
  intro X hP hw hK hc i pins s σ H E I hf hz q;subst hP hw hK;have q':x.cps.toList.length≤i:=q;exact wpAny_pyNext_ascii_end (I.ok.hd hc) hz (by simpa using q') λhp' kk=>⟨rfl,Inv.turnedL (t:=s.toks) I hf λc o hc' e=>kk c o (by simpa using hc') e⟩
 self:=λ_ _ _ _ _ hz h=>wpAny_pyIter_striter_ascii hz h
theorem B9{e tg:aw}{to:TE}(he:PE X e to):PI X tg e (λσ H R=>to σ H λv H1=>∃x,v=.str x/\x.cps.all (·<128)=true/\R (Its x) H1):=by
 intro pins s σ H R I t;refine thn (he pins s σ H _ I t) λu s1 e0=>bp e0 λv H1 I1 rx e4=>?_;obtain⟨x,rfl,hx,q⟩:=e4;obtain⟨t,rfl⟩:=rx;refine wpAny_pyIter_ascii hx ?_;refine⟨s1.heap.objs.size,[s1.heap.objs.size],_,_,H1,rfl,I1.kept (t':=s1.toks) λb o e=>bG _ e,Ge (t:=t),⟨_,cT _ rfl,rfl,rfl⟩,λb hb=>?_,q⟩;cases dF.mp hb;exact I1.fpOk (aU _) (I1.hok.fresh (aU _))
theorem Dw{x:Str}:JOk G (Its x) ⟨x.cps.toList.map λc=>[.str ⟨#[c]⟩],[]⟩ true 1 m H:=by
 intro m2 h2 H2 pre R ok;refine⟨λi ws ei=>?_,by show x.cps.toList.length≤_;rw[c6];exact aU _⟩;rw[bZ]at ei;cases ec:x.cps.toList[i]? with
 |none=>rw[ec]at ei;cases ei
 |some c=>
   rw[ec]at ei;cases ei;refine⟨rfl,(bM.mp ec).1,λv H' y=>?_⟩;obtain⟨rfl,c',ec',rfl⟩:=y;rw[ec]at ec';cases ec';exact⟨.refl,R,_,rfl,rfl⟩
theorem Ha{tg e:aw}{ge:ME}(he:GE G X e ge):GI G X tg e true 1 (v6 ge):=λE EX=>by
 refine⟨_,B9 (X:=X.wish E) (he E EX),λσ' H R e0=>bK e0 λm h σ ex S Rr P=>?_⟩;refine sub ex S Rr P λv m1 h1 H1 v' x1 R1 r1 P1=>?_;cases v with
 |str x=>
   cases(show v'=V.str x from r1);dsimp only at P1
   split at P1
   ·rename_i hx;exact⟨x,rfl,hx,Post.here R1 P1 _ Dw⟩
   ·exact P1.elim
 |_=>exact P1.elim
theorem IE:VO G yN (λx y H Q=>∃i j,x=.str i/\y=.str j/\Q (.bl (!(Builtin.Str.occurrences j i 0 j.length 1).isEmpty)) H):=by
 intro X E EX m h H x y x' y' Q R rx ry P;cases x with
 |str s=>cases y with
   |str t=>
     cases(show x'=V.str s from rx);cases(show y'=V.str t from ry);exact⟨s,t,rfl,rfl,Post.here R P _ rfl⟩
   |_=>exact P.elim
 |_=>exact P.elim
def Hg:V->List V->Hp->VK->Prop:=λx xs H Q=>∃s c,x=.str s/\xs=[.str ⟨#[c]⟩]/\s.length≤100000/\c<256/\∀p,H p=none->Q (.ref p) (upd H p (.lst ((dm c s.cps.toList).map λl=>.str ⟨l.toArray⟩)))
theorem wI:∀(l:List (Str×Tok)),Vals (l.map λp=>V.str p.1) (strValues l)
 |[]=>.nil
 |p::l=>.cons ⟨p.2,rfl⟩ (wI l)
theorem Gk:MtR X "str.split" Hg:=by
 rintro pins s σ H x vs v us Q I rx rv ⟨sx,c,e1,e2,hl,hc,q⟩;subst e1;subst e2;obtain⟨t,rfl⟩:=rx;obtain⟨u,rfl,ru⟩:=rv.one;obtain⟨t2,rfl⟩:=ru;have e:=By (s:=sx) hc;have ll:∀l:List Nat,(dm c l).length≤l.length+1:=by
  intro l
  induction l with
  |nil=>simp[dm]
  |cons x l ih=>
    unfold dm;split
    ·simp;lia
    ·split
     ·simp
     ·rename_i e;rw[e]at ih;simp at ih ⊢;lia
 have lx:sx.cps.toList.length=sx.length:=by simp[Str.length]
 have l1:=ll sx.cps.toList;have key:∀(l:List (Str×Tok)) (tk:Nat),l.map (·.1)=Txt.split sx ⟨#[c]⟩->EP X pins σ Q (.ref s.heap.objs.size) { s with toks:=tk,heap:=s.heap.push { cls:=.type "list",data:=.seq (strValues l).toArray } }:=λl tk el=>by
  have ev:((dm c sx.cps.toList).map λl=>V.str ⟨l.toArray⟩)=l.map λp=>V.str p.1:=by
   have:=congrArg (List.map V.str) el;rw[dJ,e,dJ]at this;exact this.symm
  refine⟨.ref s.heap.objs.size,_,I.laid (a:=s.heap.objs.size) (o:=.lst ((dm c sx.cps.toList).map λl=>V.str ⟨l.toArray⟩)) (t':=tk) (λb o z=>bG _ z) (aU _) ⟨?_,strValues l,0,by rw[ev];exact wI l,cT _ rfl⟩,rfl,q _ (I.hok.fresh (aU _))⟩;rw[c6];exact cB l1 (cB (by lia) (by decide:100001≤aV))
 have hsz:sx.length+2≤aV:=cB (by lia) (by decide:100002≤aV);have hy:((⟨#[c]⟩:Str).length == 0)=false:=rfl;have hn:(Builtin.Str.partsBetween sx (Builtin.Str.occurrences sx ⟨#[c]⟩ 0 sx.length (sx.length+1)) (⟨#[c]⟩:Str).length).length≤aV:=by
  have e1:=StrLaws.occ_length_le sx ⟨#[c]⟩ 0 sx.length (sx.length+1);rw[length_partsBetween];lia
 cases h1:(decide (sx.length<(⟨#[c]⟩:Str).length)||decide (Builtin.Str.strKind sx<Builtin.Str.strKind ⟨#[c]⟩))
 ·cases hf:(Builtin.Str.occurrences sx ⟨#[c]⟩ 0 sx.length (sx.length+1)).isEmpty
  ·refine call_meets F.slot_str_split (typeIs_str _ _ _) F.entry_str_split (F.args_str_split_2 _ _) (meets_str_split_sep sx ⟨#[c]⟩ t t2 h1 hy hf (by lia) hn) ?_;show wants _ _ _ { s with toks:=_,heap:=s.heap.push { cls:=.type "list",data:=.seq (strsFrom s.toks (Builtin.Str.partsBetween sx (Builtin.Str.occurrences sx ⟨#[c]⟩ 0 sx.length (sx.length+1)) (⟨#[c]⟩:Str).length)).toArray } };rw[strsFrom_eq];exact key (numbered s.toks _) _ ((numbered_texts _ _).trans ((if_neg (ne_true_of_eq_false h1)).trans (if_neg (ne_true_of_eq_false hf))).symm)
  ·exact call_meets F.slot_str_split (typeIs_str _ _ _) F.entry_str_split (F.args_str_split_2 _ _) (meets_str_split_not_found sx ⟨#[c]⟩ t t2 h1 hy hf)
    (key [(sx,t)] s.toks ((if_neg (ne_true_of_eq_false h1)).trans (if_pos hf)).symm)
 ·exact call_meets F.slot_str_split (typeIs_str _ _ _) F.entry_str_split (F.args_str_split_2 _ _) (meets_str_split_cannot_occur sx ⟨#[c]⟩ t t2 h1)
   (key [(sx,t)] s.toks (if_pos h1).symm)
theorem zC{o e:aw}{go ge:ME}{apos cpos:Pos}(ho:GE G X o go)(he:GE G X e ge)(hbase:attributeBase o (aA "split") X.env (aG o X.env)=aG o X.env:=by rfl)
  (hfew:((cL cpos (aJ [e] X.env)).all (λx=>!x.1) && (backToKw cpos (keywordEach [] X.env)).all (λx=>x.1.isSome)
   && decide ([e].length + ([]:List Keyword).length + (if ([]:List Keyword).isEmpty then 0 else 1) < 30))=true:=by rfl)
  (hline:(apos.endLine == cpos.line)=true:=by rfl) (hs:aJ [e] X.env=[(false,aG e X.env)]:=by rfl):GE G X (.Call (.Attribute o (aA "split") apos) [e] [] cpos) (l7 go ge):=λE EX=>
 dC (uN (X:=X.wish E) PySem.F.plainAttrs_str PySem.F.slot_str_split PySem.F.type_str_split Gk (ho E EX) (he.a1 hs E EX) hbase hfew hline hs rfl) λσ' H Q e0=>bK e0 λm h σ ex S R P=>
  sub ex S R P λv m1 h1 H1 v' x1 R1 r1 P1=>by
   cases v with
   |str s=>
     cases(show v'=V.str s from r1);refine⟨rfl,sub ex (S.mono x1) R1 P1 λw m2 h2 H2 w' x2 R2 r2 P2=>?_⟩;cases w with
     |str t=>
       cases(show w'=V.str t from r2);dsimp only at P2;cases ec:t.cps.toList with
       |nil=>rw[ec]at P2;exact P2.elim
       |cons c r=>
         cases r with
         |cons d r=>rw[ec]at P2;exact P2.elim
         |nil=>?_
         rw[ec]at P2;dsimp only at P2;split at P2
         ·rename_i hz;have et:t=⟨#[c]⟩:=by
           obtain⟨a⟩:=t;have:a=#[c]:=tR.mp ec;rw[this]
          refine⟨s,c,rfl,by rw[et],hz.1,hz.2,λp hp=>?_⟩;have vr:VRs G m2 H2 ((dm c s.cps.toList).map λl=>MV.str ⟨l.toArray⟩) ((dm c s.cps.toList).map λl=>V.str ⟨l.toArray⟩):=by
           generalize dm c s.cps.toList=ls
           induction ls with
           |nil=>exact .nil
           |cons l ls ih=>exact .cons rfl ih
          exact jx R2 vr P2 hp
         ·exact P2.elim
     |_=>exact P2.elim
   |_=>exact P1.elim
def vJ(K:PySem.W.Frag):List V->Hp->VK->Prop:=λxs H Q=>∃a,∃bs:List Bool,xs=[.ref a]/\H a=some (.lst (bs.map V.bl))/\Q (.bl (bs.all id)) H
theorem E0(hc:X.calm=true):dR X (.builtin "all") (vJ X.K):=by
 intro pins s σ H xs us Q I r h;obtain⟨a,bs,rfl,ha,q⟩:=h;obtain⟨u,rfl,ru⟩:=vals1 r;cases ru;obtain⟨z,its,n,rv,g⟩:=(show cA X.prog X.w H s.heap a (.lst (bs.map V.bl)) from I.hok a _ ha);have ln:=rv.length;rw[c6]at ln;have gl:s.heap.IsList a its.toArray:=⟨_,g,rfl,n,rfl⟩;have ne:a≠s.heap.objs.size:=dj (bo g);refine call_all_walk (wpAny_pyIter_list gl ?_);refine⟨s.heap.objs.size,_,_,_,_,_,λi=>(bs[i]?).getD true,rfl,Walks.list (A:=X.A.in1) (I.ok.hd hc) s.heap.objs.size a ne its.toArray,⟨⟨_,cT _ rfl,rfl,rfl⟩,gl.at λo e=>bG _ e⟩,λi v s Q E hP hQ=>?_,λh' tk kk=>?_⟩
 ·have ei:its[i]?=some v:=by simpa using hP
  have lt:i<bs.length:=by rw[ln];exact(bM.mp ei).1
  have eb:(bs.map V.bl)[i]?=some (V.bl bs[i]):=by simp[lt]
  obtain⟨u,eu,ru⟩:=rv.get eb;rw[ei]at eu;cases eu;cases ru;have e2:(bs[i]?).getD true=bs[i]:=by simp[lt]
  dsimp only at hQ;rw[e2]at hQ;exact aL hQ
 ·have e3:(cK its.toArray.size).all (λi=>(bs[i]?).getD true)=bs.all id:=by
   rw[cG,←ln];rw[lF,iS,iS];refine⟨λz b hb=>?_,λz i hi=>?_⟩
   ·obtain⟨i,hi,e⟩:=List.mem_iff_getElem.mp hb;have:=z i (jP.mpr hi);simp[hi]at this;rw[←e];exact this
   ·have hi':=jP.mp hi;simp[hi'];exact z _ (List.getElem_mem hi')
  rw[e3];exact⟨.bl _,H,I.kept (t':=tk) λb o e=>kk b o (by simp;exact dj (bo e)) (bG _ e),rfl,q⟩
theorem DV:VO1 G wT (vJ G.K):=by
 intro X E EX m h H x x' Q R rx P;cases x with
 |ref a=>
   obtain⟨aa,ea,rfl⟩:=rx;obtain⟨oa,e1,q1,P1⟩:=cb R ea P;cases oa with
   |lst xs=>
     obtain⟨vs,r,z⟩:=q1;dsimp only at P1;cases e:kW xs with
     |none=>rw[e]at P1;exact P1.elim
     |some bs=>
       rw[e]at P1;dsimp only at P1;have:∀{xs:List MV}{vs:List V}{bs:List Bool},VRs G m H xs vs->kW xs=some bs->vs=bs.map V.bl:=by
        intro xs vs bs r
        induction r generalizing bs with
        |nil=>intro e;cases e;rfl
        |@cons x v xs vs r rs ih=>
          intro e;cases x with
          |bl b=>
            unfold kW at e;cases e2:kW xs with
            |none=>rw[e2]at e;cases e
            |some bs2=>
              rw[e2]at e;cases e;rw[ih e2];cases(show v=V.bl b from r);rfl
          |_=>cases e
       refine⟨aa,bs,rfl,by rw[z,this r e],Post.here R P1 _ rfl⟩
   |_=>exact P1.elim
 |_=>exact P.elim
theorem iI{st:aP}:GS G EX X st hW:=λE hp=>by
 intro pins s σ H D I t;obtain⟨m,h,σ',ex,S,R,P⟩:=t;exact P.elim
theorem DX{x:Str}{i:Str}{u:af}{pos:Pos}(hg:Gl X x)(hm:X.mg x=some u)(r:aN (.str i) u)(hd:(x == ("__debug__":Str))=false:=by decide):GE G X (.Name x pos) (eC (.str i)):=
 kR (λE=>fk (X:=X.wish E) hg hm r hd) λ_ _=>rfl
end L2.Rv
namespace L2.Rv
noncomputable section
open PySem (Str)
noncomputable def mL(cs:List Nat)(c2:Nat)(body:MS):MS:=λσ h=>match body σ h with
 |.ok f h'=>.ok f h'
 |.exc c h'=>if cs.contains c then .exc c2 h' else .stuck
 |.stuck=>.stuck
end
noncomputable section
open PySem (Str)
def iR(src:MI)(elt:ME):ME:=λσ=>bnd (src σ) λs=>if s.items.length≤100000 then bnd (bQ s none elt σ s.items) λvs=>new (.lst vs) else stk
end
end L2.Rv
namespace L2.Rv
open PySem PySem.Spec PyProof.Rows
section
variable {prog:bi}{w:aQ}{A:aX}{E:af->aj->Prop}{s:aj}{env:Env}
variable {nm q:Str}{C N a Ca:ae}{bs bm bmB:List af}{hdct:Bool}{sn:List Str}{sub:List af}{ab:Bool}{col:Option Bool}{dd:Option ae}{k0 k1 k2 k3 k5:Option af}{B Bn newId nid initId inN:String}{bmN:List af}{K:PySem.W.Frag}
theorem B4:entryFor table "proto.unchain"=some Builtin.«proto.unchain»:=entryFor_of_tree (by kernel_rfl)
theorem upd3{h:aH}{e t:ae}(x y z:af)(he:h.get? e=some { cls:=.ref C,data:=.fields #[.ref t,.none,.none,.none,.bool false,.none] }) :
  (((h.update e (Obj.mapFields (·.setIfInBounds 3 x))).update e (Obj.mapFields (·.setIfInBounds 4 y))).update e (Obj.mapFields (·.setIfInBounds 2 z))).get? e=some { cls:=.ref C,data:=.fields #[.ref t,.none,z,x,y,.none] }:=by
 have h1:=fi (Obj.mapFields (·.setIfInBounds 3 x)) he rfl;have h2:=fi (Obj.mapFields (·.setIfInBounds 4 y)) h1 rfl;exact fi (Obj.mapFields (·.setIfInBounds 2 z)) h2 rfl
theorem DC{x cz:Sem af}{Q:Flow->aj->Prop}(hbase:bm.contains (.type "BaseException")=true)(hh:A.handled=some (.ref a))(hsub:PySem.W.subIn K (.ref Ca) (.type "BaseException")=some true)
  (h:aq (av prog w) A x (λv s₁=>∃e t oa vs,v=.ref e/\a≠e/\K.In s₁.heap/\s₁.heap.get? C=some (excClassObj nm q C N bs bm hdct sn sub ab col dd k0 k1 k2 k3 k5 newId)/\s₁.heap.get? e=some { cls:=.ref C,data:=.fields #[.ref t,.none,.none,.none,.bool false,.none] } /\
   s₁.heap.get? a=some oa/\oa.cls=.ref Ca/\oa.data=.fields vs/\vs[2]?=some .none/\aq (av prog w) A cz (λcv s₂=>cv=.ref a/\s₂=s₁) E s₁ /\
   ∀h',(∀c o,c≠e->s₁.heap.get? c=some o->h'.get? c=some o)->h'.get? e=some { cls:=.ref C,data:=.fields #[.ref t,.none,.ref a,.ref a,.bool true,.none] }->E (.ref e) { s₁ with heap:=h' }) E s) :
  aq (av prog w) A (raiseStmt env (some x) (some cz)) Q E s:=by
 have hcB:(Value.ref C::bm).contains (.type "BaseException")=true:=by rw[List.contains_cons,hbase,Bool.or_true]
 unfold raiseStmt;refine ak (bv h (λv s₁ h₁=>?_) λ_ _ x=>x);obtain⟨e,t,oa,vs,rfl,hae,kx,hC,he,ha,hca,hda,h2,hcz,hE⟩:=h₁;refine ak (wpAny_holding (bv hcz (λcv s₂ z=>?_) λ_ _ x=>x));obtain⟨rfl,rfl⟩:=z;obtain⟨hp,g,d,tk,os⟩:=s₂;refine ak (aL ?_);have L4:PySem.W.Looks (av prog w) hp (typeOf (.ref a)) (.ref Ca):=hca▸(PySem.W.Looks.ld ha).andThen .now;have L1:=PySem.W.looks_subIn (M:=av prog w) kx hsub;refine ak (wpAny_holding ?_);unfold excFromValue isExcClass isInstance
 repeat (first|with_reducible refine wpAny_loadPart_at he ?_|with_reducible refine wpAny_loadPart_at hC ?_|(with_reducible refine wpAny_isSubtype_exc hC ?_;rw[hcB])|wp_step)
 rw[hca];refine L1.at ?_;rw[if_pos rfl];refine aL ?_;dsimp only;have he1:=fi (Obj.mapFields (·.setIfInBounds 3 (Value.ref a))) he rfl;have he2:=fi (Obj.mapFields (·.setIfInBounds 4 (Value.bool true))) he1 rfl;have hCe:C≠e:=λz=>by rw[z,he]at hC;cases hC
 have hC2:=(dP (hp.update e (Obj.mapFields (·.setIfInBounds 3 (Value.ref a)))) (Obj.mapFields (·.setIfInBounds 4 (Value.bool true))) (Ne.symm hCe)).trans ((dP hp (Obj.mapFields (·.setIfInBounds 3 (Value.ref a))) (Ne.symm hCe)).trans hC);have ha2:=(dP (hp.update e (Obj.mapFields (·.setIfInBounds 3 (Value.ref a)))) (Obj.mapFields (·.setIfInBounds 4 (Value.bool true))) (Ne.symm hae)).trans ((dP hp (Obj.mapFields (·.setIfInBounds 3 (Value.ref a))) (Ne.symm hae)).trans ha);refine ak (wpAny_setField he rfl (by simp) (ak (wpAny_setField he1 rfl (by simp[Obj.mapFields]) ?_)));dsimp only
 repeat (first|with_reducible refine wpAny_loadPart_at he2 ?_|with_reducible refine wpAny_loadPart_at hC2 ?_|wp_step)
 clear h hcz
 unfold raiseNew;refine ak (wpAny_handled ?_);rw[hh];dsimp only;rw[if_pos (show(Value.ref a != Value.ref e)=true from by simpa using hae)];refine ak (wpAny_holding (wpAny_runValue (codeAny_builtin B4 ?_)));unfold Builtin.«proto.unchain»;refine ak (cX ha2 hda h2 ?_);rw[if_pos (by rfl)]
 repeat wp_step
 refine hE _ (λc o hc z=>?_) (upd3 _ _ _ he);exact(dP _ _ (Ne.symm hc)).trans ((dP _ _ (Ne.symm hc)).trans ((dP _ _ (Ne.symm hc)).trans z))
theorem Em(Fn:ExcBaseFacts Bn newId inN bmN)(hBn:bmB.contains (.type Bn)=true)(F:ExcBaseFacts B nid initId bmB){mN:Str->Option af}{x:Str}{np cpos pos:Pos}{args:List aw}{ce:aw}{Q:Flow->aj->Prop}
  (hbase:bm.contains (.type "BaseException")=true) (hh:A.handled=some (.ref a)) (hsub:PySem.W.subIn K (.ref Ca) (.type "BaseException")=some true) (hplain:(cL cpos (aJ args env)).any (·.1)=false) (hni:mN "__init__"=none)
  (h:aq (av prog w) A (aG (.Name x np) env) (λf s₁=>f=.ref C/\aq (av prog w) A (evalArgs (.ref C) true (cL cpos (aJ args env)) [])
   (λz s₂=>z.kw=[]/\z.pos.length≤aV/\s₂.heap.get? C=some (excClassObj nm q C N bs bm hdct sn sub ab col dd k0 k1 k2 k3 k5 newId)/\s₂.heap.Ns N mN/\OwnTail s₂.heap bmB bm/\K.In s₂.heap/\(∃oa vs,s₂.heap.get? a=some oa/\oa.cls=.ref Ca/\oa.data=.fields vs/\vs[2]? = some .none) /\
    ∀h' e,Heap.MadeExcOf s₂.heap h' e (.ref C) z.pos->aq (av prog w) A (aG ce env) (λcv s₃=>cv=.ref a/\s₃={ s₂ with heap:=h' }) E { s₂ with heap:=h' } /\
     ∀h₂,(∀b o,s₂.heap.get? b=some o->h₂.get? b=some o)->(∃t,h₂.get? e=some { cls:=.ref C,data:=.fields #[.ref t,.none,.ref a,.ref a,.bool true,.none] })->E (.ref e) { s₂ with heap:=h₂ }) E s₁) E s) :
  aq (av prog w) A (exec (.Raise (some (.Call (.Name x np) args [] cpos)) (some ce) pos) env) Q E s:=by
 rw[arm_exec_Raise];simp only[evalOpt,Option.map];refine ak (wpAny_standAt (DC (C:=C) (K:=K) (a:=a) (Ca:=Ca) (nm:=nm) (q:=q) (N:=N) (bs:=bs) (bm:=bm) (hdct:=hdct) (sn:=sn) (sub:=sub) (ab:=ab) (col:=col) (dd:=dd) (k0:=k0) (k1:=k1) (k2:=k2) (k3:=k3) (k5:=k5) (newId:=newId) hbase hh hsub (ak (bv (wpAny_Call_ofName (bv h (λf s₁ h₁=>?_) λ_ _ x=>x)) (λv s₃ h₃=>ak (wpAny_standAt (aL h₃))) λ_ _ x=>x))));obtain⟨rfl,h₁⟩:=h₁;unfold callWith;refine ak (wpAny_holding (bv h₁ (λz s₂ h₂=>ak (wpAny_standAt ?_)) λ_ _ x=>x));obtain⟨apos,akw⟩:=z;obtain⟨hkw,hlen,hC,hn,T,kx,⟨oa,vs,g1,g2,g3,g4⟩,h₂⟩:=h₂;obtain rfl:akw=[]:=hkw;obtain⟨hp,g,d,tk,os⟩:=s₂;simp only[hplain];refine ak (wpAny_keeperOf_exc hC ?_);refine ak (wpAny_call_exc_subU (hrest:=hlen) Fn hBn F T hC hn hni λh' e hm=>ak (wpAny_holding (wpAny_point (aL ?_))));obtain⟨t,ht,_,_⟩:=hm.there;obtain⟨hv,hE⟩:=h₂ h' e hm;have nw:∀b o,hp.get? b=some o->b≠e:=λb o z y=>by have:=hm.new;rw[←y,z]at this;cases this
 refine⟨e,t,oa,vs,rfl,nw a _ g1,λb o z=>hm.keeps _ _ (kx b o z),hm.keeps _ _ hC,ht,hm.keeps _ _ g1,g2,g3,g4,?_,λh₃ k₃ e₃=>hE h₃ (λb o z=>k₃ b o (nw b o z) (hm.keeps b o z)) ⟨t,e₃⟩⟩;exact ak (bv hv (λcv s₃ z=>ak (wpAny_standAt (aL z))) λ_ _ z=>z)
end
variable {G:Gb}{m m' m1 m2:List ae}{h h' h1 h2:MH}{H H' H1 H2:Hp}{X:Cx}{E:af->aj->Prop}{EX:St->Prop}{σ:MSt}{σ':St}
def tI(G:Gb)(X:Cx)(cs:List Nat)(t:aw):Prop:=∀{c:Nat}{pins:List (ae×aB)}{σ':St}{H:Hp}{s:aj}{a:ae}{zf:Option ae} {E:af->aj->Prop} {R:aj->Prop},cs.contains c=true->Inv X pins σ' H s->Exc X pins H zf (G.cl c) a s ->
 (∀s',Inv X pins σ' H s'->Exc X pins H zf (G.cl c) a s'->R s')->aq (av X.prog X.w) (X.A.mark (some (.ref a))) (aG t X.env) (λcv s1=>aq (av X.prog X.w) (X.A.mark (some (.ref a))) (excMatches (.ref a) cv) (λb s2=>b=true/\R s2) E s1) E s
theorem BS{x:Str}{np:Pos}{C':ae}{cs:List Nat}(hm:X.mg x=some (.ref C'))(hg:Gl X x)(hC:cI X.K C')(hs:∀n,cs.contains n=true->PySem.W.subIn X.K (.ref (G.cl n)) (.ref C')=some true)(hd:(x == ("__debug__":Str))=false:=by decide):tI G X cs (.Name x np):=
 λ{c pins σ' H s a zf E R} hc I x k=>by
  obtain⟨oe,vs,a1,a2,a3,a4,a5,a6,a7⟩:=id x;refine iw (Inv.mark I (some (.ref a))) hg hm ?_ hd;exact uU I.kIn a1 a2 hC.ty hC.cl hC.sb (hs c hc) ⟨rfl,k s I x⟩
section
variable {pins:List (ae×aB)}{s:aj}{a:ae}{o:aB}
theorem vw(I:Inv X pins σ' H s)(e:s.heap.get? a=some o)(u:H a=none)(l:a≠X.env.locals)(f:a∉X.fs)(d:∀v,o.data≠.cell v):Inv X ((a,o)::pins) σ' H s:=
 I.pins_of λp hp=>by
  rcases bu.mp hp with rfl|hp
  ·exact⟨e,u,l,f,d⟩
  ·exact I.pin p (cM _ hp)
theorem unpin{p:ae×aB}(I:Inv X (p::pins) σ' H s):Inv X pins σ' H s:=I.pins_of λp hp=>I.pin p (cM _ (d5 _ hp))
theorem BU{M:Model}{A:aX}{zf:Option ae}{C:ae}{n:Str}{i:Nat}{pos:Pos}{Q:Unit->aj->Prop}(I:Inv X pins σ' H s)(x:iH zf C a (Fp X pins H) s.heap)(hN:X.N.Nodup)(hi:X.N[i]?=some n)(hl:X.env.kindOf n=some .local)
  (k:∀s',Inv X pins (σ'.set i none) H s'->iH zf C a (Fp X pins H) s'.heap->Q () s'):aq M A (do bindName X.env n .none;unbindBehindTheSuite X.env n pos) Q E s:=by
 obtain⟨oe,vs,T,oT,ts,a1,a2,a3,a4,a5,a6,b1,b2,b3,b4,b5,b6,b7⟩:=x;have I1:=vw (vw I b3 b6.un b6.loc b6.fs (λv=>by rw[b4];simp)) a1 a6.un a6.loc a6.fs (λv=>by rw[a4];simp);refine nV I1 hN hi hl λs' I2=>k s' (unpin (unpin I2)) ⟨oe,vs,T,oT,ts,(I2.pin (a,oe) (by simp)).1,a2,a3,a4,a5,a6,b1,b2,(I2.pin (T,oT) (by simp)).1,b4,b5,b6,b7⟩
theorem HY{A:aX}{i:Nat}{x:Str}{pos:Pos}{v:V}{Q:af->aj->Prop}(I:Inv X pins σ' H s)(hN:X.N[i]?=some x)(hl:X.env.scope.names.lookup x=some .local)(hv:Vis X.env.scope x)(e:σ'[i]?=some (some v))(k:∀u,aN v u->Q u s)
  (hd:(x == ("__debug__":Str))=false:=by decide):aq (av X.prog X.w) A (aG (.Name x pos) X.env) Q E s:=by
 obtain⟨m,hn,hv'⟩:=I.loc;obtain⟨u,r,l⟩:=hv' i x v hN e hv;rcases l with⟨hk,hm⟩|⟨hk,c,hc,hcell⟩
 ·exact wpAny_Name (wpAny_loadName_local I.ok.kind hk hn hm (k u r)) hd
 ·have hl':X.env.kindOf x=some .local:=hl;rcases hk with hk|hk <;> (rw[hl']at hk;cases hk)
theorem AV{c c2 i:Nat}{cs:List Nat}{t:aw}{x n tx:Str}{bm:List af}{B newId initId:String}{np kp cpos ep rpos hpos:Pos}{kc:Nat}{Q:Flow->aj->Prop}(hok:cs.contains c=true)(hc:fl c=none)(hc2:fl c2≠none)(ht:tI G X cs t)
  (FB:ExcBaseFacts B newId initId bm) (q:PySem.W.excIn X.K (G.cl c2) bm newId=true) (hm:X.mg x=some (.ref (G.cl c2))) (hg:Gl X x) (hdb:(x == ("__debug__":Str))=false) (hsb:PySem.W.subIn X.K (.ref (G.cl c)) (.type "BaseException")=some true)
  (hN:X.N.Nodup) (hi:X.N[i]?=some n) (hl:X.env.scope.names.lookup n=some .local) (hv:Vis X.env.scope n) (hdn:(n == ("__debug__":Str))=false) (fr:X.A.frames=some (X.env::X.outer)) (hst:X.stack=X.env::X.outer) (hf:X.env.frame=some X.env.locals)
  (I:Inv X pins σ' H s) (xx:Exc X pins H (fl c) (G.cl c) a s) (P:∀σ2 b s2,Inv X pins σ2 H s2->Exc X pins H (fl c2) (G.cl c2) b s2->E (.ref b) s2) :
  aq (av X.prog X.w) X.A (handleBy (.ref a) X.env [.ExceptHandler (some t) (some n) [.Raise (some (.Call (.Name x np) [.Constant (.str tx) kc kp] [] cpos)) (some (.Name n ep)) rpos] hpos]) Q E s:=by
 have key:∀s1,Inv X pins σ' H s1->Exc X pins H (fl c) (G.cl c) a s1->codeAny (av X.prog X.w) (X.A.mark (some (.ref a))) (.handlers (.ref a) [.ExceptHandler none (some n) [.Raise (some (.Call (.Name x np) [.Constant (.str tx) kc kp] [] cpos)) (some (.Name n ep)) rpos] hpos] X.env) (λr s₂=>match r with
     |.ok f=>aq (av X.prog X.w) X.A (do bindName X.env n .none;unbindBehindTheSuite X.env n hpos) (λ_ s₃=>Q f s₃) E s₂
     | .error x=>cameBackBy (av X.prog X.w) X.A X.env E x s₂) s1:=λs1 I1 x1=>by
  refine codeAny_handlers_suite_as (vx I1 x1 λs2 I2 x2=>?_);obtain⟨oe,vs,e1,e2,e3,e4,e5,e6,e7,e8⟩:=id x2;have I3:=vw I2 e1 e6.un e6.loc e6.fs (λv=>by rw[e4];simp);refine mX (X:=X) (v:=.ref a) I3 hN hi (.inl hl) rfl (λs3 I4=>?_) (.inr hl);refine wpAny_execs_cons ?_;obtain⟨tl,N,nm,qn,bs,hdt,sn,sb,ab,col,dd,k0,k1,k2,k3,k5,mN,oC,oN,ni,T⟩:=xD I4.ok.mod.kin q;refine Em (K:=X.K) (a:=a) (Ca:=G.cl c) (C:=G.cl c2) (nm:=nm) (q:=qn) (N:=N) (bs:=bs) (bm:=tl) (hdct:=hdt) (sn:=sn) (sub:=sb) (ab:=ab) (col:=col) (dd:=dd) (k0:=k0) (k1:=k1) (k2:=k2) (k3:=k3) (k5:=k5) FB FB.hasB FB (mN:=mN) (T.hasType FB.hasBase) rfl hsb rfl ni (iw (Inv.mark I4 (some (.ref a))) hg hm ⟨rfl,?_⟩ hdb);show aq _ _ (evalArgs (.ref (G.cl c2)) true [(false,aG (.Constant (.str tx) kc kp) X.env)] []) _ _ s3;refine Calls.evalArgs_plain (Calls.spliced_cons (Calls.Constant_str (Calls.spliced_nil ?_)));have pa:=(I4.pin (a,oe) (by simp)).1;refine⟨rfl,(show 1≤aV by decide),I4.bk _ _ oC,oN.keeps I4.bk,T.keeps I4.bk,I4.kIn,⟨oe,vs,pa,e2,e4,e8 hc⟩,λh' b hm'=>⟨?_,λh₂ k₂ hb=>?_⟩⟩
  ·have I5:Inv X ((a,oe)::pins) (σ'.set i (some (.ref a))) H { s3 with heap:=h',toks:=s3.toks+1 }:=I4.kept hm'.keeps;refine HY (v:=.ref a) I5 hi hl hv ?_ (λu r=>⟨r,rfl⟩) hdn;rw[fY (by rw[I.len];exact(bM.mp hi).1)]
  ·obtain⟨t0,hb⟩:=hb;have I6:Inv X ((a,oe)::pins) (σ'.set i (some (.ref a))) H { s3 with heap:=h₂,toks:=s3.toks+1 }:=I4.kept k₂;have x6:Exc X pins H (fl c2) (G.cl c2) b { s3 with heap:=h₂,toks:=s3.toks+1 }:=⟨_,_,hb,rfl,rfl,rfl,by simp,Fp.of (unpin I4) hm'.new (Inv.untracked I4 hm'.new),.inl rfl,λz=>absurd z hc2⟩
   refine jN (X:=X) fr hst hf (unpin I6) x6 λs4 I7 x7=>?_;refine BU I7 x7 hN hi hl λs5 I8 x8=>?_;unfold PySem.passOn;obtain⟨ob,ws,T2,oT,ts,a1,a2,a3,a4,a5,a6,b1,b2,b3,b4,b5,b6⟩:=id x8;refine ak (cX a1 a4 b1 ?_);rw[if_neg (by simp)];refine ak (jA I8 x8 λs6 I9 x9=>wpAny_throw ?_);refine jN (X:=X) fr hst hf I9 x9.sh λs7 I10 x10=>?_;show cameBackBy (av X.prog X.w) X.A X.env E (.ref b) s7;unfold cameBackBy;obtain⟨ob,ws,T2,oT,ts,a1,a2,a3,a4,a5,a6,b1,b2,b3,b4,b5,b6⟩:=id x10;refine ak (cX a1 a4 b1 ?_);rw[if_neg (by simp)];exact jA I10 x10 λs8 I11 x11=>P _ _ _ I11 x11.sh
 refine wpAny_handleBy_cons (codeAny_handlers_test (bv (ht hok I xx key) (λcv s1 w=>bv w (λb s2 z=>?_) λ_ _ z=>z) λ_ _ z=>z)) (λq=>nomatch q);obtain⟨rfl,r⟩:=z;exact r
end
theorem Hv{c2 i:Nat}{cs:List Nat}{t:aw}{x n tx:Str}{bm:List af}{B newId initId:String}{np kp cpos ep rpos hpos pos:Pos}{kc:Nat}{body:List aP}{gb:MS}(hb:∀pn EX,GSs G EX (Cx.pinned X pn) body gb)(ht:tI G X cs t)
  (FB:ExcBaseFacts B newId initId bm) (q:PySem.W.excIn X.K (G.cl c2) bm newId=true) (hm:X.mg x=some (.ref (G.cl c2))) (hcs:∀c,cs.contains c=true->fl c=none/\PySem.W.subIn X.K (.ref (G.cl c)) (.type "BaseException")=some true)
  (hN:X.N.Nodup) (hi:X.N[i]?=some n) (hl:X.env.scope.names.lookup n=some .local) (hv:Vis X.env.scope n) (hc2:fl c2≠none:=by decide) (hg:Gl X x:=by rfl) (hdb:(x == ("__debug__":Str))=false:=by decide) (hdn:(n == ("__debug__":Str))=false:=by decide) (hst:X.stack=X.env::X.outer:=by rfl) (hf:X.env.frame=some X.env.locals:=by rfl) :
  GS G ET X (.Try body [.ExceptHandler (some t) (some n) [.Raise (some (.Call (.Name x np) [.Constant (.str tx) kc kp] [] cpos)) (some (.Name n ep)) rpos] hpos] [] [] pos) (mL cs c2 gb):=λE hp pins s σ' H D I e0=>bK e0 λm h σ ex S R P=>by
 have I0:=I.unwish;refine wpAny_Try_except ?_;have fin:∀f s1,SP X pins D f s1->(match f with|.next=>aq (av X.prog X.w) X.A (execs [] X.env) (SP (X.wish E) pins D) E s1|f=>SP (X.wish E) pins D f s1):=λf s1 q=>by
  cases f with
  |next=>obtain⟨σ2,H2,I2,z⟩:=q;exact wpAny_execs_nil ⟨σ2,H2,I2.wish E,z⟩
  |brk=>obtain⟨σ2,H2,I2,z⟩:=q;exact⟨σ2,H2,I2.wish E,z⟩
  |cont=>obtain⟨σ2,H2,I2,z⟩:=q;exact⟨σ2,H2,I2.wish E,z⟩
  |ret u=>obtain⟨v,σ2,H2,I2,r,z⟩:=q;exact⟨v,σ2,H2,I2.wish E,r,z⟩
 have back:∀{E':af->aj->Prop}{f s1},SP ((Cx.pinned X (X.pn++pins)).wish E') [] D f s1->SP X pins D f s1:=λ{E' f s1} q=>by
  cases f with
  |next=>obtain⟨σ2,H2,I2,z⟩:=q;exact⟨σ2,H2,Inv.ofPn I0.ok I2.unwish,z⟩
  |brk=>obtain⟨σ2,H2,I2,z⟩:=q;exact⟨σ2,H2,Inv.ofPn I0.ok I2.unwish,z⟩
  |cont=>obtain⟨σ2,H2,I2,z⟩:=q;exact⟨σ2,H2,Inv.ofPn I0.ok I2.unwish,z⟩
  |ret u=>obtain⟨v,σ2,H2,I2,r,z⟩:=q;exact⟨v,σ2,H2,Inv.ofPn I0.ok I2.unwish,r,z⟩
 unfold mL at P;cases eb:gb σ h with
 |ok f h'=>
   simp only[eb]at P;exact bv (hb (X.pn++pins) ET (λ_ _=>False) PassesOwn.never [] s σ' H D ((Inv.toPn I0).wish _) ⟨m,h,σ,trivial,S,R,by rw[eb];exact P⟩) (λf s1 q=>fin f s1 (back q)) λ_ _ z=>z.elim
 |exc c h'=>
   simp only[eb]at P;split at P
   ·rename_i hcc;have fr:X.A.frames=some (X.env::X.outer):=by rw[I0.ok.frames,hst]
    refine bv (hb (X.pn++pins) (λz=>z=σ') (EB G (Cx.pinned X (X.pn++pins)) (λz=>z=σ') [] m H c h') (EB.passes fr hst hf) [] s σ' H D ((Inv.toPn I0).wish _) ⟨m,h,σ,rfl,S,R,?_⟩) (λf s1 q=>fin f s1 (back q)) ?_
    ·rw[eb];intro pins' σ2 m2 H2 a s2 e2 x2 R2 I2 q2;exact⟨σ2,m2,H2,a,e2,x2,R2,I2.pins_of (λp hp=>absurd hp (by simp)),rfl,q2.imp λb fb=>⟨fb.un,fb.loc,fb.fs,fb.new,fb.ce,λp hp=>fb.pin p (gB _ (by simpa using hp))⟩⟩
    ·rintro e s1 ⟨σ2,m2,H2,a,rfl,x2,R2,I2,rfl,q2⟩;have I3:=Inv.ofPn I0.ok I2;have q3:Exc X pins H2 (fl c) (G.cl c) a s1:=q2.imp λb fb=>Fp.ofPn fb;refine jN (X:=X) fr hst hf I3 q3 λs4 I4 q4=>?_;refine jA I4 q4 λs5 I5 q5=>?_;exact AV (X:=X) (G:=G) hcc (hcs c hcc).1 hc2 @ht FB q hm hg hdb (hcs c hcc).2 hN hi hl hv hdn fr hst hf I5 q5.sh λσ6 b s6 I6 x6=>P pins σ6 m2 H2 b s6 trivial x2 R2 I6 x6
   ·exact P.elim
 |stuck=>
   simp only[eb]at P;exact P.elim
end L2.Rv
namespace L2.Rv
open PySem PySem.Spec PyProof.Rows
variable {G:Gb}{m m' m1 m2:List ae}{h h' h1 h2:MH}{H H' H1 H2:Hp}{X:Cx}{E:af->aj->Prop}{EX:St->Prop}{σ:MSt}{σ':St}
def Fc(G:Gb)(Y:Cx)(src:Src)(gelt:ME)(σ:MSt)(x:List Str)(fp:List ae)(tn:Nat->aH->Prop)(m1:List ae)(H2:Hp)(D:ae)(c:Nat)(hE:MH)(n:Nat)(s:aj):Prop:=∃k σc H5 m5 h5 acc vs,n=src.items.length-k/\k≤src.items.length/\Inv Y [] σc H5 s/\tn k s.heap/\(∀b∈fp,H5 b=none)/\SR G m5 H5 (σ++br x.length none) σc/\HR G m5 h5 H5/\Ext m1 H2 m5 H5/\D∉m5/\VRs G m5 H5 acc vs/\H5 D=some (.lst vs)/\acc.length≤k/\bQ src none gelt σ (src.items.drop k) h5=.exc c hE
theorem Ds{x:List Str}{one:Bool}{pos:Pos}{tg elt iter:aw}{scope:Scope}{cl:List (Str×ae)}{gelt:ME}{src:Src}{J:It}{fp:List ae}{it D C:ae}{tn:Nat->aH->Prop}{s3 s4:aj}{H2 H3 H4:Hp}{pins:List (ae×aB)}{c:Nat}{hE:MH}
  (ok:d3 X x scope cl) (helt:∀C s H fp pins,GE G (bX X x scope cl C s H fp pins) elt gelt) (htg:∀C s H fp pins,GTg G (bX X x scope cl C s H fp pins) tg one (ij X.N.length x.length)) (hcalm:X.calm=true) (T:Turn X.prog X.w X.K tg J fp it tn) (hJ:JOk G J src one x.length m1 H2) (hlen:src.items.length≤100000)
  (hall:bQ src none gelt σ src.items h1=.exc c hE) (f3:∀b∈fp,eX X pins H3 b) (hC:∀b∈fp,b≠C) (hst:∀b∈fp,b∉frs X.stack) (I4:Inv (bX X x scope cl C s3 H3 fp pins) [] (σ'++br x.length none) H4 s4) (st4:tn 0 s4.heap) (S1:SR G m1 H4 σ σ') (R1:HR G m1 h1 H4) (x4:Ext m1 H2 m1 H4)
  (hD:H2 D=none) (nD:D∉m1) (eD:H4 D=some (.lst [])) (frp:∀b∈fp,H4 b=none) {Rr:Result->aj->Prop}
  (hX:∀pins' σc H5 m5 a s5,Inv (bX X x scope cl C s3 H3 fp pins) pins' σc H5 s5->HR G m5 hE H5->Ext m1 H2 m5 H5->Exc (bX X x scope cl C s3 H3 fp pins) pins' H5 (fl c) (G.cl c) a s5->Nt X.prog X.w X.A (compEnvC scope cl C X.env) Rr (.ref a) s5) :
  codeAny (av X.prog X.w) X.A (.compLoop (.ListComp elt [⟨tg,iter,[],0⟩] scope pos) 0 (.ref it) (.ref D) (compEnvC scope cl C X.env)) Rr s4:=by
 have len1:σ'.length=X.N.length:=by
  have:=I4.len;simp[bX,fS]at this;exact this
 have lenσ:σ.length=X.N.length:=S1.len.trans len1;have stat:∀{H':Hp}{pl:List (ae×aB)},(∀b∈fp,H' b=none)->(∀p∈pl,False)->∀b∈fp,eX (bX X x scope cl C s3 H3 fp pins) pl H' b:=λhn hpl b hb=>
  ⟨hn b hb,hC b hb,hst b hb,.inl hb,λy c e=>(f3 b hb).2.2.2.2.1 y c (ok.cells y c e),λp hp=>by
   rcases fJ.mp hp with z|z
   ·exact(f3 b hb).2.2.2.2.2 p z
   ·exact (hpl p z).elim⟩
 have S1':SR G m1 H4 (σ++br x.length none) (σ'++br x.length none):=⟨by simp [S1.len],λi v e=>by
  by_cases hi:i<σ.length
  ·rw[eJ hi]at e;obtain⟨v',q,r⟩:=S1.sl i v e;exact⟨v',by rw[eJ (by rw[←S1.len];exact hi)];exact q,r⟩
  ·rw[iO (by lia),ji]at e;split at e <;> cases e⟩
 refine xF (λn s=>Fc G (bX X x scope cl C s3 H3 fp pins) src gelt σ x fp tn m1 H2 D c hE n s) ?_ src.items.length ⟨0,_,H4,m1,h1,[],[],rfl,fg _,I4,st4,frp,S1',R1,x4,nD,.nil,eD,aU _,hall⟩;rintro n s ⟨k,σc,H5,m5,h5,acc,vs,rfl,hk,I5,st5,fr5,S5,R5,x5,nD5,ra,eD5,hac,hci⟩;by_cases hlt:k<src.items.length
 ·have ed:src.items.drop k=src.items[k]::src.items.drop (k+1):=o6 hlt;rw[ed]at hci;unfold bQ at hci;split at hci
  case isFalse=>cases hci
  case isTrue hok=>
  obtain⟨j1,_⟩:=hJ m5 h5 H5 x5 R5 hok;obtain⟨lv,go,yl⟩:=j1 k src.items[k] (by simp[hlt]);generalize src.items[k]=v at lv yl hci;refine bv (T.item (bX X x scope cl C s3 H3 fp pins) rfl rfl rfl hcalm k [] s σc H5 (λ_ _=>False) I5 (stat fr5 λp z=>by cases z) st5 go) (λr s6 q6=>?_) λ_ _ z=>z.elim;obtain⟨w,rfl,q6⟩:=q6;dsimp only;have q7:aq (av X.prog X.w) X.A (letOwnedTupleGo tg (.ref it) w >>= λ_=>assign tg (compEnvC scope cl C X.env) w) (λ_ s8=>∃σ8 H8 hp7,Inv (bX X x scope cl C s3 H3 fp pins) ([]++i4 fp hp7) σ8 H8 s8/\Ext m5 H5 m5 H8/\HR G m5 h5 H8/\SR G m5 H8 (σ++v.map some) σ8/\tn (k+1) hp7) (λ_ _=>False) s6:=by
   refine ak (bv q6 (λ_ s7 e0=>e0.elim λx' e1=>e1.elim λH' e2=>e2.elim λI7 e3=>e3.elim λrw7 e4=>e4.elim λy7 e5=>e5.elim λst7 fr7=>?_) λ_ _ z=>z);obtain⟨xx,RR,rx⟩:=yl x' H' y7;have I8:=I7.pinned (stat fr7 λp z=>by cases z) (T.obj _ _ st7);obtain⟨g,pg,hg⟩:=htg C s3 H3 fp pins (λ_ _=>False);refine bv (pg _ s7 σc H' x' w (λσ9 H9=>H9=H'/\SR G m5 H' (σ++v.map some) σ9) (I8.wish _) rw7 (hg m5 H' v x' _ σc _ (S5.mono xx) rx (by simpa using lv) λσ1' S1'=>⟨rfl,?_⟩)) (λ_ s8 e0=>bp e0 λσ9 H9 I9 e2 S9=>?_) λ_ _ z=>z
   ·have e:=sG v σ;rw[lenσ,lv]at e;rw[e]at S1';exact S1'
   ·subst e2;exact⟨σ9,H9,s7.heap,I9.unwish,xx,RR,S9,st7⟩
  refine bv q7 (λ_ s8 e0=>e0.elim λσ8 e1=>e1.elim λH8 e2=>e2.elim λhp7 e3=>e3.elim λI8 e4=>e4.elim λx58 e5=>e5.elim λR8 e6=>e6.elim λS8 st7=>?_) λ_ _ z=>z.elim;simp only[i6];refine aL ?_;rw[if_pos rfl];obtain⟨eD8,nD8⟩:=x58.fr D _ eD5 nD5 (λ_ z=>nomatch z);simp only[bnd,ret,if_true]at hci;cases eg:gelt (σ++v.map some) h5 with
  |stuck=>rw[eg]at hci;cases hci
  |exc c' h9=>
    rw [eg] at hci;injection hci with e1 e2;subst e1;subst e2;exact bv (helt C s3 H3 fp pins (λe s'=>Nt X.prog X.w X.A (compEnvC scope cl C X.env) Rr e s') ET _ s8 σ8 H8 (λ_ _=>False) (I8.wish _) ⟨m5,h5,σ++v.map some,trivial,S8,R8,by
     rw [eg];exact λpins' σ2 m9 H9 a s9 _ x9 R9 I9 xx=>hX pins' σ2 H9 m9 a s9 I9 R9 (x5.trans (x58.trans x9)) xx⟩) (λxv s9 e0=>by obtain ⟨_,_,_,_,z⟩:=e0;exact z.elim) λ_ _ z=>z
  |ok ve h9=>
    rw[eg]at hci;dsimp only at hci;have hci9:bQ src none gelt σ (src.items.drop (k+1)) h9=.exc c hE:=by
     cases ec:bQ src none gelt σ (src.items.drop (k+1)) h9 with
     |ok ws h10=>rw[ec]at hci;cases hci
     |exc c' h'=>rw[ec]at hci;exact hci
     |stuck=>rw[ec]at hci;cases hci
    refine bv (helt C s3 H3 fp pins (λ_ _=>False) ET _ s8 σ8 H8 (λv' H9=>∃m9,Ext m5 H8 m9 H9/\HR G m9 h9 H9/\VR G m9 H9 ve v') (I8.wish _) ⟨m5,h5,σ++v.map some,trivial,S8,R8,by rw[eg];exact λm9 H9 y R9 v' rv=>⟨m9,y,R9,rv⟩⟩) (λxv s9 e0=>e0.elim λv' e1=>e1.elim λH9 e2=>e2.elim λI9 e3=>e3.elim λr9 e4=>e4.elim λm9 e5=>e5.elim λx9 e6=>e6.elim λR9 rv=>?_) λ_ _ z=>z.elim;obtain⟨eD9,nD9⟩:=x9.fr D _ eD8 nD8 (λ_ z=>nomatch z);have x59:Ext m1 H2 m9 H9:=(x5.trans x58).trans x9;refine bv (vf (X:=(bX X x scope cl C s3 H3 fp pins).wish λ_ _=>False) _ s9 σ8 H9 (.ref D) [v'] (.ref D) [xv] (λ_ H10=>H10=upd H9 D (.lst (vs++[v']))) I9 rfl (.cons r9 .nil) ⟨D,vs,v',rfl,rfl,eD9,?_,rfl⟩) (λ_ s10 e0=>bp e0 λv10 H10 I10 _ e10=>?_) λ_ _ z=>z.elim
    ·rw[←Paired.length ra];exact cN (pK hac (cN hlt hlen)) (big (aU _))
    ·subst e10;have mD:Mn m9 H9 m9 (upd H9 D (.lst (vs++[v']))):=Mn.sideSet λys z=>by rw[eD9]at z;cases z
     have I10:=I10.unwish;have S9:=(S8.mono x9).mn mD;have R9':=R9.sideSet nD9 (λys z=>by rw[eD9]at z;cases z) (λo' ys z=>by rw[eD9]at z;cases z) (u:=.lst (vs++[v'])) (λv z=>by rw[eD9]at z;cases z;exact λy=>y);have pn:∀b∈fp,∀o,hp7.get? b=some o->s10.heap.get? b=some o/\(upd H9 D (.lst (vs++[v']))) b=none:=λb hb o e=>
      have z:=I10.pin (b,o) (cM _ (cM _ (qf hb e)))
      ⟨z.1,z.2.1⟩
     refine⟨src.items.length-(k+1),by lia,k+1,σ8,_,m9,h9,acc++[ve],vs++[v'],rfl,hlt,I10.pins_of (λp hp=>absurd hp (by simp)),T.keep _ _ _ st7 λb hb o e=>(pn b hb o e).1,λb hb=>?_,?_,R9',x59.sideSet hD,nD9,VRs.mono mD (iJ (x9.vrs (x58.vrs ra)) (.cons rv .nil)),dh,by simp;lia,hci9⟩
     ·obtain⟨o,e,_⟩:=T.obj _ _ st7 b hb;exact(pn b hb o e).2
     ·refine⟨by have:=S9.len;simp[lv]at this ⊢;exact this,λi v' e=>S9.sl i v' ?_⟩;by_cases hi:i<σ.length
      ·rw[eJ hi]at e ⊢;exact e
      ·rw[iO (by lia),ji]at e;split at e <;> cases e
 ·have e:k=src.items.length:=by lia
  subst e;rw[pR]at hci;unfold bQ at hci;split at hci <;> cases hci
theorem Cd{x:List Str}{one:Bool}{pos:Pos}{tg elt iter:aw}{scope:Scope}{cl:List (Str×ae)}{gi:MI}{gelt:ME}{src:Src}{c:Nat}{hE:MH}(ok:d3 X x scope cl)(hi:GI G X tg iter one x.length gi)
  (helt:∀C s H fp pins,GE G (bX X x scope cl C s H fp pins) elt gelt) (htg:∀C s H fp pins,GTg G (bX X x scope cl C s H fp pins) tg one (ij X.N.length x.length)) (hcalm:X.calm=true) {pins:List (ae×aB)} {s:aj} (I:Inv X pins σ' H s) (ex:EX σ') (S:SR G m H σ σ') (R:HR G m h H)
  (hgi:gi σ h=.ok src h1) (hlen:src.items.length≤100000) (hall:bQ src none gelt σ src.items h1=.exc c hE) (hstk:X.stack=X.env::X.outer) (hf:X.env.frame=some X.env.locals) {use:Option (af->Sem Unit)} {Q':af->aj->Prop} (P:XP G X E EX m H c hE) :
  aq (av X.prog X.w) X.A (aG iter X.env) (λxv s₁=>aq (av X.prog X.w) X.A (pyIter xv) (λit s₂=>aq (av X.prog X.w) X.A (newList []) (λacc s₃=>
   aq (av X.prog X.w) X.A (newFunctionEnv scope X.env.globals cl [] X.env.qual none .none (some X.env)) (λcenv s₄=>
    codeAny (av X.prog X.w) X.A (.compStart (.ListComp elt [⟨tg,iter,[],0⟩] scope pos) 0 it acc { cenv with scope:=relabel scope X.env }) (compPost (av X.prog X.w) X.A E use Q' acc cenv.locals) s₄) E s₃) E s₂) E s₁) E s:=by
 obtain ⟨wi,pw,hw⟩:=hi E EX;refine bv (pw pins s σ' H (λJ H2=>∃m1,JOk G J src one x.length m1 H2/\HR G m1 h1 H2/\Ext m H m1 H2) (I.wish E)
  (hw σ' H _ ⟨m,h,σ,ex,S,R,by rw [hgi];exact λm1 H1 x1 R1 J hJ=>⟨m1,hJ,R1,x1⟩⟩)) (λxv s1 q1=>bv q1 (λitv s2 q2=>?_) λ_ _ z=>z) λ_ _ z=>z
 obtain⟨it,fp,tn,J,H2,rfl,I2,T,st2,f2,m1,hJ,R1,x1⟩:=q2;have I2:=I2.unwish;have f2:∀b∈fp,eX X pins H2 b:=f2;have fD:H2 s2.heap.objs.size=none:=I2.hok.fresh (aU _);refine wpAny_newObj_type ?_;have I3:=I2.laid (t':=s2.toks) (o:=.lst []) (h':=s2.heap.push { cls:=.type "list",dict:=none,data:=.seq ([]:List af).toArray }) (λb u e=>bG _ e) (aU _) ⟨fg _,[],0,.nil,cT _ rfl⟩;generalize hs3:({ s2 with heap:=s2.heap.push { cls:=.type "list",dict:=none,data:=.seq ([]:List af).toArray } }:aj)=s3 at I3 ⊢;have e3:∀b o,s2.heap.get? b=some o->s3.heap.get? b=some o:=λb o e=>by rw[←hs3];exact bG _ e
 have z3:s2.heap.objs.size<s3.heap.objs.size:=by rw[←hs3];simp
 have ffo:∀b∈fp,∃o,s2.heap.get? b=some o:=λb hb=>let ⟨o,e,_⟩:=T.obj 0 _ st2 b hb;⟨o,e⟩;have f3:∀b∈fp,eX X pins (upd H2 s2.heap.objs.size (.lst [])) b:=λb hb=>by
  obtain⟨o,e⟩:=ffo b hb;exact⟨by rw[aY (dj (bo e))];exact(f2 b hb).1,(f2 b hb).2⟩
 refine wpAny_newFunctionEnv ok.nocell (λy hy=>by simp at hy) (λhp4 ns4 sb4=>?_) ok.kind;have k4:∀b o,s3.heap.get? b=some o->hp4.get? b=some o:=λb o e=>sb4.extBut b o (dj (bo e)) (bG _ e);have I4:=Ax (t:=s3.toks+([]:List (Str×af)).length) ok I3 f3 (λb hb=>let ⟨o,e⟩:=ffo b hb;⟨o,e3 b o e⟩) ⟨_,ns4⟩ k4;have st4:tn 0 hp4:=T.keep 0 _ _ st2 λb hb o e=>k4 b o (e3 b o e);have stkF:∀b∈fp,b∉frs X.stack:=λb hb z=>by
  rcases bu.mp (I3.stkSub b z) with y|y
  ·exact(f3 b hb).2.1 y
  ·exact(f3 b hb).2.2.1 y
 have fr:X.A.frames=some (X.env::X.outer):=by rw[I.ok.frames,hstk]
 have loop:=Ds (pos:=pos) (iter:=iter) (C:=s3.heap.objs.size) (s3:=s3) (D:=s2.heap.objs.size) ok helt htg hcalm T hJ hlen hall f3 (λb hb=>let ⟨o,e⟩:=ffo b hb;dj (bo (e3 b o e))) stkF I4 st4 ((S.mono x1).mono (Ext.side fD)) (R1.side fD) (Ext.side fD) fD (R1.fresh fD) dh (λb hb=>(f3 b hb).1)
  (Rr:=compPost (av X.prog X.w) X.A E use Q' (.ref s2.heap.objs.size) s3.heap.objs.size) λpins' σc H5 m5 a s5 I5 R5 x5 xx=>by
   have IX:Inv X pins σ' H5 s5:=I3.call' I5.os I5.base I5.hok I5.bare λb hb=>⟨(f3 b hb).2.2.2.1,(f3 b hb).2.1,(f3 b hb).2.2.2.2.1,(f3 b hb).2.2.2.2.2⟩;have fC:Fp X pins H5 s3.heap.objs.size:=Fp.of I3 (jf (aU _)) I5.free;obtain⟨mm,⟨oC,es,ep,hoC,hdC,hkC⟩,_⟩:=I5.loc;have I6:Inv X (pins++[(s3.heap.objs.size,oC)]) σ' H5 s5:=IX.pins_of λp hp=>by
    rcases fJ.mp hp with z|z
    ·exact IX.pin p (cM _ z)
    ·cases dF.mp z;exact⟨hoC,fC.un,fC.loc,fC.fs,λv' z=>by rw[hdC]at z;cases z⟩
   have fb:∀b,Fp (bX X x scope cl s3.heap.objs.size s3 (upd H2 s2.heap.objs.size (.lst [])) fp pins) pins' H5 b->Fp X (pins++[(s3.heap.objs.size,oC)]) H5 b:=λb q=>by
    have f:Fp X pins H5 b:=by
     rcases q.new with z|z
     ·exact⟨q.un,(f3 b z).2.1,(f3 b z).2.2.1,(f3 b z).2.2.2.1.imp id jf,(f3 b z).2.2.2.2.1,(f3 b z).2.2.2.2.2⟩
     ·exact Fp.of I3 z q.un
    refine⟨f.un,f.loc,f.fs,f.new,f.ce,λp hp=>?_⟩;rw[←uo]at hp;rcases fJ.mp hp with z|z
    ·exact f.pin p z
    ·cases dF.mp z;exact λy=>q.loc y.symm
   have x6:Exc X (pins++[(s3.heap.objs.size,oC)]) H5 (fl c) (G.cl c) a s5:=jT.imp fb xx;show aq _ X.A (noteFrame (.ref a) X.env) _ _ s5;refine jN (X:=X) fr hstk hf I6 x6 λs7 I7 x7=>?_;have pC:=I7.pin (s3.heap.objs.size,oC) (cM _ (cM _ (dF.mpr rfl)));refine⟨mm,⟨oC,es,ep,pC.1,hdC,hkC⟩,λh8 hs8 cenv hcenv=>?_⟩;have I8:Inv X pins σ' H5 s7:=I7.pins_of λp hp=>I7.pin p (cM _ (gB _ hp));have I9:Inv X pins σ' H5 { s7 with heap:=h8 }:=fC.turned (t':=s7.toks) I8 λc o hc e=>hs8.extBut c o hc e;obtain⟨oe,vs,TT,oT,ts,a1,a2,a3,a4,a5,a6,b1,b2,b3,b4,b5,b6,b7⟩:=x7;have na:∀b,Fp X (pins++[(s3.heap.objs.size,oC)]) H5 b->b≠s3.heap.objs.size:=λb q z=>q.pin (s3.heap.objs.size,oC) (cM _ (cM _ (dF.mpr rfl))) z.symm;have nf:∀b,Fp X (pins++[(s3.heap.objs.size,oC)]) H5 b->Fp X pins H5 b:=λb q=>⟨q.un,q.loc,q.fs,q.new,q.ce,λp hp=>q.pin p (by rw[←uo];exact gB _ hp)⟩
   have x9:iH (fl c) (G.cl c) a (Fp X pins H5) h8:=⟨oe,vs,TT,oT,ts,hs8.extBut _ _ (na a a6) a1,a2,a3,a4,a5,nf a a6,b1,b2,hs8.extBut _ _ (na TT b6) b3,b4,b5,nf TT b6,b7⟩;unfold PySem.passOn;refine ak (cX (hs8.extBut _ _ (na a a6) a1) a4 b1 ?_);rw[if_neg (by simp)];exact ak (jA I9 x9 λs10 I10 x10=>wpAny_throw (P pins σ' m5 H5 a s10 ex (x1.trans x5) R5 I10 x10.sh))
 exact codeAny_compStart_list loop (T.self X.A 0 _ _ _ st4 loop)
theorem BE{x:List Str}{y:Str}{n:Nat}{one:Bool}{py pos spos:Pos}{tg elt iter:aw}{scope:Scope}{cl:List (Str×ae)}{gi:MI}{gelt:ME}(ok:d3 X x scope cl)(hi:GI G X tg iter one x.length gi)
  (helt:∀C s H fp pins,GE G (bX X x scope cl C s H fp pins) elt gelt) (htg:(fS X.N x).Nodup->∀C s H fp pins,GTg G (bX X x scope cl C s H fp pins) tg one (ij X.N.length x.length)) (hN:X.N.Nodup) (hy:X.N[n]?=some y:=by rfl) (hl:X.env.scope.names.lookup y=some .local:=by rfl) (hcalm:X.calm=true:=by rfl) (hs:∀z,foldedSetIterable iter X.env z=pure z:=by intro _;rfl)
  (hsw:swapsWith (.ListComp elt [⟨tg,iter,[],0⟩] scope pos) (some (.Name y py)) spos.line X.env=pure true:=by rfl) (hstk:X.stack=X.env::X.outer:=by rfl) (hf:X.env.frame=some X.env.locals:=by rfl) :
  GS G EX X (.Assign [.Name y py] (.ListComp elt [⟨tg,iter,[],0⟩] scope pos) spos) (bB n (iR gi gelt)):=λE hp pins s σ' H D I e0=>bK e0 λm h σ ex S R P=>by
 by_cases hx:∃src h1 c hE,gi σ h=.ok src h1/\src.items.length≤100000/\bQ src none gelt σ src.items h1=.exc c hE
 ·obtain⟨src,h1,c,hE,hgi,hlen,hall⟩:=hx;have er:bB n (iR gi gelt) σ h=.exc c hE:=by
   unfold bB iR bnd;simp only[hgi,hlen,hall,if_true]
  rw[er]at P;show aq _ _ (exec _ X.env) _ _ s;rw[exec_Assign_Name_used _ _ _ _ hsw];refine ak (wpAny_standAt (ak ?_));show aq _ X.A (do let _ ←comprehension (.ListComp elt [⟨tg,iter,[],0⟩] scope pos) scope X.env _ (newList []) false (aG iter X.env) (some (assign (.Name y py) X.env))) _ _ s;refine ak (bv (wpAny_comprehension_free (use:=some (assign (.Name y py) X.env)) (Q:=λ_ s'=>SP (X.wish E) pins D .next s') rfl hs ok.clos ok.kind ok.locs ?_) (λ_ s' hq=>aL (aL hq)) λ_ _ z=>z);exact Cd (h1:=h1) ok hi helt (htg ok.nd) hcalm I.unwish ex S R hgi hlen hall hstk hf P
 ·have e:iR gi gelt σ h=eG gi none gelt σ h:=by
   unfold iR eG bnd;cases eg:gi σ h with
   |ok src h1=>
     dsimp only;by_cases hlen:src.items.length≤100000
     ·rw[if_pos hlen,if_pos hlen];unfold noExc;cases ec:bQ src none gelt σ src.items h1 with
      |exc c hE=>exact absurd ⟨src,h1,c,hE,eg,hlen,ec⟩ hx
      |_=>rfl
     ·rw[if_neg hlen,if_neg hlen]
   |_=>rfl
  refine zF (ifs:=[]) (gc:=none) ok hi helt trivial htg hN hy hl hcalm hs hsw E hp pins s σ' H D I ⟨m,h,σ,ex,S,R,?_⟩;have e2:bB n (eG gi none gelt) σ h=bB n (iR gi gelt) σ h:=by unfold bB bnd;rw[e]
  rw[e2];exact P
theorem EH{K:PySem.W.Frag}{f:Nat->ae}{C:ae}{al cs cs':List Nat}(hs:∀n∈al,PySem.W.subIn K (.ref (f n)) (.ref C)=some (cs'.contains n))(hc:(cs.all λn=>al.contains n&&cs'.contains n)=true):∀n,cs.contains n=true->PySem.W.subIn K (.ref (f n)) (.ref C)=some true:=λn hn=>by
 have z:=iS.mp hc n (by simpa using hn);simp only[d7]at z;rw[hs n (by simpa using z.1),z.2]
section
open PySem.SeqAt PySem.MeetsSeq PySem.MeetsSeq2 PySem.SeqRoads2
open PySem.AutoSeq1 (wpAny_loadPart')
end
end L2.Rv
namespace L2.Rv
open PySem PySem.Spec PyProof.Rows
local instance:DecidableEq Key:=inferInstanceAs (DecidableEq (Int ⊕ Str))
local instance:BEq Key:=instBEqOfDecidableEq
local instance:LawfulBEq Key:=inferInstanceAs (@LawfulBEq Key instBEqOfDecidableEq)
section
variable {prog:bi}{w:aQ}{A:aX}{E:af->aj->Prop}{s:aj}
end
variable {G:Gb}{X:Cx}
end L2.Rv
namespace L2.Rv
noncomputable section
open PySem (Str)
noncomputable def rV(f:Fn)(a:MA):ME:=λσ=>bnd (a σ) λxs=>noExc (f xs)
noncomputable def nj:Op2:=λx y=>match x,y with
 |.str s,.int n=>if 0≤n/\n≤1000/\s.length*n.toNat≤10000 then ret (.str (if n<1 then PySem.Str.empty else jB s n)) else stk
 |_,_=>stk
end
end L2.Rv
namespace L2.Rv
open PySem PySem.Spec PyProof.Rows
variable {G:Gb}{m m' m1 m2:List ae}{h h' h1 h2:MH}{H H' H1 H2:Hp}{X:Cx}{E:af->aj->Prop}{EX:St->Prop}{σ:MSt}{σ':St}
structure gQ(k:Nat)(A:aX):Prop where
 dp:A.depth+3*k+5<recursionLimit
 un:A.units+16*k+200<cLine
theorem gQ.of{j k:Nat}{A:aX}{v:Option af}(r:Room k A)(h:j≤k):gQ j (A.mark v):=⟨by show A.depth+_+_<_;have:=r.dp;lia,by show A.units+_+_<_;have:=r.un;lia⟩
theorem gQ.deeper{k:Nat}{A:aX}(r:gQ (k+1) A)(env:Env):gQ k (A.deeper env):=
 ⟨by have:=r.dp;show A.depth+1+3*k+5<_;lia,by have:=r.un;show A.units+3+16*k+200<_;lia⟩
structure FnH(P:bi)(w:aQ)(K:PySem.W.Frag)(mg:Str->Option af)(base:aH)(cl:Nat->ae)(k:Nat)(f:ae)(fd:bc)(ps:List Str)(gf:Fn):Prop where
 run:∀(A:aX) (outer:List Env) (s:aj) (H:Hp) (args:Args) (us:List af) (vs:List V) (sa:ae) (ns:List Int) (m:List ae) (h:MH) (ms:List MV) (v:MV) (h':MH) (Q:VK),gQ k A->Env0 P w K mg base A outer s H->BindsTo s fd args (ps.zip us)->Vals vs us->vs.length=ps.length ->
  VRs ⟨cl,K,sa,ns⟩ m H ms vs->HR ⟨cl,K,sa,ns⟩ m h H->gf ms h=.ok v h'->(∀m' H' v',Ext m H m' H'->HR ⟨cl,K,sa,ns⟩ m' h' H'->VR ⟨cl,K,sa,ns⟩ m' H' v v'->Q v' H') ->
  codeAny (av P w) A (.call (.ref f) args) (CR (CXe P w) outer P w H s Q (λ_ _ _=>False)) s
 ar:∀ms h,gf ms h≠.stuck->ms.length=ps.length
theorem BZ{P:bi}{w:aQ}{K:PySem.W.Frag}{mg:Str->Option af}{base:aH}{cl:Nat->ae}{x qual:Str}{st:aP}{f:ae}{fd:bc}{N ps:List Str}{k:Nat}{g:MS}{gf:Fn}(F:Fun K x qual st f fd)(S:bF N ps (bg st))(hgf:gf=fnOf ps.length N.length g)
  (hbody:∀(cdv:af) (A:aX) (outer:List Env) (s:aj) (H:Hp) (E:XK) (sa:ae) (ns:List Int) (v:Option af),gQ k (A.deeper (envOfC qual (bg st) s.heap.objs.size f cdv)) ->
   GSs ⟨cl,K,sa,ns⟩ ET (Cx.inSuite (gR (CXe P w) P w K mg base N qual (bg st) f cdv A outer s H E) ((A.deeper (envOfC qual (bg st) s.heap.objs.size f cdv)).mark v)) (iC st) g):FnH P w K mg base cl (k + 1) f fd ps gf:=by
 subst hgf;refine⟨?_,λms h q=>?_⟩
 rotate_left
 ·unfold fnOf at q;split at q
  ·assumption
  ·exact absurd rfl q
 obtain⟨oc,od,kV,doc,pm,an,cdv,ct,osl,rfl,lk,hcd⟩:=F.ex;intro A outer s H args us vs sa ns m h ms v h' Q hr e0 hb r hl rv R he post;have KX:K.In s.heap:=e0.mod.kin.keeps λb o e=>(e0.bs b o e).1;have lim:s.heap.NoLimit:=e0.mod.nolimit.keeps λb o e=>(e0.bs b o e).1;have hkind:∀y∈ps.zip us,(bg st).names.lookup y.1=some .local∨((bg st).names.lookup y.1=some .cell/\((cellsFrom (s.heap.objs.size+1) (bg st).names []).lookup y.1).isSome=true):=λ⟨n,v⟩ hy=>by
  rcases S.par n (mh hy).1 with q|q
  ·exact .inl q
  ·exact .inr ⟨q,PySem.W.cellsFrom_some _ _ _ (.inl q)⟩
 refine codeAny_call_function (by have:=hr.dp;lia) (KX _ _ lk) rfl S.co S.gen rfl (PySem.W.codeRec_of KX hcd) (hb _ _ _ _ ?_);refine wpAny_newFunctionEnv_cells S.kind hkind λenv he s1 x=>?_;subst he;refine⟨lim.keeps x.toInCall.keep,codeAny_func ?_⟩;obtain⟨A0,hA0⟩:∃A0:aX,A0={ A with handled:=none }:=⟨_,rfl⟩;have eA:(A0.deeper (envOfC qual (bg st) s.heap.objs.size f cdv)).mark A.handled=A.deeper (envOfC qual (bg st) s.heap.objs.size f cdv):=by
  rw[hA0];obtain⟨a,b,c,d,e⟩:=A;cases a <;> rfl
 have e1:Env0 P w K mg base A0 outer s H:=⟨by rw[hA0];exact e0.frames,e0.mod,e0.bs,e0.bsz,e0.funs,e0.frf,e0.hok,e0.bare⟩
 have I:Inv (gR (CXe P w) P w K mg base N qual (bg st) f cdv A0 outer s H (λ_ _ _=>False)) [] (start N vs) H s1:=vA S (by rw[hA0]) e1 hl r x;have I2:=(Inv.mark I A.handled).wish (λ_ _=>False);have hb2:=hbody cdv A0 outer s H (λ_ _ _=>False) sa ns A.handled (gQ.deeper (A:=A0) (by rw[hA0];exact⟨hr.dp,hr.un⟩) _) (λ_ _=>False) PassesOwn.never;have S0:=xK (N:=N) rv;unfold fnOf at he;rw [if_pos (show ms.length=ps.length from (Paired.length rv).trans hl)] at he;have main:aq (av P w) ((A0.deeper (envOfC qual (bg st) s.heap.objs.size f cdv)).mark A.handled) (execs (iC st) (envOfC qual (bg st) s.heap.objs.size f cdv)) (λfl s'=>match fl with
   |.ret u=>CE outer P w H s Q u s'
   |.next=>CE outer P w H s Q .none s'
   | _=>False) (λ_ _=>False) s1:=by
  refine bv (hb2 [] s1 (start N vs) H { nx:=λ_ H'=>Q .non H',rt:=Q } I2 ⟨m,h,_,trivial,S0,R,?_⟩) (λfl s' hs=>?_) λ_ _ z=>z
  ·cases e:g (ms.map some++br (N.length-ms.length) none) h with
   |ok fl h1=>
     simp only[bnd,e]at he;intro m' H' x R';cases fl with
     |next σ1=>cases he;exact λ_ _=>post m' H' .non x R' rfl
     |ret u=>cases he;exact λv' r=>post m' H' v' x R' r
     |brk σ1=>cases he
     |cnt σ1=>cases he
   |exc c h1=>simp only[bnd,e]at he;cases he
   |stuck=>simp only[bnd,e]at he;cases he
  ·cases fl with
   |ret u=>
     obtain⟨v,σ',H',J,rv,q⟩:=hs;exact⟨v,H',J.os,J.bare,J.base,J.hok,rv,q⟩
   |next=>
     obtain⟨σ',H',J,q⟩:=hs;exact⟨.non,H',J.os,J.bare,J.base,J.hok,rfl,q⟩
   |brk=>
     obtain⟨_,_,_,q⟩:=hs;exact q
   |cont=>
     obtain⟨_,_,_,q⟩:=hs;exact q
 rw[eA]at main;refine bv main (λfl s' hs=>?_) λ_ _ z=>z.elim;cases fl with
 |ret u=>exact hs
 |next=>exact hs
 |brk=>exact hs.elim
 |cont=>exact hs.elim
theorem GH{k:Nat}{f:ae}{fd:bc}{ps:List Str}{gf:Fn}{x:Str}{p pos:Pos}{e:aw}{es:List aw}{ga:MA}(F:FnH X.prog X.w X.K X.mg X.base G.cl k f fd ps gf)(hr:gQ k X.A)(hm:X.mg x=some (.ref f))(hk:PySem.W.keepIn X.K (.ref f)=true)(hb:Binds X.K fd ps [])(ha:GA G X (e::es) ga)(hg:Gl X x:=by rfl)(hK:X.K=G.K:=by rfl)
  (hdb:(x == ("__debug__":Str))=false:=by decide) (he:aJ (e::es) X.env=(false,aG e X.env)::aJ es X.env:=by rfl) (hpl:(cL pos (aJ es X.env)).any (·.1)=false:=by rfl) :
  GE G X (.Call (.Name x p) (e::es) [] pos) (rV gf ga):=λE EX pins s σ' H Q I e0=>bK e0 λm h σ ex S R P=>by
 refine wpAny_Call_Name_kw (iw I hg hm ?_ hdb);refine PySem.W.callWith_K (h₀:=X.base) I.ok.mod.kin hk (thn (ha E EX pos pins s σ' H (λvs H1=>∃m1 h1 ms,HR G m1 h1 H1/\VRs G m1 H1 ms vs/\Post G X E EX m1 H1 (noExc (gf ms) h1) λv m' _ H'=>∀v',VR G m' H' v v'->Q v' H') I
  (jv ex S R P λms m1 h1 H1 vs x1 R1 r1 P1=>⟨m1,h1,ms,R1,r1,P1⟩)) λus s1 e0=>bp e0 λvs H1 I1 r e4=>e4.elim λm1 e5=>e5.elim λh1 e6=>e6.elim λms e7=>e7.elim λR1 e8=>e8.elim λrv P1=>⟨I1.kIn,?_⟩) he hpl
 obtain⟨v,h',ev,P2⟩:∃v h',gf ms h1=.ok v h'/\Post G X E EX m1 H1 (.ok v h') (λv m' _ H'=>∀v',VR G m' H' v v'->Q v' H'):=by
  unfold noExc at P1;cases ec:gf ms h1 with
  |ok v h'=>rw[ec]at P1;exact⟨v,h',rfl,P1⟩
  |exc c h'=>rw[ec]at P1;exact P1.elim
  |stuck=>rw[ec]at P1;exact P1.elim
 have hl:=F.ar ms h1 (by rw[ev];exact λz=>nomatch z);have hu:us.length=ps.length:=by rw[←r.length,←Paired.length rv];exact hl
 have bt:BindsTo s1 fd ⟨us,[]⟩ (ps.zip us):=by
  have:=hb s1 us I1.kIn (by simpa using hu);simpa using this
 obtain⟨gcl,gK,gsa,gns⟩:=G;subst hK;refine wpAny_call (codeAny_mono (F.run X.A X.stack s1 H1 ⟨us,[]⟩ us vs gsa gns m1 h1 ms v h' Q hr I1.unwish.env0 bt r ((Paired.length rv).symm.trans hl) rv R1 ev λm' H' v' x R' q=>P2 m' H' x R' v' q) λrr s' hq=>?_);cases rr with
 |error ev=>
   obtain⟨_,_,_,_,_,_,_,_,_,_,z⟩:=hq;exact z.elim
 |ok fl=>
   cases fl with
   |ret u=>exact I1.after hq
   |next=>exact False.elim hq
   |brk=>exact False.elim hq
   |cont=>exact False.elim hq
def wL:R2:=λx y H Q=>∃(s:Str) (n:Int),x=.str s/\y=.int n/\0≤n/\n≤1000/\s.length*n.toNat≤10000/\Q (.str (if n<1 then PySem.Str.empty else jB s n)) H
theorem IH:OpR X (binaryOp .Mult) wL:=by
 rintro pins s σ H x y v u Q I rx ry ⟨i,n,e1,e2,h1,h2,h3,q⟩;by_cases c:n<1
 ·subst e1;subst e2;obtain⟨t,rfl⟩:=rx;obtain⟨t',rfl⟩:=ry;rw[if_pos c]at q;exact PySem.P.mul_str_none c (by lia) ⟨.str _,H,I.tok _,⟨_,rfl⟩,q⟩
 ·rw[if_neg c]at q;exact Gr pins s σ H x y v u Q I rx ry ⟨i,n,e1,e2,by lia,h2,h3,q⟩
theorem Bx:VO G nj wL:=by
 intro X E EX m h H x y x' y' Q R rx ry P;cases x with
 |str s=>cases y with
   |int n=>
     unfold nj at P;dsimp only at P;split at P
     ·rename_i c;exact⟨s,n,rx,ry,c.1,c.2.1,c.2.2,Post.here R P _ rfl⟩
     ·exact P.elim
   |_=>exact P.elim
 |_=>exact P.elim
end L2.Rv
namespace L2.Rv
open PySem PySem.Spec PyProof.Rows PySem.W
def qI(P:ae)(H:Hp):Prop:=∀b,H b=none∨(∃o xs,H b=some (.frz o (.lst xs)))∨(b=P/\H b=some (.tbl #[]))
theorem CV{P:bi}{w:aQ}{K:Frag}{mg mb:Str->Option af}{CX:CXT}{k:Nat}{fa a c tb:ae}{fd:bc}{x:Str}{sp:Sp}{s₁:aj}{vs:List af}{ns:List Int}
  (KX:K.In s₁.heap) (hT:s₁.heap.TableAt c tb #[]) (hKP:K.lookup tb=none) (hns:s₁.heap.Ns dz mg) (hb:s₁.heap.Ns builtinsNs mb) (hbb:∀x:Str,x≠"__name__"->mb x=bootBuiltins x) (hlim:s₁.heap.NoLimit) (hg:s₁.gens=#[])
  (ha:s₁.heap.get? a=some { cls:=.type "list",data:=.seq vs.toArray }) (hi:IntsAre vs ns) (hl:ns.length≤aV) (hr:Room k callerA)
  (F:∀base:aH,K.In base->base.Ns dz mg->iE P w K mg base CX k fa fd [x] sp) (hbind:∀(s:aj) (u:af),BindsTo s fd ⟨[u],[]⟩ [(x,u)])
  (hsp:∀H:Hp,qI tb H->H tb=some (.tbl #[])->SqL K H a (ns.map V.int)->sp [.ref a] H (λv _=>v=.bl true) λ_ _ _=>False)
  (hCX:∀H e s',CX [] H s₁ (λ_ _ _=>False) e s'->False) :
  codeAny (av P w) callerA (.call (.ref fa) ⟨[.ref a],[]⟩) (λr s'=>r=.ok (.ret (.bool true))/\OldK s₁.heap s'.heap/\s'.os=s₁.os/\AllBare s'.gens) s₁:=by
 have rv:=yE hi;have lenV:=hi.length;have htb:s₁.heap.get? tb=some { cls:=.none,data:=.fields #[] }:=hT.2;have hta:tb≠a:=λz=>by rw[z,ha]at htb;cases htb
 have core:∀H:Hp,qI tb H->H tb=some (.tbl #[])->SqL K H a (ns.map V.int)->HOk P w H s₁.heap->(∀b,H b≠none->b=a∨b=tb)->(H a≠none->K.lookup a=none) ->
   codeAny (av P w) callerA (.call (.ref fa) ⟨[.ref a],[]⟩) (λr s'=>r=.ok (.ret (.bool true))/\OldK s₁.heap s'.heap/\s'.os=s₁.os/\AllBare s'.gens) s₁:=by
  intro H hO hH hS hok hA hK;have base_of:∀{b:ae}{o:aB},s₁.heap.get? b=some o->H b=none->(ir s₁.heap H).get? b=some o:=λe n=>IV e n;have noA:∀{b:ae}{o:aB}{es:Array DictEntry}{ep:Nat},s₁.heap.get? b=some o->o.data=.dict es ep->H b=none:=λ{b o es ep} e d=>by
   cases q:H b with
   |none=>rfl
   |some u=>
     rcases hA b (by rw[q];simp) with e'|e'
     ·subst e';rw[ha]at e;cases e;have d':Data.seq vs.toArray _=Data.dict es ep:=d;cases d'
     ·subst e';rw[htb]at e;cases e;have d':Data.fields _=Data.dict es ep:=d;cases d'
  have nsK:∀{b:ae} {m:Str->Option af},s₁.heap.Ns b m->(ir s₁.heap H).Ns b m:=λ{b m} e0=>e0.elim λo e1=>e1.elim λes e2=>e2.elim λep e3=>e3.elim λe e4=>e4.elim λd r=>⟨o,es,ep,base_of e (noA e d),d,r⟩;have hKb:K.In (ir s₁.heap H):=λb o e=>base_of (KX b o e) (by
   cases q:H b with
   |none=>rfl
   |some u=>
     rcases hA b (by rw[q];simp) with e'|e'
     ·subst e';rw[hK (by rw[q];simp)]at e;cases e
     ·subst e';rw [hKP] at e;cases e)
  have hM:Mod K mg (ir s₁.heap H):=⟨hKb,nsK hns,⟨mb,nsK hb,hbb⟩,let ⟨mc,h1,h2⟩:=hlim;⟨mc,nsK h1,h2⟩⟩;have e0:Env0 P w K mg (ir s₁.heap H) callerA [] s₁ H:=⟨rfl,hM,λb o e=>FV e,mQ (GQ _ _),trivial,λb hb=>absurd (show b∈([]:List ae) from hb) (by simp),hok,.of_eq hg⟩
  refine codeAny_mono ((F _ hKb (nsK hns)).run callerA [] s₁ H ⟨[.ref a],[]⟩ [.ref a] [.ref a] _ _ hr e0 (hbind s₁ (.ref a)) (.cons rfl .nil) (hsp H hO hH hS)) λr s' h=>?_;cases r with
  |error e=>exact(hCX H e s' h).elim
  |ok fl=>
    cases fl with
    |next=>exact False.elim h
    |brk=>exact False.elim h
    |cont=>exact False.elim h
    |ret u=>
      obtain⟨v,H',os,bare,un,hok',r',q⟩:=h;have q':v=.bl true:=q;subst q';obtain rfl:u=Value.bool true:=r';have kp:∀b o,b≠tb->s₁.heap.get? b=some o->s'.heap.get? b=some o:=λb o hbt e=>by
       cases q:H b with
       |none=>exact un.keep b o e q (by intro z;exact absurd (show b∈([]:List ae) from z) (by simp)) (by simp)
       |some u=>
         rcases hO b with z|⟨ob,xs,z⟩|⟨z,_⟩
         ·rw[q]at z;cases z
         ·have z2:=un.frzs b ob _ z;obtain⟨e1,_⟩:=hok b _ z;obtain⟨e2,_⟩:=hok' b _ z2;rw[e]at e1;cases e1;exact e2
         ·exact absurd z hbt
      obtain⟨more,em⟩:=un.tbls tb #[] hH;have em':s'.heap.get? tb=some { cls:=.none,data:=.fields (#[]++more) }:=hok' tb _ em;refine⟨rfl,⟨λb o e=>?_,λb o e=>?_⟩,os,bare⟩
      ·by_cases hbt:b=tb
       ·subst hbt;rw[htb]at e;cases e;exact .inr (.inl ⟨hT.isCodeTable,rfl,#[],more,rfl,em'⟩)
       ·exact .inl (kp b o hbt e)
      ·by_cases hbt:b=tb
       ·subst hbt;exact⟨_,em'⟩
       ·exact⟨o,kp b o hbt e⟩
 cases hk:K.lookup a with
 |some o=>
   have e:=KX a o hk;rw[ha]at e;cases e;refine core (λb=>if b=tb then some (.tbl #[]) else none) (λb=>?_) (if_pos rfl) (.inr ⟨_,vs.toArray,_,hk,rfl,rfl,rfl,by rw[cG,lenV];exact hl,by simpa using rv⟩) (λb u z=>?_) (λb z=>?_) λz=>?_
   ·by_cases hb:b=tb
    ·exact .inr (.inr ⟨hb,if_pos hb⟩)
    ·exact .inl (if_neg hb)
   ·by_cases hb:b=tb
    ·have z':=(if_pos hb).symm.trans z;cases z';subst hb;exact htb
    ·have z':=(if_neg hb).symm.trans z;cases z'
   ·by_cases hb:b=tb
    ·exact .inr hb
    ·exact absurd (if_neg hb) z
   ·exact absurd (if_neg (Ne.symm hta)) z
 |none=>
   refine core (λb=>if b=a then some (.frz { cls:=.type "list",data:=.seq vs.toArray } (.lst (ns.map V.int))) else if b=tb then some (.tbl #[]) else none) (λb=>?_) (by rw[if_neg hta,if_pos rfl]) (.inl (.inr ⟨{ cls:=.type "list",data:=.seq vs.toArray },if_pos rfl⟩)) (λb u z=>?_) (λb z=>?_) λ_=>hk
   ·by_cases hb:b=a
    ·exact .inr (.inl ⟨_,_,if_pos hb⟩)
    ·by_cases hb2:b=tb
     ·exact .inr (.inr ⟨hb2,by dsimp only;rw[if_neg hb,if_pos hb2]⟩)
     ·exact .inl (by dsimp only;rw[if_neg hb,if_neg hb2])
   ·by_cases hb:b=a
    ·have z':=(if_pos hb).symm.trans z;cases z';subst hb;exact⟨ha,by rw[c6];exact hl,vs,_,rv,ha⟩
    ·have z1:(if b=tb then some (HO.tbl #[]) else none)=some u:=(if_neg hb).symm.trans z;by_cases hb2:b=tb
     ·rw[if_pos hb2]at z1;cases z1;subst hb2;exact htb
     ·rw[if_neg hb2]at z1;cases z1
   ·by_cases hb:b=a
    ·exact .inl hb
    ·by_cases hb2:b=tb
     ·exact .inr hb2
     ·exact absurd (by rw[if_neg hb,if_neg hb2]) z
theorem IM{l:OpenLaw}{n k:Nat}{q:bi}{loose:List Str}{XP:(Str->Option af)->aH->Prop}{YP:aQ->aH->Prop}{d:DefRec}{K:Params->Frag}{CX:aQ->CXT}{tb:ae}{sp:aQ->Sp}{x:Str}
  (hn:l.most=some n) (hn2:n≤aV) (hdf:d.params.defaults=[]) (hr:Room k callerA)
  (hY:∀(w:aQ) (h:aH),YP w h->(K w.params).In h/\h.get? tb=some (tabObj #[]))
  (hK:∀w:aQ,(K w.params).lookup tb=none)
  (F:∀(w:aQ) (mg:Str->Option af) (fa:ae) (h:aH),(K w.params).In h->h.Ns dz mg->mg d.name=some (.ref fa) ->
   (∃c o vs,(K w.params).lookup c=some o/\o.cls=.type "code"/\o.data=.fields vs/\vs[11]?=some (.ref tb)) /\
   ∃fd:bc,(∀(s:aj) (u:af),BindsTo s fd ⟨[u],[]⟩ [(x,u)]) /\
    ∀base:aH,(K w.params).In base->base.Ns dz mg->iE l.prog w (K w.params) mg base (CX w) k fa fd [x] (sp w))
  (hsp:∀(w:aQ) (H:Hp) (a:ae) (ns:List Int),ns.length≤n->qI tb H->H tb=some (.tbl #[])->SqL (K w.params) H a (ns.map V.int)->sp w [.ref a] H (λv _=>v=.bl true) λ_ _ _=>False)
  (hCX:∀(w:aQ) (H:Hp) (s:aj) (e:af) (s':aj),CX w [] H s (λ_ _ _=>False) e s'->False) :
  WalkO q loose XP YP l.row.toRowW d [] (λf vs=>PySem.call f vs):=by
 refine Att.attach_call hn hdf λw s₀ s₁ mg mb fa o pm cd doc a vs ns G Y ho hd hcd hmg hobj hints hlen hg=>?_;obtain⟨KX,ht⟩:=hY w _ Y;obtain⟨⟨c,oc,ws,z1,z2,z3,z4⟩,fd,hb,hF⟩:=F w mg fa _ KX G.T.g hmg;exact CV KX ⟨⟨oc,ws,KX _ _ z1,z2,z3,z4⟩,ht⟩ (hK w) G.T.g G.T.b G.T.builtins G.T.nolimit hg hobj hints (cB hlen hn2) hr hF hb (λH hO hH hS=>hsp w H a ns hlen hO hH hS) λH e s'=>hCX w H s₁ e s'
noncomputable def KD(K':Params->Frag)(tb:ae)(P:Params):Frag:=(K' P).filter λp=>!(i5 p.1 tb)
theorem uB(tb b:ae):∀K:Frag,(K.filter λp=>!(i5 p.1 tb)).lookup b=if b=tb then none else K.lookup b
 |[]=>by simp
 |(a,o)::r=>by
   have ih:=uB tb b r;by_cases ha:a=tb
   ·subst ha;have:(jX (λp:ae×aB=>!(i5 p.1 a)) ((a,o)::r))=jX (λp=>!(i5 p.1 a)) r:=by rw[mY];simp
    rw[this,ih];by_cases hb:b=a
    ·simp[hb]
    ·rw[if_neg hb,if_neg hb,bI];have:(b == a)=false:=by simpa using hb
     rw[this]
   ·have:(jX (λp:ae×aB=>!(i5 p.1 tb)) ((a,o)::r))=(a,o)::jX (λp=>!(i5 p.1 tb)) r:=by
     rw[mw];have:i5 a tb=false:=by
      cases q:i5 a tb with
      |false=>rfl
      |true=>exact absurd (Nat.eq_of_beq_eq_true q) ha
     simp[this]
    rw[this,bI,bI,ih];by_cases hb:b=a
    ·subst hb;simp[ha]
    ·have:(b == a)=false:=by simpa using hb
     rw[this]
theorem KD_none{K':Params->Frag}{tb:ae}{P:Params}:(KD K' tb P).lookup tb=none:=(uB tb tb _).trans (if_pos rfl)
theorem KD_in{K':Params->Frag}{tb:ae}{P:Params}{h:aH}(x:(K' P).In h):(KD K' tb P).In h:=λb o e=>by
 have e':=(uB tb b (K' P)).symm.trans e;by_cases hb:b=tb
 ·rw[if_pos hb]at e';cases e'
 ·rw[if_neg hb]at e';exact x b o e'
theorem len1{P:List af->Prop}(h:∀a,P [a])(us:List af)(l:us.length=1):P us:=by
 cases us with
 |nil=>cases l
 |cons a us=>cases us with
   |nil=>exact h a
   |cons b us=>cases l
theorem oW{n:Nat}{P:List af->Prop}(h:∀a us,us.length=n->P (a::us))(us:List af)(l:us.length=n+1):P us:=by
 cases us with
 |nil=>cases l
 |cons a us=>exact h a us (Nat.succ.inj l)
theorem len2{P:List af->Prop}(h:∀a b,P [a,b]):∀us:List af,us.length=2->P us:=oW λa=>len1 (h a)
theorem len3{P:List af->Prop}(h:∀a b c,P [a,b,c]):∀us:List af,us.length=3->P us:=oW λa=>len2 (h a)
theorem len4{P:List af->Prop}(h:∀a b c d,P [a,b,c,d]):∀us:List af,us.length=4->P us:=oW λa=>len3 (h a)
theorem len5{P:List af->Prop}(h:∀a b c d e,P [a,b,c,d,e]):∀us:List af,us.length=5->P us:=oW λa=>len4 (h a)
theorem Bj{fd:bc}{v:af}{p:Pos}(h1:fd.params={ posonlyargs:=[],args:=[{ arg:="name",annotation:=none,pos:=p:PySem.Arg }],vararg:=none,kwonlyargs:=[],kw_defaults:=[],kwarg:=none,defaults:=[] })(h2:fd.defaults=.none)(h3:fd.kwdefaults=.none) :
  bindArgs fd ⟨[v],[]⟩=pure [(aA "name",v)]:=by
 obtain⟨a,b,c,d,e,f,g,i,j,k,l,n,o,q,r⟩:=fd;simp only at h1 h2 h3;subst h1;subst h2;subst h3;rfl
theorem IZ{scope:Scope}{nm fv:Str}(h:scope.names=[(nm,.local),(fv,.free)]):∀x,scope.names.lookup x=some .free->x=fv:=λx e=>by
 rw[h]at e;simp only[bI]at e;split at e
 ·cases e
 ·split at e
  ·rename_i q;exact eq_of_beq q
  ·simp at e
end L2.Rv
namespace L2.Rv
open PySem (Str)
@[irreducible] def wp{α:Type}(m:M α)(h:MH)(Q:α->MH->Prop)(E:Nat->MH->Prop):Prop:=match m h with
 |.ok a h'=>Q a h'
 |.exc c h'=>E c h'
 |.stuck=>False
abbrev noE:Nat->MH->Prop:=λ_ _=>False
section
variable {α β:Type}{h h':MH}{E:Nat->MH->Prop}
theorem aK(m:M α)(f:α->M β)(Q:β->MH->Prop):wp (bnd m f) h Q E=wp m h (λa h'=>wp (f a) h' Q E) E:=by
 unfold wp bnd;cases m h <;> rfl
theorem bH(a:α)(Q:α->MH->Prop):wp (ret a) h Q E=Q a h:=by unfold wp;rfl
theorem df(Q:α->MH->Prop):wp stk h Q E=False:=by unfold wp;rfl
theorem B6(c:Nat)(Q:α->MH->Prop):wp (rse c) h Q E=E c h:=by unfold wp;rfl
theorem iT(o:MO)(Q:MV->MH->Prop):wp (new o) h Q E=Q (.ref h.length) (h++[o]):=by unfold wp;rfl
theorem di{c:Prop}[Decidable c](a b:M α)(Q:α->MH->Prop):wp (if c then a else b) h Q E=if c then wp a h Q E else wp b h Q E:=by
 by_cases q:c
 ·rw[if_pos q,if_pos q]
 ·rw[if_neg q,if_neg q]
theorem qE{m m':M α}{Q:α->MH->Prop}(e:m h=m' h):wp m h Q E=wp m' h Q E:=by unfold wp;rw[e]
theorem dI{m:M α}{Q Q':α->MH->Prop}{E':Nat->MH->Prop}(w:wp m h Q E)(f:∀a h',Q a h'->Q' a h')(g:∀c h',E c h'->E' c h'):wp m h Q' E':=by
 unfold wp at w ⊢;cases e:m h with
 |ok a h'=>rw[e]at w;exact f a h' w
 |exc c h'=>rw[e]at w;exact g c h' w
 |stuck=>rw[e]at w;exact w
theorem ko{m:M α}{Q:α->MH->Prop}(w:wp m h Q noE):∃a h',m h=.ok a h'/\Q a h':=by
 unfold wp at w;cases e:m h with
 |ok a h'=>rw[e]at w;exact⟨a,h',rfl,w⟩
 |exc c h'=>rw[e]at w;exact w.elim
 |stuck=>rw[e]at w;exact w.elim
theorem dG{m:M α}{a:α}{Q:α->MH->Prop}(e:m h=.ok a h')(q:Q a h'):wp m h Q E:=by
 unfold wp;rw[e];exact q
end
def Pre(h h':MH):Prop:=∃t,h'=h++t
section
variable {h h1 h2:MH}{n:Nat}{o:MO}
theorem Pre.refl:Pre h h:=⟨[],by simp⟩
theorem Pre.trans(a:Pre h h1)(b:Pre h1 h2):Pre h h2:=by
 obtain⟨t,rfl⟩:=a;obtain⟨u,rfl⟩:=b;exact⟨t++u,by simp⟩
theorem Pre.app(o:MO):Pre h (h++[o]):=⟨[o],rfl⟩
theorem Pre.snoc(a:Pre h h1)(o:MO):Pre h (h1++[o]):=a.trans (Pre.app o)
theorem d6(e:h[n]?=some o):n<h.length:=(bM.mp e).1
theorem Pre.get(a:Pre h h1)(e:h[n]?=some o):h1[n]?=some o:=by
 obtain⟨t,rfl⟩:=a;rw[eJ (d6 e)];exact e
theorem Pre.len(a:Pre h h1):h.length≤h1.length:=by
 obtain⟨t,rfl⟩:=a;simp
theorem Pre.set(a:Pre h h1)(hn:h.length≤n):Pre h (h1.set n o):=by
 obtain⟨t,rfl⟩:=a;exact⟨t.set (n-h.length) o,by rw[List.set_append_right _ _ hn]⟩
theorem dS{g:MH}(e:h[n]?=some o):(h++g)[n]?=some o:=by
 rw[eJ (d6 e)];exact e
theorem bR:(h++[o])[h.length]?=some o:=by simp
theorem kN(e:n<h.length):(h.set n o)[n]?=some o:=by simp[e]
theorem dY{k:Nat}{o':MO}(e:h[k]?=some o')(ne:n≠k):(h.set n o)[k]?=some o':=by rw[ip ne];exact e
end
theorem bY{p n:Nat}{b:MS}{vs:List MV}{h:MH}{Q:MV->MH->Prop}{E:Nat->MH->Prop}(hl:vs.length=p)(w:wp (b (vs.map some++br (n - vs.length) none)) h (λf h'=>match f with
   |.next _=>Q .non h'
   |.ret v=>Q v h'
   | _=>False) E):wp (fnOf p n b vs) h Q E:=by
 unfold fnOf;rw[if_pos hl,aK];refine dI w (λf h' q=>?_) λ_ _ z=>z;cases f <;> dsimp only at q ⊢ <;> first|exact q.elim|(rw[bH];exact q)
theorem iq{s:Src}{is:List Nat}{body:MS}{h:MH}{σ:MSt}{Q:MF->MH->Prop}{E:Nat->MH->Prop}{all:List (List MV)}(I:Nat->MSt->MH->Prop)(hok:∀k σ h,I k σ h->s.okIn h=true)
  (turn:∀k x σ h,all[k]? = some x->I k σ h->wp (body (dg is x σ)) h (λf h'=>match f with
   |.next σ'=>I (k+1) σ' h'
   |.cnt σ'=>I (k+1) σ' h'
   |.brk σ'=>Q (.next σ') h'
   | .ret v=>Q (.ret v) h') E) (last:∀σ h,I all.length σ h->Q (.next σ) h) (h0:I 0 σ h):wp (eO s is body all σ) h Q E:=by
 have go:∀(d k:Nat) (σ:MSt) (h:MH),all.length-k=d->k≤all.length->I k σ h->wp (eO s is body (all.drop k) σ) h Q E:=by
  intro d
  induction d with
  |zero=>
    intro k σ h hd hk i;have:k=all.length:=by lia
    subst this;rw[pR];have ok:=hok _ _ _ i;have e:eO s is body [] σ h=.ok (.next σ) h:=by simp[eO,ok]
    exact dG e (last σ h i)
  |succ d ih=>
    intro k σ h hd hk i;have hlt:k<all.length:=by lia
    have ok:=hok _ _ _ i;rw [o6 hlt];have e:eO s is body (all[k]::all.drop (k + 1)) σ h=bnd (body (dg is all[k] σ)) (λf=>match f with
     |.next σ'=>eO s is body (all.drop (k+1)) σ'
     |.cnt σ'=>eO s is body (all.drop (k+1)) σ'
     |.brk σ'=>ret (.next σ')
     | .ret v=>ret (.ret v)) h:=by
     conv=>lhs;unfold eO
     rw[if_pos ok]
     try rfl
    rw[qE e,aK];refine dI (turn k all[k] σ h (by simp[hlt]) i) (λf h' q=>?_) λ_ _ z=>z;cases f with
    |next σ'=>exact ih (k+1) σ' h' (by lia) hlt q
    |cnt σ'=>exact ih (k+1) σ' h' (by lia) hlt q
    |brk σ'=>dsimp only at q ⊢;rw[bH];exact q
    |ret v=>dsimp only at q ⊢;rw[bH];exact q
 simpa using go all.length 0 σ h (by lia) (fg _) h0
theorem IR{t:ME}{body:MS}{σ:MSt}{h:MH}{Q:MF->MH->Prop}{E:Nat->MH->Prop}(I:Nat->MSt->MH->Prop)
  (turn:∀k σ h,I k σ h->wp (tst t σ) h (λb h'=>if b=true then wp (body σ) h' (λf h''=>match f with
   |.next σ'=>∃j,j<k/\I j σ' h''
   |.cnt σ'=>∃j,j<k/\I j σ' h''
   |.brk σ'=>Q (.next σ') h''
   | .ret v=>Q (.ret v) h'') E else Q (.next σ) h') E) {k:Nat} (hk:k < 1000) (h0:I k σ h):wp (u6 t body σ) h Q E:=by
 have go:∀(n k:Nat) (σ:MSt) (h:MH),k<n->I k σ h->wp (kj t body n σ) h Q E:=by
  intro n
  induction n with
  |zero=>intro k σ h hk;lia
  |succ n ih=>
    intro k σ h hk i;rw[show kj t body (n+1) σ=bnd (tst t σ) _ from rfl,aK];refine dI (turn k σ h i) (λb h' q=>?_) λ_ _ z=>z;cases b with
    |false=>
      rw[if_neg bW]at q ⊢;rw[bH];exact q
    |true=>
      rw[if_pos rfl]at q ⊢;rw[aK];refine dI q (λf h'' q=>?_) λ_ _ z=>z;cases f with
      |next σ'=>obtain⟨j,hj,i⟩:=q;exact ih j σ' h'' (by lia) i
      |cnt σ'=>obtain⟨j,hj,i⟩:=q;exact ih j σ' h'' (by lia) i
      |brk σ'=>dsimp only at q ⊢;rw[bH];exact q
      |ret v=>dsimp only at q ⊢;rw[bH];exact q
 exact go 1000 k σ h hk h0
noncomputable def hV(cond:Option ME)(σ:MSt):M Bool:=match cond with
 |none=>ret true
 |some t=>tst t σ
theorem wW{s:Src}{cond:Option ME}{elt:ME}{σ:MSt}{h:MH}{c:List MV->Bool}{F:List MV->MV->MH->Prop}(hF:∀x v h1 h2,F x v h1->Pre h1 h2->F x v h2)(hok:∀h',Pre h h'->s.okIn h'=true):∀(items:List (List MV)) (h1:MH),Pre h h1 ->
  (∀x∈items,∀h1,Pre h h1->wp (hV cond (σ++x.map some)) h1 (λb h2=>b=c x/\Pre h1 h2) noE) ->
  (∀x∈items,c x=true->∀h1,Pre h h1->wp (elt (σ++x.map some)) h1 (λv h2=>F x v h2/\Pre h1 h2) noE) ->
  wp (bQ s cond elt σ items) h1 (λvs h2=>vs.length=(items.filter c).length/\(∀(i:Nat) (x:List MV) (v:MV),(items.filter c)[i]?=some x->vs[i]?=some v->F x v h2)/\Pre h1 h2) noE
 |[],h1,p,_,_=>by
   have e:bQ s cond elt σ [] h1=.ok [] h1:=by simp[bQ,hok h1 p]
   exact dG e ⟨rfl,λi x v a b=>by simp at a,.refl⟩
 |x::r,h1,p,a1,a2=>by
   have ih:=λh2 p2=>wW hF hok r h2 p2 (λy hy=>a1 y (d5 _ hy)) (λy hy=>a2 y (d5 _ hy));have e:bQ s cond elt σ (x::r) h1=bnd (hV cond (σ++x.map some)) (λk=>if k=true then bnd (elt (σ++x.map some)) λv=>bnd (bQ s cond elt σ r) λws=>ret (v::ws) else bQ s cond elt σ r) h1:=by
    conv=>lhs;unfold bQ
    rw[if_pos (hok h1 p)];cases cond <;> rfl
   rw[qE e,aK];refine dI (a1 x fu h1 p) (λb h2 e0=>e0.elim λeb p2=>?_) λ_ _ z=>z;subst eb;cases hc:c x with
   |true=>
     rw[if_pos rfl,aK];refine dI (a2 x fu hc h2 (p.trans p2)) (λv h3 e0=>e0.elim λfv p3=>?_) λ_ _ z=>z;rw[aK];refine dI (ih h3 ((p.trans p2).trans p3)) (λws h4 e0=>e0.elim λq1 e1=>e1.elim λq2 p4=>?_) λ_ _ z=>z;rw[bH];refine⟨by simp[hc,q1],λi y u ey eu=>?_,(p2.trans p3).trans p4⟩;rw[mw hc]at ey;cases i with
     |zero=>simp at ey eu;subst ey;subst eu;exact hF _ _ _ _ fv p4
     |succ i=>exact q2 i y u (by simpa using ey) (by simpa using eu)
   |false=>
     rw[if_neg bW];refine dI (ih h2 (p.trans p2)) (λws h4 e0=>e0.elim λq1 e1=>e1.elim λq2 p4=>?_) λ_ _ z=>z;rw[mY (by simp[hc])];exact⟨q1,q2,p2.trans p4⟩
theorem As{α:Type}{m:M α}{h:MH}{Q:α->MH->Prop}{E:Nat->MH->Prop}(w:wp m h Q noE):wp (noExc m) h Q E:=by
 obtain⟨a,h',e,q⟩:=ko w;have e2:noExc m h=.ok a h':=by simp only[noExc,e]
 exact dG e2 q
theorem Bu{src:MI}{cond:Option ME}{elt:ME}{σ:MSt}{h:MH}{Q:MV->MH->Prop}{E:Nat->MH->Prop}{s:Src}{h1:MH}(c:List MV->Bool)(f:List MV->MV)(hs:src σ h=.ok s h1)(hok:∀h',Pre h1 h'->s.okIn h'=true)(hlen:s.items.length≤100000)
  (a1:∀x∈s.items,∀h2,Pre h1 h2->wp (hV cond (σ++x.map some)) h2 (λb h3=>b=c x/\Pre h2 h3) noE)
  (a2:∀x∈s.items,c x=true->∀h2,Pre h1 h2->wp (elt (σ++x.map some)) h2 (λv h3=>v=f x/\Pre h2 h3) noE)
  (q:∀h2,Pre h1 h2->Q (.ref h2.length) (h2++[.lst ((s.items.filter c).map f)])):wp (eG src cond elt σ) h Q E:=by
 unfold eG;rw[aK];refine dG hs ?_;rw[if_pos hlen,aK];refine As (dI (wW (F:=λx v _=>v=f x) (λ_ _ _ _ z _=>z) hok s.items h1 .refl a1 a2) (λvs h2 e0=>e0.elim λq1 e1=>e1.elim λq2 p=>?_) λ_ _ z=>z);rw[iT];have e:vs=(s.items.filter c).map f:=by
  apply j6;intro i;rw[bZ];cases ex:(s.items.filter c)[i]? with
  |none=>
    rw[mE]at ex;rw[Option.map_none,mE];lia
  |some x=>
    have hi:i<vs.length:=by rw[q1];exact(bM.mp ex).1
    have ev:vs[i]?=some vs[i]:=by simp[hi]
    rw[ev,q2 i x _ ex ev];rfl
 rw[e];exact q h2 p
theorem yg{e:ME}{σ:MSt}{h h':MH}{j:Int}{n:Nat}(h1:e σ h=.ok (.int j) h')(b2:-1000000≤j/\j≤1000000)(hn:j.toNat=n):jC e σ h=.ok ⟨fL 0 n,[]⟩ h':=by
 have q:-(2 ^ 62)≤j/\j<2 ^ 62:=by lia
 simp only[jC,bnd,h1];rw[if_pos q,hn];rfl
theorem jn{e:ME}{σ:MSt}{h h':MH}{n:Nat}{xs:List MV}(h1:e σ h=.ok (.ref n) h')(h2:h'[n]?=some (.lst xs)):fB e σ h=.ok ⟨xs.map λv=>[v],[(n,xs)]⟩ h':=by
 simp only[fB,bnd,h1,look,h2];rfl
theorem Ic{e e':ME}{σ:MSt}{h h1 h2:MH}{n k:Nat}{xs ys:List MV}(a1:e σ h=.ok (.ref n) h1)(a2:e' σ h1=.ok (.ref k) h2)(b1:h2[n]?=some (.lst xs))(b2:h2[k]?=some (.lst ys)):qu e e' σ h=.ok ⟨d0 xs ys,[(n,xs),(k,ys)]⟩ h2:=by
 simp only[qu,bnd,a1,a2,look,b1,b2];rfl
theorem AK{e e':ME}{σ:MSt}{h h1 h2:MH}{i j:Int}{n:Nat}(a1:e σ h=.ok (.int i) h1)(a2:e' σ h1=.ok (.int j) h2)(b1:-1000000≤i/\i<1000000/\-1000000≤j/\j<1000000)(hn:(i-j).toNat=n):pB e e' σ h=.ok ⟨gY i n,[]⟩ h2:=by
 simp only[pB,bnd,a1,a2];rw[if_pos b1,hn];rfl
theorem II{lo:Int}{n k:Nat}(h:k<n):(gY lo n)[k]?=some [.int (lo-(k:Nat))]:=by
 unfold gY;rw[bZ,iB h];rfl
theorem xJ{lo:Int}{n:Nat}:(gY lo n).length=n:=by simp[gY]
theorem Gm{items:List (List MV)}{h:MH}{n k:Nat}{xs ys:List MV}(e:h[n]?=some (.lst xs))(e':h[k]?=some (.lst ys)):(Src.mk items [(n,xs),(k,ys)]).okIn h=true:=by simp[Src.okIn,hI,e,e']
theorem ia{items:List (List MV)}{h:MH}{n:Nat}{xs:List MV}(e:h[n]?=some (.lst xs)):(Src.mk items [(n,xs)]).okIn h=true:=by simp[Src.okIn,hI,e]
theorem sU{lo:Int}{n k:Nat}(h:k<n):(fL lo n)[k]?=some [.int (lo+(k:Nat))]:=by
 unfold fL;rw[bZ,iB h];rfl
theorem oB{lo:Int}{n:Nat}:(fL lo n).length=n:=by simp[fL]
theorem jL{α:Type}(xs:List α)(k:Nat):atN xs (k:Int)=xs[k]?:=by
 unfold atN;rw[if_pos (Int.natCast_nonneg k),t6]
noncomputable def cell(ns:List Int)(k:Int):Int:=ns.getD k.toNat 0
section
variable {α β:Type}{h:MH}{E:Nat->MH->Prop}{σ:MSt}
theorem iD{c:Prop}[Decidable c]{p:Prop}:(if c then p else False)=(c/\p):=by
 by_cases q:c <;> simp[q]
theorem du(n:Nat)(Q:MO->MH->Prop):wp (look n) h Q E=(match h[n]? with
  |some o=>Q o h
  | none=>False):=by
 unfold wp look;cases h[n]? <;> first|rfl|(unfold wp;rfl)
theorem lH(n:Nat)(o:MO)(Q:Unit->MH->Prop):wp (put n o) h Q E=(n<h.length/\Q () (h.set n o)):=by
 unfold wp put;by_cases e:n<h.length <;> simp[e]
@[simp] theorem aO(i:Nat)(Q:MV->MH->Prop):wp (ah i σ) h Q E=(match σ[i]? with
  |some (some v)=>Q v h
  | _=>False):=by
 unfold wp ah;cases e:σ[i]? with
 |none=>first|rfl|(unfold wp;rfl)
 |some u=>cases u <;> first|rfl|(unfold wp;rfl)
@[simp] theorem w_c(v:MV)(Q:MV->MH->Prop):wp (eC v σ) h Q E=Q v h:=by unfold wp;rfl
@[simp] theorem bE(f:Op2)(a b:ME)(Q:MV->MH->Prop):wp (aC f a b σ) h Q E=wp (a σ) h (λx h1=>wp (b σ) h1 (λy h2=>wp (f x y) h2 Q E) E) E:=by
 unfold aC;simp only[aK]
@[simp] theorem fF(f:Op1)(a:ME)(Q:MV->MH->Prop):wp (eUn f a σ) h Q E=wp (a σ) h (λx h1=>wp (f x) h1 Q E) E:=by
 unfold eUn;simp only[aK]
theorem GC(g:ME)(Q:Bool->MH->Prop):wp (tst g σ) h Q E=wp (g σ) h (λv h1=>match v with
  |.bl b=>Q b h1
  | _=>False) E:=by
 unfold tst;rw[aK];congr 1;funext v h1;cases v <;> first|rfl|(unfold wp;rfl)
@[simp] theorem dA(g:ME)(Q:Bool->MH->Prop):wp (tst g σ) h Q E=wp (g σ) h (λv h1=>match v with
  |.bl b=>Q b h1
  | _=>False) E:=GC g Q
@[simp] theorem w_not(a:ME)(Q:MV->MH->Prop):wp (lR a σ) h Q E=wp (tst a σ) h (λb h1=>Q (.bl (!b)) h1) E:=by
 unfold lR;simp only[aK,bH]
@[simp] theorem yx(a b:ME)(Q:MV->MH->Prop):wp (jM a b σ) h Q E=wp (tst a σ) h (λc h1=>if c=true then wp (b σ) h1 Q E else Q (.bl false) h1) E:=by
 unfold jM;simp only[aK,di,bH]
@[simp] theorem Du(a b:ME)(Q:MV->MH->Prop):wp (eOr a b σ) h Q E=wp (tst a σ) h (λc h1=>if c=true then Q (.bl true) h1 else wp (b σ) h1 Q E) E:=by
 unfold eOr;simp only[aK,di,bH]
@[simp] theorem DI(c a b:ME)(Q:MV->MH->Prop):wp (eIf c a b σ) h Q E=wp (tst c σ) h (λk h1=>if k=true then wp (a σ) h1 Q E else wp (b σ) h1 Q E) E:=by
 unfold eIf;simp only[aK,di]
@[simp] theorem aT(Q:List MV->MH->Prop):wp (az σ) h Q E=Q [] h:=by unfold wp;rfl
@[simp] theorem bh(e:ME)(r:MA)(Q:List MV->MH->Prop):wp (ao e r σ) h Q E=wp (e σ) h (λx h1=>wp (r σ) h1 (λxs h2=>Q (x::xs) h2) E) E:=by
 unfold ao;simp only[aK,bH]
@[simp] theorem gH(a:MA)(Q:MV->MH->Prop):wp (dX a σ) h Q E=wp (a σ) h (λxs h1=>xs.length≤1000/\Q (.ref h1.length) (h1++[.lst xs])) E:=by
 unfold dX;rw[aK];congr 1;funext xs h1;rw[di,iT,df];by_cases c:xs.length≤1000 <;> simp[c]
@[simp] theorem Ey(a:MA)(Q:MV->MH->Prop):wp (f6 a σ) h Q E=wp (a σ) h (λxs h1=>xs.length≤1000/\Q (.tup xs) h1) E:=by
 unfold f6;rw[aK];congr 1;funext xs h1;rw[di,bH,df];by_cases c:xs.length≤1000 <;> simp[c]
@[simp] theorem cV(f:Fn)(a:MA)(Q:MV->MH->Prop):wp (cF f a σ) h Q E=wp (a σ) h (λxs h1=>wp (f xs) h1 Q E) E:=by
 unfold cF;simp only[aK]
@[simp] theorem nF(c:Nat)(f:Fn)(a:MA)(Q:MV->MH->Prop):wp (gs c f a σ) h Q E=wp (a σ) h (λxs h1=>wp (f (.ref h1.length::xs)) (h1++[.ins c []]) (λv h2=>v=.non/\Q (.ref h1.length) h2) E) E:=by
 unfold gs;simp only[aK,iT];congr 1;funext xs h1;congr 1;funext v h2;cases v <;> simp[bH,df]
@[simp] theorem qL(c:Nat)(mth:String)(f:Fn)(o:ME)(a:MA)(Q:MV->MH->Prop):wp (aZ c mth f o a σ) h Q E=wp (o σ) h (λx h1=>match x with
  | .ref n=>(match h1[n]? with
    |some (.ins c' fs)=>c'=c/\fs.lookup mth=none/\wp (a σ) h1 (λxs h2=>wp (f (x::xs)) h2 Q E) E
    | _=>False)
  | _=>False) E:=by
 unfold aZ;rw[aK];congr 1;funext x h1;cases x with
 |ref n=>
   dsimp only;rw[aK,du];cases h1[n]? with
   |none=>first|rfl|(unfold wp;rfl)
   |some ob=>cases ob with
     |ins c' fs=>
       dsimp only;rw[di,aK,df];by_cases q:c'=c <;> by_cases q2:fs.lookup mth=none <;> simp[q,q2]
     |_=>first|rfl|(unfold wp;rfl)
 |_=>first|rfl|(unfold wp;rfl)
@[simp] theorem q0(o:ME)(cs:List Nat)(f:String)(Q:MV->MH->Prop):wp (aW o cs f σ) h Q E=wp (o σ) h (λx h1=>match x with
  | .ref n=>(match h1[n]? with
    | some (.ins c fs)=>cs.contains c=true/\(match fs.lookup f with
      |some v=>Q v h1
      | none=>False)
    | _=>False)
  | _=>False) E:=by
 unfold aW;rw[aK];congr 1;funext x h1;cases x with
 |ref n=>
   dsimp only;rw[aK,du];cases h1[n]? with
   |none=>first|rfl|(unfold wp;rfl)
   |some ob=>cases ob with
     |ins c' fs=>
       dsimp only;by_cases q:cs.contains c'=true
       ·rw[if_pos q];cases fs.lookup f <;> simp only[bH,df,q,true_and,and_false]
       ·rw[if_neg q];simp only[df,q,false_and,c9]
     |_=>first|rfl|(unfold wp;rfl)
 |_=>first|rfl|(unfold wp;rfl)
@[simp] theorem lw(i j:Int)(Q:MV->MH->Prop):wp (dM (.int i) (.int j)) h Q E=Q (.int (i+j)) h:=by unfold wp;rfl
@[simp] theorem BW(i j:Str)(Q:MV->MH->Prop):wp (dM (.str i) (.str j)) h Q E=(i.length+j.length≤100000/\Q (.str (i++j)) h):=by
 unfold dM;dsimp only;rw[di,bH,df];by_cases c:i.length+j.length≤100000 <;> simp[c]
@[simp] theorem xz(a b:Nat)(Q:MV->MH->Prop):wp (dM (.ref a) (.ref b)) h Q E=(match h[a]?,h[b]? with
  |some (.lst xs),some (.lst ys)=>xs.length+ys.length≤100000/\Q (.ref h.length) (h++[.lst (xs++ys)])
  | _,_=>False):=by
 unfold dM;dsimp only;rw[aK,du];cases h[a]? with
 |none=>first|rfl|(unfold wp;rfl)
 |some oa=>
   dsimp only;rw[aK,du];cases h[b]? with
   |none=>cases oa <;> first|rfl|(unfold wp;rfl)
   |some ob=>cases oa <;> cases ob <;> first|rfl|(unfold wp;rfl)|(dsimp only;rw[di,iT,df];rename_i xs ys;by_cases c:xs.length+ys.length≤100000 <;> simp[c])
@[simp] theorem uf(i j:Int)(Q:MV->MH->Prop):wp (gM (.int i) (.int j)) h Q E=Q (.int (i-j)) h:=by unfold wp;rfl
@[simp] theorem lU(i j:Int)(Q:MV->MH->Prop):wp (gA (.int i) (.int j)) h Q E=(0<j/\Q (.int (i%j)) h):=by
 unfold gA;dsimp only;rw[di,bH,df];by_cases c:0<j <;> simp[c]
@[simp] theorem CC(i:Int)(Q:MV->MH->Prop):wp (vc (.int i)) h Q E=Q (.int (-i)) h:=by unfold wp;rfl
@[simp] theorem w_lt(i j:Int)(Q:MV->MH->Prop):wp (oLt (.int i) (.int j)) h Q E=Q (.bl (decide (i<j))) h:=by unfold wp;rfl
@[simp] theorem sZ(i j:Int)(Q:MV->MH->Prop):wp (oGt (.int i) (.int j)) h Q E=Q (.bl (decide (j<i))) h:=by unfold wp;rfl
@[simp] theorem Jr(i j:Int)(Q:MV->MH->Prop):wp (oGe (.int i) (.int j)) h Q E=Q (.bl (decide (j≤i))) h:=by unfold wp;rfl
@[simp] theorem Jm(i:Int)(Q:MV->MH->Prop):wp (mM (.int i)) h Q E=Q (.bl false) h:=by unfold wp;rfl
@[simp] theorem JA(Q:MV->MH->Prop):wp (mM .non) h Q E=Q (.bl true) h:=by unfold wp;rfl
@[simp] theorem Jl(i:Int)(Q:MV->MH->Prop):wp (lK (.int i)) h Q E=Q (.bl true) h:=by unfold wp;rfl
@[simp] theorem Jn(Q:MV->MH->Prop):wp (lK .non) h Q E=Q (.bl false) h:=by unfold wp;rfl
@[simp] theorem su(i j:Int)(Q:MV->MH->Prop):wp (oEq (.int i) (.int j)) h Q E=Q (.bl (decide (i=j))) h:=by
 unfold oEq;rw[if_pos (show jW (.int i) (.int j)=true from rfl),bH];by_cases e:i=j <;> simp[e]
@[simp] theorem Ev(i j:Int)(Q:MV->MH->Prop):wp (oNe (.int i) (.int j)) h Q E=Q (.bl (!decide (i=j))) h:=by
 unfold oNe;rw[if_pos (show jW (.int i) (.int j)=true from rfl),bH];by_cases e:i=j <;> simp[e]
@[simp] theorem GK(i j:Str)(Q:MV->MH->Prop):wp (oEq (.str i) (.str j)) h Q E=Q (.bl (decide (i=j))) h:=by
 unfold oEq;rw[if_pos (show jW (.str i) (.str j)=true from rfl),bH];by_cases e:i=j <;> simp[e]
@[simp] theorem yJ(i j:Str)(Q:MV->MH->Prop):wp (oNe (.str i) (.str j)) h Q E=Q (.bl (!decide (i=j))) h:=by
 unfold oNe;rw[if_pos (show jW (.str i) (.str j)=true from rfl),bH];by_cases e:i=j <;> simp[e]
@[simp] theorem lY(a:Nat)(i:Int)(Q:MV->MH->Prop):wp (oIx (.ref a) (.int i)) h Q E=(match h[a]? with
  | some (.lst xs)=>(match atN xs i with
    |some v=>Q v h
    | none=>False)
  | _=>False):=by
 unfold oIx;dsimp only;rw[aK,du];cases h[a]? with
 |none=>first|rfl|(unfold wp;rfl)
 |some o=>cases o with
   |lst xs=>dsimp only;cases atN xs i <;> first|rfl|(unfold wp;rfl)
   |_=>first|rfl|(unfold wp;rfl)
@[simp] theorem ki(xs:List MV)(i:Int)(Q:MV->MH->Prop):wp (oIx (.tup xs) (.int i)) h Q E=(match atN xs i with
   |some v=>Q v h
   | none=>False):=by
 unfold oIx;dsimp only;cases atN xs i <;> first|rfl|(unfold wp;rfl)
@[simp] theorem lV(a:Nat)(Q:MV->MH->Prop):wp (cR (.ref a)) h Q E=(match h[a]? with
  |some (.lst xs)=>Q (.int xs.length) h
  |some (.dct xs)=>Q (.int xs.length) h
  | _=>False):=by
 unfold cR;dsimp only;rw[aK,du];cases h[a]? with
 |none=>first|rfl|(unfold wp;rfl)
 |some o=>cases o <;> first|rfl|(unfold wp;rfl)
@[simp] theorem HF(s:Str)(Q:MV->MH->Prop):wp (cR (.str s)) h Q E=(s.length≤100000/\Q (.int s.length) h):=by
 unfold cR;dsimp only;rw[di,bH,df];by_cases c:s.length≤100000 <;> simp[c]
@[simp] theorem Jj(a:Nat)(Q:MV->MH->Prop):wp (qh (.ref a)) h Q E=(match h[a]? with
  |some (.lst xs)=>Q (.ref h.length) (h++[.lst xs])
  | _=>False):=by
 unfold qh;dsimp only;rw[aK,du];cases h[a]? with
 |none=>first|rfl|(unfold wp;rfl)
 |some o=>cases o <;> first|rfl|(unfold wp;rfl)
@[simp] theorem oF(neg:Bool)(x:MV)(a:Nat)(Q:MV->MH->Prop):wp (oIn neg x (.ref a)) h Q E=(match h[a]? with
  |some (.lst xs)=>(flat x=true/\xs.all flat=true)/\Q (.bl (if neg then !inM x xs else inM x xs)) h
  | some (.dct kvs)=>(match x with
    |.str k=>Q (.bl (if neg then !(dget k kvs).isSome else(dget k kvs).isSome)) h
    | _=>False)
  | _=>False):=by
 unfold oIn;dsimp only;rw[aK,du];cases h[a]? with
 |none=>first|rfl|(unfold wp;rfl)
 |some o=>cases o with
   |lst xs=>
     dsimp only;rw[di,bH,df];by_cases c:flat x=true/\xs.all flat=true <;> simp[c]
   |dct kvs=>dsimp only;cases x <;> first|rfl|(unfold wp;rfl)
   |_=>first|rfl|(unfold wp;rfl)
@[simp] theorem yt(a:Nat)(k:Int)(Q:MV->MH->Prop):wp (kB (.ref a) (.int k)) h Q E=(match h[a]? with
  |some (.lst xs)=>(-1000000≤k/\k≤1000000/\xs.length*k.toNat≤100000)/\Q (.ref h.length) (h++[.lst (br k.toNat xs).flatten])
  | _=>False):=by
 unfold kB;dsimp only;rw[aK,du];cases h[a]? with
 |none=>first|rfl|(unfold wp;rfl)
 |some o=>cases o with
   |lst xs=>dsimp only;rw[di,iT,df,iD]
   |_=>first|rfl|(unfold wp;rfl)
@[simp] theorem FN(i j:Int)(Q:MV->MH->Prop):wp (sE (.int i) (.int j)) h Q E=Q (.int (if j<i then j else i)) h:=by unfold wp;rfl
@[simp] theorem Gx(i j:Int)(Q:MV->MH->Prop):wp (ui (.int i) (.int j)) h Q E=Q (.int (if i<j then j else i)) h:=by unfold wp;rfl
@[simp] theorem JB(i j:Int)(Q:MV->MH->Prop):wp (si (.int i) (.int j)) h Q E=Q (.int (i+j)) h:=by unfold wp;rfl
@[simp] theorem AA(a:Nat)(y:MV)(Q:MV->MH->Prop):wp (sf (.ref a) y) h Q E=wp (oIx (.ref a) y) h Q E:=rfl
@[simp] theorem j8(Q:MF->MH->Prop):wp (bz σ) h Q E=Q (.next σ) h:=by unfold wp;rfl
theorem cS(a b:MS)(Q:MF->MH->Prop):wp (aD a b σ) h Q E=wp (a σ) h (λf h1=>match f with
  |.next σ'=>wp (b σ') h1 Q E
  | f=>Q f h1) E:=by
 unfold aD;rw[aK];congr 1;funext f h1;cases f <;> first|rfl|(unfold wp;rfl)
@[simp] theorem Ju(a b:MS)(Q:MF->MH->Prop):wp (aD a b σ) h Q E=wp (a σ) h (λf h1=>match f with
  |.next σ'=>wp (b σ') h1 Q E
  | f=>Q f h1) E:=cS a b Q
theorem bq{a b:MS}{Q:MF->MH->Prop}{R:MSt->MH->Prop}(w:wp (a σ) h (λf h1=>∃σ1,f=.next σ1/\R σ1 h1) E)(k:∀σ1 h1,R σ1 h1->wp (b σ1) h1 Q E):wp (aD a b σ) h Q E:=by
 rw[cS];refine dI w (λf h1 e0=>e0.elim λσ1 e1=>e1.elim λe r=>?_) λ_ _ z=>z;subst e;exact k σ1 h1 r
@[simp] theorem dO(e:ME)(Q:MF->MH->Prop):wp (bN e σ) h Q E=wp (e σ) h (λ_ h1=>Q (.next σ) h1) E:=by
 unfold bN;simp only[aK,bH]
@[simp] theorem cu(i:Nat)(e:ME)(Q:MF->MH->Prop):wp (bB i e σ) h Q E=wp (e σ) h (λv h1=>Q (.next (σ.set i (some v))) h1) E:=by
 unfold bB;simp only[aK,bH]
@[simp] theorem fV(e:ME)(Q:MF->MH->Prop):wp (bT e σ) h Q E=wp (e σ) h (λv h1=>Q (.ret v) h1) E:=by
 unfold bT;simp only[aK,bH]
@[simp] theorem eV(c:ME)(a b:MS)(Q:MF->MH->Prop):wp (sIf c a b σ) h Q E=wp (tst c σ) h (λk h1=>if k=true then wp (a σ) h1 Q E else wp (b σ) h1 Q E) E:=by
 unfold sIf;simp only[aK,di]
@[simp] theorem mC(c:Nat)(a:MA)(Q:MF->MH->Prop):wp (cU c a σ) h Q E=wp (a σ) h (λxs h1=>xs.length≤1000/\E c h1) E:=by
 unfold cU;rw[aK];congr 1;funext xs h1;rw[di,B6,df];by_cases q:xs.length≤1000 <;> simp[q]
@[simp] theorem Jz(o:ME)(cs:List Nat)(f:String)(e:ME)(Q:MF->MH->Prop):wp (dN o cs f e σ) h Q E=wp (e σ) h (λv h1=>wp (o σ) h1 (λx h2=>match x with
  | .ref n=>(match h2[n]? with
    |some (.ins c fs)=>(cs.contains c=true/\fs.length<1000)/\n<h2.length/\Q (.next σ) (h2.set n (.ins c (putF f v fs)))
    | _=>False)
  | _=>False) E) E:=by
 unfold dN;rw[aK];congr 1;funext v h1;rw[aK];congr 1;funext x h2;cases x with
 |ref n=>
   dsimp only;rw[aK,du];cases h2[n]? with
   |none=>first|rfl|(unfold wp;rfl)
   |some ob=>cases ob with
     |ins c fs=>
       dsimp only;rw[di,aK,lH,df];simp only[bH,iD]
     |_=>first|rfl|(unfold wp;rfl)
 |_=>first|rfl|(unfold wp;rfl)
@[simp] theorem yL(o i e:ME)(Q:MF->MH->Prop):wp (iA o i e σ) h Q E=wp (e σ) h (λv h1=>wp (o σ) h1 (λx h2=>wp (i σ) h2 (λy h3=>wp (ic x y v) h3 (λ_ h4=>Q (.next σ) h4) E) E) E) E:=by
 unfold iA;simp only[aK,bH]
@[simp] theorem wM(n:Nat)(k:Int)(v:MV)(Q:Unit->MH->Prop):wp (ic (.ref n) (.int k) v) h Q E=(match h[n]? with
  | some (.lst xs)=>(match ixN xs.length k with
    |some j=>n<h.length/\Q () (h.set n (.lst (xs.set j v)))
    | none=>False)
  | _=>False):=by
 unfold ic;dsimp only;rw[aK,du];cases h[n]? with
 |none=>first|rfl|(unfold wp;rfl)
 |some ob=>cases ob with
   |lst xs=>
     dsimp only;cases ixN xs.length k with
     |none=>first|rfl|(unfold wp;rfl)
     |some j=>dsimp only;rw[lH]
   |_=>first|rfl|(unfold wp;rfl)
@[simp] theorem AH(n:Nat)(k:Str)(v:MV)(Q:Unit->MH->Prop):wp (ic (.ref n) (.str k) v) h Q E=(match h[n]? with
  |some (.dct kvs)=>kvs.length<1000/\n<h.length/\Q () (h.set n (.dct (dput k v kvs)))
  | _=>False):=by
 unfold ic;dsimp only;rw[aK,du];cases h[n]? with
 |none=>first|rfl|(unfold wp;rfl)
 |some ob=>cases ob with
   |dct xs=>dsimp only;rw[di,lH,df,iD]
   |_=>first|rfl|(unfold wp;rfl)
@[simp] theorem yU(f:Op2)(o i e:ME)(Q:MF->MH->Prop):wp (mG f o i e σ) h Q E=wp (o σ) h (λx h1=>wp (i σ) h1 (λy h2=>wp (sf x y) h2 (λu h3=>wp (e σ) h3 (λv h4=>wp (f u v) h4 (λz h5=>wp (ic x y z) h5 (λ_ h6=>Q (.next σ) h6) E) E) E) E) E) E:=by
 unfold mG;simp only[aK,bH]
@[simp] theorem Jt(f2:Op2)(o:ME)(cs:List Nat)(f:String)(e:ME)(Q:MF->MH->Prop):wp (nG f2 o cs f e σ) h Q E=wp (o σ) h (λx h1=>match x with
  | .ref n=>(match h1[n]? with
    | some (.ins c fs)=>cs.contains c=true/\(match fs.lookup f with
      | some u=>wp (e σ) h1 (λv h2=>wp (f2 u v) h2 (λz h3=>match h3[n]? with
        |some (.ins c' fs')=>(c'=c/\fs'.length<1000)/\n<h3.length/\Q (.next σ) (h3.set n (.ins c' (putF f z fs')))
        | _=>False) E) E
      | none=>False)
    | _=>False)
  | _=>False) E:=by
 unfold nG;rw[aK];congr 1;funext x h1;cases x with
 |ref n=>
   dsimp only;rw[aK,du];cases h1[n]? with
   |none=>first|rfl|(unfold wp;rfl)
   |some ob=>cases ob with
     |ins c fs=>
       dsimp only;by_cases q:cs.contains c=true
       ·rw[if_pos q];simp only[q,true_and];cases fs.lookup f with
        |none=>first|rfl|(unfold wp;rfl)
        |some u=>
          dsimp only;rw[aK];congr 1;funext v h2;rw[aK];congr 1;funext z h3;rw[aK,du];cases h3[n]? with
          |none=>first|rfl|(unfold wp;rfl)
          |some ob=>cases ob with
            |ins c' fs'=>
              dsimp only;rw[di,aK,lH,df];simp only[bH,iD]
            |_=>first|rfl|(unfold wp;rfl)
       ·rw[if_neg q];simp only[df,q,false_and,c9]
     |_=>first|rfl|(unfold wp;rfl)
 |_=>first|rfl|(unfold wp;rfl)
@[simp] theorem Js(Q:MV->MH->Prop):wp (jU σ) h Q E=Q (.ref h.length) (h++[.dct []]):=by unfold wp;rfl
@[simp] theorem AZ(o e:ME)(Q:MV->MH->Prop):wp (mx o e σ) h Q E=wp (o σ) h (λx h1=>match x with
  | .ref n=>(match h1[n]? with
    | some (.lst _)=>wp (e σ) h1 (λv h2=>match h2[n]? with
      |some (.lst xs)=>xs.length<100000/\n<h2.length/\Q .non (h2.set n (.lst (xs++[v])))
      | _=>False) E
    | _=>False)
  | _=>False) E:=by
 unfold mx;rw[aK];congr 1;funext x h1;cases x with
 |ref n=>
   dsimp only;rw[aK,du];cases h1[n]? with
   |none=>first|rfl|(unfold wp;rfl)
   |some ob=>cases ob with
     |lst ys=>
       dsimp only;rw[aK];congr 1;funext v h2;unfold xl;dsimp only;rw[aK,du];cases h2[n]? with
       |none=>first|rfl|(unfold wp;rfl)
       |some ob=>cases ob with
         |lst xs=>
           dsimp only;rw[di,aK,lH,df];by_cases q:xs.length<100000 <;> simp[q,bH]
         |_=>first|rfl|(unfold wp;rfl)
     |_=>first|rfl|(unfold wp;rfl)
 |_=>first|rfl|(unfold wp;rfl)
theorem yn{α:Type}{m:M α}{Q:α->MH->Prop}:wp (noExc m) h Q E=wp m h Q noE:=by
 unfold wp noExc;cases m h <;> first|rfl|(unfold wp;rfl)
@[simp] theorem Jb(al:List Nat)(body:MS)(hs:List Hd)(Q:MF->MH->Prop):wp (mJ al body hs σ) h Q E=wp (body σ) h Q (λc h1=>al.contains c=true/\wp (iM c σ hs) h1 Q E):=by
 unfold wp mJ;cases body σ h with
 |ok f h'=>rfl
 |exc c h'=>
   dsimp only;by_cases q:al.contains c=true
   ·rw[if_pos q];simp only[q,true_and]
   ·rw[if_neg q];simp only[q,false_and,c9]
 |stuck=>rfl
@[simp] theorem F3(c i:Nat)(cs:List Nat)(b:MS)(r:List Hd)(Q:MF->MH->Prop):wp (iM c σ (⟨cs,some i,b⟩::r)) h Q E=if cs.contains c=true then wp (b (σ.set i (some (.ref h.length)))) (h++[.exn c]) (λf h1=>Q (y6 i f) h1) noE else wp (iM c σ r) h Q E:=by
 conv=>lhs;unfold iM
 by_cases q:cs.contains c=true
 ·rw[if_pos q,if_pos q];dsimp only;rw[aK,iT,aK,yn];simp only[bH]
 ·rw[if_neg q,if_neg q]
@[simp] theorem pZ(al cs:List Nat)(n:Nat)(Q:MV->MH->Prop):wp (eE (.exn al cs) (.ref n)) h Q E=(match h[n]? with
  |some (.exn c)=>al.contains c=true/\Q (.bl (cs.contains c)) h
  | _=>False):=by
 unfold eE;rw[aK,du];cases h[n]? with
 |none=>first|rfl|(unfold wp;rfl)
 |some o=>cases o with
   |exn c=>
     dsimp only;rw[di,bH,df,iD]
   |_=>first|rfl|(unfold wp;rfl)
@[simp] theorem jp(is:List Nat)(src:MI)(body:MS)(Q:MF->MH->Prop):wp (gF is src body σ) h Q E=wp (src σ) h (λs h1=>wp (eO s is body s.items σ) h1 Q E) E:=by
 unfold gF;simp only[aK]
@[simp] theorem Jx(e e':ME)(Q:Src->MH->Prop):wp (lN e e' σ) h Q E=wp (e σ) h (λx h1=>wp (e' σ) h1 (λy h2=>match x,y with
  |.int i,.int j=>(-(2 ^ 62)≤i/\i<2 ^ 62/\-(2 ^ 62)≤j/\j<2 ^ 62)/\Q ⟨fL i (j-i).toNat,[]⟩ h2
  | _,_=>False) E) E:=by
 unfold lN;rw[aK];congr 1;funext x h1;rw[aK];congr 1;funext y h2;cases x <;> cases y <;> first|rfl|(unfold wp;rfl)|(dsimp only;rw[di,bH,df,iD])
end
open PySem in
mutual
theorem zA:∀(d:PyData),d.canLay0=true->PyData.eqv d d=true
 |.none,_=>by simp[PyData.eqv]
 |.bool b,_=>by simp[PyData.eqv]
 |.int b,_=>by simp[PyData.eqv]
 |.str b,_=>by simp[PyData.eqv]
 |.list xs,h=>by
   simp only[PyData.eqv];exact eqvAll_refl xs (by simpa[PyData.canLay0] using h)
 |.tuple xs,h=>by
   simp only[PyData.eqv];exact eqvAll_refl xs (by simpa[PyData.canLay0] using h)
 |.dict _,h=>by simp[PyData.canLay0]at h
theorem eqvAll_refl:∀(ds:List PyData),PyData.canLayAll0 ds=true->PyData.eqvAll ds ds=true
 |[],_=>by simp[PyData.eqvAll]
 |d::ds,h=>by
   simp only[PyData.canLayAll0,d7]at h;simp only[PyData.eqvAll,d7];exact⟨zA d h.1,eqvAll_refl ds h.2⟩
end
section
variable {h:MH}{E:Nat->MH->Prop}{Q:MV->MH->Prop}{x y:MV}{d:PySem.PyData}
theorem Je(h1:dat h 6 x=some d)(h2:dat h 6 y=some d)(sh:PySem.SeqAt.shaped d=true):lg x y h=.ok true h:=by
 unfold lg;rw[h1,h2];dsimp only;rw[if_pos ⟨sh,sh⟩,zA d (PySem.SeqAt.canLay_of_shaped sh)]
theorem Il(h1:dat h 6 x=some d)(h2:dat h 6 y=some d)(sh:PySem.SeqAt.shaped d=true)(ns:jW x y=false)(q:Q (.bl true) h):wp (oEq x y) h Q E:=by
 unfold oEq;rw[if_neg (by rw[ns];exact bW),aK];exact dG (Je h1 h2 sh) (by rw[bH];exact q)
end
noncomputable def k8:MV->PySem.PyData
 |.int i=>.int i
 |.str s=>.str s
 |.bl b=>.bool b
 |_=>.none
theorem zE{h:MH}{n:Nat}:∀{xs:List MV},xs.all flat=true->ik (dat h n) xs=some (xs.map k8)
 |[],_=>rfl
 |x::r,f=>by
   simp only[i3,d7]at f;have e:dat h n x=some (k8 x):=by
    cases x <;> first|(exact absurd f.1 bW)|(cases n <;> rfl)
   unfold ik;rw[e,zE f.2];rfl
theorem zk{h:MH}{a n:Nat}{xs:List MV}(e:h[a]?=some (.lst xs))(f:xs.all flat=true):dat h (n+1) (.ref a)=some (.list (xs.map k8)):=by
 unfold dat;rw[e];dsimp only;rw[zE f]
noncomputable def lB:MV->Bool
 |.int _=>true
 |.non=>true
 |.bl _=>true
 |_=>false
theorem Aw{xs:List MV}(f:xs.all lB=true):xs.all flat=true:=by
 rw[iS]at f ⊢;intro x hx;have:=f x hx;cases x <;> first|rfl|exact this
theorem vH:∀{xs:List MV},xs.all lB=true->PySem.PyData.canLayAll0 (xs.map k8)=true
 |[],_=>rfl
 |x::r,f=>by
   simp only[i3,d7]at f;simp only[bD,PySem.PyData.canLayAll0,d7];refine⟨?_,vH f.2⟩;cases x <;> first|rfl|exact absurd f.1 bW
theorem xh:∀{xs:List MV},xs.all lB=true->PySem.PyData.depthAll (xs.map k8)=0
 |[],_=>rfl
 |x::r,f=>by
   simp only[i3,d7]at f;simp only[bD,PySem.PyData.depthAll,xh f.2];cases x <;> first|rfl|exact absurd f.1 bW
theorem DH{xs:List MV}(f:xs.all lB=true):PySem.SeqAt.shaped (.list (xs.map k8))=true:=by
 simp[PySem.SeqAt.shaped,PySem.PyData.canLay0,vH f,PySem.PyData.depth,xh f]
theorem FT{h:MH}{E:Nat->MH->Prop}{Q:MV->MH->Prop}{a b:Nat}{xs:List MV}(h1:h[a]?=some (.lst xs))(h2:h[b]?=some (.lst xs))(f:xs.all lB=true)(q:Q (.bl true) h):wp (oEq (.ref a) (.ref b)) h Q E:=
 Il (zk h1 (Aw f)) (zk h2 (Aw f)) (DH f) rfl q
noncomputable def zs(l:List Int):List MV:=l.map .int
noncomputable def tab(n:Nat)(f:Nat->Int):List MV:=(cK n).map λk=>.int (f k)
theorem gv(n:Nat)(f:Nat->Int):(tab n f).length=n:=by simp[tab]
theorem nB{n:Nat}{f:Nat->Int}{k:Nat}(h:k<n):(tab n f)[k]?=some (.int (f k)):=by
 unfold tab;rw[bZ,iB h];rfl
theorem qX{n:Nat}{f:Nat->Int}{k:Nat}(h:k<n):atN (tab n f) (k:Int)=some (.int (f k)):=by rw[jL,nB h]
theorem Ei{n:Nat}{f:Nat->Int}{k:Nat}(h:n≤k):(tab n f)[k]?=none:=by
 rw[mE,gv];exact h
theorem nY{n:Nat}{f g:Nat->Int}(h:∀k,k<n->f k=g k):tab n f=tab n g:=by
 unfold tab;refine iP λk hk=>?_;rw[h k (jP.mp hk)]
theorem wa{n:Nat}{f:Nat->Int}{k:Nat}{v:Int}:(tab n f).set k (.int v)=tab n (λi=>if i=k then v else f i):=by
 apply j6;intro i;by_cases hi:i<n
 ·rw[nB hi];by_cases e:k=i
  ·subst e;rw[fY (by rw[gv];exact hi),if_pos rfl]
  ·rw[ip e,nB hi,if_neg (λz=>e z.symm)]
 ·rw[Ei (by lia)];rw[mE,List.length_set,gv];lia
theorem DO(n:Nat)(f:Nat->Int):tab n f++[.int (f n)]=tab (n+1) f:=by
 unfold tab;rw[uI,jQ];rfl
theorem vd{n k:Nat}(h:k<n):ixN n (k:Int)=some k:=by
 have:(k:Int)<(n:Int):=by lia
 simp only[ixN];rw[if_pos (by lia),if_pos this];simp
theorem tL:∀(n:Nat) (f g:Nat->Int),d0 (tab n f) (tab n g)=(cK n).map λk=>[.int (f k),.int (g k)]:=by
 intro n f g;have go:∀l:List Nat,d0 (l.map λk=>.int (f k)) (l.map λk=>.int (g k))=l.map λk=>[MV.int (f k),MV.int (g k)]:=by
  intro l
  induction l with
  |nil=>rfl
  |cons k l ih=>simp only[bD,d0,ih]
 exact go _
noncomputable def ee:Nat->(Nat->Int)->Int
 |0,_=>0
 |n+1,f=>ee n f+f n
theorem m7:∀{n:Nat}{f g:Nat->Int},(∀k,k<n->f k=g k)->ee n f=ee n g
 |0,_,_,_=>rfl
 |n+1,f,g,h=>by
   simp only[ee];rw[m7 (n:=n) λk hk=>h k (by lia),h n (by lia)]
theorem yf:∀(n:Nat) (f g:Nat->Int),ee n (λk=>f k+g k)=ee n f+ee n g
 |0,_,_=>rfl
 |n+1,f,g=>by
   simp only[ee,yf n f g];lia
theorem sO:∀{n:Nat}{f:Nat->Int},(∀k,k<n->f k=0)->ee n f=0
 |0,_,_=>rfl
 |n+1,f,h=>by
   simp only[ee,sO (n:=n) λk hk=>h k (by lia),h n (by lia)]
   lia
theorem HI{n p:Nat}{f:Nat->Int}(hp:p<n):ee n (λq=>if q=p then f q else 0)=f p:=by
 induction n with
 |zero=>lia
 |succ n ih=>
   simp only[ee];by_cases e:n=p
   ·subst e;rw[if_pos rfl,sO]
    ·lia
    ·intro k hk;rw[if_neg (by lia)]
   ·rw[if_neg e,ih (by lia)]
    lia
end L2.Rv
namespace L2.Rv
open PySem (Str)
section
variable {α β:Type}{h:MH}{E:Nat->MH->Prop}{σ:MSt}
@[simp] theorem wv(Q:Option Int->MH->Prop):wp (part none σ) h Q E=Q none h:=by unfold wp;rfl
@[simp] theorem zQ(g:ME)(Q:Option Int->MH->Prop):wp (part (some g) σ) h Q E=wp (g σ) h (λv h1=>match v with
  |.int i=>Q (some i) h1
  | _=>False) E:=by
 unfold part;dsimp only;rw[aK];congr 1;funext v h1;cases v <;> first|rfl|(unfold wp;rfl)
@[simp] theorem yH(a:ME)(lo hi:Option ME)(Q:MV->MH->Prop):wp (eSl a lo hi σ) h Q E=wp (a σ) h (λx h1=>wp (part lo σ) h1 (λl h2=>wp (part hi σ) h2 (λu h3=>wp (jg x l u) h3 Q E) E) E) E:=by
 unfold eSl;simp only[aK]
@[simp] theorem CH(a:Nat)(lo hi:Option Int)(Q:MV->MH->Prop):wp (jg (.ref a) lo hi) h Q E=(match h[a]? with
  |some (.lst xs)=>Q (.ref h.length) (h++[.lst (iQ xs lo hi)])
  | _=>False):=by
 unfold jg;dsimp only;rw[aK,du];cases h[a]? with
 |none=>first|rfl|(unfold wp;rfl)
 |some o=>cases o <;> first|rfl|(unfold wp;rfl)
@[simp] theorem HM(xs:List MV)(lo hi:Option Int)(Q:MV->MH->Prop):wp (jg (.tup xs) lo hi) h Q E=(¬(dU xs.length 0 lo=0/\dU xs.length xs.length hi=xs.length)/\Q (.tup (iQ xs lo hi)) h):=by
 unfold jg;dsimp only;rw[di,bH,df];by_cases c:dU xs.length 0 lo=0/\dU xs.length xs.length hi=xs.length <;> simp[c]
@[simp] theorem Jq(o k x:ME)(Q:MV->MH->Prop):wp (ku o k x σ) h Q E=wp (o σ) h (λd h1=>match d with
  | .ref n=>(match h1[n]? with
    | some (.dct _)=>wp (k σ) h1 (λy h2=>wp (x σ) h2 (λz h3=>match y with
      | .str s=>(match h3[n]? with
        |some (.dct kvs)=>Q ((dget s kvs).getD z) h3
        | _=>False)
      | _=>False) E) E
    | _=>False)
  | _=>False) E:=by
 unfold ku;rw[aK];congr 1;funext x h1;cases x with
 |ref n=>
   dsimp only;rw[aK,du];cases h1[n]? with
   |none=>first|rfl|(unfold wp;rfl)
   |some ob=>cases ob with
     |dct ys=>
       dsimp only;rw[aK];congr 1;funext y h2;rw[aK];congr 1;funext z h3;cases y with
       |str s=>
         dsimp only;rw[aK,du];cases h3[n]? with
         |none=>first|rfl|(unfold wp;rfl)
         |some ob=>cases ob <;> first|rfl|(unfold wp;rfl)
       |_=>first|rfl|(unfold wp;rfl)
     |_=>first|rfl|(unfold wp;rfl)
 |_=>first|rfl|(unfold wp;rfl)
@[simp] theorem Jk(o k:ME)(Q:MV->MH->Prop):wp (nu o k σ) h Q E=wp (o σ) h (λd h1=>match d with
  | .ref n=>(match h1[n]? with
    | some (.dct _)=>wp (k σ) h1 (λy h2=>match y with
      | .str s=>(match h2[n]? with
        | some (.dct kvs)=>(match dget s kvs with
          |some v=>n<h2.length/\Q v (h2.set n (.dct (lQ s kvs)))
          | none=>False)
        | _=>False)
      | _=>False) E
    | _=>False)
  | _=>False) E:=by
 unfold nu;rw[aK];congr 1;funext x h1;cases x with
 |ref n=>
   dsimp only;rw[aK,du];cases h1[n]? with
   |none=>first|rfl|(unfold wp;rfl)
   |some ob=>cases ob with
     |dct ys=>
       dsimp only;rw[aK];congr 1;funext y h2;cases y with
       |str s=>
         dsimp only;rw[aK,du];cases h2[n]? with
         |none=>first|rfl|(unfold wp;rfl)
         |some ob=>cases ob with
           |dct kvs=>
             dsimp only;cases dget s kvs with
             |none=>first|rfl|(unfold wp;rfl)
             |some v=>dsimp only;rw[aK,lH];simp only[bH]
           |_=>first|rfl|(unfold wp;rfl)
       |_=>first|rfl|(unfold wp;rfl)
     |_=>first|rfl|(unfold wp;rfl)
 |_=>first|rfl|(unfold wp;rfl)
@[simp] theorem Jw(s:Str)(Q:Option Str->MH->Prop):wp (gG (.lit s) σ) h Q E=(s.length≤1000/\Q (some s) h):=by
 unfold gG;rw[di,bH,df];by_cases c:s.length≤1000 <;> simp[c]
@[simp] theorem Jo(e:ME)(Q:Option Str->MH->Prop):wp (gG (.rp e) σ) h Q E=wp (e σ) h (λv h1=>match v with
  |.str s=>d9 s=true/\Q none h1
  | _=>False) E:=by
 unfold gG;rw[aK];congr 1;funext v h1;cases v <;> first|rfl|(unfold wp;rfl)|(dsimp only;rw[di,bH,df,iD])
@[simp] theorem Jy(Q:List (Option Str)->MH->Prop):wp (fA [] σ) h Q E=Q [] h:=by unfold wp;rfl
@[simp] theorem Jp(p:FP)(r:List FP)(Q:List (Option Str)->MH->Prop):wp (fA (p::r) σ) h Q E=wp (gG p σ) h (λx h1=>wp (fA r σ) h1 (λxs h2=>Q (x::xs) h2) E) E:=by
 conv=>lhs;unfold fA
 simp only[aK,bH]
@[simp] theorem Jv(ps:List FP)(Q:MV->MH->Prop):wp (gr ps σ) h Q E=(ps.length≤100/\wp (fA ps σ) h (λxs h1=>Q (match iY PySem.Str.empty xs with
  |some s=>.str s
  | none=>.any) h1) E):=by
 unfold gr;rw[di,aK,df,iD];simp only[bH] <;> rfl
end
def Off(S:List Nat)(h h':MH):Prop:=(∀n o,n∉S->h[n]?=some o->h'[n]?=some o)/\h.length≤h'.length
theorem Pre.off{h h':MH}{S:List Nat}(p:Pre h h'):Off S h h':=⟨λ_ _ _ e=>p.get e,p.len⟩
theorem Off.trans{S:List Nat}{h h1 h2:MH}(a:Off S h h1)(b:Off S h1 h2):Off S h h2:=⟨λn o ns e=>b.1 n o ns (a.1 n o ns e),cB a.2 b.2⟩
theorem Off.mono{S S':List Nat}{h h1:MH}(a:Off S h h1)(s:∀n∈S,n∈S'):Off S' h h1:=⟨λn o ns e=>a.1 n o (λz=>ns (s n z)) e,a.2⟩
theorem Off.set{h:MH}{n:Nat}{o:MO}:Off [n] h (h.set n o):=⟨λk _ hk e=>dY e (λz=>hk (by simp[z])),by simp⟩
theorem Off.get{S:List Nat}{h h':MH}{n:Nat}{o:MO}(a:Off S h h')(e:h[n]?=some o)(hn:n∉S):h'[n]?=some o:=a.1 n o hn e
theorem wK:∀(a b:List Nat),a≠b->a<b∨b<a
 |[],[],h=>absurd rfl h
 |[],_::_,_=>.inl (by simp)
 |_::_,[],_=>.inr (by simp)
 |x::a,y::b,h=>by
   rcases Nat.lt_trichotomy x y with z|z|z
   ·exact .inl (qw.mpr (.inl z))
   ·subst z;have:a≠b:=λe=>h (by rw[e]);rcases wK a b this with w|w
    ·exact .inl (qw.mpr (.inr ⟨rfl,w⟩))
    ·exact .inr (qw.mpr (.inr ⟨rfl,w⟩))
   ·exact .inr (qw.mpr (.inl z))
theorem De{a b:Str}(h:a.cps.toList=b.cps.toList):a=b:=by
 obtain⟨⟨a⟩⟩:=a;obtain⟨⟨b⟩⟩:=b;simp at h;rw[h]
structure Rt where
 nm:Str
 pt:Nat
 am:Int
 dt:Int
instance:Inhabited Rt:=⟨⟨PySem.Str.empty,0,0,0⟩⟩
noncomputable def Rt.val(r:Rt):MV:=.tup [.int r.pt,.int r.am,.int r.dt]
noncomputable def Rt.key(r:Rt):List MKey:=[.inl r.dt,.inr r.nm]
noncomputable def Rt.lt(a b:Rt):Bool:=decide (a.dt<b.dt∨(a.dt=b.dt/\a.nm.cps.toList<b.nm.cps.toList))
theorem Rt.lt_iff{a b:Rt}:a.lt b=true↔a.dt<b.dt∨(a.dt=b.dt/\a.nm.cps.toList<b.nm.cps.toList):=by simp[Rt.lt]
theorem Rt.lt_tr{a b c:Rt}(h1:a.lt b=true)(h2:b.lt c=true):a.lt c=true:=by
 rw[Rt.lt_iff]at *;rcases h1 with h1|⟨h1,h1'⟩ <;> rcases h2 with h2|⟨h2,h2'⟩
 ·exact .inl (by lia)
 ·exact .inl (by lia)
 ·exact .inl (by lia)
 ·exact .inr ⟨by lia,List.lt_trans h1' h2'⟩
theorem Rt.lt_asy{a b:Rt}(h1:a.lt b=true):b.lt a=false:=by
 rw[Rt.lt_iff]at h1;have:¬(b.dt<a.dt∨(b.dt=a.dt/\b.nm.cps.toList<a.nm.cps.toList)):=by
  rcases h1 with h1|⟨h1,h1'⟩
  ·lia
  ·rintro(h|⟨_,h⟩)
   ·lia
   ·exact List.lt_asymm h1' h
 simpa[Rt.lt] using this
theorem Rt.lt_tot{a b:Rt}(hn:a.nm≠b.nm)(h:a.lt b=false):b.lt a=true:=by
 have h':¬(a.dt<b.dt∨(a.dt=b.dt/\a.nm.cps.toList<b.nm.cps.toList)):=λz=>by
  rw[(Rt.lt_iff).mpr z]at h;cases h
 rw[Rt.lt_iff];by_cases e:a.dt=b.dt
 ·refine .inr ⟨e.symm,?_⟩;rcases wK a.nm.cps.toList b.nm.cps.toList (λz=>hn (De z)) with z|z
  ·exact absurd (.inr ⟨e,z⟩) h'
  ·exact z
 ·refine .inl ?_;have:¬a.dt<b.dt:=λz=>h' (.inl z);lia
theorem F2{a b:Rt}(hn:a.nm≠b.nm):ltK a.key b.key=some (a.lt b):=by
 unfold Rt.key;by_cases e:a.dt=b.dt
 ·simp only[ltK,e,if_true];have:¬((Sum.inr a.nm:MKey)=Sum.inr b.nm):=λz=>hn (by injection z);rw[if_neg this];simp[Rt.lt,e]
 ·have:¬((Sum.inl a.dt:MKey)=Sum.inl b.dt):=λz=>e (by injection z);simp only[ltK];rw[if_neg this];simp[Rt.lt,e]
def Names(rs:List Rt):Prop:=(rs.map (·.nm)).Nodup
theorem Names.get{rs:List Rt}(n:Names rs){i j:Nat}{a b:Rt}(hi:rs[i]?=some a)(hj:rs[j]?=some b)(hne:i≠j):a.nm≠b.nm:=by
 intro z;have e1:(rs.map (·.nm))[i]?=some a.nm:=by simp[hi]
 have e2:(rs.map (·.nm))[j]?=some a.nm:=by simp[hj,z]
 obtain⟨l1,g1⟩:=bM.mp e1;obtain⟨l2,g2⟩:=bM.mp e2;have pw:=qF.mp n;rcases Nat.lt_or_gt_of_ne hne with q|q
 ·exact pw i j l1 l2 q (g1.trans g2.symm)
 ·exact pw j i l2 l1 q (g2.trans g1.symm)
noncomputable def g9(rs:List Rt):List Nat:=(fU (rs.map Rt.key)).getD []
noncomputable def aged(rs:List Rt):List Rt:=(g9 rs).map λi=>rs.getD i default
theorem om{rs:List Rt}(n:Names rs)(h64:rs.length<64):fU (rs.map Rt.key)=some (g9 rs)/\(g9 rs).Perm (cK rs.length)/\∀i j,i<j->j<rs.length->∀a b,(aged rs)[i]?=some a->(aged rs)[j]?=some b->a.lt b=true:=by
 by_cases h2:rs.length<2
 ·have e:fU (rs.map Rt.key)=some (cK rs.length):=by
   unfold fU;rw[if_pos (by simpa using h2)];simp
  have e2:g9 rs=cK rs.length:=by unfold g9;rw[e];rfl
  refine⟨by rw[e,e2],by rw[e2],λi j hij hj=>by lia⟩
 ·let lt:Nat->Nat->Bool:=λi j=>(rs.getD i default).lt (rs.getD j default)
  have gd:∀i,i<rs.length->rs[i]?=some (rs.getD i default):=λi hi=>by simp[hi]
  have O:SOrd (jI (rs.map Rt.key)) lt rs.length:=by
   refine⟨λi j hi hj hne=>?_,λi j hi hj hne h=>?_,λi j hi hj h=>?_,λi j k hi hj hk h1 h2=>?_⟩
   ·have hn:=n.get (gd i hi) (gd j hj) hne;unfold jI;rw[bZ,bZ,gd i hi,gd j hj];simp only[Option.map_some];rw[if_neg,F2 hn];intro z;unfold Rt.key at z;injection z with _ z;injection z with z _;injection z with z;exact hn z
   ·exact Rt.lt_tot (n.get (gd i hi) (gd j hj) hne) h
   ·exact Rt.lt_asy h
   ·exact Rt.lt_tr h1 h2
  obtain⟨p,q1,q2,q3⟩:=Dy O (by lia);have e:fU (rs.map Rt.key)=some p.toList:=by
   unfold fU;rw[if_neg (by simpa using h2),if_pos (by simpa using h64),c6,q1]
  have e2:g9 rs=p.toList:=by unfold g9;rw[e];rfl
  refine⟨by rw[e,e2],by rw[e2];exact q2.list,λi j hij hj a b ha hb=>?_⟩;have hs:=q2.size;have u:=q3 i j hij hj;unfold aged at ha hb;rw[e2,bZ]at ha hb;have pi:p.toList[i]?=some (p.getD i 0):=by simp[show i<p.size by lia]
  have pj:p.toList[j]?=some (p.getD j 0):=by simp[show j<p.size by lia]
  rw[pi]at ha;rw[pj]at hb;cases ha;cases hb;exact u
theorem iU{rs:List Rt}(n:Names rs)(h64:rs.length<64):(aged rs).Perm rs:=by
 obtain⟨_,p,_⟩:=om n h64;have q:=p.map λi=>rs.getD i default;have e:(cK rs.length).map (λi=>rs.getD i default)=rs:=by
  apply j6;intro i;rw[bZ];by_cases h:i<rs.length
  ·rw[iB h];simp[h]
  ·simp[kJ h]
 rw[e]at q;exact q
theorem nh{rs:List Rt}(n:Names rs)(h64:rs.length<64):(aged rs).length=rs.length:=(iU n h64).length_eq
theorem G7{rs:List Rt}(n:Names rs)(h64:rs.length<64):(aged rs).Pairwise λa b=>a.lt b=true:=by
 obtain⟨_,_,s⟩:=om n h64;rw[qF];intro i j hi hj hij;have hl:=nh n h64;exact s i j hij (by lia) _ _ (by simp) (by simp)
theorem DP{rs:List Rt}(n:Names rs)(h64:rs.length<64){i:Nat}(h:i∈g9 rs):i<rs.length:=by
 obtain⟨_,p,_⟩:=om n h64;exact jP.mp (p.mem_iff.mp h)
theorem BT{rs:List Rt}(n:Names rs)(h64:rs.length<64)(f:Rt->MV):pick (rs.map f) (g9 rs)=(aged rs).map f:=by
 unfold pick aged;rw[dJ];refine iP λi hi=>?_;have:=DP n h64 hi;simp[this]
theorem zV:∀{xs ys:List Rt},xs.Perm ys->xs.Pairwise (λa b=>a.lt b=true)->ys.Pairwise (λa b=>a.lt b=true)->xs=ys
 |[],ys,p,_,_=>(List.nil_perm.mp p).symm
 |x::xs,[],p,_,_=>absurd (List.perm_nil.mp p) (by simp)
 |x::xs,y::ys,p,s1,s2=>by
   obtain⟨a1,b1⟩:=List.pairwise_cons.mp s1;obtain⟨a2,b2⟩:=List.pairwise_cons.mp s2;have e:x=y:=by
    have hx:x∈y::ys:=p.mem_iff.mp fu;have hy:y∈x::xs:=p.mem_iff.mpr fu;rcases bu.mp hx with z|z
    ·exact z
    ·rcases bu.mp hy with w|w
     ·exact w.symm
     ·have:=Rt.lt_asy (a2 x z);rw[a1 y w]at this;cases this
   subst e;rw[zV (List.Perm.cons_inv p) b1 b2]
theorem CW{rs ys:List Rt}(n:Names rs)(h64:rs.length<64)(p:ys.Perm rs)(s:ys.Pairwise λa b=>a.lt b=true):aged rs=ys:=
 zV ((iU n h64).trans p.symm) (G7 n h64) s
theorem zX(a b:Str):(a++b).cps.toList=a.cps.toList++b.cps.toList:=by
 show(a.cps++b.cps).toList=_;simp
section
variable {α:Type}{h:MH}{E:Nat->MH->Prop}{Q:MV->MH->Prop}{f:α->MV}{g:α->PySem.PyData}
end
theorem G8{α:Type}(xs:List α)(h:0<xs.length):iQ xs (some 1) none=xs.drop 1:=by
 have e:dU xs.length 0 (some 1)=1:=by
  show(if(1:Int)<0 then((1:Int)+(xs.length:Int)).toNat else min (1:Int).toNat xs.length)=1;rw[if_neg (by decide)];show min 1 xs.length=1;lia
 show(xs.drop (dU xs.length 0 (some 1))).take (dU xs.length xs.length none-dU xs.length 0 (some 1))=_;rw[e];exact List.take_of_length_le (mQ vb)
section
variable {α:Type}
theorem yQ{s:Src}{cond:Option ME}{elt:ME}{σ:MSt}{h:MH}{iv:α->List MV}{c:α->Bool}{f:α->MV}(hok:∀h',Pre h h'->s.okIn h'=true):∀(l:List α) (h1:MH),Pre h h1 ->
  (∀x∈l,∀h1,Pre h h1->wp (hV cond (σ++(iv x).map some)) h1 (λb h2=>b=c x/\Pre h1 h2) noE) ->
  (∀x∈l,c x=true->∀h1,Pre h h1->wp (elt (σ++(iv x).map some)) h1 (λv h2=>v=f x/\Pre h1 h2) noE) ->
  wp (bQ s cond elt σ (l.map iv)) h1 (λvs h2=>vs=(l.filter c).map f/\Pre h1 h2) noE
 |[],h1,p,_,_=>by
   have e:bQ s cond elt σ [] h1=.ok [] h1:=by simp[bQ,hok h1 p]
   exact dG e ⟨rfl,.refl⟩
 |x::r,h1,p,a1,a2=>by
   have ih:=λh2 p2=>yQ (iv:=iv) (c:=c) (f:=f) hok r h2 p2 (λy hy=>a1 y (d5 _ hy)) (λy hy=>a2 y (d5 _ hy));rw[bD];have e:bQ s cond elt σ (iv x::r.map iv) h1=bnd (hV cond (σ++(iv x).map some)) (λk=>if k=true then bnd (elt (σ++(iv x).map some)) λv=>bnd (bQ s cond elt σ (r.map iv)) λws=>ret (v::ws) else bQ s cond elt σ (r.map iv)) h1:=by
    conv=>lhs;unfold bQ
    rw[if_pos (hok h1 p)];cases cond <;> rfl
   rw[qE e,aK];refine dI (a1 x fu h1 p) (λb h2 e0=>e0.elim λeb p2=>?_) λ_ _ z=>z;subst eb;cases hc:c x with
   |true=>
     rw[if_pos rfl,aK];refine dI (a2 x fu hc h2 (p.trans p2)) (λv h3 e0=>e0.elim λfv p3=>?_) λ_ _ z=>z;rw[aK];refine dI (ih h3 ((p.trans p2).trans p3)) (λws h4 e0=>e0.elim λq1 p4=>?_) λ_ _ z=>z;rw[bH];exact⟨by rw[mw hc,bD,fv,q1],(p2.trans p3).trans p4⟩
   |false=>
     rw[if_neg bW];refine dI (ih h2 (p.trans p2)) (λws h4 e0=>e0.elim λq1 p4=>?_) λ_ _ z=>z;rw[mY (by simp[hc])];exact⟨q1,p2.trans p4⟩
theorem lZ{src:MI}{cond:Option ME}{elt:ME}{σ:MSt}{h:MH}{Q:MV->MH->Prop}{E:Nat->MH->Prop}{s:Src}{h1:MH}(l:List α)(iv:α->List MV)(c:α->Bool)(f:α->MV)(hs:src σ h=.ok s h1)(hi:s.items=l.map iv)(hok:∀h',Pre h1 h'->s.okIn h'=true)(hlen:l.length≤100000)
  (a1:∀x∈l,∀h2,Pre h1 h2->wp (hV cond (σ++(iv x).map some)) h2 (λb h3=>b=c x/\Pre h2 h3) noE)
  (a2:∀x∈l,c x=true->∀h2,Pre h1 h2->wp (elt (σ++(iv x).map some)) h2 (λv h3=>v=f x/\Pre h2 h3) noE)
  (q:∀h2,Pre h1 h2->Q (.ref h2.length) (h2++[.lst ((l.filter c).map f)])):wp (eG src cond elt σ) h Q E:=by
 unfold eG;rw[aK];refine dG hs ?_;rw[if_pos (by rw[hi,c6];exact hlen),aK,hi];refine As (dI (yQ (iv:=iv) (c:=c) (f:=f) hok l h1 .refl a1 a2) (λvs h2 e0=>e0.elim λq1 p=>?_) λ_ _ z=>z);subst q1;rw[iT];exact q h2 p
theorem sN{l:List α}:l.filter (λ_=>true)=l:=List.filter_eq_self.mpr λ_ _=>rfl
end
theorem lI{g:ME}{σ:MSt}{h:MH}{v:MV}{h1:MH}(w:wp (g σ) h (λv' h'=>v'=v/\h'=h1) noE):g σ h=.ok v h1:=by
 obtain⟨s',h',e,rfl,rfl⟩:=ko w;exact e
section
variable {h:MH}{E:Nat->MH->Prop}{σ:MSt}
@[simp] theorem EO(o e:ME)(f:Nat->MV->M MV)(Q:MV->MH->Prop):wp (mH o e f σ) h Q E=wp (o σ) h (λx h1=>match x with
  | .ref n=>(match h1[n]? with
    |some (.lst _)=>wp (e σ) h1 (λv h2=>wp (f n v) h2 Q E) E
    | _=>False)
  | _=>False) E:=by
 unfold mH;rw[aK];congr 1;funext x h1;cases x with
 |ref n=>
   dsimp only;rw[aK,du];cases h1[n]? with
   |none=>first|rfl|(unfold wp;rfl)
   |some ob=>cases ob with
     |lst ys=>dsimp only;rw[aK]
     |_=>first|rfl|(unfold wp;rfl)
 |_=>first|rfl|(unfold wp;rfl)
@[simp] theorem FG(o e:ME)(Q:MV->MH->Prop):wp (yB o e σ) h Q E=wp (mH o e nE σ) h Q E:=rfl
theorem GU{n j:Nat}{v:MV}{d:PySem.PyData}{ys:List MV}{Q:Nat->MH->Prop}(e:h[n]?=some (.lst ys))(dv:dat h 6 v=some d)(sh:PySem.SeqAt.shaped d=true)(f:fh h d ys=some j)(q:Q j h):wp (mi n v) h Q E:=by
 refine dG (a:=j) (h':=h) ?_ q;unfold mi;simp[e,dv,sh,f]
theorem Gw{n j:Nat}{v:MV}{d:PySem.PyData}{ys:List MV}{Q:MV->MH->Prop}(e:h[n]?=some (.lst ys))(dv:dat h 6 v=some d)(sh:PySem.SeqAt.shaped d=true)(f:fh h d ys=some j)(q:Q (.int j) h):wp (nE n v) h Q E:=by
 unfold nE;rw[aK];exact GU e dv sh f (by rw[bH];exact q)
theorem xR{α:Type}{f:α->MV}{g:α->PySem.PyData}{d:PySem.PyData}:∀{l:List α}{j:Nat}{x:α},(∀i y,i≤j->l[i]?=some y->dat h 6 (f y)=some (g y)/\PySem.SeqAt.shaped (g y)=true)->l[j]?=some x->(∀i y,i<j->l[i]?=some y->PySem.PyData.eqv (g y) d=false)->PySem.PyData.eqv (g x) d=true->fh h d (l.map f)=some j
 |[],j,x,_,e,_,_=>by simp at e
 |y::l,0,x,a,e,_,yes=>by
   simp at e;subst e;obtain⟨a1,a2⟩:=a 0 y (aU _) rfl;simp[fh,a1,a2,yes]
 |y::l,j+1,x,a,e,no,yes=>by
   obtain⟨a1,a2⟩:=a 0 y (by lia) rfl;have ih:=xR (f:=f) (g:=g) (d:=d) (l:=l) (j:=j) (x:=x) (λi z hi ez=>a (i+1) z (by lia) (by simpa using ez)) (by simpa using e) (λi z hi ez=>no (i+1) z (by lia) (by simpa using ez)) yes;have n0:=no 0 y (by lia) rfl;simp[fh,a1,a2,n0,ih]
end
theorem GL{l l':List Rt}(n:Names l)(s:l'.Sublist l):Names l':=by
 unfold Names at n ⊢;exact n.sublist (s.map _)
theorem vm{α:Type}{f:α->MV}{g:α->List MV}{k:Nat}:∀{l:List α},(∀x∈l,f x=.tup (g x)/\(g x).length=k)->fG k (l.map f)=some (l.map g)
 |[],_=>rfl
 |x::l,a=>by
   obtain⟨a1,a2⟩:=a x fu;have ih:=vm (f:=f) (g:=g) (k:=k) (l:=l) λy hy=>a y (d5 _ hy);rw[bD,a1];simp[fG,a2,ih]
theorem Ae{e:ME}{σ:MSt}{h h':MH}{n k:Nat}{xs:List MV}{rs:List (List MV)}(h1:e σ h=.ok (.ref n) h')(h2:h'[n]?=some (.lst xs))(h3:fG k xs=some rs):lL k e σ h=.ok ⟨rs,[(n,xs)]⟩ h':=by
 simp[lL,bnd,h1,look,h2,h3,ret]
theorem yp:∀(l:List Int),iF (zs l)=some l
 |[]=>rfl
 |a::l=>by
   have ih:=yp l;unfold zs at ih ⊢;simp[iF,ih]
theorem He{h:MH}{E:Nat->MH->Prop}{Q:MV->MH->Prop}{a:Nat}{i:Int}{l:List Int}(e:h[a]?=some (.lst (zs (i::l))))(few:l.length≤10000)(q:Q (.int (eZ i l)) h):wp (q9 (.ref a)) h Q E:=by
 refine dG (a:=.int (eZ i l)) (h':=h) ?_ q;simp[q9,bnd,look,e,yp,few,ret]
theorem Jd{h:MH}{E:Nat->MH->Prop}{Q:MV->MH->Prop}{a b:Nat}{xs ys:List MV}(ea:h[a]?=some (.lst xs))(eb:h[b]?=some (.lst ys))(hx:xs.length≤10000)(hy:ys.length≤10000)(q:Q (.ref h.length) (h++[.lst (gI xs ys)])):wp (ol (.ref a) (.ref b)) h Q E:=by
 refine dG (a:=.ref h.length) (h':=h++[.lst (gI xs ys)]) ?_ q;simp[ol,bnd,look,ea,eb,hx,hy,new]
abbrev Want:=Nat×Int
noncomputable def Want.v(w:Want):MV:=.tup [.int w.1,.int w.2]
noncomputable def eB(f:Nat->Int)(am:Int):List Nat->Int
 |[]=>am
 |p::r=>if eZ (f p) (r.map f)<am then eZ (f p) (r.map f) else am
noncomputable def lower(f:Nat->Int)(t:Int)(l:List Nat):Nat->Int:=λp=>if p∈l then f p-t else f p
theorem BG{e e' e'':ME}{σ:MSt}{h h1 h2 h3:MH}{n k j:Nat}{xs ys zs:List MV}(a1:e σ h=.ok (.ref n) h1)(a2:e' σ h1=.ok (.ref k) h2)(a3:e'' σ h2=.ok (.ref j) h3)(b1:h3[n]?=some (.lst xs))(b2:h3[k]?=some (.lst ys))(b3:h3[j]?=some (.lst zs)):oz e e' e'' σ h=.ok ⟨cQ xs ys zs,[(n,xs),(k,ys),(j,zs)]⟩ h3:=by
 simp[oz,bnd,a1,a2,a3,look,b1,b2,b3,ret]
theorem GP{items:List (List MV)}{h:MH}{n k j:Nat}{xs ys zs:List MV}(e:h[n]?=some (.lst xs))(e':h[k]?=some (.lst ys))(e'':h[j]?=some (.lst zs)):(Src.mk items [(n,xs),(k,ys),(j,zs)]).okIn h=true:=by simp[Src.okIn,hI,e,e',e'']
theorem vP:∀{xs ys zs:List MV}{i:Nat}{r:List MV},(cQ xs ys zs)[i]?=some r->∃x y z,xs[i]?=some x/\ys[i]?=some y/\zs[i]?=some z/\r=[x,y,z]
 |[],ys,zs,i,r,e=>by simp[cQ]at e
 |_::_,[],zs,i,r,e=>by simp[cQ]at e
 |_::_,_::_,[],i,r,e=>by simp[cQ]at e
 |x::xs,y::ys,z::zs,0,r,e=>by simp[cQ]at e;exact⟨x,y,z,rfl,rfl,rfl,e.symm⟩
 |x::xs,y::ys,z::zs,i+1,r,e=>by
   obtain⟨a,b,c,h1,h2,h3,h4⟩:=vP (xs:=xs) (ys:=ys) (zs:=zs) (i:=i) (by simpa[cQ] using e);exact⟨a,b,c,by simpa using h1,by simpa using h2,by simpa using h3,h4⟩
theorem xm:∀(xs ys zs:List MV),(cQ xs ys zs).length=min xs.length (min ys.length zs.length)
 |[],ys,zs=>by simp[cQ]
 |_::_,[],zs=>by simp[cQ]
 |_::_,_::_,[]=>by simp[cQ]
 |x::xs,y::ys,z::zs=>by simp[cQ,xm xs ys zs]
theorem vK(a:Array Nat):∀(k:Nat) (acc:Array Nat),(jF (·++·) acc (br k a)).toList=acc.toList++(br k a.toList).flatten
 |0,acc=>by simp
 |k+1,acc=>by
   rw[fZ,vy,vK a k];simp[fZ]
theorem Dc(c:Nat){n:Int}(h:1≤n):(jB ⟨#[c]⟩ n).cps.toList=br n.toNat c:=by
 unfold jB;split
 ·rename_i q;have:n=1:=by
   simp at q;rcases q with q|q
   ·exact q
   ·exact absurd (show(1:Nat)=0 from q) (by decide)
  subst this;rfl
 ·show(jF (·++·) #[] (br n.toNat #[c])).toList=_;rw[vK];generalize n.toNat=k
  induction k with
  |zero=>rfl
  |succ k ih=>simpa[fZ] using ih
end L2.Rv
namespace L2.Rv
section
variable {h:MH}{E:Nat->MH->Prop}{σ:MSt}
end
end L2.Rv
namespace L2.Rv
open PySem (Str)
theorem sm(s:Str):s.length=s.cps.toList.length:=by simp[Str.length]
theorem CS(a b:Str):(a++b).length=a.length+b.length:=by rw[sm,zX,gX,sm,sm]
section
variable {h:MH}{E:Nat->MH->Prop}{σ:MSt}
end
section
variable {h:MH}{E:Nat->MH->Prop}{σ:MSt}
end
section
variable {h:MH}{E:Nat->MH->Prop}{σ:MSt}
theorem Aa{o:ME}{s t:Str}{c:Nat}{Q:MV->MH->Prop}(eo:o σ h=.ok (.str s) h)(et:t.cps.toList=[c])(hl:s.length≤100000)(hc:c<256)(q:Q (.ref h.length) (h++[.lst ((dm c s.cps.toList).map λl=>.str ⟨l.toArray⟩)])):wp (l7 o (eC (.str t)) σ) h Q E:=by
 unfold l7;rw[aK];refine dG eo ?_;dsimp only;rw[aK,w_c];dsimp only;rw[et];dsimp only;rw[if_pos ⟨hl,hc⟩,iT];exact q
end
section
variable {h:MH}{E:Nat->MH->Prop}{σ:MSt}
theorem CF{b:MS}{cs:List Nat}{c2:Nat}{Q:MF->MH->Prop}(w:wp (b σ) h Q (λc h1=>cs.contains c=true/\E c2 h1)):wp (mL cs c2 b σ) h Q E:=by
 unfold wp at w ⊢;unfold mL;cases e:b σ h with
 |ok f h'=>rw[e]at w;simpa using w
 |exc c h'=>
   rw[e]at w;dsimp only at w ⊢;rw[w.1];exact w.2
 |stuck=>rw[e]at w;exact w.elim
def All2{α:Type}(F:α->MV->Prop)(l:List α)(vs:List MV):Prop:=vs.length=l.length/\∀(i:Nat) (x:α) (v:MV),l[i]?=some x->vs[i]?=some v->F x v
theorem zh{α:Type}{s:Src}{elt:ME}{h0:MH}{iv:α->List MV}{F:α->MV->Prop}(hok:∀h',Pre h0 h'->s.okIn h'=true):∀(l:List α) (h1:MH),Pre h0 h1 ->
  (∀x∈l,∀h1,Pre h0 h1->wp (elt (σ++(iv x).map some)) h1 (λv h2=>F x v/\Pre h1 h2) (λc h2=>E c h2)) ->
  wp (bQ s none elt σ (l.map iv)) h1 (λvs h2=>All2 F l vs/\Pre h1 h2) E
 |[],h1,p,_=>by
   have e:bQ s none elt σ [] h1=.ok [] h1:=by simp[bQ,hok h1 p]
   exact dG e ⟨⟨rfl,by simp⟩,.refl⟩
 |x::r,h1,p,a2=>by
   have ih:=λh2 p2=>zh (iv:=iv) (F:=F) hok r h2 p2 (λy hy=>a2 y (d5 _ hy));rw[bD];have e:bQ s none elt σ (iv x::r.map iv) h1=bnd (elt (σ++(iv x).map some)) (λv=>bnd (bQ s none elt σ (r.map iv)) λws=>ret (v::ws)) h1:=by
    conv=>lhs;unfold bQ
    rw[if_pos (hok h1 p)];rfl
   rw[qE e,aK];refine dI (a2 x fu h1 p) (λv h3 e0=>e0.elim λfv p3=>?_) λ_ _ z=>z;rw[aK];refine dI (ih h3 (p.trans p3)) (λws h4 e0=>e0.elim λq1 p4=>?_) λ_ _ z=>z;rw[bH];refine⟨⟨by simp[q1.1],λi y u ey eu=>?_⟩,p3.trans p4⟩;cases i with
   |zero=>simp at ey eu;subst ey;subst eu;exact fv
   |succ i=>exact q1.2 i y u (by simpa using ey) (by simpa using eu)
theorem Gg{α:Type}{src:MI}{elt:ME}{Q:MV->MH->Prop}{s:Src}{h1:MH}(l:List α)(iv:α->List MV)(F:α->MV->Prop)(hs:src σ h=.ok s h1)(hi:s.items=l.map iv)(hok:∀h',Pre h1 h'->s.okIn h'=true)(hlen:l.length≤100000)
  (a2:∀x∈l,∀h2,Pre h1 h2->wp (elt (σ++(iv x).map some)) h2 (λv h3=>F x v/\Pre h2 h3) E)
  (q:∀vs h2,Pre h1 h2->All2 F l vs->Q (.ref h2.length) (h2++[.lst vs])):wp (iR src elt σ) h Q E:=by
 unfold iR;rw[aK];refine dG hs ?_;rw[if_pos (by rw[hi,c6];exact hlen),aK,hi];refine dI (zh (iv:=iv) (F:=F) hok l h1 .refl a2) (λvs h2 e0=>e0.elim λq1 p=>?_) λ_ _ z=>z;rw[iT];exact q vs h2 p q1
end
section
variable {h:MH}{E:Nat->MH->Prop}{σ:MSt}
@[simp] theorem HP(f:Fn)(a:MA)(Q:MV->MH->Prop):wp (rV f a σ) h Q E=wp (a σ) h (λxs h1=>wp (f xs) h1 Q noE) E:=by
 unfold rV;simp only[aK,yn]
@[simp] theorem F4(s:Str)(n:Int)(Q:MV->MH->Prop):wp (nj (.str s) (.int n)) h Q E=((0≤n/\n≤1000/\s.length*n.toNat≤10000)/\Q (.str (if n<1 then PySem.Str.empty else jB s n)) h):=by
 unfold nj;dsimp only;rw[di,bH,df,iD]
end
end L2.Rv
namespace L2.Rv
noncomputable section
open PySem (Str)
def uJ:MS:=(bT (qP (aW (ah 0) [3] "held") 0 (f6 (ao (aW (aC oIx (aW (ah 1) [3] "held") (ah 0)) [2,5] "date") (ao (ah 0) az)))))
def jc:Fn:=fnOf 1 1 uJ
noncomputable def rO:MS:=(aD (bB 1 (dX (ao (eUn (eE (.exn [100,101,102,103,104,105,106,107,108,109,110,111,212] [101])) (ah 0)) (ao (eUn (eE (.exn [100,101,102,103,104,105,106,107,108,109,110,111,212] [102])) (ah 0)) (ao (eUn (eE (.exn [100,101,102,103,104,105,106,107,108,109,110,111,212] [103])) (ah 0)) (ao (eUn (eE (.exn [100,101,102,103,104,105,106,107,108,109,110,111,212] [104])) (ah 0)) az))))))
  (aD (bB 1 (aC dM (ah 1) (dX (ao (eUn (eE (.exn [100,101,102,103,104,105,106,107,108,109,110,111,212] [105])) (ah 0)) (ao (eUn (eE (.exn [100,101,102,103,104,105,106,107,108,109,110,111,212] [106])) (ah 0)) (ao (eUn (eE (.exn [100,101,102,103,104,105,106,107,108,109,110,111,212] [107])) (ah 0)) (ao (eUn (eE (.exn [100,101,102,103,104,105,106,107,108,109,110,111,212] [108])) (ah 0)) az)))))))
  (bT (aC dM (ah 1) (dX (ao (eUn (eE (.exn [100,101,102,103,104,105,106,107,108,109,110,111,212] [109])) (ah 0)) (ao (eUn (eE (.exn [100,101,102,103,104,105,106,107,108,109,110,111,212] [110])) (ah 0)) (ao (eUn (eE (.exn [100,101,102,103,104,105,106,107,108,109,110,111,212] [111])) (ah 0)) (ao (eUn (eE (.exn [100,101,102,103,104,105,106,107,108,109,110,111,212] [212])) (ah 0)) az)))))))))
noncomputable def o4:Fn:=fnOf 1 2 rO
noncomputable def oY:MS:=(aD (sIf (aC (oIn true) (ah 1) (aW (ah 0) [3] "held")) (cU 105 (ao (gr [.lit (aA "there is no right "),.rp (ah 1)]) az)) bz)
  (bT (aC oIx (aW (ah 0) [3] "held") (ah 1))))
noncomputable def gC:Fn:=fnOf 2 2 oY
noncomputable def tY:MS:=(aD (bN (aZ 3 "held_right" gC (ah 0) (ao (ah 1) az)))
  (aD (bN (nu (aW (ah 0) [3] "held") (ah 1)))
  (bT (eUn cR (aW (ah 0) [3] "held")))))
noncomputable def mW:Fn:=fnOf 2 2 tY
noncomputable def pb:MS:=(sIf (aC (oIn false) (ah 1) (aW (ah 0) [3] "held")) (cU 104 (ao (gr [.lit (aA "there is a right "),.rp (ah 1)]) az)) bz)
noncomputable def je:Fn:=fnOf 2 2 pb
noncomputable def uH:MS:=(aD (dN (ah 0) [2] "point" (ah 1))
  (aD (dN (ah 0) [2] "amount" (ah 2))
  (dN (ah 0) [2] "date" (ah 3))))
noncomputable def tT:Fn:=fnOf 4 4 uH
noncomputable def mR:MS:=(sIf (eOr (aC oLt (ah 1) (eC (.int 0))) (aC oGe (ah 1) (eUn cR (aW (ah 0) [1] "runs_to")))) (cU 103 (ao (eC (.str (aA "the river has no such point"))) az)) bz)
noncomputable def fI:Fn:=fnOf 2 2 mR
noncomputable def tS:MS:=(aD (bN (aZ 3 "check_free" je (ah 0) (ao (ah 1) az)))
  (aD (bN (aZ 1 "check_point" fI (aW (ah 0) [3] "stream") (ao (ah 2) az)))
  (aD (iA (aW (ah 0) [3] "held") (ah 1) (gs 2 tT (ao (ah 2) (ao (ah 3) (ao (ah 4) az)))))
  (bT (eUn cR (aW (ah 0) [3] "held"))))))
noncomputable def iz:Fn:=fnOf 5 5 tS
noncomputable def uE:MS:=(bT (aW (ah 0) [3] "stream"))
noncomputable def fR:Fn:=fnOf 1 1 uE
def tJ:MS:=(aD (bB 3 (aZ 3 "held_right" gC (ah 0) (ao (ah 1) az)))
  (aD (bB 4 (aZ 3 "held_right" gC (ah 0) (ao (ah 2) az)))
  (aD (sIf (aC oEq (ah 1) (ah 2)) (cU 108 (ao (eC (.str (aA "a right is not united with itself"))) az)) bz)
  (aD (sIf (eOr (aC oNe (aW (ah 3) [2,5] "point") (aW (ah 4) [2,5] "point")) (aC oNe (aW (ah 3) [2,5] "date") (aW (ah 4) [2,5] "date"))) (cU 108 (ao (eC (.str (aA "the rights differ in point or date"))) az)) bz)
  (aD (sIf (aC oGt (aC dM (aW (ah 3) [2] "amount") (aW (ah 4) [2] "amount")) (eC (.int 1000000))) (cU 108 (ao (eC (.str (aA "the amounts come to more than 1000000"))) az)) bz)
  (aD (nG si (ah 3) [2] "amount" (aW (ah 4) [2] "amount"))
  (aD (bN (nu (aW (ah 0) [3] "held") (ah 2)))
  (bT (eUn cR (aW (ah 0) [3] "held"))))))))))
def oH:Fn:=fnOf 3 5 tJ
def jO:MS:=(aD (sIf (eOr (aC oLt (eUn cR (ah 0)) (eC (.int 1))) (aC oGt (eUn cR (ah 0)) (eC (.int 40)))) (cU 101 (ao (eC (.str (aA "a river has 1 to 40 points"))) az)) bz)
  (aD (sIf (eUn lK (aC oIx (ah 0) (eC (.int 0)))) (cU 101 (ao (eC (.str (aA "nothing lies below the mouth"))) az)) bz)
  (gF [1] (lN (eC (.int 1)) (eUn cR (ah 0))) (aD (bB 2 (aC oIx (ah 0) (ah 1)))
  (sIf (eOr (eUn mM (ah 2)) (eOr (aC oLt (ah 2) (eC (.int 0))) (aC oGe (ah 2) (ah 1)))) (cU 101 (ao (eC (.str (aA "each point but the mouth has a point of a lesser number below it"))) az)) bz)))))
def mI:Fn:=fnOf 1 3 jO
def nO:MS:=(aD (bN (cF mI (ao (ah 1) az)))
  (dN (ah 0) [1] "runs_to" (eUn qh (ah 1))))
def iL:Fn:=fnOf 2 2 nO
noncomputable def rC:MS:=(aD (bN (aZ 1 "check_point" fI (ah 0) (ao (ah 1) az)))
  (aD (bB 2 (dX az))
  (aD (u6 (eUn lK (ah 1)) (aD (bN (mx (ah 2) (ah 1)))
  (bB 1 (aC oIx (aW (ah 0) [1] "runs_to") (ah 1)))))
  (bT (ah 2)))))
noncomputable def jS:Fn:=fnOf 2 3 rC
noncomputable def uQ:MS:=(aD (dN (ah 0) [3] "stream" (ah 1))
  (dN (ah 0) [3] "held" jU))
noncomputable def mS:Fn:=fnOf 2 2 uQ
def oR:MS:=(aD (bB 1 (gs 3 mS (ao (gs 1 iL (ao (dX (ao (eC .non) (ao (eC (.int 0)) (ao (eC (.int 0)) az)))) az)) az)))
  (aD (bN (aZ 3 "grant" iz (ah 1) (ao (eC (.str (aA "a"))) (ao (eC (.int 1)) (ao (aC dM (eC (.int 5)) (aC gA (ah 0) (eC (.int 100)))) (ao (eC (.int 3)) az))))))
  (aD (bN (aZ 3 "grant" iz (ah 1) (ao (eC (.str (aA "b"))) (ao (eC (.int 2)) (ao (eC (.int 7)) (ao (eC (.int 1)) az))))))
  (bT (ah 1)))))
def mF:Fn:=fnOf 1 2 oR
noncomputable def sH:MS:=(aD (dN (ah 0) [4] "book" (ah 1))
  (aD (dN (ah 0) [4] "ponds" jU)
  (aD (dN (ah 0) [4] "last_day" jU)
  (aD (dN (ah 0) [4] "all_days" jU)
  (dN (ah 0) [4] "ran_out" (eC (.int 0)))))))
noncomputable def o7:Fn:=fnOf 2 2 sH
noncomputable def vg:MS:=(aD (dN (ah 0) [5] "point" (ah 1))
  (aD (dN (ah 0) [5] "size" (ah 2))
  (aD (dN (ah 0) [5] "date" (ah 3))
  (dN (ah 0) [5] "held_water" (eC (.int 0))))))
noncomputable def uq:Fn:=fnOf 4 4 vg
noncomputable def vn:MS:=(aD (sIf (aC (oIn false) (ah 1) (aW (ah 0) [4] "ponds")) (cU 104 (ao (gr [.lit (aA "there is a pond "),.rp (ah 1)]) az)) bz)
  (aD (bN (aZ 1 "check_point" fI (aZ 3 "river" fR (aW (ah 0) [4] "book") az) (ao (ah 2) az)))
  (aD (iA (aW (ah 0) [4] "ponds") (ah 1) (gs 5 uq (ao (ah 2) (ao (ah 3) (ao (ah 4) az)))))
  (bT (eUn cR (aW (ah 0) [4] "ponds"))))))
noncomputable def sg:Fn:=fnOf 5 5 vn
noncomputable def sQ:MS:=(aD (bB 2 (aZ 3 "held_right" gC (ah 0) (ao (ah 1) az)))
  (bT (f6 (ao (aW (ah 2) [2,5] "point") (ao (aW (ah 2) [2] "amount") (ao (aW (ah 2) [2,5] "date") az))))))
noncomputable def fN:Fn:=fnOf 2 3 sQ
noncomputable def Ad:MS:=(aD (iA (aW (ah 0) [4] "last_day") (ah 1) (aC dM (ku (aW (ah 0) [4] "last_day") (ah 1) (eC (.int 0))) (ah 2)))
  (iA (aW (ah 0) [4] "all_days") (ah 1) (aC dM (ku (aW (ah 0) [4] "all_days") (ah 1) (eC (.int 0))) (ah 2))))
noncomputable def vX:Fn:=fnOf 3 3 Ad
noncomputable def vh:MS:=(aD (bN (aZ 3 "right" fN (aW (ah 0) [4] "book") (ao (ah 1) az)))
  (bT (ku (aW (ah 0) [4] "last_day") (ah 1) (eC (.int 0)))))
noncomputable def qS:Fn:=fnOf 2 2 vh
noncomputable def pS:MS:=(aD (sIf (aC (oIn true) (ah 1) (aW (ah 0) [4] "ponds")) (cU 110 (ao (gr [.lit (aA "there is no pond "),.rp (ah 1)]) az)) bz)
  (bT (aC oIx (aW (ah 0) [4] "ponds") (ah 1))))
noncomputable def jh:Fn:=fnOf 2 2 pS
noncomputable def qg:MS:=(aD (bB 4 (aZ 4 "pond_called" jh (ah 0) (ao (ah 1) az)))
  (aD (bB 5 (aZ 3 "right" fN (aW (ah 0) [4] "book") (ao (ah 2) az)))
  (aD (sIf (aC (oIn true) (aC oIx (ah 5) (eC (.int 0))) (aZ 1 "way" jS (aZ 3 "river" fR (aW (ah 0) [4] "book") az) (ao (aW (ah 4) [2,5] "point") az))) (cU 111 (ao (eC (.str (aA "the right's point does not lie below the pond"))) az)) bz)
  (aD (bB 6 (aC ui (eC (.int 0)) (aC gM (aC oIx (ah 5) (eC (.int 1))) (aZ 4 "got" qS (ah 0) (ao (ah 2) az)))))
  (aD (sIf (aC oGt (ah 3) (aW (ah 4) [5] "held_water")) (cU 107 (ao (eC (.str (aA "the amount is more than what is stored"))) az)) bz)
  (aD (sIf (aC oGt (ah 3) (ah 6)) (cU 107 (ao (eC (.str (aA "the amount is more than what the right lacks"))) az)) bz)
  (aD (nG gM (ah 4) [5] "held_water" (ah 3))
  (aD (bN (aZ 4 "give" vX (ah 0) (ao (ah 2) (ao (ah 3) az))))
  (bT (aW (ah 4) [5] "held_water"))))))))))
noncomputable def ka:Fn:=fnOf 4 7 qg
noncomputable def tz:MS:=(bT (aW (aZ 4 "pond_called" jh (ah 0) (ao (ah 1) az)) [5] "held_water"))
noncomputable def oh:Fn:=fnOf 2 2 tz
def sj:MS:=(aD (bB 2 (gs 4 o7 (ao (cF mF (ao (ah 1) az)) az)))
  (aD (bN (aZ 4 "dig" sg (ah 2) (ao (eC (.str (aA "p"))) (ao (eC (.int 1)) (ao (eC (.int 9)) (ao (eC (.int 2)) az))))))
  (aD (sIf (aC oEq (ah 0) (eC (.int 9))) (bN (aZ 4 "stored" oh (ah 2) (ao (eC (.str (aA "q"))) az))) bz)
  (aD (sIf (aC oEq (ah 0) (eC (.int 10))) (bN (aZ 4 "send" ka (ah 2) (ao (eC (.str (aA "p"))) (ao (eC (.str (aA "b"))) (ao (eC (.int 0)) az))))) bz)
  (sIf (aC oEq (ah 0) (eC (.int 6))) (bN (aZ 4 "send" ka (ah 2) (ao (eC (.str (aA "p"))) (ao (eC (.str (aA "a"))) (ao (aC dM (eC (.int 1)) (aC gA (ah 1) (eC (.int 50)))) az))))) bz)))))
def kZ:Fn:=fnOf 2 3 sj
noncomputable def sM:MS:=(bT (eUn cR (aW (ah 0) [1] "runs_to")))
noncomputable def iu:Fn:=fnOf 1 1 sM
noncomputable def uc:MS:=(aD (bN (aZ 1 "check_point" fI (ah 0) (ao (ah 1) az)))
  (bT (aC oIx (aW (ah 0) [1] "runs_to") (ah 1))))
noncomputable def nJ:Fn:=fnOf 2 2 uc
def mP:MS:=(aD (sIf (aC oNe (eUn cR (ah 1)) (aZ 1 "points" iu (ah 0) az)) (cU 102 (ao (eC (.str (aA "a year has one inflow for each point"))) az)) bz)
  (gF [2] (fB (ah 1)) (sIf (eOr (aC oLt (ah 2) (eC (.int 0))) (aC oGt (ah 2) (eC (.int 1000000)))) (cU 102 (ao (eC (.str (aA "an inflow is from 0 to 1000000"))) az)) bz)))
def kT:Fn:=fnOf 2 3 mP
def uR:MS:=(aD (bN (cF kT (ao (ah 0) (ao (ah 1) az))))
  (aD (bB 3 (eG (qu (ah 1) (ah 2)) none (aC gM (ah 5) (ah 6))))
  (aD (gF [4] (pB (aC gM (aZ 1 "points" iu (ah 0) az) (eC (.int 1))) (eC (.int 0))) (mG si (ah 3) (aZ 1 "below" nJ (ah 0) (ao (ah 4) az)) (aC oIx (ah 3) (ah 4))))
  (bT (ah 3)))))
def k6:Fn:=fnOf 3 5 uR
def uC:MS:=(aD (bB 3 (cF k6 (ao (ah 0) (ao (ah 1) (ao (aC kB (dX (ao (eC (.int 0)) az)) (aZ 1 "points" iu (ah 0) az)) az)))))
  (aD (bB 4 (dX az))
  (aD (gF [5,6] (lL 2 (ah 2)) (aD (bB 7 (aZ 1 "way" jS (ah 0) (ao (ah 5) az)))
  (aD (bB 8 (aC sE (ah 6) (eUn q9 (eG (fB (ah 7)) none (aC oIx (ah 3) (ah 10))))))
  (aD (gF [9] (fB (ah 7)) (mG gM (ah 3) (ah 9) (ah 8)))
  (bN (mx (ah 4) (ah 8)))))))
  (bT (f6 (ao (ah 4) (ao (ah 3) az)))))))
def iN:Fn:=fnOf 3 10 uC
def vt:MS:=(bT (eG (fB (aZ 3 "names" jc (ah 0) az)) none (eSl (aZ 3 "right" fN (ah 0) (ao (ah 1) az)) none (some (eC (.int 2))))))
def jG:Fn:=fnOf 1 1 vt
def ou:MS:=(aD (bB 2 (aC oIx (cF iN (ao (aZ 3 "river" fR (ah 0) az) (ao (ah 1) (ao (cF jG (ao (ah 0) az)) az)))) (eC (.int 0))))
  (bT (aC ol (aZ 3 "names" jc (ah 0) az) (ah 2))))
def gE:Fn:=fnOf 2 3 ou
def ur:MS:=(bT (eG (lL 2 (cF gE (ao (ah 0) (ao (ah 1) az)))) (some (aC oLt (ah 3) (aC oIx (aZ 3 "right" fN (ah 0) (ao (ah 2) az)) (eC (.int 1))))) (ah 2)))
def pX:Fn:=fnOf 2 2 ur
def xI:MS:=(aD (bB 3 (cF pX (ao (ah 0) (ao (ah 1) az))))
  (aD (bB 4 (aC oIx (aZ 3 "right" fN (ah 0) (ao (ah 2) az)) (eC (.int 0))))
  (aD (sIf (aC (oIn true) (ah 2) (ah 3)) (cU 106 (ao (gr [.lit (aA "the right "),.rp (ah 2),.lit (aA " is not short")]) az)) bz)
  (aD hW
  (aD hW
  hW)))))
def ow:Fn:=fnOf 3 7 xI
def ym:MS:=(aD (bB 3 (cF jG (ao (ah 0) az)))
  (aD (bB 4 (yB (aZ 3 "names" jc (ah 0) az) (ah 1)))
  (aD (iA (ah 3) (ah 4) (f6 (ao (ah 2) (ao (aC oIx (aC oIx (ah 3) (ah 4)) (eC (.int 1))) az))))
  (bT (ah 3)))))
def pA:Fn:=fnOf 3 5 ym
def Aq:MS:=(aD (bN (aZ 3 "right" fN (ah 0) (ao (ah 2) az)))
  (aD (bB 4 (aZ 3 "river" fR (ah 0) az))
  (aD (bN (aZ 1 "check_point" fI (ah 4) (ao (ah 3) az)))
  (aD (bB 5 (aZ 3 "names" jc (ah 0) az))
  (aD (bB 6 (cF jG (ao (ah 0) az)))
  (aD (bB 7 (cF pA (ao (ah 0) (ao (ah 2) (ao (ah 3) az)))))
  (aD (bB 8 jU)
  (aD (gF [9] (fB (ah 1)) (aD (bB 10 (aC oIx (cF iN (ao (ah 4) (ao (ah 9) (ao (ah 6) az)))) (eC (.int 0))))
  (aD (bB 11 (aC oIx (cF iN (ao (ah 4) (ao (ah 9) (ao (ah 7) az)))) (eC (.int 0))))
  (gF [12,13,14] (oz (ah 5) (ah 10) (ah 11)) (sIf (jM (aC oNe (ah 12) (ah 2)) (aC oLt (ah 14) (ah 13))) (iA (ah 8) (ah 12) (eC (.bl true))) bz)))))
  (bT (eG (fB (ah 5)) (some (aC (oIn false) (ah 15) (ah 8))) (ah 15)))))))))))
def pQ:Fn:=fnOf 4 15 Aq
def u8:MS:=(aD (sIf (aC oGt (eUn cR (cF pQ (ao (ah 0) (ao (ah 1) (ao (ah 2) (ao (ah 3) az)))))) (eC (.int 0))) (cU 109 (ao (eC (.str (aA "another right would take less"))) az)) bz)
  (aD (bB 4 (aZ 3 "right" fN (ah 0) (ao (ah 2) az)))
  (aD (bN (aZ 3 "drop" mW (ah 0) (ao (ah 2) az)))
  (aD (bN (aZ 3 "grant" iz (ah 0) (ao (ah 2) (ao (ah 3) (ao (aC oIx (ah 4) (eC (.int 1))) (ao (aC oIx (ah 4) (eC (.int 2))) az))))))
  (bT (aC oIx (ah 4) (eC (.int 0))))))))
def qc:Fn:=fnOf 4 5 u8
def pT:MS:=(aD (sIf (eOr (aC oLt (eUn cR (ah 0)) (eC (.int 1))) (eOr (aC oGt (eUn cR (ah 0)) (eUn cR (eUn vk (ah 1)))) (lR (eUn wT (eG (v6 (ah 0)) none (aC yN (ah 3) (eC (.str (aA "0123456789"))))))))) (cU 212 (ao (eC (.str (aA "a number is written by figures, and no greater than its bound"))) az)) bz)
  (aD hW
  (aD hW
  hW)))
def qN:Fn:=fnOf 2 3 pT
def qp:MS:=(aD (bB 1 (l7 (ah 0) (eC (.str (aA " ")))))
  (aD (sIf (aC oNe (aC oIx (ah 1) (eC (.int 0))) (eC (.str (aA "river")))) (cU 212 (ao (eC (.str (aA "the first line tells the river"))) az)) bz)
  (aD (bB 2 (iR (fB (eSl (ah 1) (some (eC (.int 1))) none)) (eIf (aC oEq (ah 4) (eC (.str (aA "-")))) (eC .non) (cF qN (ao (ah 4) (ao (eC (.int 40)) az))))))
  (mL [101] 212 (bT (gs 1 iL (ao (ah 2) az)))))))
def ue:Fn:=fnOf 1 4 qp
def oj:MS:=(aD (bB 1 (l7 (ah 0) (eC (.str (aA "\n")))))
  (aD (sIf (aC oGt (eUn cR (ah 1)) (aC dM (eC (.int 1)) (eC (.int 40)))) (cU 212 (ao (eC (.str (aA "a book has at most 40 rights"))) az)) bz)
  (aD (bB 2 (gs 3 mS (ao (cF ue (ao (aC oIx (ah 1) (eC (.int 0))) az)) az)))
  (aD hW
  (aD hW
  hW)))))
def qB:Fn:=fnOf 1 4 oj
def rH:MS:=(aD (bB 2 (cF mF (ao (ah 1) az)))
  (aD (sIf (aC oEq (ah 0) (eC (.int 0))) (bN (gs 1 iL (ao (dX (ao (eC .non) (ao (aC dM (eC (.int 1)) (aC gA (ah 1) (eC (.int 9)))) az))) az))) bz)
  (aD (sIf (aC oEq (ah 0) (eC (.int 1))) (bN (cF gE (ao (ah 2) (ao (dX (ao (eC (.int 0)) (ao (eC (.int 0)) (ao (aC gM (eUn vc (eC (.int 1))) (ah 1)) az)))) az)))) bz)
  (aD (sIf (aC oEq (ah 0) (eC (.int 2))) (bN (aZ 1 "way" jS (aZ 3 "river" fR (ah 2) az) (ao (aC dM (eC (.int 3)) (ah 1)) az))) bz)
  (aD (sIf (aC oEq (ah 0) (eC (.int 3))) (bN (aZ 3 "grant" iz (ah 2) (ao (eC (.str (aA "b"))) (ao (eC (.int 0)) (ao (ah 1) (ao (eC (.int 0)) az)))))) bz)
  (aD (sIf (aC oEq (ah 0) (eC (.int 4))) (bN (aZ 3 "drop" mW (ah 2) (ao (eC (.str (aA "c"))) az))) bz)
  (aD (sIf (aC oEq (ah 0) (eC (.int 5))) (bN (cF ow (ao (ah 2) (ao (dX (ao (ah 1) (ao (eC (.int 200)) (ao (eC (.int 0)) az)))) (ao (eC (.str (aA "a"))) az))))) bz)
  (aD (sIf (aC oEq (ah 0) (eC (.int 7))) (bN (aZ 3 "unite" oH (ah 2) (ao (eC (.str (aA "a"))) (ao (eC (.str (aA "b"))) az)))) bz)
  (aD (sIf (aC oEq (ah 0) (eC (.int 8))) (bN (cF qc (ao (ah 2) (ao (dX (ao (dX (ao (eC (.int 0)) (ao (eC (.int 7)) (ao (eC (.int 7)) az)))) az)) (ao (eC (.str (aA "b"))) (ao (eC (.int 1)) az)))))) bz)
  (aD (sIf (aC oEq (ah 0) (eC (.int 11))) (bN (cF qB (ao (aC dM (eC (.str (aA "river"))) (aC nj (eC (.str (aA " "))) (aC gA (ah 1) (eC (.int 5))))) az))) bz)
  (sIf (aC (oIn false) (ah 0) (dX (ao (eC (.int 6)) (ao (eC (.int 9)) (ao (eC (.int 10)) az))))) (bN (cF kZ (ao (ah 0) (ao (ah 1) az)))) bz)))))))))))
def pN:Fn:=fnOf 2 3 rH
def rE:MS:=(aD (bB 2 (dX az))
  (aD (bB 3 (eC (.bl false)))
  (aD (mJ [100,101,102,103,104,105,106,107,108,109,110,111,212] (bN (cF pN (ao (ah 0) (ao (ah 1) az)))) (⟨[100,101,102,103,104,105,106,107,108,109,110,111,212],some 4,(aD (bB 2 (rV o4 (ao (ah 4) az)))
  (bB 3 (eUn (eE (.exn [100,101,102,103,104,105,106,107,108,109,110,111,212] [100,101,102,103,104,105,106,107,108,109,110,111,212])) (ah 4))))⟩::[]))
  (bT (jM (ah 3) (aC oEq (ah 2) (eG (jC (eC (.int 12))) none (aC oEq (ah 5) (ah 0)))))))))
def qU:Fn:=fnOf 2 5 rE
noncomputable def qQ:MS:=(aD (sIf (aC oLt (ah 1) (eUn cR (ah 0))) (bT (aC oIx (ah 0) (ah 1))) bz)
  (bT (eC (.int 0))))
noncomputable def kf:Fn:=fnOf 2 2 qQ
def pJ:MS:=(aD (bB 1 (aC gA (cF kf (ao (ah 0) (ao (eC (.int 1)) az))) (eC (.int 999983))))
  (aD (gF [2] (jC (eC (.int 12))) (sIf (lR (cF qU (ao (aC gA (aC dM (cF kf (ao (ah 0) (ao (eC (.int 0)) az))) (ah 2)) (eC (.int 12))) (ao (ah 1) az)))) (bT (eC (.bl false))) bz))
  (bT (eC (.bl true)))))
def me:Fn:=fnOf 1 3 pJ
end
end L2.Rv
namespace L2.Rv
open PySem PySem.Spec PyProof.Rows
noncomputable def top(i:Nat):aP:=PySem.Challenge.pw_riverdue_k28_each_refusal_alone.main.body.getD i (.Pass ⟨0,0,0,0⟩)
noncomputable abbrev qM:aP:=cP (top 18) 2
noncomputable abbrev qk:aP:=top 59
noncomputable abbrev rQ:aP:=cP (top 18) 8
noncomputable abbrev rj:aP:=cP (top 18) 5
noncomputable abbrev pW:aP:=cP (top 18) 9
noncomputable abbrev pO:aP:=cP (top 17) 0
noncomputable abbrev rL:aP:=cP (top 22) 2
noncomputable abbrev pY:aP:=cP (top 18) 4
noncomputable abbrev r6:aP:=cP (top 18) 1
noncomputable abbrev oE:aP:=cP (top 18) 7
noncomputable abbrev oK:aP:=top 23
noncomputable abbrev oP:aP:=cP (top 22) 0
noncomputable abbrev oM:aP:=cP (top 22) 4
noncomputable abbrev rF:aP:=cP (top 18) 0
noncomputable abbrev se:aP:=top 56
noncomputable abbrev pM:aP:=cP (top 53) 0
noncomputable abbrev pF:aP:=cP (top 52) 0
noncomputable abbrev rY:aP:=cP (top 53) 1
noncomputable abbrev qZ:aP:=cP (top 18) 3
noncomputable abbrev qD:aP:=cP (top 53) 9
noncomputable abbrev oV:aP:=cP (top 53) 5
noncomputable abbrev qJ:aP:=cP (top 53) 8
noncomputable abbrev pP:aP:=cP (top 53) 3
noncomputable abbrev qH:aP:=cP (top 53) 4
noncomputable abbrev oJ:aP:=top 57
noncomputable abbrev qj:aP:=cP (top 22) 1
noncomputable abbrev ql:aP:=cP (top 22) 3
noncomputable abbrev ss:aP:=top 24
noncomputable abbrev rG:aP:=top 25
noncomputable abbrev qv:aP:=top 41
noncomputable abbrev rX:aP:=top 42
noncomputable abbrev oI:aP:=top 43
noncomputable abbrev rW:aP:=top 45
noncomputable abbrev qO:aP:=top 46
noncomputable abbrev qW:aP:=top 49
noncomputable abbrev rZ:aP:=top 48
noncomputable abbrev rJ:aP:=top 50
noncomputable abbrev pG:aP:=top 39
noncomputable abbrev sd:aP:=top 36
noncomputable abbrev qK:aP:=top 35
noncomputable abbrev qA:aP:=top 58
noncomputable abbrev rm:aP:=top 60
noncomputable abbrev o0:aP:=top 55
noncomputable abbrev oQ:aP:=top 61
structure Adr where
 zgi:ae
 zdK:ae
 zeq:ae
 zhM:ae
 zbx:ae
 zfO:ae
 zcr:ae
 zd5:ae
 zd6:ae
 zhi:ae
 zd7:ae
 zdc:ae
 zd8:ae
 zfQ:ae
 zju:ae
 zfP:ae
 zdb:ae
 zd4:ae
 zfw:ae
 zdL:bc
 zeF:ae
 zew:bc
 zcw:ae
 zct:bc
 zgl:ae
 zgj:bc
 zcv:ae
 zcs:bc
 zcQ:ae
 zcO:bc
 zb7:ae
 zb6:bc
 zfv:ae
 zfl:bc
 zfy:ae
 zfn:bc
 zfz:ae
 zfo:bc
 zeD:ae
 zeu:bc
 zcR:ae
 zcP:bc
 zgm:ae
 zgk:bc
 zdu:ae
 zdr:bc
 zhn:ae
 zhj:bc
 zcx:ae
 zcu:bc
 zdw:ae
 zdt:bc
 zfA:ae
 zfp:bc
 zfx:ae
 zfm:bc
 zeA:ae
 zer:bc
 zfB:ae
 zfq:bc
 zb0:ae
 zbX:bc
 zeB:ae
 zes:bc
 zdv:ae
 zds:bc
 zb1:ae
 zbY:bc
 zdS:ae
 zdR:bc
 zeC:ae
 zet:bc
 zfC:ae
 zfr:bc
 zl4:ae
 zl0:bc
 zl5:ae
 zl1:bc
 zho:ae
 zhk:bc
 zl3:ae
 zlZ:bc
 zl6:ae
 zl2:bc
 zr8:ae
 zr6:bc
 zfF:ae
 zfu:bc
 zkf:ae
 zkd:bc
 zo0:ae
 zoX:bc
 zeH:ae
 zey:bc
 zfE:ae
 zft:bc
 zo1:ae
 zoY:bc
 zeG:ae
 zex:bc
 zfD:ae
 zfs:bc
 zeE:ae
 zev:bc
 zr9:ae
 zr7:bc
 tb:ae
noncomputable def Adr.cl(a:Adr):Nat->ae:=λn=>if n=999 then a.tb else if n=998 then 49 else if n=997 then 37 else if n=996 then 1 else if n=2 then a.zgi else if n=3 then a.zdK else if n=1 then a.zeq else if n=5 then a.zhM else if n=4 then a.zbx else if n=100 then a.zfO else if n=101 then a.zcr else if n=102 then a.zd5 else if n=103 then a.zd6 else if n=104 then a.zhi else if n=105 then a.zd7 else if n=106 then a.zdc else if n=107 then a.zd8 else if n=108 then a.zfQ else if n=109 then a.zju else if n=110 then a.zfP else if n=111 then a.zdb else if n=212 then a.zd4 else 0
structure Txt(K:PySem.W.Frag)(mg:Str->Option af)(a:Adr):Prop where
 zhR:mg "ValueError"=none
 ztR:mg "all"=none
 zax:mg "isinstance"=none
 zfH:mg "len"=none
 zo9:mg "list"=none
 ztS:mg "max"=none
 zsa:mg "min"=none
 ziT:mg "range"=none
 zmZ:mg "sorted"=none
 ztT:mg "str"=none
 zqr:mg "zip"=none
 zlk:∃t,mg "FIGURES"=some (.str (aA "0123456789") t)
 zgQ:∃t,mg "MOST_AMOUNT"=some (.int 1000000 t)
 zgR:∃t,mg "MOST_INFLOW"=some (.int 1000000 t)
 zeI:∃t,mg "MOST_POINTS"=some (.int 40 t)
 zgS:∃t,mg "MOST_RIGHTS"=some (.int 40 t)
 zo5:mg "Right"=some (.ref a.zgi)
 zbc:Cls K a.zgi
 zmY:Mk K a.zgi a.zcQ
 zbC:cZ K a.zgi "point"
 za6:cZ K a.zgi "amount"
 zbT:cZ K a.zgi "date"
 zo3:mg "Book"=some (.ref a.zdK)
 zah:Cls K a.zdK
 zl8:Mk K a.zdK a.zdu
 zcA:cZ K a.zdK "stream"
 zaD:cZ K a.zdK "held"
 zkh:mg "River"=some (.ref a.zeq)
 za8:Cls K a.zeq
 zh9:Mk K a.zeq a.zcR
 zba:cZ K a.zeq "runs_to"
 zqN:mg "Pond"=some (.ref a.zhM)
 zbK:Cls K a.zhM
 zo8:Mk K a.zhM a.zdw
 zbS:cZ K a.zhM "point"
 zhS:cZ K a.zhM "size"
 zca:cZ K a.zhM "date"
 zaV:cZ K a.zhM "held_water"
 zmW:mg "Office"=some (.ref a.zbx)
 zaj:Cls K a.zbx
 zln:Mk K a.zbx a.zcx
 zbB:cZ K a.zbx "book"
 za5:cZ K a.zbx "ponds"
 zbf:cZ K a.zbx "last_day"
 zbG:cZ K a.zbx "all_days"
 zeb:cZ K a.zbx "ran_out"
 zjC:mg "DueError"=some (.ref a.zfO)
 zar:cI K a.zfO
 zdd:mg "BadRiver"=some (.ref a.zcr)
 zan:cI K a.zcr
 zgU:mg "BadYear"=some (.ref a.zd5)
 zaJ:cI K a.zd5
 ziR:mg "NoPoint"=some (.ref a.zd6)
 zaK:cI K a.zd6
 zki:mg "Taken"=some (.ref a.zhi)
 zbo:cI K a.zhi
 ziS:mg "NoRight"=some (.ref a.zd7)
 zaL:cI K a.zd7
 zhq:mg "NotShort"=some (.ref a.zdc)
 zaw:cI K a.zdc
 zgV:mg "TooMuch"=some (.ref a.zd8)
 zaM:cI K a.zd8
 zgW:mg "Unlike"=some (.ref a.zfQ)
 za1:cI K a.zfQ
 zo4:mg "Harm"=some (.ref a.zju)
 zbZ:cI K a.zju
 zkg:mg "NoPond"=some (.ref a.zfP)
 za0:cI K a.zfP
 zhp:mg "NotBelow"=some (.ref a.zdb)
 zav:cI K a.zdb
 zea:mg "BadText"=some (.ref a.zd4)
 zaI:cI K a.zd4
 zez:PySem.W.excIn K a.zcr f7 fW=true
 zd9:PySem.W.excIn K a.zd4 f7 fW=true
 zhl:PySem.W.excIn K a.zd5 f7 fW=true
 zoZ:PySem.W.excIn K a.zju f7 fW=true
 zjv:PySem.W.excIn K a.zd6 f7 fW=true
 zlj:PySem.W.excIn K a.zfP f7 fW=true
 zjw:PySem.W.excIn K a.zd7 f7 fW=true
 ziM:PySem.W.excIn K a.zdb f7 fW=true
 ziN:PySem.W.excIn K a.zdc f7 fW=true
 zke:PySem.W.excIn K a.zhi f7 fW=true
 zhm:PySem.W.excIn K a.zd8 f7 fW=true
 zgP:PySem.W.excIn K a.zfQ f7 fW=true
 ziO:KTy K a.cl (.ref a.zcr) (.exn [100,101,102,103,104,105,106,107,108,109,110,111,212] [101])
 zjx:KTy K a.cl (.ref a.zd4) (.exn [100,101,102,103,104,105,106,107,108,109,110,111,212] [212])
 zjy:KTy K a.cl (.ref a.zd5) (.exn [100,101,102,103,104,105,106,107,108,109,110,111,212] [102])
 zo2:KTy K a.cl (.ref a.zju) (.exn [100,101,102,103,104,105,106,107,108,109,110,111,212] [109])
 zjz:KTy K a.cl (.ref a.zd6) (.exn [100,101,102,103,104,105,106,107,108,109,110,111,212] [103])
 zll:KTy K a.cl (.ref a.zfP) (.exn [100,101,102,103,104,105,106,107,108,109,110,111,212] [110])
 zjA:KTy K a.cl (.ref a.zd7) (.exn [100,101,102,103,104,105,106,107,108,109,110,111,212] [105])
 ziP:KTy K a.cl (.ref a.zdb) (.exn [100,101,102,103,104,105,106,107,108,109,110,111,212] [111])
 ziQ:KTy K a.cl (.ref a.zdc) (.exn [100,101,102,103,104,105,106,107,108,109,110,111,212] [106])
 zmV:KTy K a.cl (.ref a.zhi) (.exn [100,101,102,103,104,105,106,107,108,109,110,111,212] [104])
 zjB:KTy K a.cl (.ref a.zd8) (.exn [100,101,102,103,104,105,106,107,108,109,110,111,212] [107])
 zlm:KTy K a.cl (.ref a.zfQ) (.exn [100,101,102,103,104,105,106,107,108,109,110,111,212] [108])
 zgT:KTy K a.cl (.type "ValueError") (.exn [100,101,102,103,104,105,106,107,108,109,110,111,212] [100,101,102,103,104,105,106,107,108,109,110,111,212])
 ziU:∀n∈([100,101,102,103,104,105,106,107,108,109,110,111,212]:List Nat),PySem.W.subIn K (.ref (a.cl n)) (.ref a.zcr)=some (([101]:List Nat).contains n)
 ziV:∀n∈([100,101,102,103,104,105,106,107,108,109,110,111,212]:List Nat),PySem.W.subIn K (.ref (a.cl n)) (.ref a.zfO)=some (([100,101,102,103,104,105,106,107,108,109,110,111,212]:List Nat).contains n)
 zhG:Fun K "names" "Book.names" qM a.zfw a.zdL
 zcI:Binds K a.zdL ["self"] []
 zcj:Meth K a.zdK "names" a.zfw
 zen:Fun K "_law_classes" "_law_classes" qk a.zeF a.zew
 zgJ:Binds K a.zew ["e"] []
 zgY:mg "_law_classes"=some (.ref a.zeF)
 zd1:Fun K "held_right" "Book.held_right" rQ a.zcw a.zct
 zbp:Binds K a.zct ["self","name"] []
 zbd:Meth K a.zdK "held_right" a.zcw
 ziJ:Fun K "drop" "Book.drop" rj a.zgl a.zgj
 zgh:Binds K a.zgj ["self","name"] []
 zfG:Meth K a.zdK "drop" a.zgl
 zd0:Fun K "check_free" "Book.check_free" pW a.zcv a.zcs
 zdY:Binds K a.zcs ["self","name"] []
 zdM:Meth K a.zdK "check_free" a.zcv
 zeN:Fun K "__init__" "Right.__init__" pO a.zcQ a.zcO
 zeM:Binds K a.zcO ["self","point","amount","date"] []
 zdq:Fun K "check_point" "River.check_point" rL a.zb7 a.zb6
 zaQ:Binds K a.zb6 ["self","point"] []
 zaN:Meth K a.zeq "check_point" a.zb7
 zhF:Fun K "grant" "Book.grant" pY a.zfv a.zfl
 zcH:Binds K a.zfl ["self","name","point","amount","date"] []
 zci:Meth K a.zdK "grant" a.zfv
 zhI:Fun K "river" "Book.river" r6 a.zfy a.zfn
 zb9:Binds K a.zfn ["self"] []
 zbR:Meth K a.zdK "river" a.zfy
 zhJ:Fun K "unite" "Book.unite" oE a.zfz a.zfo
 zhy:Binds K a.zfo ["self","name","other"] []
 zg1:Meth K a.zdK "unite" a.zfz
 zem:Fun K "check_below" "check_below" oK a.zeD a.zeu
 zgI:Binds K a.zeu ["below"] []
 zgX:mg "check_below"=some (.ref a.zeD)
 zeO:Fun K "__init__" "River.__init__" oP a.zcR a.zcP
 zb4:Binds K a.zcP ["self","below"] []
 ziK:Fun K "way" "River.way" oM a.zgm a.zgk
 zek:Binds K a.zgk ["self","point"] []
 zdN:Meth K a.zeq "way" a.zgm
 zfe:Fun K "__init__" "Book.__init__" rF a.zdu a.zdr
 zdp:Binds K a.zdr ["self","river"] []
 zfN:Fun K "_law_book" "_law_book" se a.zhn a.zhj
 zhh:Binds K a.zhj ["cell"] []
 zhr:mg "_law_book"=some (.ref a.zhn)
 zd2:Fun K "__init__" "Office.__init__" pM a.zcx a.zcu
 zdZ:Binds K a.zcu ["self","book"] []
 zfg:Fun K "__init__" "Pond.__init__" pF a.zdw a.zdt
 zfd:Binds K a.zdt ["self","point","size","date"] []
 zhK:Fun K "dig" "Office.dig" rY a.zfA a.zfp
 zhz:Binds K a.zfp ["self","name","point","size","date"] []
 zg2:Meth K a.zbx "dig" a.zfA
 zhH:Fun K "right" "Book.right" qZ a.zfx a.zfm
 zbs:Binds K a.zfm ["self","name"] []
 zbe:Meth K a.zdK "right" a.zfx
 zgM:Fun K "give" "Office.give" qD a.zeA a.zer
 zgG:Binds K a.zer ["self","name","amount"] []
 zf8:Meth K a.zbx "give" a.zeA
 zhL:Fun K "got" "Office.got" oV a.zfB a.zfq
 zhA:Binds K a.zfq ["self","name"] []
 zg3:Meth K a.zbx "got" a.zfB
 zcV:Fun K "pond_called" "Office.pond_called" qJ a.zb0 a.zbX
 zbV:Binds K a.zbX ["self","name"] []
 zbL:Meth K a.zbx "pond_called" a.zb0
 zgN:Fun K "send" "Office.send" pP a.zeB a.zes
 zej:Binds K a.zes ["self","pond","name","amount"] []
 zdT:Meth K a.zbx "send" a.zeB
 zff:Fun K "stored" "Office.stored" qH a.zdv a.zds
 zfc:Binds K a.zds ["self","pond"] []
 zeP:Meth K a.zbx "stored" a.zdv
 zbW:Fun K "_law_office_refuses" "_law_office_refuses" oJ a.zb1 a.zbY
 zcU:Binds K a.zbY ["which","cell"] []
 zcW:mg "_law_office_refuses"=some (.ref a.zb1)
 zf7:Fun K "points" "River.points" qj a.zdS a.zdR
 zcz:Binds K a.zdR ["self"] []
 zck:Meth K a.zeq "points" a.zdS
 zgO:Fun K "below" "River.below" ql a.zeC a.zet
 zgH:Binds K a.zet ["self","point"] []
 zf9:Meth K a.zeq "below" a.zeC
 zfh:Fun K "check_year" "check_year" ss a.zfC a.zfr
 zhB:Binds K a.zfr ["river","year"] []
 zhN:mg "check_year"=some (.ref a.zfC)
 zlX:Fun K "flows" "flows" rG a.zl4 a.zl0
 zoT:Binds K a.zl0 ["river","year","taken"] []
 zo6:mg "flows"=some (.ref a.zl4)
 ziL:Fun K "serve" "serve" qv a.zl5 a.zl1
 zka:Binds K a.zl1 ["river","year","wants"] []
 zkj:mg "serve"=some (.ref a.zl5)
 zd3:Fun K "wants_of" "wants_of" rX a.zho a.zhk
 zfM:Binds K a.zhk ["book"] []
 zfR:mg "wants_of"=some (.ref a.zho)
 zkb:Fun K "dealt" "dealt" oI a.zl3 a.zlZ
 zlW:Binds K a.zlZ ["book","year"] []
 zl7:mg "dealt"=some (.ref a.zl3)
 zlY:Fun K "short" "short" rW a.zl6 a.zl2
 zoU:Binds K a.zl2 ["book","year"] []
 zo7:mg "short"=some (.ref a.zl6)
 zr5:Fun K "dry" "dry" qO a.zr8 a.zr6
 ztO:Binds K a.zr6 ["book","year","name"] []
 ztQ:mg "dry"=some (.ref a.zr8)
 zfk:Fun K "wants_with" "wants_with" qW a.zfF a.zfu
 zhE:Binds K a.zfu ["book","name","point"] []
 zhQ:mg "wants_with"=some (.ref a.zfF)
 zkc:Fun K "harmed" "harmed" rZ a.zkf a.zkd
 zmU:Binds K a.zkd ["book","years","name","point"] []
 zmX:mg "harmed"=some (.ref a.zkf)
 zoV:Fun K "move" "move" rJ a.zo0 a.zoX
 zqL:Binds K a.zoX ["book","years","name","point"] []
 zqO:mg "move"=some (.ref a.zo0)
 zep:Fun K "read_number" "read_number" pG a.zeH a.zey
 zgL:Binds K a.zey ["word","most"] []
 zg0:mg "read_number"=some (.ref a.zeH)
 zfj:Fun K "read_river" "read_river" sd a.zfE a.zft
 zhD:Binds K a.zft ["line"] []
 zhP:mg "read_river"=some (.ref a.zfE)
 zoW:Fun K "read" "read" qK a.zo1 a.zoY
 zqM:Binds K a.zoY ["text"] []
 zqP:mg "read"=some (.ref a.zo1)
 zeo:Fun K "_law_refuses" "_law_refuses" qA a.zeG a.zex
 zgK:Binds K a.zex ["which","cell"] []
 zgZ:mg "_law_refuses"=some (.ref a.zeG)
 zfi:Fun K "_law_caught" "_law_caught" rm a.zfD a.zfs
 zhC:Binds K a.zfs ["which","cell"] []
 zhO:mg "_law_caught"=some (.ref a.zfD)
 zc9:Fun K "_law_cell_at" "_law_cell_at" o0 a.zeE a.zev
 zel:Binds K a.zev ["script","k"] []
 zeJ:mg "_law_cell_at"=some (.ref a.zeE)
 ztP:Fun K "law" "law" oQ a.zr9 a.zr7
 zuB:Binds K a.zr7 ["script"] []
 zuC:mg "law"=some (.ref a.zr9)
 lam:t7 K mg a.cl a.zdL.code
end L2.Rv
namespace L2.Rv
noncomputable section
open PySem PySem.Spec PyProof.Rows
noncomputable abbrev kS(x:String)(t:Nat):af:=.str (aA x) t
noncomputable abbrev kE(P:Params)(x:String)(t:Nat)(v:af):DictEntry:=⟨PyData.keyHash P (aA x),kS x t,v⟩
noncomputable abbrev KQc:Array af:=#[(kS "names" 470),(kS "Book.names" 471),(kS "/claim/cut.py" 472),(.int 48 0),(.int 1 0),(.int 0 0),(.int 0 0),(.int 3 0),(.ref 221),(.bool true),(.int 181 0),(.ref 222),.none,(.ref 223),(.ref 224),(.ref 225),(.int 475 0),(.int 48 0),(kS "/claim/cut.py" 476)]
noncomputable abbrev fO(n q:Str)(s:aP)(m:String)(k:Nat)(c:ae):bc:=PySem.W.fnOf n q (mv s) (iC s) (bg s) .none .none .none (kS m k) none (.ref c) .none
noncomputable abbrev kF(n q:Str)(s:aP)(m:String)(k:Nat)(c:ae):aB:=⟨.type "function",none,.func ⟨n,q,mv s,.stmts (iC s),bg s,3,[],.none,.none,.none,kS m k,none,.ref c,.none,0⟩,#[]⟩
noncomputable abbrev kC(n q f:String)(t l g v a x b c d e i:Nat):aB:=⟨.type "code",none,.fields #[kS n t,kS q (t+1),kS f (t+2),.int l 0,.int g 0,.int 0 0,.int 0 0,.int v 0,.ref a,.bool true,.int x 0,.ref b,.none,.ref c,.ref d,.ref e,.int i 0,.int l 0,kS f (i+1)],#[]⟩
theorem fm{K:PySem.W.Frag}{n q:Str}{m:String}{s:aP}{k:Nat}{f c:ae}(l:K.lookup f=some ⟨.type "function",none,.func (fO n q s m k c),#[]⟩:=by kernel_rfl)(x:PySem.W.codeIn K (.ref c) q=true:=by kernel_rfl)(y:PySem.W.keepIn K (.ref f)=true:=by kernel_rfl):Fun K n q s f (fO n q s m k c):=EE l x y
theorem nA{K:PySem.W.Frag}{C:ae}{f:Str}(h:PySem.W.findIn K (.ref C) f=some none:=by kernel_rfl):cZ K C f:=h
theorem nN{K:PySem.W.Frag}{h:aH}{mg:Str->Option af}{x:Str}(X:K.In h)(G:h.Ns dz mg)(e:PySem.W.nsIn K dz x=some none:=by kernel_rfl):mg x=none:=PySem.W.mg_none_of X G e
theorem nR{K:PySem.W.Frag}{h:aH}{mg:Str->Option af}{x:Str}{v:af}(X:K.In h)(G:h.Ns dz mg)(e:PySem.W.nsIn K dz x=some (some v):=by kernel_rfl):mg x=some v:=PySem.W.mg_of X G e
theorem nC{K:PySem.W.Frag}{C:ae}(a:PySem.W.plainGet K C Str.empty=true:=by kernel_rfl)(b:PySem.W.hasDictIn K C=true:=by kernel_rfl)(c:PySem.W.plainOver K C=true:=by kernel_rfl)(d:PySem.W.findIn K (.ref C) "__setattr__"=some (some (.builtin "object.__setattr__")):=by kernel_rfl):Cls K C:=⟨a,b,c,d⟩
theorem nK{K:PySem.W.Frag}{C f:ae}(a:PySem.W.makesIn K C=true:=by kernel_rfl)(b:PySem.W.findIn K (.ref C) "__init__"=some (some (.ref f)):=by kernel_rfl)(c:PySem.W.isFn K (.ref f)=true:=by kernel_rfl)(d:PySem.W.keepIn K (.ref C)=true:=by kernel_rfl):Mk K C f:=⟨a,b,c,d⟩
theorem nM{K:PySem.W.Frag}{C f:ae}{m:Str}(a:PySem.W.findIn K (.ref C) m=some (some (.ref f)):=by kernel_rfl)(b:PySem.W.isFn K (.ref f)=true:=by kernel_rfl)(c:PySem.W.keepIn K (.ref f)=true:=by kernel_rfl):Meth K C m f:=⟨a,b,c⟩
theorem nX{K:PySem.W.Frag}{C:ae}(s:PySem.W.specialIn K (.builtin "object.__class__") "__get__"=some (some (.builtin "getset_descriptor.__get__")))(t:PySem.W.takesIn K (.builtin "object.__class__")=some true)(a:PySem.W.findIn K (.ref C) "__getattribute__"=some (some (.builtin "BaseException.__getattribute__")):=by kernel_rfl)(b:PySem.W.findIn K (.ref C) "__getattr__"=some none:=by kernel_rfl)(c:PySem.W.subIn K (.ref C) (.type "BaseException")=some true:=by kernel_rfl)(d:PySem.W.findIn K (.ref C) "__class__"=some (some (.builtin "object.__class__")):=by kernel_rfl)(e:PySem.W.mroIn K C (.type "object")=some true:=by kernel_rfl)(f:PySem.W.isClsIn K C=true:=by kernel_rfl)(g:PySem.W.typeIn K (.ref C)=some (.type "type"):=by kernel_rfl):cI K C:=⟨a,b,c,Ex f d s t,e,f,g⟩
noncomputable def KQ0(P:Params):PySem.W.Frag:=[(2,⟨.none,none,(.dict #[] 0),#[]⟩),
 (3,⟨(.type "dict"),none,(.dict #[kE P "__name__" 165 (kS "law_riverdue_k28_each_refusal_alone" 959),kE P "__doc__" 166 .none,kE P "__package__" 167 .none,kE P "__loader__" 168 (.builtin "__main__.__loader__#opaque"),kE P "__spec__" 169 .none,kE P "__annotations__" 170 (.ref 6),kE P "__builtins__" 171 (.ref 4),kE P "__file__" 173 (kS "/claim/cut.py" 172),kE P "__cached__" 174 .none,kE P "_wall" 193 (.ref 21),kE P "DueError" 213 (.ref 31),kE P "BadRiver" 229 (.ref 44),kE P "BadYear" 245 (.ref 56),kE P "NoPoint" 261 (.ref 68),kE P "Taken" 277 (.ref 80),kE P "NoRight" 293 (.ref 92),kE P "NotShort" 309 (.ref 104),kE P "TooMuch" 325 (.ref 116),kE P "Unlike" 341 (.ref 128),kE P "Harm" 357 (.ref 140),kE P "NoPond" 373 (.ref 152),kE P "NotBelow" 389 (.ref 164),kE P "BadText" 405 (.ref 176),kE P "MOST_AMOUNT" 409 (.int 1000000 408),kE P "Right" 442 (.ref 195),kE P "Book" 552 (.ref 279),kE P "MOST_POINTS" 556 (.int 40 555),kE P "MOST_INFLOW" 558 (.int 1000000 557),kE P "River" 627 (.ref 335),kE P "check_below" 636 (.ref 346),kE P "check_year" 645 (.ref 353),kE P "flows" 651 (.ref 358),kE P "MOST_RIGHTS" 655 (.int 40 654),kE P "MOST_LETTERS" 657 (.int 8 656),kE P "MOST_DATE" 659 (.int 9999 658),kE P "LETTERS" 661 (kS "abcdefghijklmnopqrstuvwxyz" 660),kE P "FIGURES" 663 (kS "0123456789" 662),kE P "shown" 669 (.ref 363),kE P "river_line" 675 (.ref 368),kE P "right_line" 687 (.ref 375),kE P "read" 697 (.ref 382),kE P "read_river" 703 (.ref 387),kE P "read_right" 717 (.ref 394),kE P "read_name" 723 (.ref 399),kE P "read_number" 729 (.ref 404),kE P "serve" 737 (.ref 409),kE P "wants_of" 743 (.ref 414),kE P "dealt" 752 (.ref 421),kE P "left" 760 (.ref 428),kE P "short" 766 (.ref 433),kE P "dry" 772 (.ref 438),kE P "harmed" 780 (.ref 443),kE P "wants_with" 791 (.ref 450),kE P "move" 802 (.ref 457),kE P "Pond" 838 (.ref 474),kE P "Office" 958 (.ref 565),kE P "_law_cell_at" 968 (.ref 576),kE P "_law_book" 976 (.ref 583),kE P "_law_office_refuses" 985 (.ref 590),kE P "_law_refuses" 994 (.ref 597),kE P "_law_classes" 1002 (.ref 604),kE P "_law_caught" 1008 (.ref 609),kE P "law" 1017 (.ref 616)] 63),#[]⟩),
 (20,kC "_wall" "_wall" "/claim/cut.py" 187 1 1 3 15 181 16 17 18 19 191),
 (21,kF "_wall" "_wall" (top 0) "__main__" 164 20),
 (30,⟨(.type "dict"),none,(.dict #[kE P "__module__" 203 (kS "riverdue.errors" 194),kE P "__firstlineno__" 207 (.int 5 206),kE P "__static_attributes__" 208 (.ref 29),kE P "__weakref__" 210 (.ref 32),kE P "__doc__" 211 .none] 3),#[]⟩),
 (31,⟨(.type "type"),none,(.cls ⟨"DueError",[(.type "ValueError")],[(.ref 31),(.type "ValueError"),(.type "Exception"),(.type "BaseException"),(.type "object")],30,"DueError",true,[],[(.ref 44),(.ref 56),(.ref 68),(.ref 80),(.ref 92),(.ref 104),(.ref 116),(.ref 128),(.ref 140),(.ref 152),(.ref 164),(.ref 176)],false,none,false⟩),#[(some (.ref 22)),none,(some (kS "DueError" 196)),(some (kS "DueError" 204)),(some (.builtin "ValueError.__new__")),(some (.bool true))]⟩),
 (32,⟨(.type "getset_descriptor"),none,(.fields #[(kS "__weakref__" 209),(.ref 31),(.builtin "ExceptionGroup.__weakref__"),.none]),#[]⟩),
 (43,⟨(.type "dict"),none,(.dict #[kE P "__module__" 221 (kS "riverdue.errors" 194),kE P "__firstlineno__" 225 (.int 7 224),kE P "__static_attributes__" 226 (.ref 42),kE P "__doc__" 227 .none] 2),#[]⟩),
 (44,⟨(.type "type"),none,(.cls ⟨"BadRiver",[(.ref 31)],[(.ref 44),(.ref 31),(.type "ValueError"),(.type "Exception"),(.type "BaseException"),(.type "object")],43,"BadRiver",true,[],[],false,none,false⟩),#[(some (.ref 35)),none,(some (kS "BadRiver" 214)),(some (kS "BadRiver" 222)),(some (.builtin "ValueError.__new__")),(some (.bool true))]⟩),
 (55,⟨(.type "dict"),none,(.dict #[kE P "__module__" 237 (kS "riverdue.errors" 194),kE P "__firstlineno__" 241 (.int 9 240),kE P "__static_attributes__" 242 (.ref 54),kE P "__doc__" 243 .none] 2),#[]⟩),
 (56,⟨(.type "type"),none,(.cls ⟨"BadYear",[(.ref 31)],[(.ref 56),(.ref 31),(.type "ValueError"),(.type "Exception"),(.type "BaseException"),(.type "object")],55,"BadYear",true,[],[],false,none,false⟩),#[(some (.ref 47)),none,(some (kS "BadYear" 230)),(some (kS "BadYear" 238)),(some (.builtin "ValueError.__new__")),(some (.bool true))]⟩),
 (67,⟨(.type "dict"),none,(.dict #[kE P "__module__" 253 (kS "riverdue.errors" 194),kE P "__firstlineno__" 257 (.int 11 256),kE P "__static_attributes__" 258 (.ref 66),kE P "__doc__" 259 .none] 2),#[]⟩)]
noncomputable def KQ1(P:Params):PySem.W.Frag:=[(68,⟨(.type "type"),none,(.cls ⟨"NoPoint",[(.ref 31)],[(.ref 68),(.ref 31),(.type "ValueError"),(.type "Exception"),(.type "BaseException"),(.type "object")],67,"NoPoint",true,[],[],false,none,false⟩),#[(some (.ref 59)),none,(some (kS "NoPoint" 246)),(some (kS "NoPoint" 254)),(some (.builtin "ValueError.__new__")),(some (.bool true))]⟩),
 (79,⟨(.type "dict"),none,(.dict #[kE P "__module__" 269 (kS "riverdue.errors" 194),kE P "__firstlineno__" 273 (.int 13 272),kE P "__static_attributes__" 274 (.ref 78),kE P "__doc__" 275 .none] 2),#[]⟩),
 (80,⟨(.type "type"),none,(.cls ⟨"Taken",[(.ref 31)],[(.ref 80),(.ref 31),(.type "ValueError"),(.type "Exception"),(.type "BaseException"),(.type "object")],79,"Taken",true,[],[],false,none,false⟩),#[(some (.ref 71)),none,(some (kS "Taken" 262)),(some (kS "Taken" 270)),(some (.builtin "ValueError.__new__")),(some (.bool true))]⟩),
 (91,⟨(.type "dict"),none,(.dict #[kE P "__module__" 285 (kS "riverdue.errors" 194),kE P "__firstlineno__" 289 (.int 15 288),kE P "__static_attributes__" 290 (.ref 90),kE P "__doc__" 291 .none] 2),#[]⟩),
 (92,⟨(.type "type"),none,(.cls ⟨"NoRight",[(.ref 31)],[(.ref 92),(.ref 31),(.type "ValueError"),(.type "Exception"),(.type "BaseException"),(.type "object")],91,"NoRight",true,[],[],false,none,false⟩),#[(some (.ref 83)),none,(some (kS "NoRight" 278)),(some (kS "NoRight" 286)),(some (.builtin "ValueError.__new__")),(some (.bool true))]⟩),
 (103,⟨(.type "dict"),none,(.dict #[kE P "__module__" 301 (kS "riverdue.errors" 194),kE P "__firstlineno__" 305 (.int 17 304),kE P "__static_attributes__" 306 (.ref 102),kE P "__doc__" 307 .none] 2),#[]⟩),
 (104,⟨(.type "type"),none,(.cls ⟨"NotShort",[(.ref 31)],[(.ref 104),(.ref 31),(.type "ValueError"),(.type "Exception"),(.type "BaseException"),(.type "object")],103,"NotShort",true,[],[],false,none,false⟩),#[(some (.ref 95)),none,(some (kS "NotShort" 294)),(some (kS "NotShort" 302)),(some (.builtin "ValueError.__new__")),(some (.bool true))]⟩),
 (115,⟨(.type "dict"),none,(.dict #[kE P "__module__" 317 (kS "riverdue.errors" 194),kE P "__firstlineno__" 321 (.int 19 320),kE P "__static_attributes__" 322 (.ref 114),kE P "__doc__" 323 .none] 2),#[]⟩),
 (116,⟨(.type "type"),none,(.cls ⟨"TooMuch",[(.ref 31)],[(.ref 116),(.ref 31),(.type "ValueError"),(.type "Exception"),(.type "BaseException"),(.type "object")],115,"TooMuch",true,[],[],false,none,false⟩),#[(some (.ref 107)),none,(some (kS "TooMuch" 310)),(some (kS "TooMuch" 318)),(some (.builtin "ValueError.__new__")),(some (.bool true))]⟩),
 (127,⟨(.type "dict"),none,(.dict #[kE P "__module__" 333 (kS "riverdue.errors" 194),kE P "__firstlineno__" 337 (.int 21 336),kE P "__static_attributes__" 338 (.ref 126),kE P "__doc__" 339 .none] 2),#[]⟩),
 (128,⟨(.type "type"),none,(.cls ⟨"Unlike",[(.ref 31)],[(.ref 128),(.ref 31),(.type "ValueError"),(.type "Exception"),(.type "BaseException"),(.type "object")],127,"Unlike",true,[],[],false,none,false⟩),#[(some (.ref 119)),none,(some (kS "Unlike" 326)),(some (kS "Unlike" 334)),(some (.builtin "ValueError.__new__")),(some (.bool true))]⟩),
 (139,⟨(.type "dict"),none,(.dict #[kE P "__module__" 349 (kS "riverdue.errors" 194),kE P "__firstlineno__" 353 (.int 23 352),kE P "__static_attributes__" 354 (.ref 138),kE P "__doc__" 355 .none] 2),#[]⟩)]
noncomputable def KQ2(P:Params):PySem.W.Frag:=[(140,⟨(.type "type"),none,(.cls ⟨"Harm",[(.ref 31)],[(.ref 140),(.ref 31),(.type "ValueError"),(.type "Exception"),(.type "BaseException"),(.type "object")],139,"Harm",true,[],[],false,none,false⟩),#[(some (.ref 131)),none,(some (kS "Harm" 342)),(some (kS "Harm" 350)),(some (.builtin "ValueError.__new__")),(some (.bool true))]⟩),
 (151,⟨(.type "dict"),none,(.dict #[kE P "__module__" 365 (kS "riverdue.errors" 194),kE P "__firstlineno__" 369 (.int 25 368),kE P "__static_attributes__" 370 (.ref 150),kE P "__doc__" 371 .none] 2),#[]⟩),
 (152,⟨(.type "type"),none,(.cls ⟨"NoPond",[(.ref 31)],[(.ref 152),(.ref 31),(.type "ValueError"),(.type "Exception"),(.type "BaseException"),(.type "object")],151,"NoPond",true,[],[],false,none,false⟩),#[(some (.ref 143)),none,(some (kS "NoPond" 358)),(some (kS "NoPond" 366)),(some (.builtin "ValueError.__new__")),(some (.bool true))]⟩),
 (163,⟨(.type "dict"),none,(.dict #[kE P "__module__" 381 (kS "riverdue.errors" 194),kE P "__firstlineno__" 385 (.int 27 384),kE P "__static_attributes__" 386 (.ref 162),kE P "__doc__" 387 .none] 2),#[]⟩),
 (164,⟨(.type "type"),none,(.cls ⟨"NotBelow",[(.ref 31)],[(.ref 164),(.ref 31),(.type "ValueError"),(.type "Exception"),(.type "BaseException"),(.type "object")],163,"NotBelow",true,[],[],false,none,false⟩),#[(some (.ref 155)),none,(some (kS "NotBelow" 374)),(some (kS "NotBelow" 382)),(some (.builtin "ValueError.__new__")),(some (.bool true))]⟩),
 (175,⟨(.type "dict"),none,(.dict #[kE P "__module__" 397 (kS "riverdue.errors" 194),kE P "__firstlineno__" 401 (.int 29 400),kE P "__static_attributes__" 402 (.ref 174),kE P "__doc__" 403 .none] 2),#[]⟩),
 (176,⟨(.type "type"),none,(.cls ⟨"BadText",[(.ref 31)],[(.ref 176),(.ref 31),(.type "ValueError"),(.type "Exception"),(.type "BaseException"),(.type "object")],175,"BadText",true,[],[],false,none,false⟩),#[(some (.ref 167)),none,(some (kS "BadText" 390)),(some (kS "BadText" 398)),(some (.builtin "ValueError.__new__")),(some (.bool true))]⟩),
 (191,kC "__init__" "Right.__init__" "/claim/cut.py" 422 35 4 3 186 181 187 188 189 190 429),
 (192,kF "__init__" "Right.__init__" pO "riverdue.rights" 406 191),
 (194,⟨(.type "dict"),none,(.dict #[kE P "__module__" 417 (kS "riverdue.rights" 406),kE P "__firstlineno__" 421 (.int 33 420),kE P "__init__" 431 (.ref 192),kE P "__static_attributes__" 435 (.ref 193),kE P "__dict__" 437 (.ref 196),kE P "__weakref__" 439 (.ref 197),kE P "__doc__" 440 .none] 4),#[]⟩),
 (195,⟨(.type "type"),none,(.cls ⟨"Right",[(.type "object")],[(.ref 195),(.type "object")],194,"Right",true,[],[],false,none,false⟩),#[none,none,(some (kS "Right" 410)),(some (kS "Right" 418)),(some (.builtin "object.__new__")),(some (.bool true))]⟩),
 (196,⟨(.type "getset_descriptor"),none,(.fields #[(kS "__dict__" 436),(.ref 195),(.builtin "function.__dict__"),(.builtin "function.__dict__#set")]),#[]⟩)]
noncomputable def KQ3(P:Params):PySem.W.Frag:=[(197,⟨(.type "getset_descriptor"),none,(.fields #[(kS "__weakref__" 438),(.ref 195),(.builtin "ExceptionGroup.__weakref__"),.none]),#[]⟩),
 (212,kC "__init__" "Book.__init__" "/claim/cut.py" 455 41 2 3 207 181 208 209 210 211 460),
 (213,kF "__init__" "Book.__init__" rF "riverdue.rights" 406 212),
 (219,kC "river" "Book.river" "/claim/cut.py" 463 45 1 3 214 181 215 216 217 218 467),
 (220,kF "river" "Book.river" r6 "riverdue.rights" 406 219),
 (226,kC "names" "Book.names" "/claim/cut.py" 470 48 1 3 221 181 222 223 224 225 475),
 (227,kF "names" "Book.names" qM "riverdue.rights" 406 226),
 (233,kC "right" "Book.right" "/claim/cut.py" 478 51 2 3 228 181 229 230 231 232 484),
 (234,kF "right" "Book.right" qZ "riverdue.rights" 406 233),
 (240,kC "grant" "Book.grant" "/claim/cut.py" 487 55 5 3 235 181 236 237 238 239 495),
 (241,kF "grant" "Book.grant" pY "riverdue.rights" 406 240),
 (247,kC "drop" "Book.drop" "/claim/cut.py" 498 61 2 3 242 181 243 244 245 246 503)]
noncomputable def KQ4(P:Params):PySem.W.Frag:=[(248,kF "drop" "Book.drop" rj "riverdue.rights" 406 247),
 (254,kC "part" "Book.part" "/claim/cut.py" 506 66 4 3 249 181 250 251 252 253 513),
 (255,kF "part" "Book.part" (cP (top 18) 6) "riverdue.rights" 406 254),
 (261,kC "unite" "Book.unite" "/claim/cut.py" 516 69 3 3 256 181 257 258 259 260 524),
 (262,kF "unite" "Book.unite" oE "riverdue.rights" 406 261),
 (268,kC "held_right" "Book.held_right" "/claim/cut.py" 527 82 2 3 263 181 264 265 266 267 532),
 (269,kF "held_right" "Book.held_right" rQ "riverdue.rights" 406 268),
 (275,kC "check_free" "Book.check_free" "/claim/cut.py" 535 87 2 3 270 181 271 272 273 274 540),
 (276,kF "check_free" "Book.check_free" pW "riverdue.rights" 406 275),
 (278,⟨(.type "dict"),none,(.dict #[kE P "__module__" 450 (kS "riverdue.rights" 406),kE P "__firstlineno__" 454 (.int 39 453),kE P "__init__" 462 (.ref 213),kE P "river" 469 (.ref 220),kE P "names" 477 (.ref 227),kE P "right" 486 (.ref 234),kE P "grant" 497 (.ref 241),kE P "drop" 505 (.ref 248),kE P "part" 515 (.ref 255),kE P "unite" 526 (.ref 262),kE P "held_right" 534 (.ref 269),kE P "check_free" 542 (.ref 276),kE P "__static_attributes__" 545 (.ref 277),kE P "__dict__" 547 (.ref 280),kE P "__weakref__" 549 (.ref 281),kE P "__doc__" 550 .none] 4),#[]⟩),
 (279,⟨(.type "type"),none,(.cls ⟨"Book",[(.type "object")],[(.ref 279),(.type "object")],278,"Book",true,[],[],false,none,false⟩),#[none,none,(some (kS "Book" 443)),(some (kS "Book" 451)),(some (.builtin "object.__new__")),(some (.bool true))]⟩),
 (280,⟨(.type "getset_descriptor"),none,(.fields #[(kS "__dict__" 546),(.ref 279),(.builtin "function.__dict__"),(.builtin "function.__dict__#set")]),#[]⟩)]
noncomputable def KQ5(P:Params):PySem.W.Frag:=[(281,⟨(.type "getset_descriptor"),none,(.fields #[(kS "__weakref__" 548),(.ref 279),(.builtin "ExceptionGroup.__weakref__"),.none]),#[]⟩),
 (296,kC "__init__" "River.__init__" "/claim/cut.py" 571 95 2 3 291 181 292 293 294 295 576),
 (297,kF "__init__" "River.__init__" oP "riverdue.river" 553 296),
 (303,kC "points" "River.points" "/claim/cut.py" 579 99 1 3 298 181 299 300 301 302 583),
 (304,kF "points" "River.points" qj "riverdue.river" 553 303),
 (310,kC "check_point" "River.check_point" "/claim/cut.py" 586 102 2 3 305 181 306 307 308 309 591),
 (311,kF "check_point" "River.check_point" rL "riverdue.river" 553 310),
 (317,kC "below" "River.below" "/claim/cut.py" 594 106 2 3 312 181 313 314 315 316 599),
 (318,kF "below" "River.below" ql "riverdue.river" 553 317),
 (324,kC "way" "River.way" "/claim/cut.py" 602 110 2 3 319 181 320 321 322 323 608),
 (325,kF "way" "River.way" oM "riverdue.river" 553 324),
 (331,kC "above" "River.above" "/claim/cut.py" 611 118 2 3 326 181 327 328 329 330 616)]
noncomputable def KQ6(P:Params):PySem.W.Frag:=[(332,kF "above" "River.above" (cP (top 22) 5) "riverdue.river" 553 331),
 (334,⟨(.type "dict"),none,(.dict #[kE P "__module__" 566 (kS "riverdue.river" 553),kE P "__firstlineno__" 570 (.int 93 569),kE P "__init__" 578 (.ref 297),kE P "points" 585 (.ref 304),kE P "check_point" 593 (.ref 311),kE P "below" 601 (.ref 318),kE P "way" 610 (.ref 325),kE P "above" 618 (.ref 332),kE P "__static_attributes__" 620 (.ref 333),kE P "__dict__" 622 (.ref 336),kE P "__weakref__" 624 (.ref 337),kE P "__doc__" 625 .none] 4),#[]⟩),
 (335,⟨(.type "type"),none,(.cls ⟨"River",[(.type "object")],[(.ref 335),(.type "object")],334,"River",true,[],[],false,none,false⟩),#[none,none,(some (kS "River" 559)),(some (kS "River" 567)),(some (.builtin "object.__new__")),(some (.bool true))]⟩),
 (336,⟨(.type "getset_descriptor"),none,(.fields #[(kS "__dict__" 621),(.ref 335),(.builtin "function.__dict__"),(.builtin "function.__dict__#set")]),#[]⟩),
 (337,⟨(.type "getset_descriptor"),none,(.fields #[(kS "__weakref__" 623),(.ref 335),(.builtin "ExceptionGroup.__weakref__"),.none]),#[]⟩),
 (345,kC "check_below" "check_below" "/claim/cut.py" 628 120 1 3 340 181 341 342 343 344 634),
 (346,kF "check_below" "check_below" oK "riverdue.river" 553 345),
 (352,kC "check_year" "check_year" "/claim/cut.py" 637 129 2 3 347 181 348 349 350 351 643),
 (353,kF "check_year" "check_year" ss "riverdue.river" 553 352),
 (357,⟨(.type "code"),none,(.fields #[(kS "flows" 646),(kS "flows" 647),(kS "/claim/cut.py" 648),(.int 135 0),(.int 3 0),(.int 0 0),(.int 0 0),(.int 3 0),(.ref 354),(.bool true),(.int 181 0),(.ref 355),.none,.none,.none,(.ref 356),(.int 649 0),(.int 135 0),(kS "/claim/cut.py" 650)]),#[]⟩),
 (358,kF "flows" "flows" rG "riverdue.river" 553 357),
 (362,⟨(.type "code"),none,(.fields #[(kS "shown" 664),(kS "shown" 665),(kS "/claim/cut.py" 666),(.int 147 0),(.int 1 0),(.int 0 0),(.int 0 0),(.int 3 0),(.ref 359),(.bool true),(.int 181 0),(.ref 360),.none,.none,.none,(.ref 361),(.int 667 0),(.int 147 0),(kS "/claim/cut.py" 668)]),#[]⟩)]
noncomputable def KQ7(P:Params):PySem.W.Frag:=[(363,kF "shown" "shown" (top 32) "riverdue.notes" 652 362),
 (367,⟨(.type "code"),none,(.fields #[(kS "river_line" 670),(kS "river_line" 671),(kS "/claim/cut.py" 672),(.int 150 0),(.int 1 0),(.int 0 0),(.int 0 0),(.int 3 0),(.ref 364),(.bool true),(.int 181 0),(.ref 365),.none,.none,.none,(.ref 366),(.int 673 0),(.int 150 0),(kS "/claim/cut.py" 674)]),#[]⟩),
 (368,kF "river_line" "river_line" (top 33) "riverdue.notes" 652 367),
 (374,kC "right_line" "right_line" "/claim/cut.py" 676 153 2 3 369 181 370 371 372 373 685),
 (375,kF "right_line" "right_line" (top 34) "riverdue.notes" 652 374),
 (381,kC "read" "read" "/claim/cut.py" 688 159 1 3 376 181 377 378 379 380 695),
 (382,kF "read" "read" qK "riverdue.notes" 652 381),
 (386,⟨(.type "code"),none,(.fields #[(kS "read_river" 698),(kS "read_river" 699),(kS "/claim/cut.py" 700),(.int 169 0),(.int 1 0),(.int 0 0),(.int 0 0),(.int 3 0),(.ref 383),(.bool true),(.int 181 0),(.ref 384),.none,.none,.none,(.ref 385),(.int 701 0),(.int 169 0),(kS "/claim/cut.py" 702)]),#[]⟩),
 (387,kF "read_river" "read_river" sd "riverdue.notes" 652 386),
 (393,kC "read_right" "read_right" "/claim/cut.py" 704 178 2 3 388 181 389 390 391 392 715),
 (394,kF "read_right" "read_right" (top 37) "riverdue.notes" 652 393),
 (398,⟨(.type "code"),none,(.fields #[(kS "read_name" 718),(kS "read_name" 719),(kS "/claim/cut.py" 720),(.int 190 0),(.int 1 0),(.int 0 0),(.int 0 0),(.int 3 0),(.ref 395),(.bool true),(.int 181 0),(.ref 396),.none,.none,.none,(.ref 397),(.int 721 0),(.int 190 0),(kS "/claim/cut.py" 722)]),#[]⟩)]
noncomputable def KQ8(P:Params):PySem.W.Frag:=[(399,kF "read_name" "read_name" (top 38) "riverdue.notes" 652 398),
 (403,⟨(.type "code"),none,(.fields #[(kS "read_number" 724),(kS "read_number" 725),(kS "/claim/cut.py" 726),(.int 194 0),(.int 2 0),(.int 0 0),(.int 0 0),(.int 3 0),(.ref 400),(.bool true),(.int 181 0),(.ref 401),.none,.none,.none,(.ref 402),(.int 727 0),(.int 194 0),(kS "/claim/cut.py" 728)]),#[]⟩),
 (404,kF "read_number" "read_number" pG "riverdue.notes" 652 403),
 (408,⟨(.type "code"),none,(.fields #[(kS "serve" 732),(kS "serve" 733),(kS "/claim/cut.py" 734),(.int 202 0),(.int 3 0),(.int 0 0),(.int 0 0),(.int 3 0),(.ref 405),(.bool true),(.int 181 0),(.ref 406),.none,.none,.none,(.ref 407),(.int 735 0),(.int 202 0),(kS "/claim/cut.py" 736)]),#[]⟩),
 (409,kF "serve" "serve" qv "riverdue.dealing" 730 408),
 (413,⟨(.type "code"),none,(.fields #[(kS "wants_of" 738),(kS "wants_of" 739),(kS "/claim/cut.py" 740),(.int 212 0),(.int 1 0),(.int 0 0),(.int 0 0),(.int 3 0),(.ref 410),(.bool true),(.int 181 0),(.ref 411),.none,.none,.none,(.ref 412),(.int 741 0),(.int 212 0),(kS "/claim/cut.py" 742)]),#[]⟩),
 (414,kF "wants_of" "wants_of" rX "riverdue.dealing" 730 413),
 (420,kC "dealt" "dealt" "/claim/cut.py" 744 214 2 3 415 181 416 417 418 419 750),
 (421,kF "dealt" "dealt" oI "riverdue.dealing" 730 420),
 (427,kC "left" "left" "/claim/cut.py" 753 217 2 3 422 181 423 424 425 426 758),
 (428,kF "left" "left" (top 44) "riverdue.dealing" 730 427),
 (432,⟨(.type "code"),none,(.fields #[(kS "short" 761),(kS "short" 762),(kS "/claim/cut.py" 763),(.int 219 0),(.int 2 0),(.int 0 0),(.int 0 0),(.int 3 0),(.ref 429),(.bool true),(.int 181 0),(.ref 430),.none,.none,.none,(.ref 431),(.int 764 0),(.int 219 0),(kS "/claim/cut.py" 765)]),#[]⟩)]
noncomputable def KQ9(P:Params):PySem.W.Frag:=[(433,kF "short" "short" rW "riverdue.dealing" 730 432),
 (437,⟨(.type "code"),none,(.fields #[(kS "dry" 767),(kS "dry" 768),(kS "/claim/cut.py" 769),(.int 221 0),(.int 3 0),(.int 0 0),(.int 0 0),(.int 3 0),(.ref 434),(.bool true),(.int 181 0),(.ref 435),.none,.none,.none,(.ref 436),(.int 770 0),(.int 221 0),(kS "/claim/cut.py" 771)]),#[]⟩),
 (438,kF "dry" "dry" qO "riverdue.dealing" 730 437),
 (442,⟨(.type "code"),none,(.fields #[(kS "harmed" 775),(kS "harmed" 776),(kS "/claim/cut.py" 777),(.int 230 0),(.int 4 0),(.int 0 0),(.int 0 0),(.int 3 0),(.ref 439),(.bool true),(.int 181 0),(.ref 440),.none,.none,.none,(.ref 441),(.int 778 0),(.int 230 0),(kS "/claim/cut.py" 779)]),#[]⟩),
 (443,kF "harmed" "harmed" rZ "riverdue.changes" 773 442),
 (449,kC "wants_with" "wants_with" "/claim/cut.py" 781 245 3 3 444 181 445 446 447 448 789),
 (450,kF "wants_with" "wants_with" qW "riverdue.changes" 773 449),
 (456,kC "move" "move" "/claim/cut.py" 792 250 4 3 451 181 452 453 454 455 800),
 (457,kF "move" "move" rJ "riverdue.changes" 773 456),
 (470,kC "__init__" "Pond.__init__" "/claim/cut.py" 817 260 4 3 465 181 466 467 468 469 824),
 (471,kF "__init__" "Pond.__init__" pF "riverdue.office" 803 470),
 (473,⟨(.type "dict"),none,(.dict #[kE P "__module__" 812 (kS "riverdue.office" 803),kE P "__firstlineno__" 816 (.int 258 815),kE P "__init__" 826 (.ref 471),kE P "__static_attributes__" 831 (.ref 472),kE P "__dict__" 833 (.ref 475),kE P "__weakref__" 835 (.ref 476),kE P "__doc__" 836 .none] 4),#[]⟩)]
noncomputable def KQ10(P:Params):PySem.W.Frag:=[(474,⟨(.type "type"),none,(.cls ⟨"Pond",[(.type "object")],[(.ref 474),(.type "object")],473,"Pond",true,[],[],false,none,false⟩),#[none,none,(some (kS "Pond" 805)),(some (kS "Pond" 813)),(some (.builtin "object.__new__")),(some (.bool true))]⟩),
 (475,⟨(.type "getset_descriptor"),none,(.fields #[(kS "__dict__" 832),(.ref 474),(.builtin "function.__dict__"),(.builtin "function.__dict__#set")]),#[]⟩),
 (476,⟨(.type "getset_descriptor"),none,(.fields #[(kS "__weakref__" 834),(.ref 474),(.builtin "ExceptionGroup.__weakref__"),.none]),#[]⟩),
 (491,kC "__init__" "Office.__init__" "/claim/cut.py" 851 267 2 3 486 181 487 488 489 490 856),
 (492,kF "__init__" "Office.__init__" pM "riverdue.office" 803 491),
 (498,kC "dig" "Office.dig" "/claim/cut.py" 859 274 5 3 493 181 494 495 496 497 867),
 (499,kF "dig" "Office.dig" rY "riverdue.office" 803 498),
 (505,kC "day" "Office.day" "/claim/cut.py" 870 281 2 3 500 181 501 502 503 504 875),
 (506,kF "day" "Office.day" (cP (top 53) 2) "riverdue.office" 803 505),
 (512,kC "send" "Office.send" "/claim/cut.py" 878 284 4 3 507 181 508 509 510 511 888),
 (513,kF "send" "Office.send" pP "riverdue.office" 803 512),
 (519,kC "stored" "Office.stored" "/claim/cut.py" 891 298 2 3 514 181 515 516 517 518 896)]
noncomputable def KQ11(P:Params):PySem.W.Frag:=[(520,kF "stored" "Office.stored" qH "riverdue.office" 803 519),
 (526,kC "got" "Office.got" "/claim/cut.py" 899 301 2 3 521 181 522 523 524 525 904),
 (527,kF "got" "Office.got" oV "riverdue.office" 803 526),
 (533,kC "account" "Office.account" "/claim/cut.py" 907 305 2 3 528 181 529 530 531 532 912),
 (534,kF "account" "Office.account" (cP (top 53) 6) "riverdue.office" 803 533),
 (540,kC "out" "Office.out" "/claim/cut.py" 915 308 1 3 535 181 536 537 538 539 919),
 (541,kF "out" "Office.out" (cP (top 53) 7) "riverdue.office" 803 540),
 (547,kC "pond_called" "Office.pond_called" "/claim/cut.py" 922 311 2 3 542 181 543 544 545 546 927),
 (548,kF "pond_called" "Office.pond_called" qJ "riverdue.office" 803 547),
 (554,kC "give" "Office.give" "/claim/cut.py" 930 316 3 3 549 181 550 551 552 553 936),
 (555,kF "give" "Office.give" qD "riverdue.office" 803 554),
 (561,kC "wants_by_age" "Office.wants_by_age" "/claim/cut.py" 939 320 1 3 556 181 557 558 559 560 943)]
noncomputable def KQ12(P:Params):PySem.W.Frag:=[(562,kF "wants_by_age" "Office.wants_by_age" (cP (top 53) 10) "riverdue.office" 803 561),
 (564,⟨(.type "dict"),none,(.dict #[kE P "__module__" 846 (kS "riverdue.office" 803),kE P "__firstlineno__" 850 (.int 265 849),kE P "__init__" 858 (.ref 492),kE P "dig" 869 (.ref 499),kE P "day" 877 (.ref 506),kE P "send" 890 (.ref 513),kE P "stored" 898 (.ref 520),kE P "got" 906 (.ref 527),kE P "account" 914 (.ref 534),kE P "out" 921 (.ref 541),kE P "pond_called" 929 (.ref 548),kE P "give" 938 (.ref 555),kE P "wants_by_age" 945 (.ref 562),kE P "__static_attributes__" 951 (.ref 563),kE P "__dict__" 953 (.ref 566),kE P "__weakref__" 955 (.ref 567),kE P "__doc__" 956 .none] 4),#[]⟩),
 (565,⟨(.type "type"),none,(.cls ⟨"Office",[(.type "object")],[(.ref 565),(.type "object")],564,"Office",true,[],[],false,none,false⟩),#[none,none,(some (kS "Office" 839)),(some (kS "Office" 847)),(some (.builtin "object.__new__")),(some (.bool true))]⟩),
 (566,⟨(.type "getset_descriptor"),none,(.fields #[(kS "__dict__" 952),(.ref 565),(.builtin "function.__dict__"),(.builtin "function.__dict__#set")]),#[]⟩),
 (567,⟨(.type "getset_descriptor"),none,(.fields #[(kS "__weakref__" 954),(.ref 565),(.builtin "ExceptionGroup.__weakref__"),.none]),#[]⟩),
 (575,kC "_law_cell_at" "_law_cell_at" "/claim/cut.py" 961 323 2 3 570 181 571 572 573 574 966),
 (576,kF "_law_cell_at" "_law_cell_at" o0 "law_riverdue_k28_each_refusal_alone" 959 575),
 (582,kC "_law_book" "_law_book" "/claim/cut.py" 969 327 1 3 577 181 578 579 580 581 974),
 (583,kF "_law_book" "_law_book" se "law_riverdue_k28_each_refusal_alone" 959 582),
 (589,kC "_law_office_refuses" "_law_office_refuses" "/claim/cut.py" 977 332 2 3 584 181 585 586 587 588 983),
 (590,kF "_law_office_refuses" "_law_office_refuses" oJ "law_riverdue_k28_each_refusal_alone" 959 589),
 (596,kC "_law_refuses" "_law_refuses" "/claim/cut.py" 986 341 2 3 591 181 592 593 594 595 992)]
noncomputable def KQ13(P:Params):PySem.W.Frag:=[(597,kF "_law_refuses" "_law_refuses" qA "law_riverdue_k28_each_refusal_alone" 959 596),
 (603,kC "_law_classes" "_law_classes" "/claim/cut.py" 995 363 1 3 598 181 599 600 601 602 1000),
 (604,kF "_law_classes" "_law_classes" qk "law_riverdue_k28_each_refusal_alone" 959 603),
 (608,⟨(.type "code"),none,(.fields #[(kS "_law_caught" 1003),(kS "_law_caught" 1004),(kS "/claim/cut.py" 1005),(.int 367 0),(.int 2 0),(.int 0 0),(.int 0 0),(.int 3 0),(.ref 605),(.bool true),(.int 181 0),(.ref 606),.none,.none,.none,(.ref 607),(.int 1006 0),(.int 367 0),(kS "/claim/cut.py" 1007)]),#[]⟩),
 (609,kF "_law_caught" "_law_caught" rm "law_riverdue_k28_each_refusal_alone" 959 608),
 (615,kC "law" "law" "/claim/cut.py" 1009 376 1 3 610 181 611 612 613 614 1015),
 (616,kF "law" "law" oQ "law_riverdue_k28_each_refusal_alone" 959 615),
 (4,⟨(.type "module"),(some 0),.plain,#[]⟩)]
noncomputable def KQ(P:Params):PySem.W.Frag:=KQ0 P++(KQ1 P++(KQ2 P++(KQ3 P++(KQ4 P++(KQ5 P++(KQ6 P++(KQ7 P++(KQ8 P++(KQ9 P++(KQ10 P++(KQ11 P++(KQ12 P++(KQ13 P++[(222,PySem.W.tabObj #[])])))))))))))))
noncomputable abbrev KM(w:aQ):PySem.W.Frag:=KD KQ 222 w.params
noncomputable def KQa:List ae:=[2,3,20,21,30,31,32,43,44,55,56,67,68,79,80,91,92,103,104,115,116,127,128,139,140,151,152,163,164,175,176,191,192,194,195,196,197,212,213,219,220,226,227,233,234,240,241,247,248,254,255,261,262,268,269,275,276,278,279,280,281,296,297,303,304,310,311,317,318,324,325,331,332,334,335,336,337,345,346,352,353,357,358,362,363,367,368,374,375,381,382,386,387,393,394,398,399,403,404,408,409,413,414,420,421,427,428,432,433,437,438,442,443,449,450,456,457,470,471,473,474,475,476,491,492,498,499,505,506,512,513,519,520,526,527,533,534,540,541,547,548,554,555,561,562,564,565,566,567,575,576,582,583,589,590,596,597,603,604,608,609,615,616,4,222]
end
end L2.Rv
namespace L2.Rv
open PySem PySem.Spec PyProof.Rows
section
variable {P:bi}{w:aQ}{K:PySem.W.Frag}{mg:Str->Option af}{base:aH}{a:Adr}
theorem Fu:bF ["self"] ["self"] (bg qM):=⟨rfl,rfl,rfl,by decide +kernel,rfl,by decide +kernel,by decide +kernel⟩
theorem r0(T:Txt K mg a):FnG P w K mg base a.cl 4 a.zfw a.zdL ["self"] jc:=by
 refine Ab (N:=["self"]) (k:=3) (g:=uJ) T.zhG Fu rfl λcdv hc A outer s H E sa ns hr=>?_;exact(aM (cJ (Bp (k:=1) (nm:="name") (fv:="self") (i:=0) (hc▸T.lam) (bL (f:="held") (ai 0) (ba.one T.zah T.zaD)) ⟨rfl,rfl,rfl,rfl,rfl,by decide,IZ rfl,rfl,rfl,rfl,rfl⟩ T.zmZ hr rfl rfl (λfd v h1 h2 h3=>Bj h1 h2 h3) (λL f cdv s H hr=>(qC (au (bL (f:="date") (dq (bS hr) (bL (f:="held") (ai 1) (ba.one T.zah T.zaD)) (ai 0)) (ba.two T.zbc T.zbT T.zbK T.zca)) (au (ai 0) aI)))))))
theorem sT:bF ["e","found"] ["e"] (bg qk):=⟨rfl,rfl,rfl,by decide +kernel,rfl,by decide +kernel,by decide +kernel⟩
theorem IQ(T:Txt K mg a):FnH P w K mg base a.cl 1 a.zeF a.zew ["e"] o4:=by
 refine BZ (N:=["e","found"]) (k:=0) (g:=rO) T.zen sT rfl λcdv A outer s H E sa ns v hr=>?_;exact (aF (cf (n:=1) (fq (au (fM (ai 0) (λE=>fk (v:=.ref a.zcr) rfl T.zdd rfl) (.inr ⟨_,rfl,rfl⟩) T.ziO T.zax) (au (fM (ai 0) (λE=>fk (v:=.ref a.zd5) rfl T.zgU rfl) (.inr ⟨_,rfl,rfl⟩) T.zjy T.zax) (au (fM (ai 0) (λE=>fk (v:=.ref a.zd6) rfl T.ziR rfl) (.inr ⟨_,rfl,rfl⟩) T.zjz T.zax) (au (fM (ai 0) (λE=>fk (v:=.ref a.zhi) rfl T.zki rfl) (.inr ⟨_,rfl,rfl⟩) T.zmV T.zax) aI))))) sT.nd)
  (aF (cf (n:=1) (dn (λ_=>gp) fX (ai 1) (fq (au (fM (ai 0) (λE=>fk (v:=.ref a.zd7) rfl T.ziS rfl) (.inr ⟨_,rfl,rfl⟩) T.zjA T.zax) (au (fM (ai 0) (λE=>fk (v:=.ref a.zdc) rfl T.zhq rfl) (.inr ⟨_,rfl,rfl⟩) T.ziQ T.zax) (au (fM (ai 0) (λE=>fk (v:=.ref a.zd8) rfl T.zgV rfl) (.inr ⟨_,rfl,rfl⟩) T.zjB T.zax) (au (fM (ai 0) (λE=>fk (v:=.ref a.zfQ) rfl T.zgW rfl) (.inr ⟨_,rfl,rfl⟩) T.zlm T.zax) aI)))))) sT.nd)
  (aM (cJ (dn (λ_=>gp) fX (ai 1) (fq (au (fM (ai 0) (λE=>fk (v:=.ref a.zju) rfl T.zo4 rfl) (.inr ⟨_,rfl,rfl⟩) T.zo2 T.zax) (au (fM (ai 0) (λE=>fk (v:=.ref a.zfP) rfl T.zkg rfl) (.inr ⟨_,rfl,rfl⟩) T.zll T.zax) (au (fM (ai 0) (λE=>fk (v:=.ref a.zdb) rfl T.zhp rfl) (.inr ⟨_,rfl,rfl⟩) T.ziP T.zax) (au (fM (ai 0) (λE=>fk (v:=.ref a.zd4) rfl T.zea rfl) (.inr ⟨_,rfl,rfl⟩) T.zjx T.zax) aI))))))))))
theorem Eg:bF ["self","name"] ["self","name"] (bg rQ):=⟨rfl,rfl,rfl,by decide +kernel,rfl,by decide +kernel,by decide +kernel⟩
theorem rD(T:Txt K mg a):FnG P w K mg base a.cl 1 a.zcw a.zct ["self","name"] gC:=by
 refine bU (N:=["self","name"]) (k:=0) (g:=oY) T.zd1 Eg rfl λcdv A outer s H E sa ns hr=>?_;exact (aF (cg (bO (λ_=>(pc (bS hr))) jq (ai 1) (bL (f:="held") (ai 0) (ba.one T.zah T.zaD)) rfl) (aM (dH (c:=105) dD T.zjw T.ziS hr.hd (au (nv (.cons .lit (.cons (.rp (ai 1)) Paired.nil))) aI))) cq)
  (aM (cJ (dq (bS hr) (bL (f:="held") (ai 0) (ba.one T.zah T.zaD)) (ai 1)))))
theorem B7:bF ["self","name"] ["self","name"] (bg rj):=⟨rfl,rfl,rfl,by decide +kernel,rfl,by decide +kernel,by decide +kernel⟩
theorem zH(T:Txt K mg a):FnG P w K mg base a.cl 2 a.zgl a.zgj ["self","name"] mW:=by
 refine bU (N:=["self","name"]) (k:=1) (g:=tY) T.ziJ B7 rfl λcdv A outer s H E sa ns hr=>?_;exact (aF (cy (cx (c:=3) (mth:="held_right") (ai 0) T.zah T.zbd (rD T) (hr.mono (by decide)) T.zbp (au (ai 1) aI)))
  (aF (cy (vC (bL (f:="held") (ai 0) (ba.one T.zah T.zaD)) (ai 1)))
  (aM (cJ (d8 (λ_=>eP) eQ (bL (f:="held") (ai 0) (ba.one T.zah T.zaD)) T.zfH PySem.boot_len)))))
theorem Br:bF ["self","name"] ["self","name"] (bg pW):=⟨rfl,rfl,rfl,by decide +kernel,rfl,by decide +kernel,by decide +kernel⟩
theorem Jh(T:Txt K mg a):FnG P w K mg base a.cl 1 a.zcv a.zcs ["self","name"] je:=by
 refine bU (N:=["self","name"]) (k:=0) (g:=pb) T.zd0 Br rfl λcdv A outer s H E sa ns hr=>?_;exact(aM (cg (bO (λ_=>(oU (bS hr))) jq (ai 1) (bL (f:="held") (ai 0) (ba.one T.zah T.zaD)) rfl) (aM (dH (c:=104) dD T.zke T.zki hr.hd (au (nv (.cons .lit (.cons (.rp (ai 1)) Paired.nil))) aI))) cq))
theorem FA:bF ["self","point","amount","date"] ["self","point","amount","date"] (bg pO):=⟨rfl,rfl,rfl,by decide +kernel,rfl,by decide +kernel,by decide +kernel⟩
theorem EF(T:Txt K mg a):FnG P w K mg base a.cl 1 a.zcQ a.zcO ["self","point","amount","date"] tT:=by
 refine bU (N:=["self","point","amount","date"]) (k:=0) (g:=uH) T.zeN FA rfl λcdv A outer s H E sa ns hr=>?_;exact (aF (eY (f:="point") (ai 0) (ai 1) (ba.one T.zbc T.zbC))
  (aF (eY (f:="amount") (ai 0) (ai 2) (ba.one T.zbc T.za6))
  (aM (eY (f:="date") (ai 0) (ai 3) (ba.one T.zbc T.zbT)))))
theorem IF:bF ["self","point"] ["self","point"] (bg rL):=⟨rfl,rfl,rfl,by decide +kernel,rfl,by decide +kernel,by decide +kernel⟩
theorem mO(T:Txt K mg a):FnG P w K mg base a.cl 1 a.zb7 a.zb6 ["self","point"] fI:=by
 refine bU (N:=["self","point"]) (k:=0) (g:=mR) T.zdq IF rfl λcdv A outer s H E sa ns hr=>?_;exact(aM (cg (GW.gt (ju (bO (λ_=>iX) iZ (ai 1) ge_int (bV _)) (kq .Or (bO (λ_=>ww) vS (ai 1) (d8 (λ_=>eP) eQ (bL (f:="runs_to") (ai 0) (ba.one T.za8 T.zba)) T.zfH PySem.boot_len) (bV _))))) (aM (dH (c:=103) dD T.zjv T.ziR hr.hd (au cr aI))) cq))
theorem CY:bF ["self","name","point","amount","date"] ["self","name","point","amount","date"] (bg pY):=⟨rfl,rfl,rfl,by decide +kernel,rfl,by decide +kernel,by decide +kernel⟩
theorem qz(T:Txt K mg a):FnG P w K mg base a.cl 3 a.zfv a.zfl ["self","name","point","amount","date"] iz:=by
 refine bU (N:=["self","name","point","amount","date"]) (k:=2) (g:=tS) T.zhF CY rfl λcdv A outer s H E sa ns hr=>?_;exact (aF (cy (cx (c:=3) (mth:="check_free") (ai 0) T.zah T.zdM (Jh T) (hr.mono (by decide)) T.zdY (au (ai 1) aI)))
  (aF (cy (cx (c:=1) (mth:="check_point") (bL (f:="stream") (ai 0) (ba.one T.zah T.zcA)) T.za8 T.zaN (mO T) (hr.mono (by decide)) T.zaQ (au (ai 2) aI)))
  (aF (kM (bL (f:="held") (ai 0) (ba.one T.zah T.zaD)) (ai 1) (iW (c:=2) T.zmY (EF T) (hr.mono (by decide)) T.zo5 T.zeM (au (ai 2) (au (ai 3) (au (ai 4) aI)))) (hg:=λE t t' h1 h2=>lG h1 h2 (jV (bS hr))))
  (aM (cJ (d8 (λ_=>eP) eQ (bL (f:="held") (ai 0) (ba.one T.zah T.zaD)) T.zfH PySem.boot_len))))))
theorem BD:bF ["self"] ["self"] (bg r6):=⟨rfl,rfl,rfl,by decide +kernel,rfl,by decide +kernel,by decide +kernel⟩
theorem nW(T:Txt K mg a):FnG P w K mg base a.cl 1 a.zfy a.zfn ["self"] fR:=by
 refine bU (N:=["self"]) (k:=0) (g:=uE) T.zhI BD rfl λcdv A outer s H E sa ns hr=>?_;exact(aM (cJ (bL (f:="stream") (ai 0) (ba.one T.zah T.zcA))))
theorem uS:bF ["self","name","other","first","second"] ["self","name","other"] (bg oE):=⟨rfl,rfl,rfl,by decide +kernel,rfl,by decide +kernel,by decide +kernel⟩
theorem Hk(T:Txt K mg a):FnG P w K mg base a.cl 2 a.zfz a.zfo ["self","name","other"] oH:=by
 obtain⟨t_MOST_AMOUNT,h_MOST_AMOUNT⟩:=T.zgQ;refine bU (N:=["self","name","other","first","second"]) (k:=1) (g:=tJ) T.zhJ uS rfl λcdv A outer s H E sa ns hr=>?_;exact (aF (cf (n:=3) (cx (c:=3) (mth:="held_right") (ai 0) T.zah T.zbd (rD T) (hr.mono (by decide)) T.zbp (au (ai 1) aI)) uS.nd)
  (aF (cf (n:=4) (cx (c:=3) (mth:="held_right") (ai 0) T.zah T.zbd (rD T) (hr.mono (by decide)) T.zbp (au (ai 2) aI)) uS.nd)
  (aF (cg (bO (λ_=>(eS hr.units)) eW (ai 1) (ai 2) (bV _)) (aM (dH (c:=108) dD T.zgP T.zgW hr.hd (au cr aI))) cq)
  (aF (cg (GW.gt (ju (bO (λ_=>(my hr.units)) l6 (bL (f:="point") (ai 3) (ba.two T.zbc T.zbC T.zbK T.zbS)) (bL (f:="point") (ai 4) (ba.two T.zbc T.zbC T.zbK T.zbS)) (bV _)) (kq .Or (bO (λ_=>(my hr.units)) l6 (bL (f:="date") (ai 3) (ba.two T.zbc T.zbT T.zbK T.zca)) (bL (f:="date") (ai 4) (ba.two T.zbc T.zbT T.zbK T.zca)) (bV _))))) (aM (dH (c:=108) dD T.zgP T.zgW hr.hd (au cr aI))) cq)
  (aF (cg (bO (λ_=>jt) jE (dn (λ_=>gp) fX (bL (f:="amount") (ai 3) (ba.one T.zbc T.za6)) (bL (f:="amount") (ai 4) (ba.one T.zbc T.za6))) (l9 rfl h_MOST_AMOUNT ⟨_,rfl⟩) (bV _)) (aM (dH (c:=108) dD T.zgP T.zgW hr.hd (au cr aI))) cq)
  (aF (zt (fl:="amount") (λ_=>BF) (λ_ _ _ _ q=>q) (λ_ _ _=>rfl) (λ_ _ _ h=>yT h) (ai 3) (bL (f:="amount") (ai 4) (ba.one T.zbc T.za6)) (ba.one T.zbc T.za6))
  (aF (cy (vC (bL (f:="held") (ai 0) (ba.one T.zah T.zaD)) (ai 2)))
  (aM (cJ (d8 (λ_=>eP) eQ (bL (f:="held") (ai 0) (ba.one T.zah T.zaD)) T.zfH PySem.boot_len))))))))))
theorem u0:bF ["below","point","lower"] ["below"] (bg oK):=⟨rfl,rfl,rfl,by decide +kernel,rfl,by decide +kernel,by decide +kernel⟩
theorem ID(T:Txt K mg a):FnG P w K mg base a.cl 1 a.zeD a.zeu ["below"] mI:=by
 obtain⟨t_MOST_POINTS,h_MOST_POINTS⟩:=T.zeI;refine bU (N:=["below","point","lower"]) (k:=0) (g:=jO) T.zem u0 rfl λcdv A outer s H E sa ns hr=>?_;exact (aF (cg (GW.gt (ju (bO (λ_=>iX) iZ (d8 (λ_=>eP) eQ (ai 0) T.zfH PySem.boot_len) ge_int (bV _)) (kq .Or (bO (λ_=>jt) jE (d8 (λ_=>eP) eQ (ai 0) T.zfH PySem.boot_len) (l9 rfl h_MOST_POINTS ⟨_,rfl⟩) (bV _))))) (aM (dH (c:=101) dD T.zez T.zdd hr.hd (au cr aI))) cq)
  (aF (cg (Au (dq (bS hr) (ai 0) ge_int)) (aM (dH (c:=101) dD T.zez T.zdd hr.hd (au cr aI))) cq)
  (aM (jz (one:=true) (is:=[1]) (Co ge_int (d8 (λ_=>eP) eQ (ai 0) T.zfH PySem.boot_len) T.ziT) (fQ u0.nd) (aF (cf (n:=2) (dq (bS hr) (ai 0) (ai 1)) u0.nd)
  (aM (cg (GW.gt (ju (Da (ai 2)) (ju (bO (λ_=>iX) iZ (ai 2) ge_int (bV _)) (kq .Or (bO (λ_=>ww) vS (ai 2) (ai 1) (bV _)))))) (aM (dH (c:=101) dD T.zez T.zdd hr.hd (au cr aI))) cq)))))))
theorem Ff:bF ["self","below"] ["self","below"] (bg oP):=⟨rfl,rfl,rfl,by decide +kernel,rfl,by decide +kernel,by decide +kernel⟩
theorem tG(T:Txt K mg a):FnG P w K mg base a.cl 2 a.zcR a.zcP ["self","below"] iL:=by
 refine bU (N:=["self","below"]) (k:=1) (g:=nO) T.zeO Ff rfl λcdv A outer s H E sa ns hr=>?_;exact (aF (cy (c7 (ID T) (hr.mono (by decide)) T.zgX T.zem.kp T.zgI (au (ai 1) aI)))
  (aM (eY (f:="runs_to") (ai 0) (yz (λ_=>Hj) BB (ai 1) T.zo9 PyProof.Rows.Boot.«list») (ba.one T.za8 T.zba))))
theorem uw:bF ["self","point","passed"] ["self","point"] (bg oM):=⟨rfl,rfl,rfl,by decide +kernel,rfl,by decide +kernel,by decide +kernel⟩
theorem tQ(T:Txt K mg a):FnG P w K mg base a.cl 2 a.zgm a.zgk ["self","point"] jS:=by
 refine bU (N:=["self","point","passed"]) (k:=1) (g:=rC) T.ziK uw rfl λcdv A outer s H E sa ns hr=>?_;exact (aF (cy (cx (c:=1) (mth:="check_point") (ai 0) T.za8 T.zaN (mO T) (hr.mono (by decide)) T.zaQ (au (ai 1) aI)))
  (aF (cf (n:=2) (fq aI) uw.nd)
  (aF (Hw (Au (ai 1)) (aF (cy (w9 (ai 2) (ai 1)))
  (aM (cf (n:=1) (dq (bS hr) (bL (f:="runs_to") (ai 0) (ba.one T.za8 T.zba)) (ai 1)) uw.nd))))
  (aM (cJ (ai 2))))))
theorem Cj:bF ["self","river"] ["self","river"] (bg rF):=⟨rfl,rfl,rfl,by decide +kernel,rfl,by decide +kernel,by decide +kernel⟩
theorem xj(T:Txt K mg a):FnG P w K mg base a.cl 1 a.zdu a.zdr ["self","river"] mS:=by
 refine bU (N:=["self","river"]) (k:=0) (g:=uQ) T.zfe Cj rfl λcdv A outer s H E sa ns hr=>?_;exact (aF (eY (f:="stream") (ai 0) (ai 1) (ba.one T.zah T.zcA))
  (aM (eY (f:="held") (ai 0) mK (ba.one T.zah T.zaD))))
theorem yh:bF ["cell","book"] ["cell"] (bg se):=⟨rfl,rfl,rfl,by decide +kernel,rfl,by decide +kernel,by decide +kernel⟩
theorem wS(T:Txt K mg a):FnG P w K mg base a.cl 4 a.zhn a.zhj ["cell"] mF:=by
 refine bU (N:=["cell","book"]) (k:=3) (g:=oR) T.zfN yh rfl λcdv A outer s H E sa ns hr=>?_;exact (aF (cf (n:=1) (iW (c:=3) T.zl8 (xj T) (hr.mono (by decide)) T.zo3 T.zdp (au (iW (c:=1) T.zh9 (tG T) (hr.mono (by decide)) T.zkh T.zb4 (au (fq (au sP (au ge_int (au ge_int aI)))) aI)) aI)) yh.nd)
  (aF (cy (cx (c:=3) (mth:="grant") (ai 1) T.zah T.zci (qz T) (hr.mono (by decide)) T.zcH (au cr (au ge_int (au (dn (λ_=>gp) fX ge_int (dn (λ_=>lJ) ky (ai 0) ge_int)) (au ge_int aI))))))
  (aF (cy (cx (c:=3) (mth:="grant") (ai 1) T.zah T.zci (qz T) (hr.mono (by decide)) T.zcH (au cr (au ge_int (au ge_int (au ge_int aI))))))
  (aM (cJ (ai 1))))))
theorem En:bF ["self","book"] ["self","book"] (bg pM):=⟨rfl,rfl,rfl,by decide +kernel,rfl,by decide +kernel,by decide +kernel⟩
theorem GM(T:Txt K mg a):FnG P w K mg base a.cl 1 a.zcx a.zcu ["self","book"] o7:=by
 refine bU (N:=["self","book"]) (k:=0) (g:=sH) T.zd2 En rfl λcdv A outer s H E sa ns hr=>?_;exact (aF (eY (f:="book") (ai 0) (ai 1) (ba.one T.zaj T.zbB))
  (aF (eY (f:="ponds") (ai 0) mK (ba.one T.zaj T.za5))
  (aF (eY (f:="last_day") (ai 0) mK (ba.one T.zaj T.zbf))
  (aF (eY (f:="all_days") (ai 0) mK (ba.one T.zaj T.zbG))
  (aM (eY (f:="ran_out") (ai 0) ge_int (ba.one T.zaj T.zeb)))))))
theorem Hl:bF ["self","point","size","date"] ["self","point","size","date"] (bg pF):=⟨rfl,rfl,rfl,by decide +kernel,rfl,by decide +kernel,by decide +kernel⟩
theorem Dd(T:Txt K mg a):FnG P w K mg base a.cl 1 a.zdw a.zdt ["self","point","size","date"] uq:=by
 refine bU (N:=["self","point","size","date"]) (k:=0) (g:=vg) T.zfg Hl rfl λcdv A outer s H E sa ns hr=>?_;exact (aF (eY (f:="point") (ai 0) (ai 1) (ba.one T.zbK T.zbS))
  (aF (eY (f:="size") (ai 0) (ai 2) (ba.one T.zbK T.zhS))
  (aF (eY (f:="date") (ai 0) (ai 3) (ba.one T.zbK T.zca))
  (aM (eY (f:="held_water") (ai 0) ge_int (ba.one T.zbK T.zaV))))))
theorem Hy:bF ["self","name","point","size","date"] ["self","name","point","size","date"] (bg rY):=⟨rfl,rfl,rfl,by decide +kernel,rfl,by decide +kernel,by decide +kernel⟩
theorem FW(T:Txt K mg a):FnG P w K mg base a.cl 3 a.zfA a.zfp ["self","name","point","size","date"] sg:=by
 refine bU (N:=["self","name","point","size","date"]) (k:=2) (g:=vn) T.zhK Hy rfl λcdv A outer s H E sa ns hr=>?_;exact (aF (cg (bO (λ_=>(oU (bS hr))) jq (ai 1) (bL (f:="ponds") (ai 0) (ba.one T.zaj T.za5)) rfl) (aM (dH (c:=104) dD T.zke T.zki hr.hd (au (nv (.cons .lit (.cons (.rp (ai 1)) Paired.nil))) aI))) cq)
  (aF (cy (cx (c:=1) (mth:="check_point") (gj (c:=3) (mth:="river") (bL (f:="book") (ai 0) (ba.one T.zaj T.zbB)) T.zah T.zbR (nW T) (hr.mono (by decide)) T.zb9) T.za8 T.zaN (mO T) (hr.mono (by decide)) T.zaQ (au (ai 2) aI)))
  (aF (kM (bL (f:="ponds") (ai 0) (ba.one T.zaj T.za5)) (ai 1) (iW (c:=5) T.zo8 (Dd T) (hr.mono (by decide)) T.zqN T.zfd (au (ai 2) (au (ai 3) (au (ai 4) aI)))) (hg:=λE t t' h1 h2=>lG h1 h2 (jV (bS hr))))
  (aM (cJ (d8 (λ_=>eP) eQ (bL (f:="ponds") (ai 0) (ba.one T.zaj T.za5)) T.zfH PySem.boot_len))))))
theorem wu:bF ["self","name","found"] ["self","name"] (bg qZ):=⟨rfl,rfl,rfl,by decide +kernel,rfl,by decide +kernel,by decide +kernel⟩
theorem kn(T:Txt K mg a):FnG P w K mg base a.cl 2 a.zfx a.zfm ["self","name"] fN:=by
 refine bU (N:=["self","name","found"]) (k:=1) (g:=sQ) T.zhH wu rfl λcdv A outer s H E sa ns hr=>?_;exact (aF (cf (n:=2) (cx (c:=3) (mth:="held_right") (ai 0) T.zah T.zbd (rD T) (hr.mono (by decide)) T.zbp (au (ai 1) aI)) wu.nd)
  (aM (cJ (qC (au (bL (f:="point") (ai 2) (ba.two T.zbc T.zbC T.zbK T.zbS)) (au (bL (f:="amount") (ai 2) (ba.one T.zbc T.za6)) (au (bL (f:="date") (ai 2) (ba.two T.zbc T.zbT T.zbK T.zca)) aI)))))))
theorem Gf:bF ["self","name","amount"] ["self","name","amount"] (bg qD):=⟨rfl,rfl,rfl,by decide +kernel,rfl,by decide +kernel,by decide +kernel⟩
theorem CG(T:Txt K mg a):FnG P w K mg base a.cl 1 a.zeA a.zer ["self","name","amount"] vX:=by
 refine bU (N:=["self","name","amount"]) (k:=0) (g:=Ad) T.zgM Gf rfl λcdv A outer s H E sa ns hr=>?_;exact (aF (kM (bL (f:="last_day") (ai 0) (ba.one T.zaj T.zbf)) (ai 1) (dn (λ_=>gp) fX (tN (bS hr) (bL (f:="last_day") (ai 0) (ba.one T.zaj T.zbf)) (ai 1) ge_int) (ai 2)) (hg:=λE t t' h1 h2=>lG h1 h2 (jV (bS hr))))
  (aM (kM (bL (f:="all_days") (ai 0) (ba.one T.zaj T.zbG)) (ai 1) (dn (λ_=>gp) fX (tN (bS hr) (bL (f:="all_days") (ai 0) (ba.one T.zaj T.zbG)) (ai 1) ge_int) (ai 2)) (hg:=λE t t' h1 h2=>lG h1 h2 (jV (bS hr))))))
theorem IW:bF ["self","name"] ["self","name"] (bg oV):=⟨rfl,rfl,rfl,by decide +kernel,rfl,by decide +kernel,by decide +kernel⟩
theorem Bv(T:Txt K mg a):FnG P w K mg base a.cl 3 a.zfB a.zfq ["self","name"] qS:=by
 refine bU (N:=["self","name"]) (k:=2) (g:=vh) T.zhL IW rfl λcdv A outer s H E sa ns hr=>?_;exact (aF (cy (cx (c:=3) (mth:="right") (bL (f:="book") (ai 0) (ba.one T.zaj T.zbB)) T.zah T.zbe (kn T) (hr.mono (by decide)) T.zbs (au (ai 1) aI)))
  (aM (cJ (tN (bS hr) (bL (f:="last_day") (ai 0) (ba.one T.zaj T.zbf)) (ai 1) ge_int))))
theorem BK:bF ["self","name"] ["self","name"] (bg qJ):=⟨rfl,rfl,rfl,by decide +kernel,rfl,by decide +kernel,by decide +kernel⟩
theorem wQ(T:Txt K mg a):FnG P w K mg base a.cl 1 a.zb0 a.zbX ["self","name"] jh:=by
 refine bU (N:=["self","name"]) (k:=0) (g:=pS) T.zcV BK rfl λcdv A outer s H E sa ns hr=>?_;exact (aF (cg (bO (λ_=>(pc (bS hr))) jq (ai 1) (bL (f:="ponds") (ai 0) (ba.one T.zaj T.za5)) rfl) (aM (dH (c:=110) dD T.zlj T.zkg hr.hd (au (nv (.cons .lit (.cons (.rp (ai 1)) Paired.nil))) aI))) cq)
  (aM (cJ (dq (bS hr) (bL (f:="ponds") (ai 0) (ba.one T.zaj T.za5)) (ai 1)))))
theorem rR:bF ["self","pond","name","amount","source","right","lacks"] ["self","pond","name","amount"] (bg pP):=⟨rfl,rfl,rfl,by decide +kernel,rfl,by decide +kernel,by decide +kernel⟩
theorem wB(T:Txt K mg a):FnG P w K mg base a.cl 4 a.zeB a.zes ["self","pond","name","amount"] ka:=by
 refine bU (N:=["self","pond","name","amount","source","right","lacks"]) (k:=3) (g:=qg) T.zgN rR rfl λcdv A outer s H E sa ns hr=>?_;exact (aF (cf (n:=4) (cx (c:=4) (mth:="pond_called") (ai 0) T.zaj T.zbL (wQ T) (hr.mono (by decide)) T.zbV (au (ai 1) aI)) rR.nd)
  (aF (cf (n:=5) (cx (c:=3) (mth:="right") (bL (f:="book") (ai 0) (ba.one T.zaj T.zbB)) T.zah T.zbe (kn T) (hr.mono (by decide)) T.zbs (au (ai 2) aI)) rR.nd)
  (aF (cg (bO (λ_=>(pc (bS hr))) jq (dq (bS hr) (ai 5) ge_int) (cx (c:=1) (mth:="way") (gj (c:=3) (mth:="river") (bL (f:="book") (ai 0) (ba.one T.zaj T.zbB)) T.zah T.zbR (nW T) (hr.mono (by decide)) T.zb9) T.za8 T.zdN (tQ T) (hr.mono (by decide)) T.zek (au (bL (f:="point") (ai 4) (ba.two T.zbc T.zbC T.zbK T.zbS)) aI)) rfl) (aM (dH (c:=111) dD T.ziM T.zhp hr.hd (au cr aI))) cq)
  (aF (cf (n:=6) (vM (λ_=>EI hr.hd) DW ge_int (dn (λ_=>oG) qV (dq (bS hr) (ai 5) ge_int) (cx (c:=4) (mth:="got") (ai 0) T.zaj T.zg3 (Bv T) (hr.mono (by decide)) T.zhA (au (ai 2) aI))) T.ztS boot_max) rR.nd)
  (aF (cg (bO (λ_=>jt) jE (ai 3) (bL (f:="held_water") (ai 4) (ba.one T.zbK T.zaV)) (bV _)) (aM (dH (c:=107) dD T.zhm T.zgV hr.hd (au cr aI))) cq)
  (aF (cg (bO (λ_=>jt) jE (ai 3) (ai 6) (bV _)) (aM (dH (c:=107) dD T.zhm T.zgV hr.hd (au cr aI))) cq)
  (aF (zt (fl:="held_water") (λ_=>A6) (λ_ _ _ _ q=>q) (λ_ _ _=>rfl) (λ_ _ _ h=>wG h) (ai 4) (ai 3) (ba.one T.zbK T.zaV))
  (aF (cy (cx (c:=4) (mth:="give") (ai 0) T.zaj T.zf8 (CG T) (hr.mono (by decide)) T.zgG (au (ai 2) (au (ai 3) aI))))
  (aM (cJ (bL (f:="held_water") (ai 4) (ba.one T.zbK T.zaV))))))))))))
theorem FZ:bF ["self","pond"] ["self","pond"] (bg qH):=⟨rfl,rfl,rfl,by decide +kernel,rfl,by decide +kernel,by decide +kernel⟩
theorem Ep(T:Txt K mg a):FnG P w K mg base a.cl 2 a.zdv a.zds ["self","pond"] oh:=by
 refine bU (N:=["self","pond"]) (k:=1) (g:=tz) T.zff FZ rfl λcdv A outer s H E sa ns hr=>?_;exact(aM (cJ (bL (f:="held_water") (cx (c:=4) (mth:="pond_called") (ai 0) T.zaj T.zbL (wQ T) (hr.mono (by decide)) T.zbV (au (ai 1) aI)) (ba.one T.zbK T.zaV))))
theorem xt:bF ["which","cell","office"] ["which","cell"] (bg oJ):=⟨rfl,rfl,rfl,by decide +kernel,rfl,by decide +kernel,by decide +kernel⟩
theorem Bc(T:Txt K mg a):FnG P w K mg base a.cl 5 a.zb1 a.zbY ["which","cell"] kZ:=by
 refine bU (N:=["which","cell","office"]) (k:=4) (g:=sj) T.zbW xt rfl λcdv A outer s H E sa ns hr=>?_;exact (aF (cf (n:=2) (iW (c:=4) T.zln (GM T) (hr.mono (by decide)) T.zmW T.zdZ (au (c7 (wS T) (hr.mono (by decide)) T.zhr T.zfN.kp T.zhh (au (ai 1) aI)) aI)) xt.nd)
  (aF (cy (cx (c:=4) (mth:="dig") (ai 2) T.zaj T.zg2 (FW T) (hr.mono (by decide)) T.zhz (au cr (au ge_int (au ge_int (au ge_int aI))))))
  (aF (cg (bO (λ_=>(eS hr.units)) eW (ai 0) ge_int (bV _)) (aM (cy (cx (c:=4) (mth:="stored") (ai 2) T.zaj T.zeP (Ep T) (hr.mono (by decide)) T.zfc (au cr aI)))) cq)
  (aF (cg (bO (λ_=>(eS hr.units)) eW (ai 0) ge_int (bV _)) (aM (cy (cx (c:=4) (mth:="send") (ai 2) T.zaj T.zdT (wB T) (hr.mono (by decide)) T.zej (au cr (au cr (au ge_int aI)))))) cq)
  (aM (cg (bO (λ_=>(eS hr.units)) eW (ai 0) ge_int (bV _)) (aM (cy (cx (c:=4) (mth:="send") (ai 2) T.zaj T.zdT (wB T) (hr.mono (by decide)) T.zej (au cr (au cr (au (dn (λ_=>gp) fX ge_int (dn (λ_=>lJ) ky (ai 1) ge_int)) aI)))))) cq))))))
theorem Ec:bF ["self"] ["self"] (bg qj):=⟨rfl,rfl,rfl,by decide +kernel,rfl,by decide +kernel,by decide +kernel⟩
theorem tH(T:Txt K mg a):FnG P w K mg base a.cl 1 a.zdS a.zdR ["self"] iu:=by
 refine bU (N:=["self"]) (k:=0) (g:=sM) T.zf7 Ec rfl λcdv A outer s H E sa ns hr=>?_;exact(aM (cJ (d8 (λ_=>eP) eQ (bL (f:="runs_to") (ai 0) (ba.one T.za8 T.zba)) T.zfH PySem.boot_len)))
theorem E9:bF ["self","point"] ["self","point"] (bg ql):=⟨rfl,rfl,rfl,by decide +kernel,rfl,by decide +kernel,by decide +kernel⟩
theorem Hz(T:Txt K mg a):FnG P w K mg base a.cl 2 a.zeC a.zet ["self","point"] nJ:=by
 refine bU (N:=["self","point"]) (k:=1) (g:=uc) T.zgO E9 rfl λcdv A outer s H E sa ns hr=>?_;exact (aF (cy (cx (c:=1) (mth:="check_point") (ai 0) T.za8 T.zaN (mO T) (hr.mono (by decide)) T.zaQ (au (ai 1) aI)))
  (aM (cJ (dq (bS hr) (bL (f:="runs_to") (ai 0) (ba.one T.za8 T.zba)) (ai 1)))))
theorem v9:bF ["river","year","inflow"] ["river","year"] (bg ss):=⟨rfl,rfl,rfl,by decide +kernel,rfl,by decide +kernel,by decide +kernel⟩
theorem CN(T:Txt K mg a):FnG P w K mg base a.cl 2 a.zfC a.zfr ["river","year"] kT:=by
 obtain⟨t_MOST_INFLOW,h_MOST_INFLOW⟩:=T.zgR;refine bU (N:=["river","year","inflow"]) (k:=1) (g:=mP) T.zfh v9 rfl λcdv A outer s H E sa ns hr=>?_;exact (aF (cg (bO (λ_=>(my hr.units)) l6 (d8 (λ_=>eP) eQ (ai 1) T.zfH PySem.boot_len) (gj (c:=1) (mth:="points") (ai 0) T.za8 T.zck (tH T) (hr.mono (by decide)) T.zcz) (bV _)) (aM (dH (c:=102) dD T.zhl T.zgU hr.hd (au cr aI))) cq)
  (aM (jz (one:=true) (is:=[2]) (jJ (ai 1)) (fQ v9.nd) (aM (cg (GW.gt (ju (bO (λ_=>iX) iZ (ai 2) ge_int (bV _)) (kq .Or (bO (λ_=>jt) jE (ai 2) (l9 rfl h_MOST_INFLOW ⟨_,rfl⟩) (bV _))))) (aM (dH (c:=102) dD T.zhl T.zgU hr.hd (au cr aI))) cq)))))
theorem uh:bF ["river","year","taken","found","point"] ["river","year","taken"] (bg rG):=⟨rfl,rfl,rfl,by decide +kernel,rfl,by decide +kernel,by decide +kernel⟩
theorem HH(T:Txt K mg a):FnG P w K mg base a.cl 3 a.zl4 a.zl0 ["river","year","taken"] k6:=by
 refine bU (N:=["river","year","taken","found","point"]) (k:=2) (g:=uR) T.zlX uh rfl λcdv A outer s H E sa ns hr=>?_;exact (aF (cy (c7 (CN T) (hr.mono (by decide)) T.zhN T.zfh.kp T.zhB (au (ai 0) (au (ai 1) aI))))
  (aF (zF (n:=3) (x:=["inflow","gone"]) (one:=false) (d3.of rfl trivial rfl rfl) (CO (ai 1) (ai 2) T.zqr) (λC s H fp pins=>(dn (λ_=>oG) qV (ai 5) (ai 6))) trivial (λnd C s H fp pins=>pL (iK (n:=5) (iK (n:=6) o8 nd) nd)) uh.nd)
  (aF (jz (one:=true) (is:=[4]) (Bo (dn (λ_=>oG) qV (gj (c:=1) (mth:="points") (ai 0) T.za8 T.zck (tH T) (hr.mono (by decide)) T.zcz) ge_int) ge_int T.ziT) (fQ uh.nd) (aM (AC (bS hr) (λ_=>FH) (λ_ _ _=>rfl) (λ_ _ _ h=>yT h) (ai 3) (cx (c:=1) (mth:="below") (ai 0) T.za8 T.zf9 (Hz T) (hr.mono (by decide)) T.zgH (au (ai 4) aI)) (dq (bS hr) (ai 3) (ai 4)))))
  (aM (cJ (ai 3))))))
theorem i8:bF ["river","year","wants","flow","takes","point","amount","way","take","passed"] ["river","year","wants"] (bg qv):=⟨rfl,rfl,rfl,by decide +kernel,rfl,by decide +kernel,by decide +kernel⟩
theorem uG(T:Txt K mg a):FnG P w K mg base a.cl 4 a.zl5 a.zl1 ["river","year","wants"] iN:=by
 refine bU (N:=["river","year","wants","flow","takes","point","amount","way","take","passed"]) (k:=3) (g:=uC) T.ziL i8 rfl λcdv A outer s H E sa ns hr=>?_;exact (aF (cf (n:=3) (c7 (HH T) (hr.mono (by decide)) T.zo6 T.zlX.kp T.zoT (au (ai 0) (au (ai 1) (au (dn (λ_=>Im) BQ (fq (au ge_int aI)) (gj (c:=1) (mth:="points") (ai 0) T.za8 T.zck (tH T) (hr.mono (by decide)) T.zcz)) aI)))) i8.nd)
  (aF (cf (n:=4) (fq aI) i8.nd)
  (aF (jz (one:=false) (is:=[5,6]) (xV (k:=2) (ai 2)) (pL (iK (n:=5) (iK (n:=6) o8 i8.nd) i8.nd)) (aF (cf (n:=7) (cx (c:=1) (mth:="way") (ai 0) T.za8 T.zdN (tQ T) (hr.mono (by decide)) T.zek (au (ai 5) aI)) i8.nd)
  (aF (cf (n:=8) (vM (λ_=>Gy hr.hd) Gp (ai 6) (d8 (λ_=>Ij hr.hd) CQ (lm (x:=["passed"]) (one:=true) (d3.of rfl ⟨rfl,trivial⟩ rfl rfl) (jJ (ai 7)) (λC s H fp pins=>(dq (bS hr) (ai 3) (ai 10))) trivial (λnd C s H fp pins=>fQ nd)) T.zsa boot_min) T.zsa boot_min) i8.nd)
  (aF (jz (one:=true) (is:=[9]) (jJ (ai 7)) (fQ i8.nd) (aM (AC (bS hr) (λ_=>C8) (λ_ _ _=>rfl) (λ_ _ _ h=>wG h) (ai 3) (ai 9) (ai 8))))
  (aM (cy (w9 (ai 4) (ai 8))))))))
  (aM (cJ (qC (au (ai 4) (au (ai 3) aI))))))))
theorem Gn:bF ["book"] ["book"] (bg rX):=⟨rfl,rfl,rfl,by decide +kernel,rfl,by decide +kernel,by decide +kernel⟩
theorem uV(T:Txt K mg a):FnG P w K mg base a.cl 5 a.zho a.zhk ["book"] jG:=by
 refine bU (N:=["book"]) (k:=4) (g:=vt) T.zd3 Gn rfl λcdv A outer s H E sa ns hr=>?_;exact(aM (cJ (lm (x:=["name"]) (one:=true) (d3.of rfl ⟨rfl,trivial⟩ rfl rfl) (jJ (gj (c:=3) (mth:="names") (ai 0) T.zah T.zcj (r0 T) (hr.mono (by decide)) T.zcI)) (λC s H fp pins=>(xq (cx (c:=3) (mth:="right") (ai 0) T.zah T.zbe (kn T) (hr.mono (by decide)) T.zbs (au (ai 1) aI)) trivial ge_int)) trivial (λnd C s H fp pins=>fQ nd))))
theorem wq:bF ["book","year","takes"] ["book","year"] (bg oI):=⟨rfl,rfl,rfl,by decide +kernel,rfl,by decide +kernel,by decide +kernel⟩
theorem Ak(T:Txt K mg a):FnG P w K mg base a.cl 6 a.zl3 a.zlZ ["book","year"] gE:=by
 refine bU (N:=["book","year","takes"]) (k:=5) (g:=ou) T.zkb wq rfl λcdv A outer s H E sa ns hr=>?_;exact (aF (cf (n:=2) (dq (bS hr) (c7 (uG T) (hr.mono (by decide)) T.zkj T.ziL.kp T.zka (au (gj (c:=3) (mth:="river") (ai 0) T.zah T.zbR (nW T) (hr.mono (by decide)) T.zb9) (au (ai 1) (au (c7 (uV T) (hr.mono (by decide)) T.zfR T.zd3.kp T.zfM (au (ai 0) aI)) aI)))) ge_int) wq.nd)
  (aM (cJ (Dq (gj (c:=3) (mth:="names") (ai 0) T.zah T.zcj (r0 T) (hr.mono (by decide)) T.zcI) (ai 2) T.zqr T.zo9 hr.hd))))
theorem EN:bF ["book","year"] ["book","year"] (bg rW):=⟨rfl,rfl,rfl,by decide +kernel,rfl,by decide +kernel,by decide +kernel⟩
theorem Es(T:Txt K mg a):FnG P w K mg base a.cl 7 a.zl6 a.zl2 ["book","year"] pX:=by
 refine bU (N:=["book","year"]) (k:=6) (g:=ur) T.zlY EN rfl λcdv A outer s H E sa ns hr=>?_;exact(aM (cJ (lm (x:=["name","take"]) (one:=false) (d3.of rfl ⟨rfl,trivial⟩ rfl rfl) (xV (k:=2) (c7 (Ak T) (hr.mono (by decide)) T.zl7 T.zkb.kp T.zlW (au (ai 0) (au (ai 1) aI)))) (λC s H fp pins=>(ai 2)) (λC s H fp pins=>(bO (λ_=>iX) iZ (ai 3) (dq (bS hr) (cx (c:=3) (mth:="right") (ai 0) T.zah T.zbe (kn T) (hr.mono (by decide)) T.zbs (au (ai 2) aI)) ge_int) (bV _))) (λnd C s H fp pins=>pL (iK (n:=2) (iK (n:=3) o8 nd) nd)))))
theorem sK:bF ["book","year","name","short_ones","point","flow","dry_points"] ["book","year","name"] (bg qO):=⟨rfl,rfl,rfl,by decide +kernel,rfl,by decide +kernel,by decide +kernel⟩
theorem Cn(T:Txt K mg a):FnG P w K mg base a.cl 8 a.zr8 a.zr6 ["book","year","name"] ow:=by
 refine bU (N:=["book","year","name","short_ones","point","flow","dry_points"]) (k:=7) (g:=xI) T.zr5 sK rfl λcdv A outer s H E sa ns hr=>?_;exact (aF (cf (n:=3) (c7 (Es T) (hr.mono (by decide)) T.zo7 T.zlY.kp T.zoU (au (ai 0) (au (ai 1) aI))) sK.nd)
  (aF (cf (n:=4) (dq (bS hr) (cx (c:=3) (mth:="right") (ai 0) T.zah T.zbe (kn T) (hr.mono (by decide)) T.zbs (au (ai 2) aI)) ge_int) sK.nd)
  (aF (cg (bO (λ_=>(pc (bS hr))) jq (ai 2) (ai 3) rfl) (aM (dH (c:=106) dD T.ziN T.zhq hr.hd (au (nv (.cons .lit (.cons (.rp (ai 2)) (.cons .lit Paired.nil)))) aI))) cq)
  (aF iI
  (aF iI
  (aM iI))))))
theorem sR:bF ["book","name","point","wants","place"] ["book","name","point"] (bg qW):=⟨rfl,rfl,rfl,by decide +kernel,rfl,by decide +kernel,by decide +kernel⟩
theorem Ft(T:Txt K mg a):FnG P w K mg base a.cl 6 a.zfF a.zfu ["book","name","point"] pA:=by
 refine bU (N:=["book","name","point","wants","place"]) (k:=5) (g:=ym) T.zfk sR rfl λcdv A outer s H E sa ns hr=>?_;exact (aF (cf (n:=3) (c7 (uV T) (hr.mono (by decide)) T.zfR T.zd3.kp T.zfM (au (ai 0) aI)) sR.nd)
  (aF (cf (n:=4) (HB (mn:="index") PySem.F.slot_list_index PySem.F.type_list_index (λ_=>Fv (u70 hr)) G9 (gj (c:=3) (mth:="names") (ai 0) T.zah T.zcj (r0 T) (hr.mono (by decide)) T.zcI) (ai 1)) sR.nd)
  (aF (kM (ai 3) (ai 4) (qC (au (ai 2) (au (dq (bS hr) (dq (bS hr) (ai 3) (ai 4)) ge_int) aI))) (hg:=λE t t' h1 h2=>lG h1 h2 (jV (bS hr))))
  (aM (cJ (ai 3))))))
theorem f9:bF ["book","years","name","point","river","names","now","changed","found","year","takes_now","takes_then","other","take_now","take_then"] ["book","years","name","point"] (bg rZ):=⟨rfl,rfl,rfl,by decide +kernel,rfl,by decide +kernel,by decide +kernel⟩
theorem DD(T:Txt K mg a):FnG P w K mg base a.cl 7 a.zkf a.zkd ["book","years","name","point"] pQ:=by
 refine bU (N:=["book","years","name","point","river","names","now","changed","found","year","takes_now","takes_then","other","take_now","take_then"]) (k:=6) (g:=Aq) T.zkc f9 rfl λcdv A outer s H E sa ns hr=>?_;exact (aF (cy (cx (c:=3) (mth:="right") (ai 0) T.zah T.zbe (kn T) (hr.mono (by decide)) T.zbs (au (ai 2) aI)))
  (aF (cf (n:=4) (gj (c:=3) (mth:="river") (ai 0) T.zah T.zbR (nW T) (hr.mono (by decide)) T.zb9) f9.nd)
  (aF (cy (cx (c:=1) (mth:="check_point") (ai 4) T.za8 T.zaN (mO T) (hr.mono (by decide)) T.zaQ (au (ai 3) aI)))
  (aF (cf (n:=5) (gj (c:=3) (mth:="names") (ai 0) T.zah T.zcj (r0 T) (hr.mono (by decide)) T.zcI) f9.nd)
  (aF (cf (n:=6) (c7 (uV T) (hr.mono (by decide)) T.zfR T.zd3.kp T.zfM (au (ai 0) aI)) f9.nd)
  (aF (cf (n:=7) (c7 (Ft T) (hr.mono (by decide)) T.zhQ T.zfk.kp T.zhE (au (ai 0) (au (ai 2) (au (ai 3) aI)))) f9.nd)
  (aF (cf (n:=8) mK f9.nd)
  (aF (jz (one:=true) (is:=[9]) (jJ (ai 1)) (fQ f9.nd) (aF (cf (n:=10) (dq (bS hr) (c7 (uG T) (hr.mono (by decide)) T.zkj T.ziL.kp T.zka (au (ai 4) (au (ai 9) (au (ai 6) aI)))) ge_int) f9.nd)
  (aF (cf (n:=11) (dq (bS hr) (c7 (uG T) (hr.mono (by decide)) T.zkj T.ziL.kp T.zka (au (ai 4) (au (ai 9) (au (ai 7) aI)))) ge_int) f9.nd)
  (aM (jz (one:=false) (is:=[12,13,14]) (IG (ai 5) (ai 10) (ai 11) T.zqr) (pL (iK (n:=12) (iK (n:=13) (iK (n:=14) o8 f9.nd) f9.nd) f9.nd)) (aM (cg (GW.gt (Ew (bO (λ_=>(my hr.units)) l6 (ai 12) (ai 2) (bV _)) (kq .And (bO (λ_=>iX) iZ (ai 14) (ai 13) (bV _))))) (aM (kM (ai 8) (ai 12) oA (hg:=λE t t' h1 h2=>lG h1 h2 (jV (bS hr))))) cq)))))))
  (aM (cJ (lm (x:=["other"]) (one:=true) (d3.of rfl ⟨rfl,trivial⟩ rfl rfl) (jJ (ai 5)) (λC s H fp pins=>(ai 15)) (λC s H fp pins=>(bO (λ_=>(oU (bS hr))) jq (ai 15) (ai 8) rfl)) (λnd C s H fp pins=>fQ nd))))))))))))
theorem xU:bF ["book","years","name","point","right"] ["book","years","name","point"] (bg rJ):=⟨rfl,rfl,rfl,by decide +kernel,rfl,by decide +kernel,by decide +kernel⟩
theorem BL(T:Txt K mg a):FnG P w K mg base a.cl 8 a.zo0 a.zoX ["book","years","name","point"] qc:=by
 refine bU (N:=["book","years","name","point","right"]) (k:=7) (g:=u8) T.zoV xU rfl λcdv A outer s H E sa ns hr=>?_;exact (aF (cg (bO (λ_=>jt) jE (d8 (λ_=>eP) eQ (c7 (DD T) (hr.mono (by decide)) T.zmX T.zkc.kp T.zmU (au (ai 0) (au (ai 1) (au (ai 2) (au (ai 3) aI))))) T.zfH PySem.boot_len) ge_int (bV _)) (aM (dH (c:=109) dD T.zoZ T.zo4 hr.hd (au cr aI))) cq)
  (aF (cf (n:=4) (cx (c:=3) (mth:="right") (ai 0) T.zah T.zbe (kn T) (hr.mono (by decide)) T.zbs (au (ai 2) aI)) xU.nd)
  (aF (cy (cx (c:=3) (mth:="drop") (ai 0) T.zah T.zfG (zH T) (hr.mono (by decide)) T.zgh (au (ai 2) aI)))
  (aF (cy (cx (c:=3) (mth:="grant") (ai 0) T.zah T.zci (qz T) (hr.mono (by decide)) T.zcH (au (ai 2) (au (ai 3) (au (dq (bS hr) (ai 4) ge_int) (au (dq (bS hr) (ai 4) ge_int) aI))))))
  (aM (cJ (dq (bS hr) (ai 4) ge_int)))))))
theorem DG:bF ["word","most","number"] ["word","most"] (bg pG):=⟨rfl,rfl,rfl,by decide +kernel,rfl,by decide +kernel,by decide +kernel⟩
theorem Bh(T:Txt K mg a):FnG P w K mg base a.cl 1 a.zeH a.zey ["word","most"] qN:=by
 obtain⟨t_FIGURES,h_FIGURES⟩:=T.zlk;refine bU (N:=["word","most","number"]) (k:=0) (g:=pT) T.zep DG rfl λcdv A outer s H E sa ns hr=>?_;exact (aF (cg (GW.gt (ju (bO (λ_=>iX) iZ (d8 (λ_=>eP) eQ (ai 0) T.zfH PySem.boot_len) ge_int (bV _)) (ju (bO (λ_=>jt) jE (d8 (λ_=>eP) eQ (ai 0) T.zfH PySem.boot_len) (d8 (λ_=>eP) eQ (yz (λ_=>C4) Hs (ai 1) T.ztT PyProof.Rows.Boot.«str») T.zfH PySem.boot_len) (bV _)) (kq .Or (vZ (xO (d8 (λ_=>E0 rfl) DV (lm (x:=["sign"]) (one:=true) (d3.of rfl trivial rfl rfl) (Ha (ai 0)) (λC s H fp pins=>(uD (λ_=>E2) IE (ai 3) (DX rfl h_FIGURES ⟨_,rfl⟩) rfl)) trivial (λnd C s H fp pins=>fQ nd)) T.ztR boot_all))))))) (aM (dH (c:=212) dD T.zd9 T.zea hr.hd (au cr aI))) cq)
  (aF iI
  (aF iI
  (aM iI))))
theorem rK:bF ["line","words","below","e"] ["line"] (bg sd):=⟨rfl,rfl,rfl,by decide +kernel,rfl,by decide +kernel,by decide +kernel⟩
theorem IA(T:Txt K mg a):FnG P w K mg base a.cl 4 a.zfE a.zft ["line"] ue:=by
 obtain⟨t_MOST_POINTS,h_MOST_POINTS⟩:=T.zeI;refine bU (N:=["line","words","below","e"]) (k:=3) (g:=qp) T.zfj rK rfl λcdv A outer s H E sa ns hr=>?_;exact (aF (cf (n:=1) (zC (ai 0) cr) rK.nd)
  (aF (cg (bO (λ_=>(my hr.units)) l6 (dq (bS hr) (ai 1) ge_int) cr (bV _)) (aM (dH (c:=212) dD T.zd9 T.zea hr.hd (au cr aI))) cq)
  (aF (BE (n:=2) (x:=["word"]) (one:=true) (d3.of rfl trivial rfl rfl) (jJ (xq (ai 1) ge_int trivial)) (λC s H fp pins=>(Cb (bO (λ_=>(eS hr.units)) eW (ai 4) cr (bV _)) sP (c7 (Bh T) (hr.mono (by decide)) T.zg0 T.zep.kp T.zgL (au (ai 4) (au (l9 rfl h_MOST_POINTS ⟨_,rfl⟩) aI))))) (λnd C s H fp pins=>fQ nd) rK.nd)
  (aM (Hv (c2:=212) (i:=3) (cs:=[101]) (λpn EX=>(aM (cJ (iW (c:=1) T.zh9 (tG T) (hr.mono (by decide)) T.zkh T.zb4 (au (ai 2) aI))))) (BS (by exact T.zdd) (by rfl) (by exact T.zan) (by exact EH T.ziU (by decide))) dD T.zd9 T.zea (λn hn=>by simp only [List.contains_cons,List.contains_nil,Bool.or_false,ul,beq_iff_eq] at hn;rcases hn with rfl <;> first | exact ⟨rfl,T.zan.sb⟩) rK.nd rfl rfl (Or.inl rfl))))))
theorem sS:bF ["text","lines","book","line"] ["text"] (bg qK):=⟨rfl,rfl,rfl,by decide +kernel,rfl,by decide +kernel,by decide +kernel⟩
theorem Cy(T:Txt K mg a):FnG P w K mg base a.cl 5 a.zo1 a.zoY ["text"] qB:=by
 obtain⟨t_MOST_RIGHTS,h_MOST_RIGHTS⟩:=T.zgS;refine bU (N:=["text","lines","book","line"]) (k:=4) (g:=oj) T.zoW sS rfl λcdv A outer s H E sa ns hr=>?_;exact (aF (cf (n:=1) (zC (ai 0) cr) sS.nd)
  (aF (cg (bO (λ_=>jt) jE (d8 (λ_=>eP) eQ (ai 1) T.zfH PySem.boot_len) (dn (λ_=>gp) fX ge_int (l9 rfl h_MOST_RIGHTS ⟨_,rfl⟩)) (bV _)) (aM (dH (c:=212) dD T.zd9 T.zea hr.hd (au cr aI))) cq)
  (aF (cf (n:=2) (iW (c:=3) T.zl8 (xj T) (hr.mono (by decide)) T.zo3 T.zdp (au (c7 (IA T) (hr.mono (by decide)) T.zhP T.zfj.kp T.zhD (au (dq (bS hr) (ai 1) ge_int) aI)) aI)) sS.nd)
  (aF iI
  (aF iI
  (aM iI))))))
theorem wV:bF ["which","cell","book"] ["which","cell"] (bg qA):=⟨rfl,rfl,rfl,by decide +kernel,rfl,by decide +kernel,by decide +kernel⟩
theorem Dl(T:Txt K mg a):FnG P w K mg base a.cl 9 a.zeG a.zex ["which","cell"] pN:=by
 refine bU (N:=["which","cell","book"]) (k:=8) (g:=rH) T.zeo wV rfl λcdv A outer s H E sa ns hr=>?_;exact (aF (cf (n:=2) (c7 (wS T) (hr.mono (by decide)) T.zhr T.zfN.kp T.zhh (au (ai 1) aI)) wV.nd)
  (aF (cg (bO (λ_=>(eS hr.units)) eW (ai 0) ge_int (bV _)) (aM (cy (iW (c:=1) T.zh9 (tG T) (hr.mono (by decide)) T.zkh T.zb4 (au (fq (au sP (au (dn (λ_=>gp) fX ge_int (dn (λ_=>lJ) ky (ai 1) ge_int)) aI))) aI)))) cq)
  (aF (cg (bO (λ_=>(eS hr.units)) eW (ai 0) ge_int (bV _)) (aM (cy (c7 (Ak T) (hr.mono (by decide)) T.zl7 T.zkb.kp T.zlW (au (ai 2) (au (fq (au ge_int (au ge_int (au (dn (λ_=>oG) qV (EM ge_int) (ai 1)) aI)))) aI))))) cq)
  (aF (cg (bO (λ_=>(eS hr.units)) eW (ai 0) ge_int (bV _)) (aM (cy (cx (c:=1) (mth:="way") (gj (c:=3) (mth:="river") (ai 2) T.zah T.zbR (nW T) (hr.mono (by decide)) T.zb9) T.za8 T.zdN (tQ T) (hr.mono (by decide)) T.zek (au (dn (λ_=>gp) fX ge_int (ai 1)) aI)))) cq)
  (aF (cg (bO (λ_=>(eS hr.units)) eW (ai 0) ge_int (bV _)) (aM (cy (cx (c:=3) (mth:="grant") (ai 2) T.zah T.zci (qz T) (hr.mono (by decide)) T.zcH (au cr (au ge_int (au (ai 1) (au ge_int aI))))))) cq)
  (aF (cg (bO (λ_=>(eS hr.units)) eW (ai 0) ge_int (bV _)) (aM (cy (cx (c:=3) (mth:="drop") (ai 2) T.zah T.zfG (zH T) (hr.mono (by decide)) T.zgh (au cr aI)))) cq)
  (aF (cg (bO (λ_=>(eS hr.units)) eW (ai 0) ge_int (bV _)) (aM (cy (c7 (Cn T) (hr.mono (by decide)) T.ztQ T.zr5.kp T.ztO (au (ai 2) (au (fq (au (ai 1) (au ge_int (au ge_int aI)))) (au cr aI)))))) cq)
  (aF (cg (bO (λ_=>(eS hr.units)) eW (ai 0) ge_int (bV _)) (aM (cy (cx (c:=3) (mth:="unite") (ai 2) T.zah T.zg1 (Hk T) (hr.mono (by decide)) T.zhy (au cr (au cr aI))))) cq)
  (aF (cg (bO (λ_=>(eS hr.units)) eW (ai 0) ge_int (bV _)) (aM (cy (c7 (BL T) (hr.mono (by decide)) T.zqO T.zoV.kp T.zqL (au (ai 2) (au (fq (au (fq (au ge_int (au ge_int (au ge_int aI)))) aI)) (au cr (au ge_int aI))))))) cq)
  (aF (cg (bO (λ_=>(eS hr.units)) eW (ai 0) ge_int (bV _)) (aM (cy (c7 (Cy T) (hr.mono (by decide)) T.zqP T.zoW.kp T.zqM (au (dn (λ_=>gp) fX cr (dn (λ_=>IH) Bx cr (dn (λ_=>lJ) ky (ai 1) ge_int))) aI)))) cq)
  (aM (cg (bO (λ_=>(oU (bS hr))) jq (ai 0) (fq (au ge_int (au ge_int (au ge_int aI)))) rfl) (aM (cy (c7 (Bc T) (hr.mono (by decide)) T.zcW T.zbW.kp T.zcU (au (ai 0) (au (ai 1) aI))))) cq))))))))))))
theorem lM:bF ["which","cell","found","value","e"] ["which","cell"] (bg rm):=⟨rfl,rfl,rfl,by decide +kernel,rfl,by decide +kernel,by decide +kernel⟩
theorem Fh(T:Txt K mg a):FnG P w K mg base a.cl 10 a.zfD a.zfs ["which","cell"] qU:=by
 refine bU (N:=["which","cell","found","value","e"]) (k:=9) (g:=rE) T.zfi lM rfl λcdv A outer s H E sa ns hr=>?_;exact (aF (cf (n:=2) (fq aI) lM.nd)
  (aF (cf (n:=3) oA lM.nd)
  (aF (C3 (al:=[100,101,102,103,104,105,106,107,108,109,110,111,212]) (λpn EX=>(aM (cy (c7 (Dl T) (hr.mono (by decide)) T.zgZ T.zeo.kp T.zgK (au (ai 0) (au (ai 1) aI)))))) (.named (i:=4) T.zjC rfl T.zar T.ziV lM.nd rfl rfl (λA'=>(aF (cf (n:=2) (GH (IQ T) (gQ.of hr (by decide)) T.zgY T.zen.kp T.zgJ (au (ai 4) aI)) lM.nd)
  (aM (cf (n:=3) (fM (ai 4) (λE=>Bm (v:=.ty "ValueError") rfl T.zhR PyProof.Rows.Boot.«ValueError» rfl) (.inl ⟨_,rfl,rfl⟩) T.zgT T.zax) lM.nd)))) (by decide) GHs.nil))
  (aM (cJ (Ef (ai 3) (HA (uD (λ_=>(eS hr.units)) eW (ai 2) (lm (x:=["k"]) (one:=true) (d3.of rfl ⟨rfl,trivial⟩ rfl rfl) (Ap ge_int T.ziT) (λC s H fp pins=>(uD (λ_=>(eS hr.units)) eW (ai 5) (ai 0) (bV _))) trivial (λnd C s H fp pins=>fQ nd)) (bV _)))))))))
theorem Dh:bF ["script","k"] ["script","k"] (bg o0):=⟨rfl,rfl,rfl,by decide +kernel,rfl,by decide +kernel,by decide +kernel⟩
theorem wC(T:Txt K mg a):FnG P w K mg base a.cl 1 a.zeE a.zev ["script","k"] kf:=by
 refine bU (N:=["script","k"]) (k:=0) (g:=qQ) T.zc9 Dh rfl λcdv A outer s H E sa ns hr=>?_;exact (aF (cg (bO (λ_=>iX) iZ (ai 1) (d8 (λ_=>eP) eQ (ai 0) T.zfH PySem.boot_len) (bV _)) (aM (cJ (dq (bS hr) (ai 0) (ai 1)))) cq)
  (aM (cJ ge_int)))
theorem vq:bF ["script","cell","k"] ["script"] (bg oQ):=⟨rfl,rfl,rfl,by decide +kernel,rfl,by decide +kernel,by decide +kernel⟩
theorem Fg(T:Txt K mg a):FnG P w K mg base a.cl 11 a.zr9 a.zr7 ["script"] me:=by
 refine bU (N:=["script","cell","k"]) (k:=10) (g:=pJ) T.ztP vq rfl λcdv A outer s H E sa ns hr=>?_;exact (aF (cf (n:=1) (dn (λ_=>lJ) ky (c7 (wC T) (hr.mono (by decide)) T.zeJ T.zc9.kp T.zel (au (ai 0) (au ge_int aI))) ge_int) vq.nd)
  (aF (jz (one:=true) (is:=[2]) (Ap ge_int T.ziT) (fQ vq.nd) (aM (cg (vZ (xO (c7 (Fh T) (hr.mono (by decide)) T.zhO T.zfi.kp T.zhC (au (dn (λ_=>lJ) ky (dn (λ_=>gp) fX (c7 (wC T) (hr.mono (by decide)) T.zeJ T.zc9.kp T.zel (au (ai 0) (au ge_int aI))) (ai 2)) ge_int) (au (ai 1) aI))))) (aM (cJ oA)) cq)))
  (aM (cJ oA))))
end
end L2.Rv
namespace L2.Rv
open PySem PySem.Spec PyProof.Rows
open PySem.W
def uY(K:Frag)(tb:ae):Sp:=λvs H Q _=>∃(sa:ae) (ns:List Int),vs=[.ref sa]/\qI tb H/\H tb=some (.tbl #[])/\SqL K H sa (ns.map V.int)/\ns.length≤63/\∀H',Q (.bl true) H'
noncomputable def AQ:Adr:=⟨195,279,335,474,565,31,44,56,68,80,92,104,116,128,140,152,164,176,227,fO "names" "Book.names" qM "riverdue.rights" 406 226,604,fO "_law_classes" "_law_classes" qk "law_riverdue_k28_each_refusal_alone" 959 603,269,fO "held_right" "Book.held_right" rQ "riverdue.rights" 406 268,248,fO "drop" "Book.drop" rj "riverdue.rights" 406 247,276,fO "check_free" "Book.check_free" pW "riverdue.rights" 406 275,192,fO "__init__" "Right.__init__" pO "riverdue.rights" 406 191,311,fO "check_point" "River.check_point" rL "riverdue.river" 553 310,241,fO "grant" "Book.grant" pY "riverdue.rights" 406 240,220,fO "river" "Book.river" r6 "riverdue.rights" 406 219,262,fO "unite" "Book.unite" oE "riverdue.rights" 406 261,346,fO "check_below" "check_below" oK "riverdue.river" 553 345,297,fO "__init__" "River.__init__" oP "riverdue.river" 553 296,325,fO "way" "River.way" oM "riverdue.river" 553 324,213,fO "__init__" "Book.__init__" rF "riverdue.rights" 406 212,583,fO "_law_book" "_law_book" se "law_riverdue_k28_each_refusal_alone" 959 582,492,fO "__init__" "Office.__init__" pM "riverdue.office" 803 491,471,fO "__init__" "Pond.__init__" pF "riverdue.office" 803 470,499,fO "dig" "Office.dig" rY "riverdue.office" 803 498,234,fO "right" "Book.right" qZ "riverdue.rights" 406 233,555,fO "give" "Office.give" qD "riverdue.office" 803 554,527,fO "got" "Office.got" oV "riverdue.office" 803 526,548,fO "pond_called" "Office.pond_called" qJ "riverdue.office" 803 547,513,fO "send" "Office.send" pP "riverdue.office" 803 512,520,fO "stored" "Office.stored" qH "riverdue.office" 803 519,590,fO "_law_office_refuses" "_law_office_refuses" oJ "law_riverdue_k28_each_refusal_alone" 959 589,304,fO "points" "River.points" qj "riverdue.river" 553 303,318,fO "below" "River.below" ql "riverdue.river" 553 317,353,fO "check_year" "check_year" ss "riverdue.river" 553 352,358,fO "flows" "flows" rG "riverdue.river" 553 357,409,fO "serve" "serve" qv "riverdue.dealing" 730 408,414,fO "wants_of" "wants_of" rX "riverdue.dealing" 730 413,421,fO "dealt" "dealt" oI "riverdue.dealing" 730 420,433,fO "short" "short" rW "riverdue.dealing" 730 432,438,fO "dry" "dry" qO "riverdue.dealing" 730 437,450,fO "wants_with" "wants_with" qW "riverdue.changes" 773 449,443,fO "harmed" "harmed" rZ "riverdue.changes" 773 442,457,fO "move" "move" rJ "riverdue.changes" 773 456,404,fO "read_number" "read_number" pG "riverdue.notes" 652 403,387,fO "read_river" "read_river" sd "riverdue.notes" 652 386,382,fO "read" "read" qK "riverdue.notes" 652 381,597,fO "_law_refuses" "_law_refuses" qA "law_riverdue_k28_each_refusal_alone" 959 596,609,fO "_law_caught" "_law_caught" rm "law_riverdue_k28_each_refusal_alone" 959 608,576,fO "_law_cell_at" "_law_cell_at" o0 "law_riverdue_k28_each_refusal_alone" 959 575,616,fO "law" "law" oQ "law_riverdue_k28_each_refusal_alone" 959 615,222⟩
theorem all_mk{l:OpenLaw}{w:aQ}{h:aH}{mg:Str->Option af}{fa:ae}(X:(KM w).In h)(G:h.Ns dz mg)(hfa:mg "law"=some (.ref fa))
  (hold:∀ns:List Int,ns.length≤63->∃h',me [.scr ns] []=.ok (.bl true) h') :
  (∃c o vs,(KM w).lookup c=some o/\o.cls=.type "code"/\o.data=.fields vs/\vs[11]?=some (.ref 222))/\∃fd:bc,(∀(s:aj) (v:af),BindsTo s fd ⟨[v],[]⟩ [("script",v)])/\∀base:aH,(KM w).In base->base.Ns dz mg->iE l.prog w (KM w) mg base (CXe l.prog w) 11 fa fd ["script"] (uY (KM w) 222):=by
 have x_a_law:nsIn (KM w) dz "law"=some (some (.ref 616)):=by kernel_rfl
 have x_lcd:((.ref 226):af)=.ref 226:=by rfl
 have x_lco:(KM w).lookup 226=some ⟨.type "code",none,.fields KQc,#[]⟩:=by kernel_rfl
 have x_l11:KQc[11]?=some (.ref 222):=by rfl
 have x_l11d:KQc.getD 11 .none=.ref 222:=by rfl
 have x_l18:KQc.getD 18 .none=.str "/claim/cut.py" 476:=by rfl
 have x_l7:KQc.getD 7 .none=.int 3 0:=by rfl
 have x_l9:KQc.getD 9 .none=.bool true:=by rfl
 have x_l10:KQc.getD 10 .none=.int 181 0:=by rfl
 have x_bms:nsIn (KM w) dz "__builtins__"=some (some (.ref 4)):=by kernel_rfl
 have x_bml:(KM w).lookup 4=some ⟨.type "module",some builtinsNs,.plain,#[]⟩:=by kernel_rfl
 have x_bm1:4≠builtinsNs:=by decide
 have x_bm2:4≠dz:=by decide
 have x_sp_cls:specialIn (KM w) (.builtin "object.__class__") "__get__"=some (some (.builtin "getset_descriptor.__get__")):=by kernel_rfl
 have x_tk_cls:takesIn (KM w) (.builtin "object.__class__")=some true:=by kernel_rfl
 obtain rfl:616=fa:=(Value.ref.inj (Option.some.inj (hfa.symm.trans (mg_of X G x_a_law)))).symm;have zar:cI (KM w) 31:=nX x_sp_cls x_tk_cls;have zan:cI (KM w) 44:=nX x_sp_cls x_tk_cls;have zaJ:cI (KM w) 56:=nX x_sp_cls x_tk_cls;have zaK:cI (KM w) 68:=nX x_sp_cls x_tk_cls;have zbo:cI (KM w) 80:=nX x_sp_cls x_tk_cls;have zaL:cI (KM w) 92:=nX x_sp_cls x_tk_cls;have zaw:cI (KM w) 104:=nX x_sp_cls x_tk_cls;have zaM:cI (KM w) 116:=nX x_sp_cls x_tk_cls;have za1:cI (KM w) 128:=nX x_sp_cls x_tk_cls;have zbZ:cI (KM w) 140:=nX x_sp_cls x_tk_cls;have za0:cI (KM w) 152:=nX x_sp_cls x_tk_cls;have zav:cI (KM w) 164:=nX x_sp_cls x_tk_cls;have zaI:cI (KM w) 176:=nX x_sp_cls x_tk_cls;have T:Txt (KM w) mg AQ:={
  zhR:=nN X G
  ztR:=nN X G
  zax:=nN X G
  zfH:=nN X G
  zo9:=nN X G
  ztS:=nN X G
  zsa:=nN X G
  ziT:=nN X G
  zmZ:=nN X G
  ztT:=nN X G
  zqr:=nN X G
  zlk:=⟨662,nR X G⟩
  zgQ:=⟨408,nR X G⟩
  zgR:=⟨557,nR X G⟩
  zeI:=⟨555,nR X G⟩
  zgS:=⟨654,nR X G⟩
  zo5:=nR X G
  zbc:=nC
  zmY:=nK
  zbC:=nA
  za6:=nA
  zbT:=nA
  zo3:=nR X G
  zah:=nC
  zl8:=nK
  zcA:=nA
  zaD:=nA
  zkh:=nR X G
  za8:=nC
  zh9:=nK
  zba:=nA
  zqN:=nR X G
  zbK:=nC
  zo8:=nK
  zbS:=nA
  zhS:=nA
  zca:=nA
  zaV:=nA
  zmW:=nR X G
  zaj:=nC
  zln:=nK
  zbB:=nA
  za5:=nA
  zbf:=nA
  zbG:=nA
  zeb:=nA
  zjC:=nR X G
  zar:=zar
  zdd:=nR X G
  zan:=zan
  zgU:=nR X G
  zaJ:=zaJ
  ziR:=nR X G
  zaK:=zaK
  zki:=nR X G
  zbo:=zbo
  ziS:=nR X G
  zaL:=zaL
  zhq:=nR X G
  zaw:=zaw
  zgV:=nR X G
  zaM:=zaM
  zgW:=nR X G
  za1:=za1
  zo4:=nR X G
  zbZ:=zbZ
  zkg:=nR X G
  za0:=za0
  zhp:=nR X G
  zav:=zav
  zea:=nR X G
  zaI:=zaI
  zez:=by kernel_rfl
  zd9:=by kernel_rfl
  zhl:=by kernel_rfl
  zoZ:=by kernel_rfl
  zjv:=by kernel_rfl
  zlj:=by kernel_rfl
  zjw:=by kernel_rfl
  ziM:=by kernel_rfl
  ziN:=by kernel_rfl
  zke:=by kernel_rfl
  zhm:=by kernel_rfl
  zgP:=by kernel_rfl
  ziO:=.exc (λn hn=>by simp only[bu,cW,or_false]at hn;rcases hn with rfl|rfl|rfl|rfl|rfl|rfl|rfl|rfl|rfl|rfl|rfl|rfl|rfl <;> first|exact⟨zar,by kernel_rfl⟩|exact⟨zan,by kernel_rfl⟩|exact⟨zaJ,by kernel_rfl⟩|exact⟨zaK,by kernel_rfl⟩|exact⟨zbo,by kernel_rfl⟩|exact⟨zaL,by kernel_rfl⟩|exact⟨zaw,by kernel_rfl⟩|exact⟨zaM,by kernel_rfl⟩|exact⟨za1,by kernel_rfl⟩|exact⟨zbZ,by kernel_rfl⟩|exact⟨za0,by kernel_rfl⟩|exact⟨zav,by kernel_rfl⟩|exact⟨zaI,by kernel_rfl⟩)
  zjx:=.exc (λn hn=>by simp only[bu,cW,or_false]at hn;rcases hn with rfl|rfl|rfl|rfl|rfl|rfl|rfl|rfl|rfl|rfl|rfl|rfl|rfl <;> first|exact⟨zar,by kernel_rfl⟩|exact⟨zan,by kernel_rfl⟩|exact⟨zaJ,by kernel_rfl⟩|exact⟨zaK,by kernel_rfl⟩|exact⟨zbo,by kernel_rfl⟩|exact⟨zaL,by kernel_rfl⟩|exact⟨zaw,by kernel_rfl⟩|exact⟨zaM,by kernel_rfl⟩|exact⟨za1,by kernel_rfl⟩|exact⟨zbZ,by kernel_rfl⟩|exact⟨za0,by kernel_rfl⟩|exact⟨zav,by kernel_rfl⟩|exact⟨zaI,by kernel_rfl⟩)
  zjy:=.exc (λn hn=>by simp only[bu,cW,or_false]at hn;rcases hn with rfl|rfl|rfl|rfl|rfl|rfl|rfl|rfl|rfl|rfl|rfl|rfl|rfl <;> first|exact⟨zar,by kernel_rfl⟩|exact⟨zan,by kernel_rfl⟩|exact⟨zaJ,by kernel_rfl⟩|exact⟨zaK,by kernel_rfl⟩|exact⟨zbo,by kernel_rfl⟩|exact⟨zaL,by kernel_rfl⟩|exact⟨zaw,by kernel_rfl⟩|exact⟨zaM,by kernel_rfl⟩|exact⟨za1,by kernel_rfl⟩|exact⟨zbZ,by kernel_rfl⟩|exact⟨za0,by kernel_rfl⟩|exact⟨zav,by kernel_rfl⟩|exact⟨zaI,by kernel_rfl⟩)
  zo2:=.exc (λn hn=>by simp only[bu,cW,or_false]at hn;rcases hn with rfl|rfl|rfl|rfl|rfl|rfl|rfl|rfl|rfl|rfl|rfl|rfl|rfl <;> first|exact⟨zar,by kernel_rfl⟩|exact⟨zan,by kernel_rfl⟩|exact⟨zaJ,by kernel_rfl⟩|exact⟨zaK,by kernel_rfl⟩|exact⟨zbo,by kernel_rfl⟩|exact⟨zaL,by kernel_rfl⟩|exact⟨zaw,by kernel_rfl⟩|exact⟨zaM,by kernel_rfl⟩|exact⟨za1,by kernel_rfl⟩|exact⟨zbZ,by kernel_rfl⟩|exact⟨za0,by kernel_rfl⟩|exact⟨zav,by kernel_rfl⟩|exact⟨zaI,by kernel_rfl⟩)
  zjz:=.exc (λn hn=>by simp only[bu,cW,or_false]at hn;rcases hn with rfl|rfl|rfl|rfl|rfl|rfl|rfl|rfl|rfl|rfl|rfl|rfl|rfl <;> first|exact⟨zar,by kernel_rfl⟩|exact⟨zan,by kernel_rfl⟩|exact⟨zaJ,by kernel_rfl⟩|exact⟨zaK,by kernel_rfl⟩|exact⟨zbo,by kernel_rfl⟩|exact⟨zaL,by kernel_rfl⟩|exact⟨zaw,by kernel_rfl⟩|exact⟨zaM,by kernel_rfl⟩|exact⟨za1,by kernel_rfl⟩|exact⟨zbZ,by kernel_rfl⟩|exact⟨za0,by kernel_rfl⟩|exact⟨zav,by kernel_rfl⟩|exact⟨zaI,by kernel_rfl⟩)
  zll:=.exc (λn hn=>by simp only[bu,cW,or_false]at hn;rcases hn with rfl|rfl|rfl|rfl|rfl|rfl|rfl|rfl|rfl|rfl|rfl|rfl|rfl <;> first|exact⟨zar,by kernel_rfl⟩|exact⟨zan,by kernel_rfl⟩|exact⟨zaJ,by kernel_rfl⟩|exact⟨zaK,by kernel_rfl⟩|exact⟨zbo,by kernel_rfl⟩|exact⟨zaL,by kernel_rfl⟩|exact⟨zaw,by kernel_rfl⟩|exact⟨zaM,by kernel_rfl⟩|exact⟨za1,by kernel_rfl⟩|exact⟨zbZ,by kernel_rfl⟩|exact⟨za0,by kernel_rfl⟩|exact⟨zav,by kernel_rfl⟩|exact⟨zaI,by kernel_rfl⟩)
  zjA:=.exc (λn hn=>by simp only[bu,cW,or_false]at hn;rcases hn with rfl|rfl|rfl|rfl|rfl|rfl|rfl|rfl|rfl|rfl|rfl|rfl|rfl <;> first|exact⟨zar,by kernel_rfl⟩|exact⟨zan,by kernel_rfl⟩|exact⟨zaJ,by kernel_rfl⟩|exact⟨zaK,by kernel_rfl⟩|exact⟨zbo,by kernel_rfl⟩|exact⟨zaL,by kernel_rfl⟩|exact⟨zaw,by kernel_rfl⟩|exact⟨zaM,by kernel_rfl⟩|exact⟨za1,by kernel_rfl⟩|exact⟨zbZ,by kernel_rfl⟩|exact⟨za0,by kernel_rfl⟩|exact⟨zav,by kernel_rfl⟩|exact⟨zaI,by kernel_rfl⟩)
  ziP:=.exc (λn hn=>by simp only[bu,cW,or_false]at hn;rcases hn with rfl|rfl|rfl|rfl|rfl|rfl|rfl|rfl|rfl|rfl|rfl|rfl|rfl <;> first|exact⟨zar,by kernel_rfl⟩|exact⟨zan,by kernel_rfl⟩|exact⟨zaJ,by kernel_rfl⟩|exact⟨zaK,by kernel_rfl⟩|exact⟨zbo,by kernel_rfl⟩|exact⟨zaL,by kernel_rfl⟩|exact⟨zaw,by kernel_rfl⟩|exact⟨zaM,by kernel_rfl⟩|exact⟨za1,by kernel_rfl⟩|exact⟨zbZ,by kernel_rfl⟩|exact⟨za0,by kernel_rfl⟩|exact⟨zav,by kernel_rfl⟩|exact⟨zaI,by kernel_rfl⟩)
  ziQ:=.exc (λn hn=>by simp only[bu,cW,or_false]at hn;rcases hn with rfl|rfl|rfl|rfl|rfl|rfl|rfl|rfl|rfl|rfl|rfl|rfl|rfl <;> first|exact⟨zar,by kernel_rfl⟩|exact⟨zan,by kernel_rfl⟩|exact⟨zaJ,by kernel_rfl⟩|exact⟨zaK,by kernel_rfl⟩|exact⟨zbo,by kernel_rfl⟩|exact⟨zaL,by kernel_rfl⟩|exact⟨zaw,by kernel_rfl⟩|exact⟨zaM,by kernel_rfl⟩|exact⟨za1,by kernel_rfl⟩|exact⟨zbZ,by kernel_rfl⟩|exact⟨za0,by kernel_rfl⟩|exact⟨zav,by kernel_rfl⟩|exact⟨zaI,by kernel_rfl⟩)
  zmV:=.exc (λn hn=>by simp only[bu,cW,or_false]at hn;rcases hn with rfl|rfl|rfl|rfl|rfl|rfl|rfl|rfl|rfl|rfl|rfl|rfl|rfl <;> first|exact⟨zar,by kernel_rfl⟩|exact⟨zan,by kernel_rfl⟩|exact⟨zaJ,by kernel_rfl⟩|exact⟨zaK,by kernel_rfl⟩|exact⟨zbo,by kernel_rfl⟩|exact⟨zaL,by kernel_rfl⟩|exact⟨zaw,by kernel_rfl⟩|exact⟨zaM,by kernel_rfl⟩|exact⟨za1,by kernel_rfl⟩|exact⟨zbZ,by kernel_rfl⟩|exact⟨za0,by kernel_rfl⟩|exact⟨zav,by kernel_rfl⟩|exact⟨zaI,by kernel_rfl⟩)
  zjB:=.exc (λn hn=>by simp only[bu,cW,or_false]at hn;rcases hn with rfl|rfl|rfl|rfl|rfl|rfl|rfl|rfl|rfl|rfl|rfl|rfl|rfl <;> first|exact⟨zar,by kernel_rfl⟩|exact⟨zan,by kernel_rfl⟩|exact⟨zaJ,by kernel_rfl⟩|exact⟨zaK,by kernel_rfl⟩|exact⟨zbo,by kernel_rfl⟩|exact⟨zaL,by kernel_rfl⟩|exact⟨zaw,by kernel_rfl⟩|exact⟨zaM,by kernel_rfl⟩|exact⟨za1,by kernel_rfl⟩|exact⟨zbZ,by kernel_rfl⟩|exact⟨za0,by kernel_rfl⟩|exact⟨zav,by kernel_rfl⟩|exact⟨zaI,by kernel_rfl⟩)
  zlm:=.exc (λn hn=>by simp only[bu,cW,or_false]at hn;rcases hn with rfl|rfl|rfl|rfl|rfl|rfl|rfl|rfl|rfl|rfl|rfl|rfl|rfl <;> first|exact⟨zar,by kernel_rfl⟩|exact⟨zan,by kernel_rfl⟩|exact⟨zaJ,by kernel_rfl⟩|exact⟨zaK,by kernel_rfl⟩|exact⟨zbo,by kernel_rfl⟩|exact⟨zaL,by kernel_rfl⟩|exact⟨zaw,by kernel_rfl⟩|exact⟨zaM,by kernel_rfl⟩|exact⟨za1,by kernel_rfl⟩|exact⟨zbZ,by kernel_rfl⟩|exact⟨za0,by kernel_rfl⟩|exact⟨zav,by kernel_rfl⟩|exact⟨zaI,by kernel_rfl⟩)
  zgT:=.exc (λn hn=>by simp only[bu,cW,or_false]at hn;rcases hn with rfl|rfl|rfl|rfl|rfl|rfl|rfl|rfl|rfl|rfl|rfl|rfl|rfl <;> first|exact⟨zar,by kernel_rfl⟩|exact⟨zan,by kernel_rfl⟩|exact⟨zaJ,by kernel_rfl⟩|exact⟨zaK,by kernel_rfl⟩|exact⟨zbo,by kernel_rfl⟩|exact⟨zaL,by kernel_rfl⟩|exact⟨zaw,by kernel_rfl⟩|exact⟨zaM,by kernel_rfl⟩|exact⟨za1,by kernel_rfl⟩|exact⟨zbZ,by kernel_rfl⟩|exact⟨za0,by kernel_rfl⟩|exact⟨zav,by kernel_rfl⟩|exact⟨zaI,by kernel_rfl⟩)
  ziU:=(λn hn=>by simp only[bu,cW,or_false]at hn;rcases hn with rfl|rfl|rfl|rfl|rfl|rfl|rfl|rfl|rfl|rfl|rfl|rfl|rfl <;> kernel_rfl)
  ziV:=(λn hn=>by simp only[bu,cW,or_false]at hn;rcases hn with rfl|rfl|rfl|rfl|rfl|rfl|rfl|rfl|rfl|rfl|rfl|rfl|rfl <;> kernel_rfl)
  zhG:=fm
  zcI:=.all (len1 λ_=>rfl)
  zcj:=nM
  zen:=fm
  zgJ:=.all (len1 λ_=>rfl)
  zgY:=nR X G
  zd1:=fm
  zbp:=.all (len2 λ_ _=>rfl)
  zbd:=nM
  ziJ:=fm
  zgh:=.all (len2 λ_ _=>rfl)
  zfG:=nM
  zd0:=fm
  zdY:=.all (len2 λ_ _=>rfl)
  zdM:=nM
  zeN:=fm
  zeM:=.all (len4 λ_ _ _ _=>rfl)
  zdq:=fm
  zaQ:=.all (len2 λ_ _=>rfl)
  zaN:=nM
  zhF:=fm
  zcH:=.all (len5 λ_ _ _ _ _=>rfl)
  zci:=nM
  zhI:=fm
  zb9:=.all (len1 λ_=>rfl)
  zbR:=nM
  zhJ:=fm
  zhy:=.all (len3 λ_ _ _=>rfl)
  zg1:=nM
  zem:=fm
  zgI:=.all (len1 λ_=>rfl)
  zgX:=nR X G
  zeO:=fm
  zb4:=.all (len2 λ_ _=>rfl)
  ziK:=fm
  zek:=.all (len2 λ_ _=>rfl)
  zdN:=nM
  zfe:=fm
  zdp:=.all (len2 λ_ _=>rfl)
  zfN:=fm
  zhh:=.all (len1 λ_=>rfl)
  zhr:=nR X G
  zd2:=fm
  zdZ:=.all (len2 λ_ _=>rfl)
  zfg:=fm
  zfd:=.all (len4 λ_ _ _ _=>rfl)
  zhK:=fm
  zhz:=.all (len5 λ_ _ _ _ _=>rfl)
  zg2:=nM
  zhH:=fm
  zbs:=.all (len2 λ_ _=>rfl)
  zbe:=nM
  zgM:=fm
  zgG:=.all (len3 λ_ _ _=>rfl)
  zf8:=nM
  zhL:=fm
  zhA:=.all (len2 λ_ _=>rfl)
  zg3:=nM
  zcV:=fm
  zbV:=.all (len2 λ_ _=>rfl)
  zbL:=nM
  zgN:=fm
  zej:=.all (len4 λ_ _ _ _=>rfl)
  zdT:=nM
  zff:=fm
  zfc:=.all (len2 λ_ _=>rfl)
  zeP:=nM
  zbW:=fm
  zcU:=.all (len2 λ_ _=>rfl)
  zcW:=nR X G
  zf7:=fm
  zcz:=.all (len1 λ_=>rfl)
  zck:=nM
  zgO:=fm
  zgH:=.all (len2 λ_ _=>rfl)
  zf9:=nM
  zfh:=fm
  zhB:=.all (len2 λ_ _=>rfl)
  zhN:=nR X G
  zlX:=fm
  zoT:=.all (len3 λ_ _ _=>rfl)
  zo6:=nR X G
  ziL:=fm
  zka:=.all (len3 λ_ _ _=>rfl)
  zkj:=nR X G
  zd3:=fm
  zfM:=.all (len1 λ_=>rfl)
  zfR:=nR X G
  zkb:=fm
  zlW:=.all (len2 λ_ _=>rfl)
  zl7:=nR X G
  zlY:=fm
  zoU:=.all (len2 λ_ _=>rfl)
  zo7:=nR X G
  zr5:=fm
  ztO:=.all (len3 λ_ _ _=>rfl)
  ztQ:=nR X G
  zfk:=fm
  zhE:=.all (len3 λ_ _ _=>rfl)
  zhQ:=nR X G
  zkc:=fm
  zmU:=.all (len4 λ_ _ _ _=>rfl)
  zmX:=nR X G
  zoV:=fm
  zqL:=.all (len4 λ_ _ _ _=>rfl)
  zqO:=nR X G
  zep:=fm
  zgL:=.all (len2 λ_ _=>rfl)
  zg0:=nR X G
  zfj:=fm
  zhD:=.all (len1 λ_=>rfl)
  zhP:=nR X G
  zoW:=fm
  zqM:=.all (len1 λ_=>rfl)
  zqP:=nR X G
  zeo:=fm
  zgK:=.all (len2 λ_ _=>rfl)
  zgZ:=nR X G
  zfi:=fm
  zhC:=.all (len2 λ_ _=>rfl)
  zhO:=nR X G
  zc9:=fm
  zel:=.all (len2 λ_ _=>rfl)
  zeJ:=nR X G
  ztP:=fm
  zuB:=.all (len1 λ_=>rfl)
  zuC:=nR X G
  lam:=⟨(show(1:Nat)≠0 by decide),⟨226,x_lcd,_,_,_,_,_,_,_,_,_,x_lco,rfl,rfl,x_l11,x_l11d,x_l18,x_l7,x_l9,x_l10⟩,⟨4,_,mg_of X G x_bms,x_bm1,x_bm2,x_bml,rfl,rfl,rfl⟩⟩
 }
 refine⟨⟨226,_,_,x_lco,rfl,rfl,x_l11⟩,?_⟩;refine⟨_,λs v=>.of_eq rfl,λbase _ _=>(Fg T).ok.imp λvs H Q E q=>?_⟩;obtain⟨sa,ns,rfl,hO,hH,hS,hl,hQ⟩:=q;obtain⟨h',hh⟩:=hold ns hl;refine⟨sa,ns,[],[],[.scr ns],rfl,.cons ⟨rfl,rfl⟩ .nil,⟨rfl,List.nodup_nil,λn a o e=>by simp at e,?_,.inr ⟨by simp,.inl hH⟩⟩,?_⟩
 ·rcases hS with(hS|⟨o,hS⟩)|hS
  ·rcases hO sa with z|⟨ob,xs,z⟩|⟨_,z⟩ <;> (rw[hS]at z;cases z)
  ·exact .inl ⟨o,hS⟩
  ·exact .inr λH0=>.inr hS
 ·rw[hh];intro m' H' v' _ _ r;cases(show v'=V.bl true from r);exact hQ H'
theorem walk{l:OpenLaw}{q:bi}{loose:List Str}{XP:(Str->Option af)->aH->Prop}{YP:aQ->aH->Prop}{d:DefRec}{K:Params->Frag}{tb:ae}(hn:l.most=some 63)(hdf:d.params.defaults=[])
  (hY:∀(w:aQ) (h:aH),YP w h->(K w.params).In h/\h.get? tb=some (tabObj #[])) (hK:∀w:aQ,(K w.params).lookup tb=none)
  (F:∀(w:aQ) (mg:Str->Option af) (fa:ae) (h:aH),(K w.params).In h->h.Ns dz mg->mg d.name=some (.ref fa) ->
   (∃c o vs,(K w.params).lookup c=some o/\o.cls=.type "code"/\o.data=.fields vs/\vs[11]?=some (.ref tb)) /\
   ∃fd:bc,(∀(s:aj) (u:af),BindsTo s fd ⟨[u],[]⟩ [("script",u)])/\∀base:aH,(K w.params).In base->base.Ns dz mg->iE l.prog w (K w.params) mg base (CXe l.prog w) 11 fa fd ["script"] (uY (K w.params) tb)) :
  WalkO q loose XP YP l.row.toRowW d [] (λf vs=>PySem.call f vs):=
 IM (n:=63) (k:=11) (x:="script") (CX:=λw=>CXe l.prog w) (sp:=λw=>uY (K w.params) tb) hn (by decide) hdf ⟨rfl,by decide,by decide⟩ hY hK F (λ_ _ a ns hl hO hH hS=>⟨a,ns,rfl,hO,hH,hS,hl,λ_=>rfl⟩) λ_ _ _ _ _ z=>by obtain⟨_,_,_,_,_,_,_,_,_,_,y⟩:=z;exact y
end L2.Rv
namespace L2.Rv
open PySem (Str)
theorem wo{ns:List Int}{k:Int}(hk:0≤k){h:MH}{Q:MV->MH->Prop}{E:Nat->MH->Prop}:wp (kf [.scr ns,.int k]) h Q E=Q (.int (cell ns k)) h:=by
 obtain⟨k,rfl⟩:=Int.eq_ofNat_of_zero_le hk;have key:kf [.scr ns,.int k] h=.ok (.int (cell ns k)) h:=by
  by_cases c:k<ns.length
  ·have e:atN ns (k:Int)=some (cell ns k):=by rw[jL];simp[cell,c]
   simp[kf,qQ,fnOf,bnd,aD,sIf,tst,aC,ah,eUn,cR,oLt,ret,asB,bT,oIx,c,e]
  ·have e:cell ns k=0:=by simp[cell,kJ c]
   simp[kf,qQ,fnOf,bnd,aD,sIf,tst,aC,ah,eUn,cR,oLt,ret,asB,bT,oIx,c,e,bz,eC]
 unfold wp;rw[key]
noncomputable def nats(l:List Nat):List MV:=l.map λ(x:Nat)=>.int (x:Int)
noncomputable def rows(b:List Nat):List MV:=.non::nats b
def Wf(b:List Nat):Prop:=∀(k x:Nat),b[k]?=some x->x≤k
theorem Ez(b:List Nat):(nats b).length=b.length:=by simp[nats]
theorem lS(b:List Nat):(rows b).length=b.length+1:=by simp[rows,nats]
theorem sV{b:List Nat}{p x:Nat}(e:b[p]?=some x):(rows b)[p+1]?=some (.int x):=by simp[rows,nats,e]
structure bP(h:MH)(r:Nat)(b:List Nat):Prop where
 ob:∃l,h[r]?=some (.ins 1 [("runs_to",.ref l)])/\h[l]?=some (.lst (rows b))
 wf:Wf b
 few:b.length<40
theorem bP.pre{h h':MH}{r:Nat}{b:List Nat}(R:bP h r b)(p:Pre h h'):bP h' r b:=by
 obtain⟨⟨l,h1,h2⟩,w,f⟩:=R;exact⟨⟨l,p.get h1,p.get h2⟩,w,f⟩
section
variable {h:MH}{r:Nat}{b:List Nat}{Q:MV->MH->Prop}{E:Nat->MH->Prop}
theorem Dt{a:Nat}(ha:h[a]?=some (.lst (rows b)))(w:Wf b)(f:b.length<40)(q:Q .non h):wp (mI [.ref a]) h Q E:=by
 refine bY (by rfl) ?_;have c1:¬((b.length:Int)+1<1):=by lia
 have c2:¬(40<(b.length:Int)+1):=by lia
 have c0:atN (rows b) 0=some .non:=rfl;simp[jO,ha,lS,c1,c2,c0];refine⟨by lia,?_⟩;refine iq (λk σ h'=>h'=h/\∃x y,σ=[some (.ref a),x,y]) (λ_ _ _ _=>rfl) (λk x σ h' hx ⟨eh,u,v,es⟩=>?_) (λσ h' ⟨eh,u,v,es⟩=>?_) ⟨rfl,_,_,rfl⟩
 ·subst eh;subst es;have hk:k<b.length:=by
   have:=(bM.mp hx).1;rw[oB]at this;lia
  rw[sU (by lia)]at hx;cases hx;obtain⟨z,ez⟩:∃z,b[k]?=some z:=⟨b[k],by simp[hk]⟩
  have g:atN (rows b) (1+(k:Int))=some (.int z):=by
   rw[show(1+(k:Int))=((k+1:Nat):Int) by lia,jL];exact sV ez
  have lz:=w k z ez;have d1:¬((z:Int)<0):=by lia
  have d2:¬(1+(k:Int)≤(z:Int)):=by lia
  simp[dg,ha,g,d1,d2]
 ·subst eh;exact q
structure uP(h:MH)(r:Nat)(b:List Nat)(lo:Nat):Prop where
 ob:∃l,h[r]?=some (.ins 1 [("runs_to",.ref l)])/\h[l]?=some (.lst (rows b))/\lo≤l
 lo:lo≤r
 wf:Wf b
 few:b.length<40
theorem uP.at{lo:Nat}(R:uP h r b lo):bP h r b:=by
 obtain⟨⟨l,h1,h2,h3⟩,h4,w,f⟩:=R;exact⟨⟨l,h1,h2⟩,w,f⟩
theorem CJ{a:Nat}(ha:h[a]?=some (.lst (rows b)))(w:Wf b)(f:b.length<40)(q:∀h',Pre h h'->uP h' h.length b h.length->Q .non h'):wp (iL [.ref h.length,.ref a]) (h++[.ins 1 []]) Q E:=by
 unfold iL;refine bY (by rfl) ?_;have ha':(h++[.ins 1 []])[a]?=some (.lst (rows b)):=dS ha;have la:=d6 ha;simp[nO];refine Dt ha' w f ?_;simp[ha',putF];exact⟨by lia,q _ ⟨_,rfl⟩ ⟨⟨h.length+1,by simp,by simp,by lia⟩,aU _,w,f⟩⟩
theorem Cr{a:Nat}(ha:h[a]?=some (.lst (rows b)))(w:Wf b)(f:b.length<40)(q:∀h',Pre h h'->bP h' h.length b->Q .non h'):wp (iL [.ref h.length,.ref a]) (h++[.ins 1 []]) Q E:=
 CJ ha w f λh' p R=>q h' p R.at
theorem kU(R:bP h r b):wp (iu [.ref r]) h Q E=Q (.int ((b.length:Int)+1)) h:=by
 obtain⟨⟨l,h1,h2⟩,w,f⟩:=R;have key:iu [.ref r] h=.ok (.int ((b.length:Int)+1)) h:=by
  simp[iu,sM,fnOf,bnd,bT,eUn,aW,ah,ret,look,h1,h2,cR,lS]
 unfold wp;rw[key]
theorem md{p:Int}(R:bP h r b)(h0:0≤p)(hp:p<(b.length:Int)+1):wp (fI [.ref r,.int p]) h Q E=Q .non h:=by
 obtain⟨⟨l,h1,h2⟩,w,f⟩:=R;have n1:¬p<0:=by lia
 have n2:¬(b.length:Int)+1≤p:=by lia
 have key:fI [.ref r,.int p] h=.ok .non h:=by
  simp[fI,mR,fnOf,bnd,sIf,tst,eOr,aC,eC,oLt,oGe,asB,eUn,aW,ah,ret,look,h1,h2,cR,lS,n1,n2,bz]
 unfold wp;rw[key]
theorem AX{p:Int}(R:bP h r b)(hp:p<0∨(b.length:Int)+1≤p):wp (fI [.ref r,.int p]) h Q E=E 103 h:=by
 obtain⟨⟨l,h1,h2⟩,w,f⟩:=R;have key:fI [.ref r,.int p] h=.exc 103 h:=by
  by_cases n1:p<0
  ·simp[fI,mR,fnOf,bnd,sIf,tst,eOr,aC,eC,oLt,oGe,asB,eUn,aW,ah,ret,look,h1,h2,cR,lS,n1,cU,ao,az,rse]
  ·have n2:(b.length:Int)+1≤p:=by lia
   simp[fI,mR,fnOf,bnd,sIf,tst,eOr,aC,eC,oLt,oGe,asB,eUn,aW,ah,ret,look,h1,h2,cR,lS,n1,n2,cU,ao,az,rse]
 unfold wp;rw[key]
theorem bP.meth(R:bP h r b){f:Fn}{mth:String}{a:MA}{σ:MSt}{i:Nat}(hm:(mth == "runs_to")=false)(hs:σ[i]?=some (some (.ref r))):wp (aZ 1 mth f (ah i) a σ) h Q E=wp (a σ) h (λxs h2=>wp (f (.ref r::xs)) h2 Q E) E:=by
 obtain⟨⟨l,h1,h2⟩,w,f⟩:=R;have hm':mth≠"runs_to":=by simpa using hm
 simp[hs,h1,bI,hm,hm']
noncomputable def fE(b:List Nat):Nat->Nat->List Nat
 |0,_=>[]
 |_+1,0=>[0]
 |f+1,p+1=>(p+1)::fE b f (b.getD p 0)
noncomputable def bf(b:List Nat)(p:Nat):List Nat:=fE b (p+1) p
theorem ub{b:List Nat}(w:Wf b):∀{f g p:Nat},p<f->p<g->fE b f p=fE b g p
 |0,_,_,h,_=>absurd h (oX _)
 |_,0,_,_,h=>absurd h (oX _)
 |f+1,g+1,0,_,_=>rfl
 |f+1,g+1,p+1,hf,hg=>by
   have le:b.getD p 0≤p:=by
    rw[j4];cases e:b[p]? with
    |none=>simp
    |some x=>simpa using w p x e
   unfold fE;rw[ub w (f:=f) (g:=g) (p:=b.getD p 0) (by lia) (by lia)]
theorem r8(b:List Nat):bf b 0=[0]:=rfl
theorem p9{b:List Nat}(w:Wf b){p x:Nat}(e:b[p]?=some x):bf b (p+1)=(p+1)::bf b x:=by
 have le:=w p x e;unfold bf;show(p+1)::fE b (p+1) (b.getD p 0)=_;rw[j4,e];simp only[Option.getD_some];rw[ub w (show x<p+1 by lia) (show x<x+1 by lia)]
theorem GJ{b:List Nat}(w:Wf b):∀p,p<b.length+1->(bf b p).length≤p+1:=by
 intro p
 induction p using Nat.strongRecOn with
 |ind p ih=>
   intro hp;cases p with
   |zero=>simp[r8]
   |succ p=>
     obtain⟨x,ex⟩:∃x,b[p]?=some x:=⟨b[p]'(by lia),by simp⟩
     rw[p9 w ex];have:=w p x ex;have:=ih x (by lia) (by lia);simp;lia
noncomputable def jr(b:List Nat)(p:Nat):MV:=(rows b).getD p .non
theorem zD(hp:p<b.length+1):atN (rows b) ((p:Nat):Int)=some (jr b p):=by
 rw[jL,jr,j4];have:p<(rows b).length:=by rw[lS];exact hp
 simp[this]
theorem E5{p:Nat}(R:bP h r b)(hp:p<b.length+1):wp (nJ [.ref r,.int p]) h Q E=Q (jr b p) h:=by
 have c:=md (Q:=λv h'=>v=.non/\h'=h) (E:=noE) (p:=p) R (by lia) (by lia);obtain⟨⟨l,h1,h2⟩,w,f⟩:=R;have key:nJ [.ref r,.int p] h=.ok (jr b p) h:=by
  obtain⟨v,h',e,rfl,rfl⟩:=ko (cast c.symm ⟨rfl,rfl⟩);simp[nJ,uc,fnOf,bnd,aD,bN,aZ,ao,az,ah,ret,look,h1,h2,bI,e,bT,aC,aW,oIx,zD hp]
 unfold wp;rw[key]
theorem Ji{p:Int}(R:bP h r b)(hp:p<0∨(b.length:Int)+1≤p):wp (jS [.ref r,.int p]) h Q E↔E 103 h:=by
 unfold jS fnOf rC;rw[if_pos (show[MV.ref r,MV.int p].length=2 from rfl),aK,cS,dO,R.meth (by decide) rfl];simp[AX R hp]
theorem zc{p:Nat}(R:bP h r b)(hp:p<b.length+1)(q:Q (.ref h.length) (h++[.lst (nats (bf b p))])):wp (jS [.ref r,.int p]) h Q E:=by
 refine bY (by rfl) ?_;have c:=λ(Q:MV->MH->Prop)=>md (Q:=Q) (E:=E) (p:=p) R (by lia) (by lia);unfold rC;rw[cS,dO,R.meth (by decide) rfl];simp[c];obtain⟨⟨l,h1,h2⟩,w,f⟩:=R;refine IR (k:=p+1) (λk σ h'=>∃acc:List Nat,acc.length+k≤100/\h'=h++[.lst (nats acc)]/\((k=0/\acc=bf b p/\σ=[some (.ref r),some .non,some (.ref h.length)])∨∃x:Nat,k=x+1/\x<b.length+1/\acc++bf b x=bf b p/\σ=[some (.ref r),some (.int x),some (.ref h.length)])) ?_ (by lia)
  ⟨[],by simp;lia,rfl,.inr ⟨p,rfl,hp,rfl,rfl⟩⟩
 rintro k σ h' ⟨acc,ha,rfl,⟨rfl,rfl,rfl⟩|⟨x,rfl,hx,e,rfl⟩⟩
 ·simp;exact q
 ·have g1:∀o,(h++[o])[r]?=some (.ins 1 [("runs_to",.ref l)]):=λo=>dS h1;have g2:∀o,(h++[o])[l]?=some (.lst (rows b)):=λo=>dS h2;have la:(nats acc).length<100000:=by rw[Ez];lia
  have snoc:nats acc++[.int x]=nats (acc++[x]):=by simp[nats]
  simp[la,g1,g2,snoc,zD hx];cases x with
  |zero=>
    exact⟨0,by lia,acc++[0],by simp;lia,rfl,.inl ⟨rfl,by rw[r8]at e;exact e,rfl⟩⟩
  |succ x=>
    obtain⟨z,ez⟩:∃z,b[x]?=some z:=⟨b[x]'(by lia),by simp⟩
    have lz:=w x z ez;have ev:jr b (x+1)=.int z:=by rw[jr,j4,sV ez];rfl
    exact⟨z+1,by lia,acc++[x+1],by simp;lia,rfl,.inr ⟨z,rfl,by lia,by rw[←e,p9 w ez];simp,by rw[ev]⟩⟩
theorem xN{q:Nat}:∀{l:List Nat},inM (.int q) (nats l)=decide (q∈l)
 |[]=>rfl
 |x::l=>by
   have ih:=@xN q l;simp only[inM,nats,bD,jj]at ih ⊢;rw[ih];by_cases e:x=q
   ·subst e;simp[eqM]
   ·have e2:¬((x:Int)=(q:Int)):=by lia
    have e3:¬q=x:=λz=>e z.symm;simp[eqM,e2,e3]
theorem Fq(l:List Nat):(nats l).all flat=true:=by simp[nats,flat]
theorem Gi(w:Wf b):∀p,p<b.length+1->0∈bf b p:=by
 intro p
 induction p using Nat.strongRecOn with
 |ind p ih=>
   intro hp;cases p with
   |zero=>simp[r8]
   |succ p=>
     obtain⟨x,ex⟩:∃x,b[p]?=some x:=⟨b[p]'(by lia),by simp⟩
     have:=w p x ex;rw[p9 w ex];exact d5 _ (ih x (by lia) (by lia))
end
section
variable {h:MH}{a:Nat}{b:List Nat}{Q:MV->MH->Prop}{E:Nat->MH->Prop}
end
noncomputable def bJ(b:List Nat)(n:Nat)(d:Nat->Int)(p:Nat):Int:=ee n λq=>if p∈bf b q then d q else 0
noncomputable def chi(b:List Nat)(k p:Nat):Nat->Nat->Bool
 |0,_=>false
 |f+1,q=>if q=p then true else if q≤k then false else chi b k p f (b.getD (q-1) 0)
theorem ze{b:List Nat}(w:Wf b){q:Nat}(hq:0<q):b.getD (q-1) 0<q:=by
 rw[j4];cases e:b[q-1]? with
 |none=>simpa using hq
 |some x=>have:=w (q-1) x e;simp;lia
theorem ma{b:List Nat}{k p q f:Nat}(hf:0<f)(hq:q≤k):chi b k p f q=decide (q=p):=by
 obtain⟨f,rfl⟩:∃g,f=g+1:=⟨f-1,by lia⟩
 unfold chi;by_cases e:q=p
 ·simp[e]
 ·simp[e,hq]
theorem tK{b:List Nat}{k p q f:Nat}(e:¬q=p)(hq:k<q):chi b k p (f+1) q=chi b k p f (b.getD (q-1) 0):=by
 conv=>lhs;unfold chi
 rw[if_neg e,if_neg (Nat.not_le.mpr hq)]
theorem xY{b:List Nat}{p:Nat}:∀(f q:Nat),q<f->chi b 0 p f q=decide (p∈fE b f q)
 |0,q,h=>by lia
 |f+1,0,_=>by
   unfold chi fE;by_cases e:p=0
   ·simp[e]
   ·have:¬(0=p):=λz=>e z.symm;simp[e,this]
 |f+1,q+1,h=>by
   unfold chi fE;by_cases e:q+1=p
   ·subst e;simp
   ·have e':¬p=q+1:=λz=>e z.symm;rw[if_neg e,if_neg (by lia)];simp only[Nat.add_sub_cancel,bu,e',false_or];by_cases hz:b.getD q 0<f
    ·exact xY f _ hz
    ·-- not met where the list is a river;the two agree all the same
     have:∀g q,chi b 0 p g q=decide (p∈fE b g q):=by
      intro g
      induction g with
      |zero=>intro q;simp[chi,fE]
      |succ g ih=>
        intro q;cases q with
        |zero=>
          unfold chi fE;by_cases e:p=0
          ·simp[e]
          ·have:¬(0=p):=λz=>e z.symm;simp[e,this]
        |succ q=>
          unfold chi fE;by_cases e:q+1=p
          ·subst e;simp
          ·have e':¬p=q+1:=λz=>e z.symm;rw[if_neg e,if_neg (by lia)];simp only[Nat.add_sub_cancel,bu,e',false_or];exact ih _
     exact this f _
theorem wb{b:List Nat}(w:Wf b){c p:Nat}(hc:0<c):∀(f q:Nat),q<f->(if chi b (c-1) p f q=true then(1:Int) else 0)=(if chi b c p f q=true then 1 else 0)+if b.getD (c-1) 0=p/\chi b c c f q=true then 1 else 0
 |0,q,h=>by lia
 |f+1,q,h=>by
   have lc:=ze w hc;by_cases e:q=p
   ·subst e;have h1:chi b (c-1) q (f+1) q=true:=by unfold chi;simp
    have h2:chi b c q (f+1) q=true:=by unfold chi;simp
    rw[if_pos h1,if_pos h2,if_neg]
    ·lia
    ·rintro⟨z,y⟩;unfold chi at y;rw[if_neg (by lia),if_pos (by lia)]at y;cases y
   ·by_cases hq:c<q
    ·have lq:=ze w (show 0<q by lia);have ih:=wb w (p:=p) hc f (b.getD (q-1) 0) (by lia);rw[tK e (show c-1<q by lia),tK e hq,tK (show ¬q=c by lia) hq];exact ih
    ·by_cases hq2:q=c
     ·subst hq2;have f0:0<f:=by lia
      have h1:chi b (q-1) p (f+1) q=decide (b.getD (q-1) 0=p):=by
       conv=>lhs;unfold chi
       rw[if_neg e,if_neg (by lia),ma f0 (by lia)]
      have h2:chi b q p (f+1) q=false:=by unfold chi;simp[e]
      have h3:chi b q q (f+1) q=true:=by unfold chi;simp
      rw[h1,h2,h3];by_cases z:b.getD (q-1) 0=p <;> simp[z]
     ·have h1:chi b (c-1) p (f+1) q=false:=by rw[ma (by lia) (by lia)];simp[e]
      have h2:chi b c p (f+1) q=false:=by rw[ma (by lia) (by lia)];simp[e]
      have h3:chi b c c (f+1) q=false:=by rw[ma (by lia) (by lia)];simp[hq2]
      rw[h1,h2,h3];simp
noncomputable def ib(b:List Nat)(n:Nat)(d:Nat->Int)(k p:Nat):Int:=ee n λq=>if chi b k p n q=true then d q else 0
theorem Gj{b:List Nat}{n:Nat}{d:Nat->Int}{p:Nat}(hp:p<n):ib b n d (n-1) p=d p:=by
 unfold ib;rw[←HI (f:=d) hp];refine m7 λq hq=>?_;rw[ma (by lia) (by lia)];by_cases e:q=p <;> simp[e]
theorem ite3{A B C:Prop}[Decidable A][Decidable B][Decidable C]{v:Int}(s:(if A then(1:Int) else 0)=(if B then 1 else 0)+if C then 1 else 0):(if A then v else 0)=(if B then v else 0)+if C then v else 0:=by
 by_cases a:A
 ·by_cases b:B
  ·by_cases c:C
   ·rw[if_pos a,if_pos b,if_pos c]at s;lia
   ·rw[if_pos a,if_pos b,if_neg c];lia
  ·by_cases c:C
   ·rw[if_pos a,if_neg b,if_pos c];lia
   ·rw[if_pos a,if_neg b,if_neg c]at s;lia
 ·by_cases b:B
  ·by_cases c:C
   ·rw[if_neg a,if_pos b,if_pos c]at s;lia
   ·rw[if_neg a,if_pos b,if_neg c]at s;lia
  ·by_cases c:C
   ·rw[if_neg a,if_neg b,if_pos c]at s;lia
   ·rw[if_neg a,if_neg b,if_neg c];lia
theorem Bd{b:List Nat}(w:Wf b){n c p:Nat}{d:Nat->Int}(hc:0<c):ib b n d (c-1) p=ib b n d c p+if b.getD (c-1) 0=p then ib b n d c c else 0:=by
 unfold ib;have e:(if b.getD (c-1) 0=p then ee n (λq=>if chi b c c n q=true then d q else 0) else 0)=ee n (λq=>if b.getD (c-1) 0=p/\chi b c c n q=true then d q else 0):=by
  by_cases z:b.getD (c-1) 0=p
  ·rw[if_pos z];exact m7 λq hq=>by simp only[z,true_and]
  ·rw[if_neg z];exact(sO λq hq=>by simp only[z,false_and,if_false]).symm
 rw[e,←yf];refine m7 λq hq=>?_;exact ite3 (wb w (p:=p) hc n q hq)
theorem DS{b:List Nat}(w:Wf b){n q:Nat}(hq:q<n):fE b n q=bf b q:=ub w hq (qY q)
theorem CT{b:List Nat}(w:Wf b){n p:Nat}{d:Nat->Int}:ib b n d 0 p=bJ b n d p:=by
 unfold ib bJ;refine m7 λq hq=>?_;rw[xY n q hq,DS w hq];by_cases e:p∈bf b q <;> simp[e]
section
variable {h:MH}{r:Nat}{b:List Nat}{Q:MV->MH->Prop}{E:Nat->MH->Prop}
theorem IN{a n:Nat}{y:Nat->Int}(R:bP h r b)(ha:h[a]?=some (.lst (tab n y)))(hn:n=b.length+1)(bd:∀k,k<n->0≤y k/\y k≤1000000)(q:Q .non h):wp (kT [.ref r,.ref a]) h Q E:=by
 unfold kT;refine bY (by rfl) ?_;unfold mP;refine bq (R:=λσ h1=>h=h1/\σ=[some (.ref r),some (.ref a),none]) ?_ ?_
 ·rw[eV,dA,bE];simp only[fF,aO,bD,gq,kQ,i7,aS,aR,lV,ha,gv];rw[R.meth (by decide) rfl];simp[kU R,hn]
 rintro _ _ ⟨rfl,rfl⟩;rw[jp];refine dG (jn rfl ha) ?_;refine iq (λk σ h'=>h'=h/\∃x,σ=[some (.ref r),some (.ref a),x]) (λ_ _ _ i=>by rw[i.1];exact ia ha) (λk x σ h' hx ⟨eh,u,es⟩=>?_) (λσ h' ⟨eh,u,es⟩=>?_) ⟨rfl,_,rfl⟩
 ·subst eh;subst es;have hk:k<n:=by
   have:=(bM.mp hx).1;simpa[gv] using this
  rw[bZ,nB hk]at hx;cases hx;obtain⟨b1,b2⟩:=bd k hk;have c1:¬y k<0:=by lia
  have c2:¬1000000<y k:=by lia
  simp[dg,c1,c2]
 ·subst eh;exact q
theorem AF{a c n:Nat}{y t:Nat->Int}(R:bP h r b)(ha:h[a]?=some (.lst (tab n y)))(hc:h[c]?=some (.lst (tab n t)))(hn:n=b.length+1)(bd:∀k,k<n->0≤y k/\y k≤1000000)
  (q:∀h' x,Pre h h'->h.length≤x->h'[x]?=some (.lst (tab n (bJ b n λk=>y k-t k)))->Q (.ref x) h'):wp (k6 [.ref r,.ref a,.ref c]) h Q E:=by
 unfold k6;refine bY (by rfl) ?_;have few:=R.few;have w:=R.wf;refine bq (R:=λσ h1=>h=h1/\σ=[some (.ref r),some (.ref a),some (.ref c),none,none]) ?_ ?_
 ·simp;exact IN R ha hn bd (by simp)
 rintro _ _ ⟨rfl,rfl⟩;refine bq (R:=λσ h1=>∃h0,Pre h h0/\h1=h0++[.lst (tab n λk=>y k-t k)]/\σ=[some (.ref r),some (.ref a),some (.ref c),some (.ref h0.length),none]) ?_ ?_
 ·rw [cu];refine Bu (λ_=>true) (λx=>match x with
   |[.int i,.int j]=>.int (i-j)
   | _=>.non) (Ic rfl rfl ha hc) (λh' p=>Gm (p.get ha) (p.get hc)) ?_ (λx hx h2 p2=>?_) (λx hx _ h2 p2=>?_) λh2 p2=>?_
  ·rw[tL];simp;lia
  ·simp[hV,bH,Pre.refl]
  ·rw[tL]at hx;obtain⟨k,hk,rfl⟩:=cO.mp hx;simp;exact .refl
  ·have e:List.map (λx=>match x with
    |[MV.int i,MV.int j]=>MV.int (i-j)
    | _=>MV.non) (jX (λ_=>true) (d0 (tab n y) (tab n t)))=tab n λk=>y k - t k:=by
    rw[List.filter_eq_self.mpr λ_ _=>rfl,tL,dJ];rfl
   exact⟨_,rfl,h2,p2,by rw[e],rfl⟩
 rintro _ _ ⟨h0,p0,rfl,rfl⟩;replace R:=R.pre p0;have R1:∀o,bP (h0++[o]) r b:=λo=>R.pre (Pre.app _);refine bq (R:=λσ h1=>h1=h0++[.lst (tab n (bJ b n λk=>y k-t k))]/\∃x,σ=[some (.ref r),some (.ref a),some (.ref c),some (.ref h0.length),x]) ?_ ?_
 ·rw[jp];refine dG (AK (h1:=h0++[.lst (tab n λk=>y k-t k)]) (i:=(b.length:Int)) (j:=0) (n:=b.length) ?_ rfl (by lia) (by lia)) ?_
  ·have w1:wp (aC gM (aZ 1 "points" iu (ah 0) az) (eC (.int 1)) [some (.ref r),some (.ref a),some (.ref c),some (.ref h0.length),none]) (h0++[.lst (tab n λk=>y k-t k)]) (λv h1=>v=.int (b.length:Int)/\h1=h0++[.lst (tab n λk=>y k-t k)]) noE:=by
    rw[bE,(R1 _).meth (by decide) rfl];simp[kU (R1 _)]
   obtain⟨v,h1,e,rfl,rfl⟩:=ko w1;exact e
  refine iq (λk σ h1=>k≤b.length/\h1=h0++[.lst (tab n (ib b n (λk=>y k-t k) (b.length-k)))]/\∃x,σ=[some (.ref r),some (.ref a),some (.ref c),some (.ref h0.length),x]) (λ_ _ _ _=>rfl) (λk x σ h1 hx ⟨hk,eh,u,es⟩=>?_) (λσ h1 ⟨hk,eh,u,es⟩=>?_) ⟨by lia,?_,_,rfl⟩
  ·subst eh;subst es;have hk:k<b.length:=by
    have:=(bM.mp hx).1
    rwa [xJ]at this
   rw[II hk]at hx;cases hx;obtain⟨c0,hc0⟩:∃c0:Nat,c0=b.length-k:=⟨_,rfl⟩;have ec:(b.length:Int)-(k:Int)=(c0:Int):=by lia
   have hb:=λQ=>E5 (p:=c0) (Q:=Q) (E:=E) (R1 (.lst (tab n (ib b n (λk=>y k-t k) c0)))) (by lia);rw[←hc0];obtain⟨z,ez⟩:∃z,b[c0-1]?=some z:=⟨b[c0-1]'(by lia),by simp⟩
   have lz:=w (c0-1) z ez;have ev:jr b c0=.int z:=by
    rw[jr,j4,show c0=c0-1+1 by lia,sV ez];rfl
   have ed:b.getD (c0-1) 0=z:=by rw[j4,ez];rfl
   simp only[dg,gZ,hG,ec,yU,aO,aS,aR];rw[(R1 _).meth (by decide) rfl];simp only[bh,aT,aO,aS,aR,hb,ev,AA,lY,bR,bE];rw[qX (show z<n by lia)];dsimp only;rw[qX (show c0<n by lia)];simp[gv,vd (show z<n by lia),wa];refine⟨by lia,nY λp hp=>?_⟩;rw[show b.length-(k+1)=c0-1 by lia,Bd w (show 0<c0 by lia),ed];by_cases e:p=z
   ·subst e;simp
   ·have e':¬z=p:=λq=>e q.symm;simp[e,e']
  ·rw[xJ]at eh;subst eh;subst es;refine⟨_,rfl,?_,u,rfl⟩;rw[Nat.sub_self];congr 3;exact nY λp hp=>CT w
  ·congr 3;exact nY λp hp=>by rw[show b.length-0=n-1 by lia,Gj hp]
 rintro _ _ ⟨rfl,x,rfl⟩;simp;exact q _ _ (p0.snoc _) p0.len bR
end
theorem Fb{b:List Nat}(w:Wf b):∀p,p<b.length+1->(∀x∈bf b p,x≤p)/\(bf b p).Nodup:=by
 intro p
 induction p using Nat.strongRecOn with
 |ind p ih=>
   intro hp;cases p with
   |zero=>simp[r8]
   |succ p=>
     obtain⟨x,ex⟩:∃x,b[p]?=some x:=⟨b[p]'(by lia),by simp⟩
     have lx:=w p x ex;obtain⟨h1,h2⟩:=ih x (by lia) (by lia);rw[p9 w ex];refine⟨λy hy=>?_,?_⟩
     ·rcases bu.mp hy with rfl|hy
      ·lia
      ·have:=h1 y hy;lia
     ·rw[ig];exact⟨λhy=>by have:=h1 _ hy;lia,h2⟩
abbrev Rid:=Rt×Nat
noncomputable def rtO(r:Rt):MO:=.ins 2 [("point",.int r.pt),("amount",.int r.am),("date",.int r.dt)]
noncomputable def cY(rs:List Rid):List (Str×MV):=rs.map λx=>(x.1.nm,.ref x.2)
structure bw(h:MH)(bk r d:Nat)(rs:List Rid):Prop where
 ob:h[bk]?=some (.ins 3 [("stream",.ref r),("held",.ref d)])
 dc:h[d]?=some (.dct (cY rs))
 it:∀x∈rs,h[x.2]?=some (rtO x.1)
 nd:(rs.map (·.2)).Nodup
 nm:Names (rs.map (·.1))
noncomputable abbrev aE(rs:List Rid):List Rt:=rs.map (·.1)
theorem kG{rs:List Rid}(n:Names (aE rs)){x:Rid}(hx:x∈rs):dget x.1.nm (cY rs)=some (.ref x.2):=by
 induction rs with
 |nil=>cases hx
 |cons y r ih=>
   have n':(y.1.nm::(aE r).map (·.nm)).Nodup:=n;obtain⟨n1,n2⟩:=ig.mp n';show(if y.1.nm=x.1.nm then some (MV.ref y.2) else dget x.1.nm (cY r))=_;rcases bu.mp hx with e|e
   ·subst e;rw[if_pos rfl]
   ·have ne:y.1.nm≠x.1.nm:=λz=>n1 (by rw[z];exact cO.mpr ⟨x.1,cO.mpr ⟨x,e,rfl⟩,rfl⟩);rw[if_neg ne];exact ih n2 e
theorem tU{rs:List Rid}{k:Str}(hk:k∉(aE rs).map (·.nm)):dget k (cY rs)=none:=by
 induction rs with
 |nil=>rfl
 |cons y r ih=>
   simp only[aE,bD,bu,not_or]at hk;show(if y.1.nm=k then some (MV.ref y.2) else dget k (cY r))=none;rw[if_neg (λz=>hk.1 z.symm)];exact ih hk.2
theorem qb(rs:List Rid):(cY rs).length=rs.length:=by simp[cY]
theorem AY{rs:List Rid}{k:Str}{v:MV}(hk:k∉(aE rs).map (·.nm)):dput k v (cY rs)=cY rs++[(k,v)]:=by
 unfold dput;rw[tU hk];simp
theorem bw.off{h h':MH}{bk r d:Nat}{rs:List Rid}{S:List Nat}(B:bw h bk r d rs)(o:Off S h h')(h1:bk∉S)(h2:d∉S)(h3:∀x∈rs,x.2∉S):bw h' bk r d rs:=
 ⟨o.get B.ob h1,o.get B.dc h2,λx hx=>o.get (B.it x hx) (h3 x hx),B.nd,B.nm⟩
theorem bw.pre{h h':MH}{bk r d:Nat}{rs:List Rid}(B:bw h bk r d rs)(p:Pre h h'):bw h' bk r d rs:=B.off (S:=[]) p.off (by simp) (by simp) (by simp)
theorem bP.off{h h':MH}{r:Nat}{b:List Nat}{S:List Nat}(R:bP h r b)(o:Off S h h')(hS:∀n∈S,∀ob,h[n]?=some ob->(∀xs,ob≠.lst xs)/\∀fs,ob≠.ins 1 fs):bP h' r b:=by
 obtain⟨⟨l,h1,h2⟩,w,f⟩:=R;exact⟨⟨l,o.get h1 (λz=>(hS r z _ h1).2 _ rfl),o.get h2 (λz=>(hS l z _ h2).1 _ rfl)⟩,w,f⟩
noncomputable def own(d:Nat)(rs:List Rid):List Nat:=d::rs.map (·.2)
theorem bw.own_ob{h:MH}{bk r d:Nat}{rs:List Rid}(B:bw h bk r d rs){n:Nat}{o:MO}(hn:n∈own d rs)(e:h[n]?=some o):(∃kvs,o=.dct kvs)∨∃fs,o=.ins 2 fs:=by
 rcases bu.mp hn with z|z
 ·subst z;rw[B.dc]at e;cases e;exact .inl ⟨_,rfl⟩
 ·obtain⟨x,hx,rfl⟩:=cO.mp z;rw[B.it x hx]at e;cases e;exact .inr ⟨_,rfl⟩
theorem bw.river{h h':MH}{bk r d:Nat}{rs:List Rid}{b:List Nat}(B:bw h bk r d rs)(R:bP h r b)(o:Off (own d rs) h h'):bP h' r b:=
 R.off o λn hn ob e=>by
  rcases B.own_ob hn e with⟨_,z⟩|⟨_,z⟩ <;> (subst z;exact⟨(λ_ y=>nomatch y),(λ_ y=>nomatch y)⟩)
theorem tw{d:Nat}{rs:List Rid}{h h':MH}(o:Off [d] h h'):Off (own d rs) h h':=o.mono λn hn=>by rw[dF.mp hn];exact fu
section
variable {h:MH}{bk r d:Nat}{rs:List Rid}{b:List Nat}{Q:MV->MH->Prop}{E:Nat->MH->Prop}
theorem bw.meth(B:bw h bk r d rs){f:Fn}{mth:String}{a:MA}{σ:MSt}{i:Nat}(hm:(mth == "stream")=false/\(mth == "held")=false)(hs:σ[i]?=some (some (.ref bk))):wp (aZ 3 mth f (ah i) a σ) h Q E=wp (a σ) h (λxs h2=>wp (f (.ref bk::xs)) h2 Q E) E:=by
 have h1:=B.ob;have hm1:mth≠"stream":=by simpa using hm.1
 have hm2:mth≠"held":=by simpa using hm.2
 have lk:eL mth [("stream",MV.ref r),("held",MV.ref d)]=none:=by simp only[bI,hm.1,hm.2,pH]
 simp only[qL,aO,hs,h1,lk,true_and]
theorem uk(B:bw h bk r d rs){x:Rid}(hx:x∈rs):wp (gC [.ref bk,.str x.1.nm]) h Q E=Q (.ref x.2) h:=by
 have g:=kG B.nm hx;have h1:=B.ob;have h2:=B.dc;have key:gC [.ref bk,.str x.1.nm] h=.ok (.ref x.2) h:=by
  simp[gC,oY,fnOf,bnd,aD,sIf,tst,aC,ah,aW,ret,look,h1,h2,bI,oIn,g,asB,bz,bT,oIx]
 unfold wp;rw[key]
theorem tD(B:bw h bk r d rs){k:Str}(hk:k∉(aE rs).map (·.nm))(ok:d9 k=true):wp (gC [.ref bk,.str k]) h Q E=E 105 h:=by
 have g:=tU hk;have h1:=B.ob;have h2:=B.dc;have l1:(aA "there is no right ").length≤1000:=by decide
 have key:gC [.ref bk,.str k] h=.exc 105 h:=by
  simp[gC,oY,fnOf,bnd,aD,sIf,tst,aC,ah,aW,ret,look,h1,h2,bI,oIn,g,asB,cU,ao,az,gr,fA,gG,l1,ok,rse]
 unfold wp;rw[key]
theorem Bi(B:bw h bk r d rs){k:Str}(hk:k∉(aE rs).map (·.nm)):wp (je [.ref bk,.str k]) h Q E=Q .non h:=by
 have g:=tU hk;have h1:=B.ob;have h2:=B.dc;have key:je [.ref bk,.str k] h=.ok .non h:=by
  simp[je,pb,fnOf,bnd,aD,sIf,tst,aC,ah,aW,ret,look,h1,h2,bI,oIn,g,asB,bz]
 unfold wp;rw[key]
theorem Go(B:bw h bk r d rs){k:Str}(hk:k∈(aE rs).map (·.nm))(ok:d9 k=true):wp (je [.ref bk,.str k]) h Q E=E 104 h:=by
 obtain⟨y,hy,rfl⟩:=cO.mp hk;obtain⟨x,hx,rfl⟩:=cO.mp hy;have g:=kG B.nm hx;have h1:=B.ob;have h2:=B.dc;have l1:(aA "there is a right ").length≤1000:=by decide
 have key:je [.ref bk,.str x.1.nm] h=.exc 104 h:=by
  simp[je,pb,fnOf,bnd,aD,sIf,tst,aC,ah,aW,ret,look,h1,h2,bI,oIn,g,asB,cU,ao,az,gr,fA,gG,l1,ok,rse]
 unfold wp;rw[key]
theorem kH(B:bw h bk r d rs){x:Rid}(hx:x∈rs):wp (fN [.ref bk,.str x.1.nm]) h Q E=Q x.1.val h:=by
 have key:fN [.ref bk,.str x.1.nm] h=.ok x.1.val h:=by
  have c:=uk (Q:=λv h'=>v=.ref x.2/\h'=h) (E:=noE) B hx;obtain⟨v,h',e,rfl,rfl⟩:=ko (cast c.symm ⟨rfl,rfl⟩);have h1:=B.ob;have h3:=B.it x hx;unfold rtO at h3;simp[fN,sQ,fnOf,bnd,aD,bB,aZ,ao,az,ah,ret,look,h1,h3,bI,e,bT,f6,aW,Rt.val]
 unfold wp;rw[key]
theorem DQ{r:Nat}(q:∀h',Pre h h'->bw h' h.length r (h.length+1) []->Q .non h'):wp (mS [.ref h.length,.ref r]) (h++[.ins 3 []]) Q E:=by
 unfold mS;refine bY (by rfl) ?_;simp[uQ,putF];refine⟨by lia,?_⟩;refine q (h++[.ins 3 [("stream",.ref r),("held",.ref (h.length+1))],.dct []]) ⟨_,rfl⟩ ⟨?_,?_,?_,?_,?_⟩ <;> simp[cY,Names]
theorem w6(B:bw h bk r d rs)(R:bP h r b){x:Rt}(hk:x.nm∉(aE rs).map (·.nm))(hp:x.pt<b.length+1)(hz:rs.length<900)
  (q:∀h' a,Off [d] h h'->h.length≤a->bw h' bk r d (rs++[(x,a)])->Q (.int (rs.length+1)) h'):wp (iz [.ref bk,.str x.nm,.int x.pt,.int x.am,.int x.dt]) h Q E:=by
 unfold iz;refine bY (by rfl) ?_;have h1:=B.ob;have h2:=B.dc;have ld:=d6 h2;refine bq (R:=λσ h'=>h=h'/\σ=[some (.ref bk),some (.str x.nm),some (.int x.pt),some (.int x.am),some (.int x.dt)]) ?_ ?_
 ·rw[dO,B.meth (by decide) rfl];simp[Bi B hk]
 rintro _ _ ⟨rfl,rfl⟩;refine bq (R:=λσ h'=>h=h'/\σ=[some (.ref bk),some (.str x.nm),some (.int x.pt),some (.int x.am),some (.int x.dt)]) ?_ ?_
 ·have c:=λQ=>md (Q:=Q) (E:=E) (p:=(x.pt:Int)) R (by lia) (by lia);obtain⟨⟨l,g1,g2⟩,w,f⟩:=R;simp[h1,bI,g1,c]
 rintro _ _ ⟨rfl,rfl⟩;refine bq (R:=λσ h'=>(∃a,Off [d] h h'/\h.length≤a/\bw h' bk r d (rs++[(x,a)]))/\σ=[some (.ref bk),some (.str x.nm),some (.int x.pt),some (.int x.am),some (.int x.dt)]) ?_ ?_
 ·have g1:∀t,(h++t)[bk]?=some (.ins 3 [("stream",.ref r),("held",.ref d)]):=λt=>dS h1;have g2:∀t,(h++t)[d]?=some (.dct (cY rs)):=λt=>dS h2;have hl:(cY rs).length<1000:=by rw[qb];lia
  simp[tT];refine bY (by rfl) ?_;simp[uH,putF,g1,g2,bI,hl,AY hk];refine⟨by lia,?_⟩;refine⟨?_,h.length,aU _,?_⟩
  ·exact Off.trans (Pre.off ⟨_,rfl⟩) Off.set
  ·have nb:d≠bk:=λz=>by rw[z,h1]at h2;cases h2
   refine⟨?_,?_,λy hy=>?_,?_,?_⟩
   ·exact dY (dS h1) nb
   ·rw[fY (by simp;lia)];simp[cY]
   ·rcases fJ.mp hy with hy|hy
    ·have h3:=B.it y hy;refine dY (dS h3) λz=>?_;rw[z,h3]at h2;cases h2
    ·rw[dF.mp hy];rw[ip (by lia)];simp[rtO]
   ·rw[jQ,j9];refine⟨B.nd,by simp,λa ha c hc=>?_⟩;simp at hc;subst hc;obtain⟨y,hy,rfl⟩:=cO.mp ha;have:=d6 (B.it y hy);lia
   ·unfold Names;rw[jQ,jQ,j9];refine⟨B.nm,by simp,λa ha c hc=>?_⟩;simp at hc;subst hc;intro z;subst z;exact hk ha
 rintro _ h' ⟨⟨a,o,ha,B'⟩,rfl⟩;have h1':=B'.ob;have h2':=B'.dc;have hl:(cY (rs++[(x,a)])).length=rs.length+1:=by rw[qb];simp
 simp[h1',h2',bI,hl];exact q h' a o ha B'
theorem Cm(B:bw h bk r d rs){k:Str}{p am dt:MV}(hk:k∈(aE rs).map (·.nm))(ok:d9 k=true):wp (iz [.ref bk,.str k,p,am,dt]) h Q E↔E 104 h:=by
 unfold iz fnOf tS;rw[if_pos (show[MV.ref bk,MV.str k,p,am,dt].length=5 from rfl),aK,cS,dO,B.meth (by decide) rfl];simp[Go B hk ok]
theorem v5{cs:List Nat}(hcs:cs.contains 2=true)(B:bw h bk r d rs):∀(l:List Rid),(∀x∈l,x∈rs)->dQ (f6 (ao (aW (aC oIx (aW (ah 1) [3] "held") (ah 0)) cs "date") (ao (ah 0) az))) [some (.ref bk)] ((cY l).map (·.1)) h=.ok (l.map λx=>.tup [.int x.1.dt,.str x.1.nm]) h
 |[],_=>rfl
 |x::l,hl=>by
   have hx:=hl x fu;have ih:=v5 hcs B l λy hy=>hl y (d5 _ hy);have g:=kG B.nm hx;have h1:=B.ob;have h2:=B.dc;have h3:=B.it x hx;unfold rtO at h3;show dQ _ _ (x.1.nm::(cY l).map (·.1)) h=_;unfold dQ;have e:f6 (ao (aW (aC oIx (aW (ah 1) [3] "held") (ah 0)) cs "date") (ao (ah 0) az)) [some (.str x.1.nm),some (.ref bk)] h=.ok (.tup [.int x.1.dt,.str x.1.nm]) h:=by
    simp[f6,ao,az,aW,aC,ah,bnd,ret,look,h1,h2,h3,bI,oIx,g,-List.contains_eq_mem,hcs]
   rw[e];simp only[if_true];simp[bnd,ih,ret]
theorem sv(B:bw h bk r d rs)(hz:rs.length<64)(q:Q (.ref h.length) (h++[.lst ((aged (aE rs)).map λx=>.str x.nm)])):wp (jc [.ref bk]) h Q E:=by
 unfold jc;refine bY (by rfl) ?_;unfold uJ;rw[fV];have h1:=B.ob;have h2:=B.dc;have hz':(aE rs).length<64:=by simpa[aE] using hz
 have ks:=λ{cs:List Nat} (hcs:cs.contains 2=true)=>v5 hcs B rs λ_ hx=>hx;obtain⟨six,_,_⟩:=om B.nm hz';have er:gN jK (rs.map λx=>MV.tup [.int x.1.dt,.str x.1.nm])=some ((aE rs).map Rt.key):=by
  have go:∀l:List Rid,gN jK (l.map λx=>MV.tup [.int x.1.dt,.str x.1.nm])=some ((aE l).map Rt.key):=by
   intro l
   induction l with
   |nil=>rfl
   |cons x l ih=>simp only[bD,gN,jK,k9,tO,ih,aE];rfl
  exact go rs
 have ea:((aE rs).map Rt.key).all jl=true:=by simp[Rt.key,jl]
 have ep:pick ((cY rs).map λkv=>MV.str kv.1) (g9 (aE rs))=(aged (aE rs)).map λx=>.str x.nm:=by
  rw[←BT B.nm hz' (λx=>.str x.nm)];congr 1;simp[cY,aE]
 have key:∀{cs:List Nat},cs.contains 2=true->qP (aW (ah 0) [3] "held") 0 (f6 (ao (aW (aC oIx (aW (ah 1) [3] "held") (ah 0)) cs "date") (ao (ah 0) az))) [some (.ref bk)] h=.ok (.ref h.length) (h++[.lst ((aged (aE rs)).map λx=>.str x.nm)]):=λ{cs} hcs=>by
  have o1:aW (ah 0) [3] "held" [some (.ref bk)] h=.ok (.ref d) h:=by simp[aW,ah,bnd,ret,look,h1,bI]
  have o2:look d h=.ok (.dct (cY rs)) h:=by simp[look,h2]
  unfold qP;simp only[bnd,o1,o2];rw[if_pos (by rw[qb];exact hz)];have e0:(([some (MV.ref bk)]:MSt)[0]?).getD none=some (.ref bk):=rfl;rw[e0];simp only[bnd,ks hcs,er,six];rw[if_pos ea,ep];rfl
 exact dG (key rfl) q
end
noncomputable def jH(k:Str)(rs:List Rid):List Rid:=rs.filter λy=>decide (y.1.nm≠k)
theorem DZ(k:Str)(rs:List Rid):lQ k (cY rs)=cY (jH k rs):=by
 unfold lQ cY jH;rw[tP];rfl
section
variable {h:MH}{bk r d:Nat}{rs:List Rid}{b:List Nat}{Q:MV->MH->Prop}{E:Nat->MH->Prop}
theorem Dg(B:bw h bk r d rs){k:Str}(hk:k∉(aE rs).map (·.nm))(ok:d9 k=true):wp (mW [.ref bk,.str k]) h Q E↔E 105 h:=by
 unfold mW fnOf tY;rw[if_pos (show[MV.ref bk,MV.str k].length=2 from rfl),aK,cS,dO,B.meth (by decide) rfl];simp[tD B hk ok]
end
noncomputable def fnd(rts:List Rt)(k:Str):Option Rt:=rts.find? λx=>decide (x.nm=k)
noncomputable def chg(k:Str)(a:Int)(rts:List Rt):List Rt:=rts.map λx=>if x.nm=k then { x with am:=a } else x
noncomputable def ft(rts:List Rt)(nm other:Str):Str×List Rt:=match fnd rts nm,fnd rts other with
 |some x,some y=>if nm=other∨x.pt≠y.pt∨x.dt≠y.dt∨1000000<x.am+y.am then(aA "unlike",rts) else(aA "done",(chg nm (x.am+y.am) rts).filter λz=>decide (z.nm≠other))
 |_,_=>(aA "no right",rts)
theorem xf{rts:List Rt}{k:Str}{x:Rt}(e:fnd rts k=some x):x∈rts/\x.nm=k:=⟨List.mem_of_find?_eq_some e,by simpa using List.find?_some e⟩
theorem Ar{rts:List Rt}{k:Str}(e:fnd rts k=none):k∉rts.map (·.nm):=by
 intro z;obtain⟨x,hx,ex⟩:=cO.mp z;have:=List.find?_eq_none.mp e x hx;simp at this;exact this ex
theorem ua{α β:Type}{f:α->β}:∀{l:List α},(l.map f).Nodup->∀{x y:α},x∈l->y∈l->f x=f y->x=y
 |[],_,_,_,hx,_,_=>by cases hx
 |a::l,n,x,y,hx,hy,e=>by
   obtain⟨n1,n2⟩:=ig.mp n;rcases bu.mp hx with hx|hx <;> rcases bu.mp hy with hy|hy
   ·rw[hx,hy]
   ·refine absurd ?_ n1;rw[←hx,e];exact cO.mpr ⟨y,hy,rfl⟩
   ·refine absurd ?_ n1;rw[←hy,←e];exact cO.mpr ⟨x,hx,rfl⟩
   ·exact ua n2 hx hy e
theorem BP(k:Str)(a:Int)(rts:List Rt):(chg k a rts).map (·.nm)=rts.map (·.nm):=by
 unfold chg;rw[dJ];refine iP λx _=>?_;simp only[Function.comp];split <;> rfl
noncomputable def d4(k:Str)(a:Int)(rs:List Rid):List Rid:=rs.map λy=>if y.1.nm=k then({ y.1 with am:=a },y.2) else y
theorem wm(k:Str)(a:Int)(rs:List Rid):aE (d4 k a rs)=chg k a (aE rs):=by
 unfold aE d4 chg;rw[dJ,dJ];refine iP λx _=>?_;simp only[Function.comp];split <;> rfl
theorem E8(k:Str)(a:Int)(rs:List Rid):(d4 k a rs).map (·.2)=rs.map (·.2):=by
 unfold d4;rw[dJ];refine iP λx _=>?_;simp only[Function.comp];split <;> rfl
theorem Dx(k:Str)(a:Int)(rs:List Rid):cY (d4 k a rs)=cY rs:=by
 unfold cY d4;rw[dJ];refine iP λx _=>?_;simp only[Function.comp];split <;> rfl
section
variable {h:MH}{bk r d:Nat}{rs:List Rid}{b:List Nat}{Q:MV->MH->Prop}{E:Nat->MH->Prop}
theorem bw.chg(B:bw h bk r d rs){x:Rid}(hx:x∈rs)(a:Int):bw (h.set x.2 (rtO { x.1 with am:=a })) bk r d (d4 x.1.nm a rs):=by
 have g:=B.it x hx;have n1:x.2≠bk:=λz=>by have:=B.ob;rw[←z,g]at this;simp[rtO]at this
 have n2:x.2≠d:=λz=>by have:=B.dc;rw[←z,g]at this;simp[rtO]at this
 refine⟨dY B.ob n1,by rw[Dx];exact dY B.dc n2,λz hz=>?_,by rw[E8];exact B.nd,?_⟩
 ·unfold d4 at hz;obtain⟨y,hy,rfl⟩:=cO.mp hz;by_cases c:y.1.nm=x.1.nm
  ·have e1:y.1=x.1:=ua B.nm (cO.mpr ⟨y,hy,rfl⟩) (cO.mpr ⟨x,hx,rfl⟩) c;have e2:=kG B.nm hy;have e3:=kG B.nm hx;rw[c,e3]at e2;injection e2 with e2;injection e2 with e2;rw[if_pos c];show(h.set x.2 _)[y.2]?=_;rw[←e2,e1];exact kN (d6 g)
  ·rw[if_neg c];refine dY (B.it y hy) λz=>?_;exact c (by rw[ua B.nd hx hy z])
 ·have:=wm x.1.nm a rs;unfold Names;show((aE (d4 x.1.nm a rs)).map (·.nm)).Nodup;rw[this,BP];exact B.nm
theorem IL{x:Rid}(hx:x∈rs){o:MO}:Off (own d rs) h (h.set x.2 o):=Off.set.mono λn hn=>by rw[dF.mp hn];exact d5 _ (cO.mpr ⟨x,hx,rfl⟩)
end
section
variable {h:MH}{bk r d:Nat}{rs:List Rid}{b:List Nat}{Q:MV->MH->Prop}{E:Nat->MH->Prop}
theorem Iu(B:bw h bk r d rs){nm other:Str}(o1:d9 nm=true)(o2:d9 other=true)
  (done:∀h' rs',(ft (aE rs) nm other).1=aA "done"->Off (own d rs) h h'->bw h' bk r d rs'->aE rs'=(ft (aE rs) nm other).2->Q (.int rs'.length) h')
  (e1:ft (aE rs) nm other=(aA "no right",aE rs)->E 105 h) (e2:ft (aE rs) nm other=(aA "unlike",aE rs)->E 108 h):wp (oH [.ref bk,.str nm,.str other]) h Q E:=by
 unfold oH;refine bY (by rfl) ?_;cases f1:fnd (aE rs) nm with
 |none=>
   have hk:=Ar f1;unfold tJ;rw[cS,cu,B.meth (by decide) rfl];simp[tD B hk o1];exact e1 (by simp[ft,f1])
 |some x1=>
   obtain⟨hx1,rfl⟩:=xf f1;obtain⟨x,hx,rfl⟩:=cO.mp hx1;have h1:=B.ob;have h2:=B.dc;have h3:=B.it x hx;refine bq (R:=λσ h'=>h=h'/\σ=[some (.ref bk),some (.str x.1.nm),some (.str other),some (.ref x.2),none]) ?_ ?_
   ·rw[cu,B.meth (by decide) rfl];simp[uk B hx]
   rintro _ _ ⟨rfl,rfl⟩;cases f2:fnd (aE rs) other with
   |none=>
     have hk:=Ar f2;rw[cS,cu,B.meth (by decide) rfl];simp[tD B hk o2];exact e1 (by simp[ft,f1,f2])
   |some y1=>
     obtain⟨hy1,rfl⟩:=xf f2;obtain⟨y,hy,rfl⟩:=cO.mp hy1;have h4:=B.it y hy;refine bq (R:=λσ h'=>h=h'/\σ=[some (.ref bk),some (.str x.1.nm),some (.str y.1.nm),some (.ref x.2),some (.ref y.2)]) ?_ ?_
     ·rw[cu,B.meth (by decide) rfl];simp[uk B hy]
     rintro _ _ ⟨rfl,rfl⟩;by_cases c1:x.1.nm=y.1.nm
     ·rw[cS];simp[c1];exact e2 (by simp[ft,f1,f2,c1])
     ·refine bq (R:=λσ h'=>h=h'/\σ=[some (.ref bk),some (.str x.1.nm),some (.str y.1.nm),some (.ref x.2),some (.ref y.2)]) (by simp[c1]) ?_;rintro _ _ ⟨rfl,rfl⟩;have g3:=h3;have g4:=h4;unfold rtO at g3 g4;by_cases c2:x.1.pt=y.1.pt/\x.1.dt=y.1.dt
      case neg=>
       have c2':x.1.pt≠y.1.pt∨x.1.dt≠y.1.dt:=by
        by_cases z:x.1.pt=y.1.pt
        ·exact .inr λw=>c2 ⟨z,w⟩
        ·exact .inl z
       have res:ft (aE rs) x.1.nm y.1.nm=(aA "unlike",aE rs):=by
        simp only[ft,f1,f2];rw[if_pos];rcases c2' with z|z
        ·exact .inr (.inl z)
        ·exact .inr (.inr (.inl z))
       rw[cS];by_cases z:x.1.pt=y.1.pt
       ·have z2:x.1.dt≠y.1.dt:=λw=>c2 ⟨z,w⟩;simp[g3,g4,bI,z,z2];exact e2 res
       ·have z':¬((x.1.pt:Int)=(y.1.pt:Int)):=by lia
        simp[g3,g4,bI,z,z'];exact e2 res
      case pos=>
       obtain⟨c3,c4⟩:=c2;refine bq (R:=λσ h'=>h=h'/\σ=[some (.ref bk),some (.str x.1.nm),some (.str y.1.nm),some (.ref x.2),some (.ref y.2)]) (by simp[g3,g4,bI,c3,c4]) ?_;rintro _ _ ⟨rfl,rfl⟩;by_cases c5:1000000<x.1.am+y.1.am
       ·rw[cS];simp[g3,g4,bI,c5];refine e2 ?_;simp only[ft,f1,f2];rw[if_pos (.inr (.inr (.inr c5)))]
       ·have res:ft (aE rs) x.1.nm y.1.nm=(aA "done",(chg x.1.nm (x.1.am+y.1.am) (aE rs)).filter λz=>decide (z.nm≠y.1.nm)):=by
         simp only[ft,f1,f2];rw[if_neg];rintro(z|z|z|z)
         ·exact c1 z
         ·exact z c3
         ·exact z c4
         ·exact c5 z
        refine bq (R:=λσ h'=>h=h'/\σ=[some (.ref bk),some (.str x.1.nm),some (.str y.1.nm),some (.ref x.2),some (.ref y.2)]) (by simp[g3,g4,bI,c5]) ?_;rintro _ _ ⟨rfl,rfl⟩;refine bq (R:=λσ h'=>h'=h.set x.2 (rtO { x.1 with am:=x.1.am+y.1.am })/\σ=[some (.ref bk),some (.str x.1.nm),some (.str y.1.nm),some (.ref x.2),some (.ref y.2)]) ?_ ?_
        ·have l3:=d6 h3;simp[g3,g4,bI,putF,rtO];exact l3
        rintro _ _ ⟨rfl,rfl⟩;have B2:=B.chg hx (x.1.am+y.1.am);have oo:Off (own d rs) h (h.set x.2 (rtO { x.1 with am:=x.1.am+y.1.am })):=IL hx;generalize h.set x.2 (rtO { x.1 with am:=x.1.am+y.1.am })=hB at B2 oo;have hyB:y∈d4 x.1.nm (x.1.am+y.1.am) rs:=by
         unfold d4;exact cO.mpr ⟨y,hy,by rw[if_neg (Ne.symm c1)]⟩
        have h12:=B2.ob;have h22:=B2.dc;have ld:=d6 h22;have g:=kG B2.nm hyB;have nb:d≠bk:=λz=>by rw[z,h12]at h22;cases h22
        have sub:(jH y.1.nm (d4 x.1.nm (x.1.am+y.1.am) rs)).Sublist (d4 x.1.nm (x.1.am+y.1.am) rs):=List.filter_sublist;have B3:bw (hB.set d (.dct (cY (jH y.1.nm (d4 x.1.nm (x.1.am+y.1.am) rs))))) bk r d (jH y.1.nm (d4 x.1.nm (x.1.am+y.1.am) rs)):=by
         refine⟨dY h12 nb,kN ld,λz hz=>dY (B2.it z (sub.subset hz)) λw=>?_,B2.nd.sublist (sub.map _),GL B2.nm (sub.map _)⟩;have:=B2.it z (sub.subset hz);rw[←w,h22]at this;cases this
        refine bq (R:=λσ h'=>h'=hB.set d (.dct (cY (jH y.1.nm (d4 x.1.nm (x.1.am+y.1.am) rs))))/\σ=[some (.ref bk),some (.str x.1.nm),some (.str y.1.nm),some (.ref x.2),some (.ref y.2)]) ?_ ?_
        ·simp[h12,h22,bI,g,DZ];exact ld
        rintro _ _ ⟨rfl,rfl⟩;have h13:=B3.ob;have h23:=B3.dc;have key:=done _ _ (by rw [res]) (oo.trans (tw Off.set)) B3 (by
         rw [res];unfold jH;show (jX _ (d4 x.1.nm (x.1.am + y.1.am) rs)).map (·.1)=_;rw [←wm];show _=jX _ ((d4 x.1.nm (x.1.am + y.1.am) rs).map (·.1));rw [tP];rfl)
        rw[←qb]at key;have lk:eL "held" [("stream",MV.ref r),("held",MV.ref d)]=some (.ref d):=rfl;have cn:[3].contains 3=true:=rfl;rw[fV,fF,q0,aO];simp only[aR,h13,lk,cn,true_and,lV];rw[h23];dsimp only
        first
         |exact key
         |(refine⟨rfl,?_⟩;exact key)
         |simpa using key
end
noncomputable def hZ(b:List Nat):(Nat->Int)->List Want->Nat->Int
 |f,[]=>f
 |f,w::r=>hZ b (lower f (eB f w.2 (bf b w.1)) (bf b w.1)) r
noncomputable def cD(b:List Nat):(Nat->Int)->List Want->List Int
 |_,[]=>[]
 |f,w::r=>eB f w.2 (bf b w.1)::cD b (lower f (eB f w.2 (bf b w.1)) (bf b w.1)) r
theorem zw(b:List Nat)(w:Want):∀(l:List Want) (f:Nat->Int),hZ b f (l++[w])=lower (hZ b f l) (eB (hZ b f l) w.2 (bf b w.1)) (bf b w.1)
 |[],f=>rfl
 |x::l,f=>zw b w l _
theorem wD(b:List Nat)(w:Want):∀(l:List Want) (f:Nat->Int),cD b f (l++[w])=cD b f l++[eB (hZ b f l) w.2 (bf b w.1)]
 |[],f=>rfl
 |x::l,f=>by
   show eB f x.2 (bf b x.1)::cD b _ (l++[w])=_;rw[wD b w l];rfl
theorem kr(b:List Nat):∀(l:List Want) (f:Nat->Int),(cD b f l).length=l.length
 |[],f=>rfl
 |x::l,f=>by
   show(cD b _ l).length+1=_;rw[kr b l];rfl
section
variable {h:MH}{r:Nat}{b:List Nat}{Q:MV->MH->Prop}{E:Nat->MH->Prop}
theorem t8{a c n:Nat}{y:Nat->Int}{ws:List Want}(R:bP h r b)(ha:h[a]?=some (.lst (tab n y)))(hc:h[c]?=some (.lst (ws.map Want.v)))(hn:n=b.length+1)(bd:∀k,k<n->0≤y k/\y k≤1000000)(hp:∀w∈ws,w.1<b.length+1)(few:ws.length<1000)
  (q:∀h' x z,Pre h h'->h.length≤x->h.length≤z->h'[x]?=some (.lst (zs (cD b (bJ b n y) ws)))->h'[z]?=some (.lst (tab n (hZ b (bJ b n y) ws)))->Q (.tup [.ref x,.ref z]) h'):wp (iN [.ref r,.ref a,.ref c]) h Q E:=by
 unfold iN;refine bY (by rfl) ?_;have fewb:=R.few;have wf:=R.wf;refine bq (R:=λσ h1=>∃x,Pre h h1/\h.length≤x/\h1[x]?=some (.lst (tab n (bJ b n y)))/\σ=[some (.ref r),some (.ref a),some (.ref c),some (.ref x),none,none,none,none,none,none]) ?_ ?_
 ·have z0:(br n [MV.int 0]).flatten=tab n λ_=>0:=by
   have:∀m:Nat,(br m [MV.int 0]).flatten=tab m λ_=>0:=by
    intro m
    induction m with
    |zero=>rfl
    |succ m ih=>rw[←DO,←ih,List.replicate_succ',List.flatten_append];rfl
   exact this n
  have R1:=R.pre (Pre.app (.lst [MV.int 0]));have n0:((b.length:Int)+1).toNat=n:=by lia
  have m1:(-1000000:Int)≤(b.length:Int)+1/\(b.length:Int)+1≤1000000/\[MV.int 0].length*((b.length:Int)+1).toNat≤100000:=⟨by lia,by lia,by simp;lia⟩
  rw[cu,cV];simp only[bh,aT,aO,aR,aS,bE,gH,w_c,eR,kh];refine⟨by decide,?_⟩;rw[R1.meth (by decide) rfl,aT,kU R1,yt];simp only[bR,n0,z0];refine⟨⟨by lia,by lia,by simp;lia⟩,?_⟩;have p2:=(Pre.app (h:=h) (.lst [MV.int 0])).snoc (.lst (tab n λ_=>0));refine AF (R.pre p2) (p2.get ha) bR hn bd λh' x p hx e=>?_;have e0:(λk=>y k-(λ_=>(0:Int)) k)=y:=by funext k;simp
  rw[e0]at e;exact⟨_,rfl,x,p2.trans p,cB p2.len hx,e,rfl⟩
 rintro _ h1 ⟨x,p1,hx,ex,rfl⟩;refine bq (R:=λσ h2=>h2=h1++[.lst []]/\σ=[some (.ref r),some (.ref a),some (.ref c),some (.ref x),some (.ref h1.length),none,none,none,none,none]) (by simp) ?_;rintro _ _ ⟨rfl,rfl⟩;have lx:=d6 ex;generalize ef:bJ b n y=f0 at q ex;refine bq (R:=λσ h2=>(Pre h h2/\h2[x]?=some (.lst (tab n (hZ b f0 ws)))/\h2[h1.length]?=some (.lst (zs (cD b f0 ws))))/\∃u1 u2 u3 u4 u5,σ=[some (.ref r),some (.ref a),some (.ref c),some (.ref x),some (.ref h1.length),u1,u2,u3,u4,u5]) ?_ ?_
 ·rw[jp];have hc1:(h1++[MO.lst []])[c]?=some (.lst (ws.map Want.v)):=dS (p1.get hc);refine dG (Ae (n:=c) (h':=h1++[.lst []]) (rs:=ws.map λw=>[.int w.1,.int w.2]) rfl hc1 (vm λw _=>⟨rfl,rfl⟩)) ?_;refine iq (λk σ h2=>(Pre h h2/\h2[x]?=some (.lst (tab n (hZ b f0 (ws.take k))))/\h2[h1.length]?=some (.lst (zs (cD b f0 (ws.take k)))))/\∃u1 u2 u3 u4 u5,σ=[some (.ref r),some (.ref a),some (.ref c),some (.ref x),some (.ref h1.length),u1,u2,u3,u4,u5])
   (λk σ h2 ⟨⟨p2,_⟩,_⟩=>ia (p2.get hc)) (λk v σ h2 hv ⟨⟨p2,e2,e3⟩,u1,u2,u3,u4,u5,es⟩=>?_) (λσ h2 ⟨⟨p2,e2,e3⟩,i⟩=>?_) ⟨⟨p1.snoc _,dS ex,bR⟩,_,_,_,_,_,rfl⟩
  ·subst es;rw[bZ]at hv;cases ek:ws[k]? with
   |none=>rw[ek]at hv;cases hv
   |some w=>
     rw[ek]at hv;cases hv;have hk:=(bM.mp ek).1;have hw:=hp w (dZ ek);have R2:=R.pre p2;have tk:ws.take (k+1)=ws.take k++[w]:=by rw[List.take_add_one,ek];rfl
     have l3:=d6 e3;have l2:=d6 e2;generalize hf:hZ b f0 (ws.take k)=f at e2;generalize ht:cD b f0 (ws.take k)=ts at e3;have lts:ts.length<1000:=by rw[←ht,kr,nI];lia
     obtain⟨mono,nd⟩:=Fb wf w.1 hw;have wl:=GJ wf w.1 hw;simp only[dg,gZ,hG];refine bq (R:=λσ h3=>h3=h2++[.lst (nats (bf b w.1))]/\σ=[some (.ref r),some (.ref a),some (.ref c),some (.ref x),some (.ref h1.length),some (.int w.1),some (.int w.2),some (.ref h2.length),u4,u5]) ?_ ?_
     ·rw[cu,R2.meth (by decide) rfl];simp only[bh,aT,aO,aR,aS];exact zc R2 hw ⟨_,rfl,rfl,rfl⟩
     rintro _ _ ⟨rfl,rfl⟩;have e2':(h2++[MO.lst (nats (bf b w.1))])[x]?=some (.lst (tab n f)):=dS e2;have e3':(h2++[MO.lst (nats (bf b w.1))])[h1.length]?=some (.lst (zs ts)):=dS e3;obtain⟨p0,pr,ew⟩:∃p0 pr,bf b w.1=p0::pr:=by
      have z:=Gi wf w.1 hw;cases e:bf b w.1 with
      |nil=>rw[e]at z;cases z
      |cons p0 pr=>exact⟨p0,pr,rfl⟩
     refine bq (R:=λσ h3=>Pre (h2++[.lst (nats (bf b w.1))]) h3/\σ=[some (.ref r),some (.ref a),some (.ref c),some (.ref x),some (.ref h1.length),some (.int w.1),some (.int w.2),some (.ref h2.length),some (.int (eB f w.2 (bf b w.1))),u5]) ?_ ?_
     ·rw[cu,bE,aO];simp only[aR,aS];rw[fF];refine lZ (bf b w.1) (λp=>[.int p]) (λ_=>true) (λp=>.int (f p)) (jn (n:=h2.length) (h':=h2++[.lst (nats (bf b w.1))]) rfl bR) (by simp[nats]) (λh' p=>ia (p.get bR)) (by lia) (λv hv h3 p3=>?_) (λv hv _ h3 p3=>?_) λh3 p3=>?_
      ·simp[hV,bH,Pre.refl]
      ·have g:=p3.get e2';have hvn:v<n:=by have:=mono v hv;lia
       simp[g,qX hvn,Pre.refl]
      ·rw[sN];have e4:(bf b w.1).map (λp=>MV.int (f p))=zs (f p0::pr.map f):=by rw[ew];simp[zs]
       rw[e4];have wl':(bf b w.1).length=pr.length+1:=by rw[ew];rfl
       refine He bR (by simp;lia) ?_;rw[FN];refine⟨_,rfl,p3.snoc _,?_⟩;rw[ew];rfl
     rintro _ h3 ⟨p3,rfl⟩;have e5:=p3.get e2';have e6:=p3.get e3';have e7:=p3.get (bR (h:=h2) (o:=MO.lst (nats (bf b w.1))));generalize htk:eB f w.2 (bf b w.1)=t;have nx:h2.length≠x:=by lia
     have nx1:h1.length≠x:=by lia
     have nx2:h2.length≠h1.length:=by lia
     refine bq (R:=λσ h4=>(Pre h h4/\h4[x]?=some (.lst (tab n (lower f t (bf b w.1))))/\h4[h1.length]?=some (.lst (zs ts)))/\∃u,σ=[some (.ref r),some (.ref a),some (.ref c),some (.ref x),some (.ref h1.length),some (.int w.1),some (.int w.2),some (.ref h2.length),some (.int t),u]) ?_ ?_
     ·rw[jp];refine dG (jn (n:=h2.length) (h':=h3) rfl e7) ?_;refine iq (λj σ h4=>(Pre h h4/\h4[x]?=some (.lst (tab n (lower f t ((bf b w.1).take j))))/\h4[h1.length]?=some (.lst (zs ts))/\h4[h2.length]?=some (.lst (nats (bf b w.1))))/\∃u,σ=[some (.ref r),some (.ref a),some (.ref c),some (.ref x),some (.ref h1.length),some (.int w.1),some (.int w.2),some (.ref h2.length),some (.int t),u])
       (λj σ h4 ⟨⟨_,_,_,g⟩,_⟩=>ia g) (λj v σ h4 hv ⟨⟨p4,g1,g2,g3⟩,u,es⟩=>?_) (λσ h4 ⟨⟨p4,g1,g2,g3⟩,i⟩=>?_) ⟨⟨(p2.snoc _).trans p3,?_,e6,e7⟩,_,rfl⟩
      ·subst es;unfold nats at hv;rw[bZ,bZ]at hv;cases ej:(bf b w.1)[j]? with
       |none=>rw[ej]at hv;cases hv
       |some pj=>
         rw[ej]at hv;cases hv;have hjn:pj<n:=by have:=mono pj (dZ ej);lia
         have nin:pj∉(bf b w.1).take j:=by
          intro z;obtain⟨i,hi⟩:=jY.mp z;have hij:i<j:=by
           have:=(bM.mp hi).1;rw[nI]at this;lia
          rw[List.getElem?_take_of_lt hij]at hi;have:=(List.getElem?_inj (bM.mp hi).1 nd).mp (hi.trans ej.symm);lia
         have lo:lower f t ((bf b w.1).take j) pj=f pj:=by unfold lower;rw[if_neg nin]
         have tj:(bf b w.1).take (j+1)=(bf b w.1).take j++[pj]:=by rw[List.take_add_one,ej];rfl
         have st:(tab n (lower f t ((bf b w.1).take j))).set pj (.int (f pj-t))=tab n (lower f t ((bf b w.1).take (j+1))):=by
          rw[wa];refine nY λi _=>?_;unfold lower;rw[tj];by_cases ei:i=pj
          ·subst ei;simp
          ·simp[ei]
         have ix:ixN (tab n (lower f t ((bf b w.1).take j))).length (pj:Int)=some pj:=vd (by rw[gv];exact hjn);have lh:=d6 g1;simp only[dg,gZ,hG,yU,aO,aR,aS,AA,lY,g1];rw[qX hjn];dsimp only;rw[lo,uf];simp only[wM,g1,ix,st];refine⟨lh,⟨p4.set hx,kN lh,dY g2 (Ne.symm nx1),dY g3 (Ne.symm nx)⟩,_,rfl⟩
      ·refine⟨σ,rfl,⟨p4,?_,g2⟩,i⟩;rw[g1];simp[nats]
      ·rw[e5];have:lower f t ((bf b w.1).take 0)=f:=by funext i;simp[lower]
       rw[this]
     rintro _ h4 ⟨⟨p4,g1,g2⟩,u,rfl⟩;have lh:=d6 g2;have sz:(zs ts).length<100000:=by simp[zs];lia
     simp only[dO,AZ,aO,aR,aS,g2];have h1l:h.length≤h1.length:=p1.len;have fin:zs ts++[.int t]=zs (cD b f0 (ws.take (k+1))):=by
      rw[tk,wD,hf,ht,htk];simp[zs]
     rw[fin];refine⟨sz,lh,⟨p4.set h1l,dY ?_ nx1,kN lh⟩,_,_,_,_,_,rfl⟩;rw[g1,tk,zw,hf,htk]
  ·rw[c6,List.take_length]at e2 e3;exact⟨σ,rfl,⟨p2,e2,e3⟩,i⟩
 rintro _ h2 ⟨⟨p2,e2,e3⟩,u1,u2,u3,u4,u5,rfl⟩;simp;exact q h2 _ _ p2 p1.len hx e3 e2
end
noncomputable def bC(l:List Rt):List Want:=l.map λx=>(x.pt,x.am)
noncomputable def pv(p:Str×Int):MV:=.tup [.str p.1,.int p.2]
noncomputable def ER(b:List Nat)(f:Nat->Int)(rts:List Rt):List (Str×Int):=((aged rts).map (·.nm)).zip (cD b f (bC (aged rts)))
theorem yZ:∀(ns:List Str) (ts:List Int),gI (ns.map .str) (zs ts)=(ns.zip ts).map pv
 |[],ts=>by simp[gI]
 |n::ns,[]=>by simp[gI,zs]
 |n::ns,t::ts=>by
   have ih:=yZ ns ts;unfold zs at ih ⊢;simp[gI,ih,pv]
section
variable {h:MH}{bk r d:Nat}{rs:List Rid}{b:List Nat}{Q:MV->MH->Prop}{E:Nat->MH->Prop}
theorem ng(B:bw h bk r d rs):wp (fR [.ref bk]) h Q E↔Q (.ref r) h:=by
 have h1:=B.ob;have key:fR [.ref bk] h=.ok (.ref r) h:=by
  simp[fR,uE,fnOf,bnd,bT,aW,ah,ret,look,h1,bI]
 unfold wp;rw[key]
theorem qm(B:bw h bk r d rs)(hz:rs.length<64)(q:∀h',Pre h h'->Q (.ref h'.length) (h'++[.lst ((bC (aged (aE rs))).map Want.v)])):wp (jG [.ref bk]) h Q E:=by
 unfold jG;refine bY (by rfl) ?_;unfold vt;rw[fV];have hz':(aE rs).length<64:=by simpa[aE] using hz
 have hs:fB (aZ 3 "names" jc (ah 0) az) [some (.ref bk)] h=.ok ⟨((aged (aE rs)).map λx=>MV.str x.nm).map λv=>[v],[(h.length,(aged (aE rs)).map λx=>MV.str x.nm)]⟩ (h++[.lst ((aged (aE rs)).map λx=>.str x.nm)]):=by
  refine jn (lI ?_) bR;rw[B.meth (by decide) rfl,aT];exact sv B hz ⟨rfl,rfl⟩
 have p1:Pre h (h++[.lst ((aged (aE rs)).map λx=>.str x.nm)]):=Pre.app _;have mem:∀x∈aged (aE rs),∃y∈rs,y.1=x:=λx hx=>by
  have:=(iU B.nm hz').mem_iff.mp hx;obtain⟨y,hy,e⟩:=cO.mp this;exact⟨y,hy,e⟩
 refine lZ (aged (aE rs)) (λx=>[.str x.nm]) (λ_=>true) (λx=>.tup [.int x.pt,.int x.am]) hs (by simp) (λh' p=>ia (p.get bR)) (by rw[nh B.nm hz',c6];lia) (λx hx h2 p2=>?_) (λx hx _ h2 p2=>?_) λh2 p2=>?_
 ·simp[hV,bH,Pre.refl]
 ·obtain⟨y,hy,rfl⟩:=mem x hx;have B2:=B.pre (p1.trans p2);have ct:iQ [MV.int y.1.pt,.int y.1.am,.int y.1.dt] none (some 2)=[.int y.1.pt,.int y.1.am]:=rfl;have ci:¬(dU 3 0 none=0/\dU 3 3 (some 2)=3):=by decide
  show wp (eSl (aZ 3 "right" fN (ah 0) (ao (ah 1) az)) none (some (eC (.int 2))) [some (.ref bk),some (.str y.1.nm)]) h2 _ noE;rw[yH,B2.meth (by decide) rfl];simp only[bh,aT,aO,aR,aS,kH B2 hy,wv,zQ,w_c,Rt.val,HM,eR,kh,ct];exact⟨ci,trivial,.refl⟩
 ·rw[sN];have:=q h2 (p1.trans p2);unfold bC at this
  rwa [dJ]at this
theorem G3{a n:Nat}{y:Nat->Int}{i:Int}{v:Nat->Nat->MV}(B:bw h bk r d rs)(R:bP h r b)(hz:rs.length<64)(ha:h[a]?=some (.lst (tab n y)))(hn:n=b.length+1)(bd:∀k,k<n->0≤y k/\y k≤1000000)(hp:∀x∈aE rs,x.pt<b.length+1){τ:MSt}{j:Nat}(t0:τ[0]?=some (some (.ref bk)))(t1:τ[1]?=some (some (.ref a)))
  (hv:∀x z:Nat,atN [MV.ref x,.ref z] i=some (v x z)) (q:∀h' x z,Pre h h'->h.length≤x->h.length≤z->h'[x]?=some (.lst (zs (cD b (bJ b n y) (bC (aged (aE rs))))))->h'[z]?=some (.lst (tab n (hZ b (bJ b n y) (bC (aged (aE rs))))))->Q (v x z) h') :
  wp (aC oIx (cF iN (ao (aZ 3 "river" fR (ah 0) az) (ao (ah 1) (ao (cF jG (ao (ah 0) az)) az)))) (eC (.int i)) τ) h Q E:=by
 have hz':(aE rs).length<64:=by simpa[aE] using hz
 rw[bE,cV,bh,B.meth (by decide) t0,aT,ng B];simp only[bh,aO,t1,cV,t0,aT];refine qm B hz λh2 p2=>?_;have p3:=p2.snoc (.lst ((bC (aged (aE rs))).map Want.v));have pm:=iU B.nm hz';refine t8 (R.pre p3) (p3.get ha) bR hn bd (λw hw=>?_) ?_ λh' x z p hx hzz e1 e2=>?_
 ·obtain⟨x,hx,rfl⟩:=cO.mp hw;exact hp x (pm.mem_iff.mp hx)
 ·unfold bC;have al:(aged (aE rs)).length<64:=by rw[pm.length_eq];exact hz'
  rw[c6];lia
 ·rw[w_c,ki,hv];exact q h' x z (p3.trans p) (cB p3.len hx) (cB p3.len hzz) e1 e2
theorem Df{a n:Nat}{y:Nat->Int}(B:bw h bk r d rs)(R:bP h r b)(hz:rs.length<64)(ha:h[a]?=some (.lst (tab n y)))(hn:n=b.length+1)(bd:∀k,k<n->0≤y k/\y k≤1000000)(hp:∀x∈aE rs,x.pt<b.length+1)
  (q:∀h',Pre h h'->Q (.ref h'.length) (h'++[.lst ((ER b (bJ b n y) (aE rs)).map pv)])):wp (gE [.ref bk,.ref a]) h Q E:=by
 unfold gE;refine bY (by rfl) ?_;have hz':(aE rs).length<64:=by simpa[aE] using hz
 refine bq (R:=λσ h1=>∃x,Pre h h1/\h1[x]?=some (.lst (zs (cD b (bJ b n y) (bC (aged (aE rs))))))/\σ=[some (.ref bk),some (.ref a),some (.ref x)]) ?_ ?_
 ·rw[cu];exact G3 (j:=0) B R hz ha hn bd hp rfl rfl (v:=λx _=>.ref x) (λ_ _=>rfl) λh' x z p _ _ e1 _=>⟨_,rfl,x,p,e1,rfl⟩
 rintro _ h1 ⟨x,p1,e1,rfl⟩;have B1:=B.pre p1;rw[fV,bE,B1.meth (by decide) rfl,aT];refine sv B1 hz ?_;rw[aO];have al:(aged (aE rs)).length<64:=by rw[nh B.nm hz'];exact hz'
 have e2:(aged (aE rs)).map (λx=>MV.str x.nm)=((aged (aE rs)).map (·.nm)).map .str:=by rw[dJ];rfl
 refine Jd (a:=h1.length) (b:=x) bR (dS e1) (by rw[c6];lia) (by unfold zs bC;rw[c6,kr,c6];lia) ?_;rw[e2,yZ];exact q _ (p1.snoc _)
end
noncomputable def qG(b:List Nat)(f:Nat->Int)(A:List Rt):List (Str×Int):=(A.map (·.nm)).zip (cD b f (bC A))
theorem wN{α β:Type}:∀{xs:List α}{ys:List β}{k:Nat}{v:α×β},(xs.zip ys)[k]?=some v->xs[k]?=some v.1/\ys[k]?=some v.2
 |x::xs,y::ys,0,v,e=>by
   cases(show some (x,y)=some v from e);exact⟨rfl,rfl⟩
 |x::xs,y::ys,k+1,v,e=>by simpa using wN (xs:=xs) (ys:=ys) (k:=k) (v:=v) (by simpa using e)
 |[],ys,k,v,e=>by simp at e
 |x::xs,[],k,v,e=>by simp at e
section
variable {α:Type}
end
def iG(h:MH)(c n:Nat)(as:List Nat)(Y:Nat->Nat->Int):Prop:=h[c]?=some (.lst (as.map .ref))/\∀(k a:Nat),as[k]?=some a->h[a]?=some (.lst (tab n (Y k)))
theorem iG.off{h h':MH}{c n:Nat}{as:List Nat}{Y:Nat->Nat->Int}(y:iG h c n as Y)(o:Off [] h h'):iG h' c n as Y:=⟨o.get y.1 (by simp),λk a e=>o.get (y.2 k a e) (by simp)⟩
theorem iG.pre{h h':MH}{c n:Nat}{as:List Nat}{Y:Nat->Nat->Int}(y:iG h c n as Y)(o:Pre h h'):iG h' c n as Y:=y.off o.off
noncomputable def mvR(k:Str)(p:Nat)(z:Rt):Rt:=if z.nm=k then { z with pt:=p } else z
noncomputable def mvL(k:Str)(p:Nat)(l:List Rt):List Rt:=l.map (mvR k p)
theorem Fm(k:Str)(p:Nat)(l:List Rt):(mvL k p l).length=l.length:=by simp[mvL]
theorem DN{k:Str}{p b:Nat}{l:List Rt}(hp:∀x∈l,x.pt<b)(h:p<b):∀x∈mvL k p l,x.pt<b:=λx hx=>by
 obtain⟨z,hz,rfl⟩:=cO.mp hx;unfold mvR;split
 ·exact h
 ·exact hp z hz
theorem Ir{A:List Rt}{k p:Nat}{x:Rt}(n:Names A)(ex:A[k]?=some x):bC (mvL x.nm p A)=(bC A).set k (p,x.am):=by
 apply j6;intro i;unfold bC mvL;rw[dJ,bZ];by_cases c:i=k
 ·subst c;have hk:=(bM.mp ex).1;rw[ex,fY (by simpa using hk)];simp[mvR]
 ·rw[ip (by lia),bZ];cases ez:A[i]? with
  |none=>rfl
  |some z=>
    have:=n.get ez ex c;simp[mvR,this]
section
variable {h:MH}{bk r d:Nat}{rs:List Rid}{b:List Nat}{Q:MV->MH->Prop}{E:Nat->MH->Prop}
theorem AT{k p:Nat}{x:Rt}(B:bw h bk r d rs)(hz:rs.length<64)(ex:(aged (aE rs))[k]?=some x)(sok:∀x∈aE rs,PySem.PyData.strOk x.nm=true)
  (q:∀h' c,Pre h h'->h'[c]?=some (.lst ((bC (mvL x.nm p (aged (aE rs)))).map Want.v))->Q (.ref c) h'):wp (pA [.ref bk,.str x.nm,.int p]) h Q E:=by
 unfold pA;refine bY (by rfl) ?_;have hz':(aE rs).length<64:=by simpa[aE] using hz
 have pm:=iU B.nm hz';have nA:Names (aged (aE rs)):=by
  unfold Names;exact(pm.map _).nodup_iff.mpr B.nm
 refine bq (R:=λσ h1=>∃c,Pre h h1/\h.length≤c/\h1[c]?=some (.lst ((bC (aged (aE rs))).map Want.v))/\σ=[some (.ref bk),some (.str x.nm),some (.int p),some (.ref c),none]) ?_ ?_
 ·rw[cu,cV];simp only[bh,aT,aO];exact qm B hz λh1 p1=>⟨_,rfl,h1.length,p1.snoc _,p1.len,bR,rfl⟩
 rintro _ h1 ⟨c,p1,lc,g1,rfl⟩;have B1:=B.pre p1;have fx:∀g:MH,fh g (.str x.nm) ((aged (aE rs)).map λx=>MV.str x.nm)=some k:=λg=>by
  refine xR (f:=λz:Rt=>MV.str z.nm) (g:=λz=>.str z.nm) (λi y _ ey=>⟨rfl,?_⟩) ex (λi y hi ey=>?_) ?_
  ·simp[PySem.SeqAt.shaped,PySem.PyData.canLay0,PySem.PyData.depth,sok y (pm.mem_iff.mp (dZ ey))]
  ·have:=nA.get ey ex (by lia);simp[PySem.PyData.eqv,this]
  ·simp[PySem.PyData.eqv]
 have sx:PySem.SeqAt.shaped (.str x.nm)=true:=by simp[PySem.SeqAt.shaped,PySem.PyData.canLay0,PySem.PyData.depth,sok x (pm.mem_iff.mp (dZ ex))]
 refine bq (R:=λσ h2=>Pre h1 h2/\σ=[some (.ref bk),some (.str x.nm),some (.int p),some (.ref c),some (.int k)]) ?_ ?_
 ·rw[cu,FG,EO,B1.meth (by decide) rfl,aT];refine sv B1 hz ?_;simp only[bR,aO,aR,aS];exact Gw bR rfl sx (fx _) ⟨_,rfl,Pre.app _,rfl⟩
 rintro _ h2 ⟨p2,rfl⟩;have g2:=p2.get g1;have hk:=(bM.mp ex).1;have wl:((bC (aged (aE rs))).map Want.v).length=(aged (aE rs)).length:=by simp[bC]
 have gk:atN ((bC (aged (aE rs))).map Want.v) (k:Int)=some (.tup [.int x.pt,.int x.am]):=by
  rw[jL,bZ];unfold bC;rw[bZ,ex];rfl
 have ix:ixN ((bC (aged (aE rs))).map Want.v).length (k:Int)=some k:=vd (by rw[wl];exact hk);have c1:∀u v:MV,atN [u,v] 1=some v:=λ_ _=>rfl;have st:((bC (aged (aE rs))).map Want.v).set k (.tup [.int p,.int x.am])=(bC (mvL x.nm p (aged (aE rs)))).map Want.v:=by
  rw[Ir nA ex,List.map_set];rfl
 have l2:=d6 g2;refine bq (R:=λσ h3=>h3=h2.set c (.lst ((bC (mvL x.nm p (aged (aE rs)))).map Want.v))/\σ=[some (.ref bk),some (.str x.nm),some (.int p),some (.ref c),some (.int k)]) ?_ ?_
 ·simp only[yL,Ey,bh,aT,bE,aO,w_c,aR,aS,lY,g2,gk,ki,c1,eR,kh,wM,ix,st];exact⟨by decide,l2,_,rfl,by trivial,rfl⟩
 rintro _ _ ⟨rfl,rfl⟩;simp only[fV,aO,aR,aS];exact q _ c ((p1.trans p2).set lc) (kN l2)
end
theorem Al{k s:Str}{v:MV}:∀{d:List (Str×MV)},(dget s (d.map λkv=>if kv.1=k then(kv.1,v) else kv)).isSome=(dget s d).isSome
 |[]=>rfl
 |(a,u)::d=>by
   have ih:=Al (k:=k) (s:=s) (v:=v) (d:=d);simp only[bD];by_cases c:a=k
   ·rw[if_pos c];simp only[dget];by_cases c2:a=s
    ·simp[c2]
    ·simp[c2,ih]
   ·rw[if_neg c];simp only[dget];by_cases c2:a=s
    ·simp[c2]
    ·simp[c2,ih]
theorem Ai{s k:Str}{v:MV}:∀{d:List (Str×MV)},(dget s (d++[(k,v)])).isSome=((dget s d).isSome||decide (k=s))
 |[]=>by by_cases c:k=s <;> simp[dget,c]
 |(a,u)::d=>by
   have ih:=Ai (s:=s) (k:=k) (v:=v) (d:=d);simp only[kQ,dget];by_cases c2:a=s
   ·simp[c2]
   ·simp[c2,ih]
theorem EL{s k:Str}{v:MV}{d:List (Str×MV)}:(dget s (dput k v d)).isSome=true↔s=k∨(dget s d).isSome=true:=by
 unfold dput;split
 ·rename_i h;rw[Al];constructor
  ·exact .inr
  ·rintro(rfl|h2)
   ·exact h
   ·exact h2
 ·rw[Ai];simp only[ul,decide_eq_true_eq];constructor
  ·rintro(h|h)
   ·exact .inr h
   ·exact .inl h.symm
  ·rintro(h|h)
   ·exact .inr h.symm
   ·exact .inl h
theorem IT{k:Str}{v:MV}{d:List (Str×MV)}:(dput k v d).length≤d.length+1:=by
 unfold dput;split <;> simp
noncomputable def lP(b:List Nat)(n:Nat)(Y:Nat->Nat->Int)(A:List Rt)(j i:Nat):Int:=(cD b (bJ b n (Y j)) (bC A)).getD i 0
theorem w5{b:List Nat}{n:Nat}{Y:Nat->Nat->Int}{A:List Rt}{j i:Nat}(hi:i<A.length):(cD b (bJ b n (Y j)) (bC A))[i]?=some (lP b n Y A j i):=by
 have:(cD b (bJ b n (Y j)) (bC A)).length=A.length:=by rw[kr];simp[bC]
 unfold lP;simp[this,hi]
noncomputable def eI(A:List Rt)(i:Nat):Str:=(A.getD i default).nm
def jo(b:List Nat)(n:Nat)(Y:Nat->Nat->Int)(A A':List Rt)(k:Str)(j i:Nat):Prop:=eI A i≠k/\lP b n Y A' j i<lP b n Y A j i
instance {b:List Nat}{n:Nat}{Y:Nat->Nat->Int}{A A':List Rt}{k:Str}{c i:Nat}:Decidable (∃j,j<c/\jo b n Y A A' k j i):=sL _
def qR(b:List Nat)(n:Nat)(Y:Nat->Nat->Int)(A A':List Rt)(k:Str)(c:Nat):List Str:=((cK A.length).filter λi=>decide (∃j,j<c/\jo b n Y A A' k j i)).map (eI A)
theorem BC(A:List Rt):A.map (λx=>MV.str x.nm)=(cK A.length).map λi=>MV.str (eI A i):=by
 apply j6;intro i;rw[bZ,bZ];by_cases hi:i<A.length
 ·rw[iB hi];simp[hi,eI]
 ·rw[nQ (by lia),nQ (by simp;lia)];rfl
theorem HC{A:List Rt}(n:Names A){i j:Nat}(hi:i<A.length)(hj:j<A.length)(e:eI A i=eI A j):i=j:=by
 by_cases c:i=j
 ·exact c
 ·exact absurd (by simpa[eI,hi,hj] using e) (n.get (a:=A[i]) (b:=A[j]) (by simp) (by simp) c)
section
variable {h:MH}{bk r d:Nat}{rs:List Rid}{b:List Nat}{Q:MV->MH->Prop}{E:Nat->MH->Prop}
theorem Do{yc n k p:Nat}{as:List Nat}{Y:Nat->Nat->Int}{x:Rt}(B:bw h bk r d rs)(R:bP h r b)(hz:rs.length<64)(yr:iG h yc n as Y)(few:as.length≤4)(hn:n=b.length+1)(bd:∀j k,0≤Y j k/\Y j k≤1000000)(hp:∀x∈aE rs,x.pt<b.length+1)(hpp:p<b.length+1)(ex:(aged (aE rs))[k]?=some x)(sok:∀x∈aE rs,PySem.PyData.strOk x.nm=true)
  (q:∀h' c,Pre h h'->h'[c]?=some (.lst ((qR b n Y (aged (aE rs)) (mvL x.nm p (aged (aE rs))) x.nm as.length).map .str))->Q (.ref c) h'):wp (pQ [.ref bk,.ref yc,.str x.nm,.int p]) h Q E:=by
 unfold pQ;refine bY (by rfl) ?_;have hz':(aE rs).length<64:=by simpa[aE] using hz
 have pm:=iU B.nm hz';have al:=nh B.nm hz';have nA:Names (aged (aE rs)):=by
  unfold Names;exact(pm.map _).nodup_iff.mpr B.nm
 have xr:x∈aE rs:=pm.mem_iff.mp (dZ ex);obtain⟨xi,hxi,exi⟩:∃xi∈rs,xi.1=x:=cO.mp xr;refine bq (R:=λσ h1=>h=h1/\σ=[some (.ref bk),some (.ref yc),some (.str x.nm),some (.int p),none,none,none,none,none,none,none,none,none,none,none]) ?_ ?_
 ·rw[dO,B.meth (by decide) rfl];show wp (ao (ah 2) az [some (.ref bk),some (.ref yc),some (.str x.nm),some (.int p),none,none,none,none,none,none,none,none,none,none,none]) h _ E;simp only[bh,aT,aO,aR,aS];rw[←exi,kH B hxi];exact⟨_,rfl,rfl,rfl⟩
 rintro _ _ ⟨rfl,rfl⟩;refine bq (R:=λσ h1=>h=h1/\σ=[some (.ref bk),some (.ref yc),some (.str x.nm),some (.int p),some (.ref r),none,none,none,none,none,none,none,none,none,none]) ?_ ?_
 ·rw[cu,B.meth (by decide) rfl,aT,ng B];exact⟨_,rfl,rfl,rfl⟩
 rintro _ _ ⟨rfl,rfl⟩;refine bq (R:=λσ h1=>h=h1/\σ=[some (.ref bk),some (.ref yc),some (.str x.nm),some (.int p),some (.ref r),none,none,none,none,none,none,none,none,none,none]) ?_ ?_
 ·rw[dO,R.meth (by decide) rfl];simp only[bh,aT,aO,aR,aS];rw[md R (by lia) (by lia)];exact⟨_,rfl,rfl,rfl⟩
 rintro _ _ ⟨rfl,rfl⟩;refine bq (R:=λσ h1=>∃nl,Pre h h1/\h1[nl]?=some (.lst ((aged (aE rs)).map λx=>.str x.nm))/\σ=[some (.ref bk),some (.ref yc),some (.str x.nm),some (.int p),some (.ref r),some (.ref nl),none,none,none,none,none,none,none,none,none]) ?_ ?_
 ·rw[cu,B.meth (by decide) rfl,aT];exact sv B hz ⟨_,rfl,h.length,Pre.app _,bR,rfl⟩
 rintro _ h1 ⟨nl,p1,g1,rfl⟩;refine bq (R:=λσ h2=>∃now,Pre h1 h2/\h2[now]?=some (.lst ((bC (aged (aE rs))).map Want.v))/\σ=[some (.ref bk),some (.ref yc),some (.str x.nm),some (.int p),some (.ref r),some (.ref nl),some (.ref now),none,none,none,none,none,none,none,none]) ?_ ?_
 ·rw[cu,cV];simp only[bh,aT,aO,aR,aS];exact qm (B.pre p1) hz λh2 p2=>⟨_,rfl,h2.length,p2.snoc _,bR,rfl⟩
 rintro _ h2 ⟨now,p2,g2,rfl⟩;have q2:=p1.trans p2;refine bq (R:=λσ h3=>∃ch,Pre h2 h3/\h3[ch]?=some (.lst ((bC (mvL x.nm p (aged (aE rs)))).map Want.v))/\σ=[some (.ref bk),some (.ref yc),some (.str x.nm),some (.int p),some (.ref r),some (.ref nl),some (.ref now),some (.ref ch),none,none,none,none,none,none,none]) ?_ ?_
 ·rw[cu,cV];simp only[bh,aT,aO,aR,aS];exact AT (B.pre q2) hz ex sok λh3 c p3 g3=>⟨_,rfl,c,p3,g3,rfl⟩
 rintro _ h3 ⟨ch,p3,g3,rfl⟩;have q3:=q2.trans p3;refine bq (R:=λσ h4=>h4=h3++[.dct []]/\σ=[some (.ref bk),some (.ref yc),some (.str x.nm),some (.int p),some (.ref r),some (.ref nl),some (.ref now),some (.ref ch),some (.ref h3.length),none,none,none,none,none,none]) (by simp) ?_;rintro _ _ ⟨rfl,rfl⟩;have pt':∀w∈bC (aged (aE rs)),w.1<b.length+1:=λw hw=>by
  obtain⟨z,hz,rfl⟩:=cO.mp hw;exact hp z (pm.mem_iff.mp hz)
 have pt2:∀w∈bC (mvL x.nm p (aged (aE rs))),w.1<b.length+1:=λw hw=>by
  obtain⟨z,hz,rfl⟩:=cO.mp hw;exact DN (λy hy=>hp y (pm.mem_iff.mp hy)) hpp z hz
 have ml:(mvL x.nm p (aged (aE rs))).length=(aged (aE rs)).length:=Fm _ _ _;have lA:(aged (aE rs)).length<64:=by rw[al];exact hz'
 generalize hA:aged (aE rs)=A at *;generalize hA':mvL x.nm p A=A' at *;have p4:Pre h3 (h3++[.dct []]):=Pre.app _;have g4:(h3++[MO.dct []])[h3.length]?=some (.dct []):=bR;have lf:h3.length≤h3.length:=aU _;generalize hfo:h3.length=fo at g4 lf;have lf:h3.length≤fo:=by lia
 generalize h3++[MO.dct []]=h4 at p4 g4;have n3:=(p2.trans p3).get g1;have w3:=p3.get g2;have R3:=R.pre q3;have y3:=yr.pre q3;refine bq (R:=λσ h5=>(Pre h3 h5/\∃dd,h5[fo]?=some (.dct dd)/\∀s,(dget s dd).isSome=true↔∃i,i<A.length/\eI A i=s/\∃j,j<as.length/\jo b n Y A A' x.nm j i)/\∃u9 u10 u11 u12 u13 u14,σ=[some (.ref bk),some (.ref yc),some (.str x.nm),some (.int p),some (.ref r),some (.ref nl),some (.ref now),some (.ref ch),some (.ref fo),u9,u10,u11,u12,u13,u14]) ?_ ?_
 ·rw[jp];refine dG (jn (n:=yc) (h':=h4) rfl (p4.get y3.1)) ?_;refine iq (λj σ h5=>(Pre h3 h5/\∃dd,h5[fo]?=some (.dct dd)/\dd.length≤j*64/\∀s,(dget s dd).isSome=true↔∃i,i<A.length/\eI A i=s/\∃j',j'<j/\jo b n Y A A' x.nm j' i)/\∃u9 u10 u11 u12 u13 u14,σ=[some (.ref bk),some (.ref yc),some (.str x.nm),some (.int p),some (.ref r),some (.ref nl),some (.ref now),some (.ref ch),some (.ref fo),u9,u10,u11,u12,u13,u14]) (λj σ h5 ⟨⟨p5,_⟩,_⟩=>ia (p5.get y3.1)) (λj vv σ h5 hv ⟨⟨p5,dd,g5,ld,hd⟩,u9,u10,u11,u12,u13,u14,es⟩=>?_) (λσ h5 ⟨⟨p5,dd,g5,ld,hd⟩,i⟩=>?_) ⟨⟨p4,[],g4,by simp,λs=>?_⟩,_,_,_,_,_,_,rfl⟩
  ·subst es;rw[bZ,bZ]at hv;cases ea:as[j]? with
   |none=>rw[ea]at hv;cases hv
   |some a=>
     rw[ea]at hv;cases hv;have ja:=(bM.mp ea).1;have ya:=y3.2 j a ea;simp only[dg,gZ,hG];refine bq (R:=λσ h6=>∃t1,Pre h5 h6/\h6[t1]?=some (.lst (zs (cD b (bJ b n (Y j)) (bC A))))/\σ=[some (.ref bk),some (.ref yc),some (.str x.nm),some (.int p),some (.ref r),some (.ref nl),some (.ref now),some (.ref ch),some (.ref fo),some (.ref a),some (.ref t1),u11,u12,u13,u14]) ?_ ?_
     ·rw[cu,bE,cV];simp only[bh,aT,aO,aR,aS];refine t8 (R3.pre p5) (p5.get ya) (p5.get w3) hn (λk _=>bd j k) pt' (by unfold bC;rw[c6];lia) λh' x' z p' _ _ e1 _=>?_;simp only[w_c,ki];exact⟨_,rfl,x',p',e1,rfl⟩
     rintro _ h6 ⟨t1,p6,e6,rfl⟩;have q6:=p5.trans p6;refine bq (R:=λσ h7=>∃t2,Pre h6 h7/\h7[t2]?=some (.lst (zs (cD b (bJ b n (Y j)) (bC A'))))/\σ=[some (.ref bk),some (.ref yc),some (.str x.nm),some (.int p),some (.ref r),some (.ref nl),some (.ref now),some (.ref ch),some (.ref fo),some (.ref a),some (.ref t1),some (.ref t2),u12,u13,u14]) ?_ ?_
     ·rw[cu,bE,cV];simp only[bh,aT,aO,aR,aS];refine t8 (R3.pre q6) (q6.get ya) (q6.get g3) hn (λk _=>bd j k) pt2 (by unfold bC;rw[c6];lia) λh' x' z p' _ _ e1 _=>?_;simp only[w_c,ki];exact⟨_,rfl,x',p',e1,rfl⟩
     rintro _ h7 ⟨t2,p7,e7,rfl⟩;have q7:=q6.trans p7;have t17:=p7.get e6;have n7:=q7.get n3;have g7:=(p6.trans p7).get g5;have nf1:fo≠t1:=λz=>by rw[←z,g7]at t17;cases t17
     have nf2:fo≠t2:=λz=>by rw[←z,g7]at e7;cases e7
     have nf3:fo≠nl:=λz=>by rw[←z,g7]at n7;cases n7
     have sl1:(cD b (bJ b n (Y j)) (bC A)).length=A.length:=by rw[kr];simp[bC]
     have sl2:(cD b (bJ b n (Y j)) (bC A')).length=A.length:=by rw[kr];simp[bC,ml]
     rw[jp];refine dG (BG (n:=nl) (k:=t1) (j:=t2) (h1:=h7) (h2:=h7) (h3:=h7) rfl rfl rfl n7 t17 e7) ?_;refine iq (λi σ h8=>((Pre h3 h8/\h8[nl]?=some (.lst (A.map λx=>.str x.nm))/\h8[t1]?=some (.lst (zs (cD b (bJ b n (Y j)) (bC A))))/\h8[t2]?=some (.lst (zs (cD b (bJ b n (Y j)) (bC A')))))/\∃dd,h8[fo]?=some (.dct dd)/\dd.length≤j*64+i/\∀s,(dget s dd).isSome=true↔∃i',i'<A.length/\eI A i'=s/\((∃j',j'<j/\jo b n Y A A' x.nm j' i')∨i'<i/\jo b n Y A A' x.nm j i'))/\∃u12 u13 u14,σ=[some (.ref bk),some (.ref yc),some (.str x.nm),some (.int p),some (.ref r),some (.ref nl),some (.ref now),some (.ref ch),some (.ref fo),some (.ref a),some (.ref t1),some (.ref t2),u12,u13,u14]) (λi σ h8 ⟨⟨⟨_,a1,a2,a3⟩,_⟩,_⟩=>GP a1 a2 a3) (λi vv σ h8 hv ⟨⟨⟨p8,a1,a2,a3⟩,dd,g8,ld8,hd8⟩,v12,v13,v14,es⟩=>?_) (λσ h8 ⟨⟨⟨p8,a1,a2,a3⟩,dd,g8,ld8,hd8⟩,v12,v13,v14,es⟩=>?_) ⟨⟨⟨q7,n7,t17,e7⟩,dd,g7,ld,λs=>?_⟩,_,_,_,rfl⟩
     ·subst es;obtain⟨o1,o2,o3,e1,e2,e3,rfl⟩:=vP hv;have hi:i<A.length:=by
       have:=(bM.mp e1).1;simpa using this
      rw[bZ]at e1;have ei:A[i]?=some (A.getD i default):=by simp[hi]
      rw[ei]at e1;cases e1;unfold zs at e2 e3;rw[bZ,w5 hi]at e2;rw[bZ,w5 (by lia)]at e3
      cases e2;cases e3;have l8:=d6 g8;have nme:(A.getD i default).nm=eI A i:=rfl;simp only[dg,gZ,hG,nme];rw[eV,dA,yx,dA,bE,aO];simp only[aO,aR,aS,yJ]
      by_cases c1:eI A i=x.nm
      ·simp only[c1,decide_true,lC,c9,if_false,j8];refine⟨⟨⟨p8,a1,a2,a3⟩,dd,g8,by lia,λs=>?_⟩,_,_,_,rfl⟩;rw[hd8 s];constructor
       ·rintro⟨i',h1,h2,h3|⟨h3,h4⟩⟩
        ·exact⟨i',h1,h2,.inl h3⟩
        ·exact⟨i',h1,h2,.inr ⟨by lia,h4⟩⟩
       ·rintro⟨i',h1,h2,h3|⟨h3,h4⟩⟩
        ·exact⟨i',h1,h2,.inl h3⟩
        ·by_cases ci:i'=i
         ·subst ci;exact absurd c1 h4.1
         ·exact⟨i',h1,h2,.inr ⟨by lia,h4⟩⟩
      ·simp only[c1,decide_false,oS,if_true];rw[bE,aO];simp only[aO,aR,aS,w_lt];by_cases c2:lP b n Y A' j i<lP b n Y A j i
       ·simp only[c2,decide_true,if_true,yL,w_c,aO,aR,aS,AH,g8];have dl:=IT (k:=eI A i) (v:=.bl true) (d:=dd);refine⟨by lia,l8,⟨⟨p8.set lf,dY a1 nf3,dY a2 nf1,dY a3 nf2⟩,_,kN l8,by lia,λs=>?_⟩,_,_,_,rfl⟩;rw[EL,hd8 s];constructor
        ·rintro(rfl|⟨i',h1,h2,h3|⟨h3,h4⟩⟩)
         ·exact⟨i,hi,rfl,.inr ⟨by lia,c1,c2⟩⟩
         ·exact⟨i',h1,h2,.inl h3⟩
         ·exact⟨i',h1,h2,.inr ⟨by lia,h4⟩⟩
        ·rintro⟨i',h1,h2,h3|⟨h3,h4⟩⟩
         ·exact .inr ⟨i',h1,h2,.inl h3⟩
         ·by_cases ci:i'=i
          ·subst ci;exact .inl h2.symm
          ·exact .inr ⟨i',h1,h2,.inr ⟨by lia,h4⟩⟩
       ·simp only[c2,decide_false,c9,if_false,j8];refine⟨⟨⟨p8,a1,a2,a3⟩,dd,g8,by lia,λs=>?_⟩,_,_,_,rfl⟩;rw[hd8 s];constructor
        ·rintro⟨i',h1,h2,h3|⟨h3,h4⟩⟩
         ·exact⟨i',h1,h2,.inl h3⟩
         ·exact⟨i',h1,h2,.inr ⟨by lia,h4⟩⟩
        ·rintro⟨i',h1,h2,h3|⟨h3,h4⟩⟩
         ·exact⟨i',h1,h2,.inl h3⟩
         ·by_cases ci:i'=i
          ·subst ci;exact absurd h4.2 c2
          ·exact⟨i',h1,h2,.inr ⟨by lia,h4⟩⟩
     ·rw[xm]at ld8 hd8;have ml':min (List.map (λx=>MV.str x.nm) A).length (min (zs (cD b (bJ b n (Y j)) (bC A))).length (zs (cD b (bJ b n (Y j)) (bC A'))).length)=A.length:=by simp[zs,sl1,sl2]
      rw[ml']at ld8 hd8;refine⟨⟨p8,dd,g8,by rw[Nat.add_mul];lia,λs=>?_⟩,_,_,_,_,_,_,es⟩;rw[hd8 s];constructor
      ·rintro⟨i',h1,h2,⟨j',h3,h4⟩|⟨h3,h4⟩⟩
       ·exact⟨i',h1,h2,j',by lia,h4⟩
       ·exact⟨i',h1,h2,j,by lia,h4⟩
      ·rintro⟨i',h1,h2,j',h3,h4⟩;by_cases cj:j'=j
       ·subst cj;exact⟨i',h1,h2,.inr ⟨h1,h4⟩⟩
       ·exact⟨i',h1,h2,.inl ⟨j',by lia,h4⟩⟩
     ·rw[hd s];constructor
      ·rintro⟨i',h1,h2,h3⟩;exact⟨i',h1,h2,.inl h3⟩
      ·rintro⟨i',h1,h2,h3|⟨h3,_⟩⟩
       ·exact⟨i',h1,h2,h3⟩
       ·lia
  ·rw[c6,c6]at hd;exact⟨σ,rfl,⟨p5,dd,g5,hd⟩,i⟩
  ·simp[dget]
 rintro _ h5 ⟨⟨p5,dd,g5,hd⟩,u9,u10,u11,u12,u13,u14,rfl⟩;have n5:=p5.get n3;rw[BC]at n5;rw[fV];refine lZ (cK A.length) (λi=>[.str (eI A i)]) (λi=>decide (∃j,j<as.length/\jo b n Y A A' x.nm j i)) (λi=>.str (eI A i)) (jn (n:=nl) (h':=h5) rfl n5) (by dsimp only;rw[dJ];rfl) (λh' p=>ia (p.get n5)) (by simp;lia) (λi hi h6 p6=>?_) (λi hi _ h6 p6=>?_) λh6 p6=>?_
 ·have g6:=p6.get g5;have hi':=jP.mp hi;have e:(dget (eI A i) dd).isSome=decide (∃j,j<as.length/\jo b n Y A A' x.nm j i):=by
   rw[lF,hd,decide_eq_true_eq];constructor
   ·rintro⟨i',h1,h2,h3⟩;rw[HC nA h1 hi' h2]at h3;exact h3
   ·intro h3;exact⟨i,hi',rfl,h3⟩
  show wp (tst (aC (oIn false) (ah 15) (ah 8)) [some (.ref bk),some (.ref yc),some (.str x.nm),some (.int p),some (.ref r),some (.ref nl),some (.ref now),some (.ref ch),some (.ref fo),u9,u10,u11,u12,u13,u14,some (.str (eI A i))]) h6 _ noE;rw[dA,bE];simp only[aO,aR,aS,oF,g6,c9,if_false];exact⟨e,.refl⟩
 ·simp[Pre.refl]
 ·refine q _ _ ((q3.trans (p5.trans p6)).snoc _) ?_;rw[bR];unfold qR;rw[dJ];rfl
end
section
variable {h:MH}{bk r d:Nat}{rs:List Rid}{b:List Nat}{Q:MV->MH->Prop}{E:Nat->MH->Prop}
theorem Fj{yc n k p:Nat}{as:List Nat}{Y:Nat->Nat->Int}{x:Rt}(B:bw h bk r d rs)(R:bP h r b)(hz:rs.length<64)(yr:iG h yc n as Y)(few:as.length≤4)(hn:n=b.length+1)(bd:∀j k,0≤Y j k/\Y j k≤1000000)(hp:∀x∈aE rs,x.pt<b.length+1)(hpp:p<b.length+1)(ex:(aged (aE rs))[k]?=some x)(sok:∀x∈aE rs,PySem.PyData.strOk x.nm=true)
  (yes:qR b n Y (aged (aE rs)) (mvL x.nm p (aged (aE rs))) x.nm as.length≠[]) (q:∀h',Pre h h'->E 109 h'):wp (qc [.ref bk,.ref yc,.str x.nm,.int p]) h Q E:=by
 unfold qc;refine bY (by rfl) ?_;unfold u8;rw[cS];show wp (sIf _ _ _ [some (.ref bk),some (.ref yc),some (.str x.nm),some (.int p),none]) h _ E;rw[eV,dA,bE,fF,cV];simp only[bh,aT,aO,aR,aS];refine Do B R hz yr few hn bd hp hpp ex sok λh' c p' g=>?_;generalize qR b n Y (aged (aE rs)) (mvL x.nm p (aged (aE rs))) x.nm as.length=L at yes g;have l0:(0:Int)<((L.map MV.str).length:Int):=by
  cases L with
  |nil=>exact absurd rfl yes
  |cons a L=>simp
 simp only[lV,g,w_c,sZ,l0,decide_true,if_true,mC,bh,aT];exact⟨by simp,q h' p'⟩
end
theorem y8{s:Str}:∀{l:List Str},inM (.str s) (l.map .str)=decide (s∈l)
 |[]=>rfl
 |x::l=>by
   have ih:=@y8 s l;simp only[inM,bD,jj]at ih ⊢;rw[ih];by_cases e:x=s
   ·subst e;simp[eqM]
   ·have e3:¬s=x:=λz=>e z.symm;simp[eqM,e,e3]
theorem C1(l:List Str):(l.map MV.str).all flat=true:=by simp[flat]
noncomputable def kI(b:List Nat)(f:Nat->Int)(A:List Rt):List (Rt×Int):=(A.zip (cD b f (bC A))).filter λp=>decide (p.2<p.1.am)
theorem F8(b:List Nat)(f:Nat->Int)(A:List Rt):qG b f A=(A.zip (cD b f (bC A))).map λp=>(p.1.nm,p.2):=by
 unfold qG;rw[List.zip_map_left];rfl
theorem Cu{b:List Nat}{f:Nat->Int}{A:List Rt}{k:Nat}{x:Rt}{t:Int}(nm:Names A)(ex:A[k]?=some x)(et:(cD b f (bC A))[k]?=some t):x.nm∈(kI b f A).map (·.1.nm)↔t<x.am:=by
 constructor
 ·intro h;obtain⟨p,hp,e⟩:=cO.mp h;obtain⟨h1,h2⟩:=mU.mp hp;obtain⟨j,hj⟩:=jY.mp h1;obtain⟨e1,e2⟩:=wN hj;have jk:j=k:=by
   by_cases c:j=k
   ·exact c
   ·exact absurd e (nm.get e1 ex c)
  subst jk;rw[ex]at e1;rw[et]at e2;cases e1;cases e2
  simpa using h2
 ·intro h;refine cO.mpr ⟨(x,t),mU.mpr ⟨?_,by simpa using h⟩,rfl⟩;refine jY.mpr ⟨k,?_⟩;rw[List.getElem?_zip_eq_some];exact⟨ex,et⟩
section
variable {h:MH}{bk r d:Nat}{rs:List Rid}{b:List Nat}{Q:MV->MH->Prop}{E:Nat->MH->Prop}{a n:Nat}{y:Nat->Int}
theorem HN(B:bw h bk r d rs)(R:bP h r b)(hz:rs.length<64)(ha:h[a]?=some (.lst (tab n y)))(hn:n=b.length+1)(bd:∀k,k<n->0≤y k/\y k≤1000000)(hp:∀x∈aE rs,x.pt<b.length+1):∃h' c,gE [.ref bk,.ref a] h=.ok (.ref c) h'/\Pre h h'/\h.length≤c/\h'[c]?=some (.lst ((qG b (bJ b n y) (aged (aE rs))).map pv)):=by
 have w:wp (gE [.ref bk,.ref a]) h (λv h'=>∃c,v=.ref c/\Pre h h'/\h.length≤c/\h'[c]?=some (.lst ((qG b (bJ b n y) (aged (aE rs))).map pv))) noE:=Df B R hz ha hn bd hp λh' p=>⟨h'.length,rfl,p.snoc _,p.len,bR⟩;obtain⟨v,h',e,c,rfl,p,l,g⟩:=ko w;exact⟨h',c,e,p,l,g⟩
theorem Di(B:bw h bk r d rs)(R:bP h r b)(hz:rs.length<64)(ha:h[a]?=some (.lst (tab n y)))(hn:n=b.length+1)(bd:∀k,k<n->0≤y k/\y k≤1000000)(hp:∀x∈aE rs,x.pt<b.length+1)
  (q:∀h',Pre h h'->Q (.ref h'.length) (h'++[.lst (((kI b (bJ b n y) (aged (aE rs))).map (·.1.nm)).map .str)])):wp (pX [.ref bk,.ref a]) h Q E:=by
 unfold pX;refine bY (by rfl) ?_;unfold ur;rw[fV];have hz':(aE rs).length<64:=by simpa[aE] using hz
 obtain⟨h1,c,e1,p1,_,g1⟩:=HN B R hz ha hn bd hp;have al:(aged (aE rs)).length<64:=by rw[nh B.nm hz'];exact hz'
 have mem:∀x∈aged (aE rs),∃y∈rs,y.1=x:=λx hx=>by
  have:=(iU B.nm hz').mem_iff.mp hx;obtain⟨y,hy,e⟩:=cO.mp this;exact⟨y,hy,e⟩
 generalize hA:aged (aE rs)=A at g1 q al mem;rw[F8,dJ]at g1;have hs:lL 2 (cF gE (ao (ah 0) (ao (ah 1) az))) [some (.ref bk),some (.ref a)] h=.ok ⟨(A.zip (cD b (bJ b n y) (bC A))).map λp=>[.str p.1.nm,.int p.2],[Stay.l (c,_)]⟩ h1:=Ae (show cF gE (ao (ah 0) (ao (ah 1) az)) [some (.ref bk),some (.ref a)] h=_ from e1) g1 (vm λp _=>⟨rfl,rfl⟩);have i1:∀u v w:MV,atN [u,v,w] 1=some v:=λ_ _ _=>rfl;have zl:(A.zip (cD b (bJ b n y) (bC A))).length≤100000:=by rw[List.length_zip];lia
 refine lZ (A.zip (cD b (bJ b n y) (bC A))) (λp=>[.str p.1.nm,.int p.2]) (λp=>decide (p.2<p.1.am)) (λp=>.str p.1.nm) hs rfl (λh' p=>ia (p.get g1)) zl (λp hp' h2 p2=>?_) (λp hp' _ h2 p2=>?_) λh2 p2=>?_
 ·obtain⟨z,hz1,e⟩:=mem p.1 (mh hp').1;have B2:=B.pre (p1.trans p2);show wp (tst (aC oLt (ah 3) (aC oIx (aZ 3 "right" fN (ah 0) (ao (ah 2) az)) (eC (.int 1)))) [some (.ref bk),some (.ref a),some (.str p.1.nm),some (.int p.2)]) h2 _ noE;rw[dA,bE,aO];simp only[aR,aS,bE];rw[B2.meth (by decide) rfl];simp only[bh,aT,aO,aR,aS];rw[←e,kH B2 hz1];simp only[w_c,Rt.val,ki,i1,w_lt];exact⟨by trivial,.refl⟩
 ·simp[Pre.refl]
 ·have:=q h2 (p1.trans p2);unfold kI at this;rw[dJ]at this;exact this
theorem Cl{k:Nat}{x:Rt}{t:Int}(B:bw h bk r d rs)(R:bP h r b)(hz:rs.length<64)(ha:h[a]?=some (.lst (tab n y)))(hn:n=b.length+1)(bd:∀k,0≤y k/\y k≤1000000)(hp:∀x∈aE rs,x.pt<b.length+1)(ex:(aged (aE rs))[k]?=some x)(et:(cD b (bJ b n y) (bC (aged (aE rs))))[k]?=some t)(lt:¬t<x.am)(ok:d9 x.nm=true)
  (q:∀h',Pre h h'->E 106 h'):wp (ow [.ref bk,.ref a,.str x.nm]) h Q E:=by
 unfold ow;refine bY (by rfl) ?_;have hz':(aE rs).length<64:=by simpa[aE] using hz
 have pm:=iU B.nm hz';have nA:Names (aged (aE rs)):=by
  unfold Names;exact(pm.map _).nodup_iff.mpr B.nm
 have inn:x.nm∉_:=λz=>lt ((Cu nA ex et).mp z);have xr:x∈aE rs:=pm.mem_iff.mp (dZ ex);obtain⟨xi,hxi,exi⟩:∃xi∈rs,xi.1=x:=cO.mp xr;refine bq (R:=λσ h1=>∃s,Pre h h1/\h1[s]?=some (.lst (((kI b (bJ b n y) (aged (aE rs))).map (·.1.nm)).map .str))/\σ=[some (.ref bk),some (.ref a),some (.str x.nm),some (.ref s),none,none,none]) ?_ ?_
 ·simp only[cu,cV,bh,aT,aO,aR,aS];exact Di B R hz ha hn (λk _=>bd k) hp λh' p=>⟨_,rfl,h'.length,p.snoc _,bR,rfl⟩
 rintro _ h1 ⟨s,p1,e1,rfl⟩;have B1:=B.pre p1;have i0:∀u v w:MV,atN [u,v,w] 0=some u:=λ_ _ _=>rfl;refine bq (R:=λσ h2=>h1=h2/\σ=[some (.ref bk),some (.ref a),some (.str x.nm),some (.ref s),some (.int x.pt),none,none]) ?_ ?_
 ·rw[cu,bE,B1.meth (by decide) rfl];simp only[bh,aT,aO,aR,aS];rw[←exi,kH B1 hxi];simp[Rt.val,i0]
 rintro _ _ ⟨rfl,rfl⟩;have ff:flat (MV.str x.nm)=true:=rfl;have fl:=C1 ((kI b (bJ b n y) (aged (aE rs))).map (·.1.nm));have im:=y8 (s:=x.nm) (l:=(kI b (bJ b n y) (aged (aE rs))).map (·.1.nm));rw[cS,eV,dA,bE];simp only[aO,aR,aS,oF,e1,ff,fl,im,inn,decide_false,true_and,if_true,oS];simp[ok];exact⟨by decide,by decide,q h1 p1⟩
end
noncomputable def aget(k:Str):List (Str×Int)->Int
 |[]=>0
 |(n,v)::r=>if n=k then v else aget k r
noncomputable def acL(L:List (Str×Int)):List (Str×MV):=L.map λp=>(p.1,.int p.2)
theorem xc{k:Str}:∀{L:List (Str×Int)},dget k (acL L)=if k∈L.map (·.1) then some (.int (aget k L)) else none
 |[]=>rfl
 |(n,v)::L=>by
   have ih:=@xc k L;unfold acL at ih ⊢;simp only[bD,dget,aget];by_cases c:n=k
   ·simp[c]
   ·have c':¬k=n:=λz=>c z.symm;simp only[if_neg c,ih,bu,c',false_or]
theorem we{k:Str}:∀{L:List (Str×Int)},k∉L.map (·.1)->aget k L=0
 |[],_=>rfl
 |(n,v)::L,h=>by
   simp only[bD,bu,not_or]at h;unfold aget;rw[if_neg λz=>h.1 z.symm,we h.2]
theorem HZ{k:Str}{L:List (Str×Int)}:(dget k (acL L)).getD (.int 0)=.int (aget k L):=by
 rw[xc];split
 ·rfl
 ·rename_i c;rw[we c];rfl
structure Po where
 nm:Str
 pt:Nat
 sz:Int
 dt:Int
 wt:Int
noncomputable def poO(x:Po):MO:=.ins 5 [("point",.int x.pt),("size",.int x.sz),("date",.int x.dt),("held_water",.int x.wt)]
noncomputable def poL(ps:List (Po×Nat)):List (Str×MV):=ps.map λx=>(x.1.nm,.ref x.2)
theorem Iz{ps:List (Po×Nat)}{x:Po×Nat}(nd:(ps.map (·.1.nm)).Nodup)(hx:x∈ps):dget x.1.nm (poL ps)=some (.ref x.2):=by
 induction ps with
 |nil=>cases hx
 |cons y ps ih=>
   rw[bD,ig]at nd;unfold poL at ih ⊢;simp only[bD,dget];rcases bu.mp hx with rfl|hx
   ·simp
   ·have c:¬y.1.nm=x.1.nm:=λz=>nd.1 (z▸List.mem_map_of_mem (f:=λz=>z.1.nm) hx);rw[if_neg c];exact ih nd.2 hx
theorem uX{k:Str}:∀{ps:List (Po×Nat)},k∉ps.map (·.1.nm)->dget k (poL ps)=none
 |[],_=>rfl
 |x::ps,h=>by
   simp only[bD,bu,not_or]at h;have:=uX (k:=k) (ps:=ps) h.2;unfold poL at this ⊢;simp only[bD,dget,if_neg (show ¬x.1.nm=k from λz=>h.1 z.symm),this]
structure OfA(h:MH)(o bk pd ld ad d:Nat)(ro:Int)(ps:List (Po×Nat))(L A:List (Str×Int)):Prop where
 ob:h[o]?=some (.ins 4 [("book",.ref bk),("ponds",.ref pd),("last_day",.ref ld),("all_days",.ref ad),("ran_out",.int ro)])
 pn:h[pd]?=some (.dct (poL ps))
 la:h[ld]?=some (.dct (acL L))
 al:h[ad]?=some (.dct (acL A))
 it:∀x∈ps,h[x.2]?=some (poO x.1)
 nm:(ps.map (·.1.nm)).Nodup
 nd:(ps.map (·.2)).Nodup
 ap:pd≠ld/\pd≠ad/\ld≠ad/\d≠pd/\d≠ld/\d≠ad
structure Sy(h:MH)(o bk pd ld ad r d:Nat)(ro:Int)(ps:List (Po×Nat))(L A:List (Str×Int))(rs:List Rid)(b:List Nat):Prop where
 of:OfA h o bk pd ld ad d ro ps L A
 bk:bw h bk r d rs
 rv:bP h r b
theorem OfA.off{h h':MH}{o bk pd ld ad d:Nat}{ro:Int}{ps:List (Po×Nat)}{L A:List (Str×Int)}(O:OfA h o bk pd ld ad d ro ps L A)(f:Off [] h h'):OfA h' o bk pd ld ad d ro ps L A:=⟨f.get O.ob (by simp),f.get O.pn (by simp),f.get O.la (by simp),f.get O.al (by simp),λx hx=>f.get (O.it x hx) (by simp),O.nm,O.nd,O.ap⟩
theorem Sy.off{h h':MH}{o bk pd ld ad r d:Nat}{ro:Int}{ps:List (Po×Nat)}{L A:List (Str×Int)}{rs:List Rid}{b:List Nat}(S:Sy h o bk pd ld ad r d ro ps L A rs b)(f:Off [] h h'):Sy h' o bk pd ld ad r d ro ps L A rs b:=
 ⟨S.of.off f,S.bk.off f (by simp) (by simp) (by simp),S.rv.off f (by simp)⟩
theorem Sy.pre{h h':MH}{o bk pd ld ad r d:Nat}{ro:Int}{ps:List (Po×Nat)}{L A:List (Str×Int)}{rs:List Rid}{b:List Nat}(S:Sy h o bk pd ld ad r d ro ps L A rs b)(f:Pre h h'):Sy h' o bk pd ld ad r d ro ps L A rs b:=S.off f.off
theorem xE{h:MH}{n m:Nat}{x y:MO}(e:h[n]?=some x)(f:h[m]?=some y)(d:x≠y):n≠m:=λz=>by
 subst z;rw[e]at f;exact d (Option.some.inj f)
section
variable {h:MH}{o bk pd ld ad r d:Nat}{ro:Int}{ps:List (Po×Nat)}{L A:List (Str×Int)}{rs:List Rid}{b:List Nat}{Q:MV->MH->Prop}{E:Nat->MH->Prop}
theorem Sy.book_set(S:Sy h o bk pd ld ad r d ro ps L A rs b){n:Nat}{x y:MO}(e:h[n]?=some x)(nd:n≠d)(k2:∀fs,x≠.ins 2 fs)(k3:∀fs,x≠.ins 3 fs):bw (h.set n y) bk r d rs:=
 S.bk.off (S:=[n]) Off.set (by simp;exact λz=>k3 _ (Option.some.inj ((z▸e).symm.trans S.bk.ob))) (by simpa using nd.symm) λx hx=>by
  simp;exact λz=>k2 _ (Option.some.inj ((z▸e).symm.trans (S.bk.it x hx)))
theorem Sy.river_set(S:Sy h o bk pd ld ad r d ro ps L A rs b){n:Nat}{x y:MO}(e:h[n]?=some x)(k1:∀fs,x≠.ins 1 fs)(kl:∀xs,x≠.lst xs):bP (h.set n y) r b:=
 S.rv.off (S:=[n]) Off.set λm hm ob eo=>by
  rw[dF.mp hm,e]at eo;cases eo;exact⟨kl,k1⟩
theorem Sy.meth(S:Sy h o bk pd ld ad r d ro ps L A rs b){f:Fn}{mth:String}{a:MA}{σ:MSt}{i:Nat}(hm:(mth == "book")=false/\(mth == "ponds")=false/\(mth == "last_day")=false/\(mth == "all_days")=false/\(mth == "ran_out")=false)(hs:σ[i]?=some (some (.ref o))):wp (aZ 4 mth f (ah i) a σ) h Q E=wp (a σ) h (λxs h2=>wp (f (.ref o::xs)) h2 Q E) E:=by
 have h1:=S.of.ob;have lk:eL mth [("book",MV.ref bk),("ponds",MV.ref pd),("last_day",MV.ref ld),("all_days",MV.ref ad),("ran_out",MV.int ro)]=none:=by simp only[bI,hm.1,hm.2.1,hm.2.2.1,hm.2.2.2.1,hm.2.2.2.2,pH]
 simp only[qL,aO,hs,h1,lk,true_and]
theorem bw.methO(B:bw h bk r d rs){f:Fn}{mth:String}{a:MA}{σ:MSt}{o':ME}(hm:(mth == "stream")=false/\(mth == "held")=false)(ho:∀Q':MV->MH->Prop,wp (o' σ) h Q' E=Q' (.ref bk) h):wp (aZ 3 mth f o' a σ) h Q E=wp (a σ) h (λxs h2=>wp (f (.ref bk::xs)) h2 Q E) E:=by
 have h1:=B.ob;have lk:eL mth [("stream",MV.ref r),("held",MV.ref d)]=none:=by simp only[bI,hm.1,hm.2,pH]
 simp only[qL,ho,h1,lk,true_and]
theorem Sy.fbook(S:Sy h o bk pd ld ad r d ro ps L A rs b){σ:MSt}(hs:σ[0]?=some (some (.ref o)))(Q':MV->MH->Prop):wp (aW (ah 0) [4] "book" σ) h Q' E=Q' (.ref bk) h:=by
 have h1:=S.of.ob;simp[hs,h1,bI]
theorem Hb(S:Sy h o bk pd ld ad r d ro ps L A rs b){x:Rid}(hx:x∈rs)(q:Q (.int (aget x.1.nm L)) h):wp (qS [.ref o,.str x.1.nm]) h Q E:=by
 have h1:=S.of.ob;have h2:=S.of.la;have rw':=λQ'=>kH (Q:=Q') (E:=E) S.bk hx;unfold qS;refine bY (by rfl) ?_;unfold vh;rw[cS,dO,S.bk.methO (by decide) (S.fbook rfl)];show wp (ao (ah 1) az [some (.ref o),some (.str x.1.nm)]) h _ E;simp only[bh,aT,aO,aR,aS,rw'];simp[h1,h2,bI,HZ];exact q
theorem F6(S:Sy h o bk pd ld ad r d ro ps L A rs b){x:Po×Nat}(hx:x∈ps):wp (jh [.ref o,.str x.1.nm]) h Q E↔Q (.ref x.2) h:=by
 have h1:=S.of.ob;have h2:=S.of.pn;have g:=Iz S.of.nm hx;have key:jh [.ref o,.str x.1.nm] h=.ok (.ref x.2) h:=by
  simp[jh,pS,fnOf,bnd,bT,aD,sIf,tst,asB,bz,aW,ah,aC,oIn,oIx,ret,look,h1,h2,g,bI]
 unfold wp;rw[key]
theorem Bb(S:Sy h o bk pd ld ad r d ro ps L A rs b){k:Str}(hk:k∉ps.map (·.1.nm))(ok:d9 k=true)(q:E 110 h):wp (jh [.ref o,.str k]) h Q E:=by
 have h1:=S.of.ob;have h2:=S.of.pn;have g:(dget k (poL ps)).isSome=false:=by rw[uX hk];rfl
 unfold jh;refine bY (by rfl) ?_;unfold pS;rw[cS];simp[h1,h2,g,bI,ok];exact⟨by decide,q⟩
end
section
variable {h:MH}{o bk pd ld ad r d:Nat}{ro:Int}{ps:List (Po×Nat)}{L A:List (Str×Int)}{rs:List Rid}{b:List Nat}{Q:MV->MH->Prop}{E:Nat->MH->Prop}
theorem Eu(B:bw h bk r d rs)(R:bP h r b)(q:∀h',Pre h h'->Sy h' h.length bk (h.length+1) (h.length+2) (h.length+3) r d 0 [] [] [] rs b->Q .non h'):wp (o7 [.ref h.length,.ref bk]) (h++[.ins 4 []]) Q E:=by
 have ld:=d6 B.dc;unfold o7;refine bY (by rfl) ?_;simp[sH,putF];refine⟨by lia,by lia,by lia,?_⟩;refine q _ ⟨_,rfl⟩ ⟨⟨?_,?_,?_,?_,?_,by simp,by simp,by lia⟩,B.pre ⟨_,rfl⟩,R.pre ⟨_,rfl⟩⟩ <;> simp[poL,acL]
theorem bP.methR(R:bP h r b){f:Fn}{mth:String}{a:MA}{σ:MSt}{o':ME}(hm:(mth == "runs_to")=false)(ho:∀Q':MV->MH->Prop,wp (o' σ) h Q' E=Q' (.ref r) h):wp (aZ 1 mth f o' a σ) h Q E=wp (a σ) h (λxs h2=>wp (f (.ref r::xs)) h2 Q E) E:=by
 obtain⟨⟨l,h1,h2⟩,w,fw⟩:=R;have lk:eL mth [("runs_to",MV.ref l)]=none:=by simp only[bI,hm,pH]
 simp only[qL,ho,h1,lk,true_and]
theorem Sy.friver(S:Sy h o bk pd ld ad r d ro ps L A rs b){σ:MSt}(hs:σ[0]?=some (some (.ref o)))(Q':MV->MH->Prop):wp (aZ 3 "river" fR (aW (ah 0) [4] "book") az σ) h Q' E=Q' (.ref r) h:=by
 rw[S.bk.methO (by decide) (S.fbook hs),aT];exact propext (ng S.bk)
theorem Jc(S:Sy h o bk pd ld ad r d ro ps L A rs b){x:Po}(w0:x.wt=0)(hk:x.nm∉ps.map (·.1.nm))(hp:x.pt<b.length+1)(few:ps.length<900)
  (q:∀h' a,Off [pd] h h'->h.length≤a->Sy h' o bk pd ld ad r d ro (ps++[(x,a)]) L A rs b->Q (.int (ps.length+1)) h'):wp (sg [.ref o,.str x.nm,.int x.pt,.int x.sz,.int x.dt]) h Q E:=by
 obtain⟨S1,S2,S3⟩:=id S;have h1:=S1.ob;have h2:=S1.pn;have ap:=S1.ap;have g:(dget x.nm (poL ps)).isSome=false:=by rw[uX hk];rfl
 have cp:=λQ'=>md (Q:=Q') (E:=E) (p:=x.pt) S3 (by lia) (by lia);have lp:=d6 h2;unfold sg;refine bY (by rfl) ?_;unfold vn;refine bq (R:=λσ h1=>h=h1/\σ=[some (.ref o),some (.str x.nm),some (.int x.pt),some (.int x.sz),some (.int x.dt)]) (by simp[h1,h2,g,bI]) ?_;rintro _ _ ⟨rfl,rfl⟩;refine bq (R:=λσ h1=>h=h1/\σ=[some (.ref o),some (.str x.nm),some (.int x.pt),some (.int x.sz),some (.int x.dt)]) ?_ ?_
 ·rw[dO,S3.methR (by decide) (S.friver rfl)];simp only[bh,aT,aO,aR,aS,cp];exact⟨_,rfl,by trivial,rfl⟩
 rintro _ _ ⟨rfl,rfl⟩;have dp:dput x.nm (.ref h.length) (poL ps)=poL (ps++[(x,h.length)]):=by
  unfold dput;rw[if_neg (by rw[g];exact bW)];simp[poL]
 have g1:∀t,(h++t)[o]?=some (.ins 4 [("book",.ref bk),("ponds",.ref pd),("last_day",.ref ld),("all_days",.ref ad),("ran_out",.int ro)]):=λt=>dS h1;have g2:∀t,(h++t)[pd]?=some (.dct (poL ps)):=λt=>dS h2;have hl:(poL ps).length<1000:=by simp[poL];lia
 refine bq (R:=λσ h'=>(∃a,Off [pd] h h'/\h.length≤a/\Sy h' o bk pd ld ad r d ro (ps++[(x,a)]) L A rs b)/\σ=[some (.ref o),some (.str x.nm),some (.int x.pt),some (.int x.sz),some (.int x.dt)]) ?_ ?_
 ·simp[uq];refine bY (by rfl) ?_;simp[vg,putF,g1,g2,bI,hl,dp];have px:poO x=.ins 5 [("point",.int x.pt),("size",.int x.sz),("date",.int x.dt),("held_water",.int 0)]:=by unfold poO;rw[w0]
  rw[←px];have P:Pre h (h++[poO x]):=Pre.app _;have S':=S.pre P;refine⟨by lia,Off.trans P.off Off.set,h.length,aU _,⟨⟨dY S'.of.ob (xE S'.of.pn S'.of.ob (by simp)),?_,dY S'.of.la ap.1,dY S'.of.al ap.2.1,λy hy=>?_,?_,?_,ap⟩,?_,?_⟩⟩
  ·rw[fY (by simp;lia)]
  ·rcases fJ.mp hy with hy|hy
   ·exact dY (S'.of.it y hy) (xE S'.of.pn (S'.of.it y hy) (by simp[poO]))
   ·rw[dF.mp hy];exact dY bR (by lia)
  ·rw[jQ,j9];refine⟨S1.nm,by simp,λa ha c hc e=>?_⟩;simp at hc;subst hc;exact hk (e▸ha)
  ·rw[jQ,j9];refine⟨S1.nd,by simp,λa ha c hc e=>?_⟩;simp at hc;subst hc;obtain⟨y,hy,ey⟩:=cO.mp ha;have:=d6 (S1.it y hy);lia
  ·exact S'.book_set S'.of.pn ap.2.2.2.1.symm (λ_=>by simp) (λ_=>by simp)
  ·exact S'.river_set S'.of.pn (λ_=>by simp) (λ_=>by simp)
 rintro _ h3 ⟨⟨a,o3,la,S3'⟩,rfl⟩;have k1:=S3'.of.ob;have k2:=S3'.of.pn;simp[k1,k2,bI,poL];have:=q h3 a o3 la S3';simpa using this
theorem vY(S:Sy h o bk pd ld ad r d ro ps L A rs b){x:Po×Nat}(hx:x∈ps){y:Rid}(hy:y∈rs){t:Int}(pp:x.1.pt<b.length+1)
  (nb:y.1.pt∉bf b x.1.pt->∀h',Pre h h'->E 111 h') (tm:y.1.pt∈bf b x.1.pt->x.1.wt<t/\∀h',Pre h h'->E 107 h'):wp (ka [.ref o,.str x.1.nm,.str y.1.nm,.int t]) h Q E:=by
 obtain⟨S1,S2,S3⟩:=id S;have ho:=S1.it x hx;have i0:∀u v w:MV,atN [u,v,w] 0=some u:=λ_ _ _=>rfl;have i1:∀u v w:MV,atN [u,v,w] 1=some v:=λ_ _ _=>rfl;have c5:([5]:List Nat).contains 5=true:=rfl;have c52:([2,5]:List Nat).contains 5=true:=rfl;have lk1:∀a b c d:MV,eL "point" [("point",a),("size",b),("date",c),("held_water",d)]=some a:=λ_ _ _ _=>rfl;have lk4:∀a b c d:MV,eL "held_water" [("point",a),("size",b),("date",c),("held_water",d)]=some d:=λ_ _ _ _=>rfl;have pf:∀(a b c d v:MV),putF "held_water" v [("point",a),("size",b),("date",c),("held_water",d)]=[("point",a),("size",b),("date",c),("held_water",v)]:=λ_ _ _ _ _=>rfl;unfold ka;refine bY (by rfl) ?_;change wp (qg [some (.ref o),some (.str x.1.nm),some (.str y.1.nm),some (.int t),none,none,none]) _ _ _;unfold qg;rw[cS,cu,S.meth (by decide) rfl];simp only[bh,aT,aO,aR,aS];rw[F6 S hx];simp only[gZ,hG];rw[cS,cu,S.bk.methO (by decide) (S.fbook rfl)];simp only[bh,aT,aO,aR,aS];rw[kH S2 hy];simp only[gZ,hG,Rt.val];unfold poO at ho;rw[cS,eV,dA,bE,bE];simp only[aO,w_c,aR,aS,ki,i0];rw[S3.methR (by decide) (S.friver rfl)];simp only[bh,aT,q0,aO,aR,aS,ho,c52,lk1,true_and];refine zc S3 pp ?_;have fz:=Fq (bf b x.1.pt);have im:=xN (q:=y.1.pt) (l:=bf b x.1.pt);have ff:flat (MV.int y.1.pt)=true:=rfl;simp only[oF,bR,ff,fz,im,true_and,if_true];have P:Pre h (h++[.lst (nats (bf b x.1.pt))]):=Pre.app _;have Sp:=S.pre P;have hop:=P.get ho;generalize h++[MO.lst (nats (bf b x.1.pt))]=h1 at P Sp hop;by_cases cw:y.1.pt∈bf b x.1.pt
 ·simp only[cw,decide_true,lC,c9,if_false,j8];rw[cS,cu,bE,w_c,bE,bE,aO];simp only[w_c,aR,aS,ki,i1];rw[Sp.meth (by decide) rfl];simp only[bh,aT,aO,aR,aS];refine Hb Sp hy ?_;simp only[uf,Gx,gZ,hG];rw[cS,eV,dA,bE];simp only[aO,q0,aR,aS,hop,c5,lk4,true_and,sZ];simp only[(tm cw).1,decide_true,if_true,mC,bh,aT,w_c];exact⟨by simp,(tm cw).2 h1 P⟩
 ·simp only[cw,decide_false,oS,if_true,mC,bh,aT,w_c];exact⟨by simp,nb cw h1 P⟩
end
section
variable {h:MH}{r:Nat}{b:List Nat}{Q:MV->MH->Prop}{E:Nat->MH->Prop}
def nZ(b:List Nat)(n:Nat)(y:Nat->Int):Prop:=n≠b.length+1∨∃k,k<n/\(y k<0∨1000000<y k)
theorem Bf{a n:Nat}{y:Nat->Int}(R:bP h r b)(ha:h[a]?=some (.lst (tab n y)))(hn:nZ b n y)(q:E 102 h):wp (kT [.ref r,.ref a]) h Q E:=by
 unfold kT;refine bY (by rfl) ?_;change wp (mP [some (.ref r),some (.ref a),none]) _ _ _;unfold mP;by_cases ne:(n:Int)=(b.length:Int)+1
 ·refine bq (R:=λσ h1=>h=h1/\σ=[some (.ref r),some (.ref a),none]) ?_ ?_
  ·rw[eV,dA,bE];simp only[fF,aO,bD,gq,kQ,i7,aS,aR,lV,ha,gv];rw[R.meth (by decide) rfl];simp[kU R,ne]
  rintro _ _ ⟨rfl,rfl⟩;rw[jp];refine dG (jn rfl ha) ?_;refine iq (λk σ h'=>h'=h/\(∀j,j<k->¬(y j<0∨1000000<y j))/\∃x,σ=[some (.ref r),some (.ref a),x]) (λ_ _ _ i=>by rw[i.1];exact ia ha) (λk x σ h' hx ⟨eh,gd,u,es⟩=>?_) (λσ h' ⟨eh,gd,u,es⟩=>?_) ⟨rfl,λ_ z=>absurd z (oX _),_,rfl⟩
  ·subst eh;subst es;have hk:k<n:=by
    have:=(bM.mp hx).1;simpa[gv] using this
   rw[bZ,nB hk]at hx;cases hx
   by_cases c1:y k<0
   ·simp[dg,c1];exact q
   ·by_cases c2:1000000<y k
    ·simp[dg,c1,c2];exact q
    ·simp[dg,c1,c2];intro j hj;by_cases e:j=k
     ·subst e;lia
     ·have:=gd j (by lia);lia
  ·exfalso;rcases hn with z|⟨k,hk,z⟩
   ·lia
   ·rw[c6,gv]at gd;exact gd k hk z
 ·rw[cS];rw[eV,dA,bE,fF,aO];simp only[aR,aS,lV,ha,gv];rw[R.meth (by decide) rfl,aT,kU R,Ev];simp only[ne,decide_false,oS,if_true,mC,bh,aT,w_c];exact⟨by simp,q⟩
theorem Dp{a c n:Nat}{y:Nat->Int}(R:bP h r b)(ha:h[a]?=some (.lst (tab n y)))(hn:nZ b n y)(q:E 102 h):wp (k6 [.ref r,.ref a,.ref c]) h Q E:=by
 unfold k6;refine bY (by rfl) ?_;unfold uR;rw[cS,dO,cV];show wp (ao (ah 0) (ao (ah 1) az) [some (.ref r),some (.ref a),some (.ref c),none,none,none]) h _ E;simp only[bh,aT,aO,aR,aS];exact Bf R ha hn q
theorem DT{a c n:Nat}{y:Nat->Int}(R:bP h r b)(ha:h[a]?=some (.lst (tab n y)))(hn:nZ b n y)(q:∀h',Pre h h'->E 102 h'):wp (iN [.ref r,.ref a,.ref c]) h Q E:=by
 unfold iN;refine bY (by rfl) ?_;unfold uC;have few:=R.few;have R1:=R.pre (Pre.app (.lst [MV.int 0]));rw[cS,cu,cV];show wp (ao (ah 0) (ao (ah 1) (ao (aC kB (dX (ao (eC (.int 0)) az)) (aZ 1 "points" iu (ah 0) az)) az)) [some (.ref r),some (.ref a),some (.ref c),none,none,none,none,none,none,none]) h _ E;simp only[bh,aT,aO,aR,aS,bE,gH,w_c,eR,kh];refine⟨by decide,?_⟩;rw[R1.meth (by decide) rfl,aT,kU R1,yt];simp only[bR];refine⟨⟨by lia,by lia,by simp;lia⟩,?_⟩;have p2:=(Pre.app (h:=h) (.lst [MV.int 0])).snoc (.lst (br ((b.length:Int)+1).toNat [MV.int 0]).flatten);exact Dp (R.pre p2) (p2.get ha) hn (q _ p2)
end
def uO(k:Nat):MV->Prop
 |.non=>True
 |.int i=>i<0∨(k:Int)≤i
 |_=>False
noncomputable def rS:MV->Bool
 |.non=>true
 |.int _=>true
 |_=>false
def yK(xs:List MV):Prop:=xs.length=0∨40<xs.length∨(∃i,xs[0]?=some (.int i))∨∃k x,1≤k/\xs[k]?=some x/\uO k x
theorem DJ{h:MH}{a:Nat}{xs:List MV}{Q:MV->MH->Prop}{E:Nat->MH->Prop}(ha:h[a]?=some (.lst xs))(rv:xs.all rS=true)(bad:yK xs)(q:E 101 h):wp (mI [.ref a]) h Q E:=by
 unfold mI;refine bY (by rfl) ?_;by_cases c1:xs.length=0
 ·simp[jO,ha,c1,q]
 by_cases c2:40<xs.length
 ·have d1:¬((xs.length:Int)<1):=by lia
  have d2:(40:Int)<xs.length:=by lia
  simp[jO,ha,d1,d2,q]
 have d1:¬((xs.length:Int)<1):=by lia
 have d2:¬(40:Int)<xs.length:=by lia
 obtain⟨x0,e0⟩:∃x,xs[0]?=some x:=⟨xs[0]'(by lia),by simp⟩
 have a0:atN xs 0=some x0:=by rw[show(0:Int)=((0:Nat):Int) from rfl,jL];exact e0
 have v0:rS x0=true:=(iS.mp rv) x0 (dZ e0);cases x0 with
 |int i=>simp[jO,ha,d1,d2,a0,q]
 |non=>
   simp[jO,ha,d1,d2,a0];refine⟨by lia,?_⟩;refine iq (λk σ h'=>h'=h/\(∃x y,σ=[some (.ref a),x,y])/\∀j x,j<k->xs[j+1]?=some x->¬uO (j+1) x) (λ_ _ _ _=>rfl) (λk x σ h' hx ⟨eh,⟨u,v,es⟩,ok⟩=>?_) (λσ h' ⟨eh,_,ok⟩=>?_) ⟨rfl,⟨_,_,rfl⟩,λj x hj=>by lia⟩
   ·subst eh;subst es;have hk:k<xs.length-1:=by
     have:=(bM.mp hx).1;rw[oB]at this;lia
    rw[sU (by lia)]at hx;cases hx;obtain⟨z,ez⟩:∃z,xs[k+1]?=some z:=⟨xs[k+1]'(by lia),by simp⟩
    have g:atN xs (1+(k:Int))=some z:=by
     rw[show(1+(k:Int))=((k+1:Nat):Int) by lia,jL];exact ez
    have vz:rS z=true:=(iS.mp rv) z (dZ ez);cases z with
    |non=>simp[dg,ha,g,q]
    |int i=>
      by_cases b1:i<0
      ·simp[dg,ha,g,b1,q]
      ·by_cases b2:1+(k:Int)≤i
       ·simp[dg,ha,g,b1,b2,q]
       ·simp[dg,ha,g,b1,b2];intro j x hj ex;by_cases e:j=k
        ·subst e;rw[ez]at ex;cases ex;simp[uO];lia
        ·exact ok j x (by lia) ex
    |_=>exact absurd vz bW
   ·exfalso;rcases bad with z|z|⟨i,z⟩|⟨k,x,hk,ex,bx⟩
    ·exact c1 z
    ·exact c2 z
    ·rw[e0]at z;cases z
    ·have lk:=(bM.mp ex).1;refine ok (k-1) x ?_ ?_ ?_
     ·rw[oB];lia
     ·rw[show k-1+1=k by lia];exact ex
     ·rw[show k-1+1=k by lia];exact bx
 |_=>exact absurd v0 bW
section
variable {h:MH}{bk r d:Nat}{rs:List Rid}{b:List Nat}{Q:MV->MH->Prop}{E:Nat->MH->Prop}
theorem FJ{a n:Nat}{y:Nat->Int}(B:bw h bk r d rs)(R:bP h r b)(hz:rs.length<64)(ha:h[a]?=some (.lst (tab n y)))(hn:nZ b n y)(q:∀h',Pre h h'->E 102 h'):wp (gE [.ref bk,.ref a]) h Q E:=by
 unfold gE;refine bY (by rfl) ?_;change wp (ou [some (.ref bk),some (.ref a),none]) _ _ _;unfold ou;rw[cS,cu,bE,cV,bh,B.meth (by decide) rfl,aT,ng B];simp only[bh,aT,aO,cV,aR,aS];refine qm B hz λh' p=>?_;exact DT (R.pre (p.snoc _)) ((p.snoc _).get ha) hn λh2 p2=>q h2 ((p.snoc _).trans p2)
theorem xb{a:Nat}{xs:List MV}(ha:h[a]?=some (.lst xs))(rv:xs.all rS=true)(bad:yK xs)(q:∀h',E 101 h'):wp (iL [.ref h.length,.ref a]) (h++[.ins 1 []]) Q E:=by
 unfold iL;refine bY (by rfl) ?_;change wp (nO [some (.ref h.length),some (.ref a)]) _ _ _;unfold nO;rw[cS,dO,cV];simp only[bh,aT,aO,aR,aS];exact DJ (dS ha) rv bad (q _)
end
noncomputable abbrev sA:Str:=aA "a"
noncomputable abbrev sB:Str:=aA "b"
noncomputable def rA(c:Int):Rt:=⟨sA,1,5+c%100,3⟩
noncomputable def rB:Rt:=⟨sB,2,7,1⟩
theorem IP(c:Int):Names [rA c,rB]:=by
 show[sA,sB].Nodup;decide
theorem Dz(c:Int):aged [rA c,rB]=[rB,rA c]:=by
 refine CW (IP c) (by simp) (List.Perm.swap _ _ _) ?_;refine List.Pairwise.cons (λx hx=>?_) (List.Pairwise.cons (by simp) .nil);rw[dF.mp hx];exact Rt.lt_iff.mpr (.inl (show(1:Int)<3 by decide))
section
variable {h:MH}{Q:MV->MH->Prop}{E:Nat->MH->Prop}
theorem xZ{c:Int}(q:∀h' bk r d a1 a2,bw h' bk r d [(rA c,a1),(rB,a2)]->bP h' r [0,0]->Q (.ref bk) h'):wp (mF [.int c]) h Q E:=by
 unfold mF;refine bY (by rfl) ?_;change wp (oR [some (.int c),none]) _ _ _;unfold oR;refine bq (R:=λσ h'=>∃bk r d,bw h' bk r d []/\bP h' r [0,0]/\σ=[some (.int c),some (.ref bk)]) ?_ ?_
 ·simp only[cu,nF,bh,aT,gH,w_c];refine⟨by simp,?_⟩;refine Cr (b:=[0,0]) (by rw[bR];rfl) (λk x hx=>?_) (by decide) λh1 p1 R1=>⟨rfl,?_⟩
  ·have lt:=(bM.mp hx).1;have:x∈[0,0]:=dZ hx;simp at this;lia
  ·exact DQ λh2 p2 B2=>⟨rfl,_,rfl,_,_,_,B2,R1.pre p2,rfl⟩
 rintro _ h1 ⟨bk,r,d,B,R,rfl⟩;refine bq (R:=λσ h'=>∃a1,bw h' bk r d [(rA c,a1)]/\bP h' r [0,0]/\σ=[some (.int c),some (.ref bk)]) ?_ ?_
 ·rw[dO,B.meth (by decide) rfl];simp only[bh,aT,w_c,bE,aO,lU,lw,aR,aS];refine⟨by decide,?_⟩;refine w6 (x:=rA c) B R (by simp) (show 1<3 by decide) (by simp) λh2 a f la B2=>?_;exact⟨_,rfl,a,B2,B.river R (tw f),rfl⟩
 rintro _ h2 ⟨a1,B2,R2,rfl⟩;refine bq (R:=λσ h'=>∃a2,bw h' bk r d [(rA c,a1),(rB,a2)]/\bP h' r [0,0]/\σ=[some (.int c),some (.ref bk)]) ?_ ?_
 ·rw[dO,B2.meth (by decide) rfl];simp only[bh,aT,w_c,aR,aS];refine w6 (x:=rB) B2 R2 ?_ (by decide) (by simp) λh3 a f la B3=>?_
  ·show sB∉[sA];decide
  ·exact⟨_,rfl,a,B3,B2.river R2 (tw f),rfl⟩
 rintro _ h3 ⟨a2,B3,R3,rfl⟩;simp only[fV,aO,aR,aS];exact q _ _ _ _ _ _ B3 R3
theorem sk{σ:MSt}{Q:MF->MH->Prop}{w k:Int}{a b:MS}(s0:σ[0]?=some (some (.int w)))(ne:¬w=k):wp (aD (sIf (aC oEq (ah 0) (eC (.int k))) a bz) b σ) h Q E=wp (b σ) h Q E:=by
 rw[cS,eV];simp only[dA,bE,aO,s0,w_c,su,ne,decide_false,c9,if_false,j8]
theorem sk1{σ:MSt}{Q:MF->MH->Prop}{w k:Int}{a b:MS}(s0:σ[0]?=some (some (.int w)))(ne:¬w=k)(q:wp (b σ) h Q E):wp (aD (sIf (aC oEq (ah 0) (eC (.int k))) a bz) b σ) h Q E:=(sk s0 ne).mpr q
theorem dk{σ:MSt}{Q:MF->MH->Prop}{k:Int}{e:ME}{b:MS}(s0:σ[0]?=some (some (.int k)))(w:wp (e σ) h (λ_ _=>False) E):wp (aD (sIf (aC oEq (ah 0) (eC (.int k))) (bN e) bz) b σ) h Q E:=by
 rw[cS,eV];simp only[dA,bE,aO,s0,w_c,su,decide_true,if_true,dO];exact dI w (λ_ _ z=>z.elim) λ_ _ z=>z
theorem dk1{σ:MSt}{Q:MF->MH->Prop}{k:Int}{e:ME}(s0:σ[0]?=some (some (.int k)))(w:wp (e σ) h (λ_ _=>False) E):wp (sIf (aC oEq (ah 0) (eC (.int k))) (bN e) bz σ) h Q E:=by
 rw[eV];simp only[dA,bE,aO,s0,w_c,su,decide_true,if_true,dO];exact dI w (λ_ _ z=>z.elim) λ_ _ z=>z
theorem off{Q:MF->MH->Prop}{w c:Int}{u:Option MV}(hw:inM (.int w) [.int 6,.int 9,.int 10]=true)(q:wp (kZ [.int w,.int c]) (h++[.lst [.int 6,.int 9,.int 10]]) (λ_ _=>False) E):wp (sIf (aC (oIn false) (ah 0) (dX (ao (eC (.int 6)) (ao (eC (.int 9)) (ao (eC (.int 10)) az))))) (bN (cF kZ (ao (ah 0) (ao (ah 1) az)))) bz [some (.int w),some (.int c),u]) h Q E:=by
 have f1:flat (MV.int w)=true:=rfl;have f2:([MV.int 6,.int 9,.int 10]:List MV).all flat=true:=rfl;rw[eV,dA,bE,aO];simp only[gH,bh,aT,w_c,aR,aS,oF,bR,f1,f2,true_and,hw];refine⟨by simp,?_⟩;simp only[c9,if_false,if_true,dO,cV,bh,aT,aO,aR,aS];exact dI q (λ_ _ z=>z.elim) λ_ _ z=>z
theorem vj{w c:Int}(k:∀h' o bk pd ld ad r d a1 a2 a,Sy h' o bk pd ld ad r d 0 [(⟨aA "p",1,9,2,0⟩,a)] [] [] [(rA c,a1),(rB,a2)] [0,0]->wp ((aD (sIf (aC oEq (ah 0) (eC (.int 9))) (bN (aZ 4 "stored" oh (ah 2) (ao (eC (.str (aA "q"))) az))) bz)
  (aD (sIf (aC oEq (ah 0) (eC (.int 10))) (bN (aZ 4 "send" ka (ah 2) (ao (eC (.str (aA "p"))) (ao (eC (.str (aA "b"))) (ao (eC (.int 0)) az))))) bz)
  (sIf (aC oEq (ah 0) (eC (.int 6))) (bN (aZ 4 "send" ka (ah 2) (ao (eC (.str (aA "p"))) (ao (eC (.str (aA "a"))) (ao (aC dM (eC (.int 1)) (aC gA (ah 1) (eC (.int 50)))) az))))) bz))) [some (.int w),some (.int c),some (.ref o)]) h' (λf h'=>match f with
   |.next _=>Q .non h'
   |.ret v=>Q v h'
   | _=>False) E):wp (kZ [.int w,.int c]) h Q E:=by
 unfold kZ;refine bY (by rfl) ?_;change wp (sj [some (.int w),some (.int c),none]) _ _ _;unfold sj;refine bq (R:=λσ h'=>∃o bk pd ld ad r d a1 a2,Sy h' o bk pd ld ad r d 0 [] [] [] [(rA c,a1),(rB,a2)] [0,0]/\σ=[some (.int w),some (.int c),some (.ref o)]) ?_ ?_
 ·simp only[cu,nF,bh,aT,cV,aO,aR,aS];refine xZ λh1 bk r d a1 a2 B R=>?_;exact Eu B R λh2 p2 S=>⟨rfl,_,rfl,_,_,_,_,_,_,_,_,_,S,rfl⟩
 rintro _ h1 ⟨o,bk,pd,ld,ad,r,d,a1,a2,S,rfl⟩;refine bq (R:=λσ h'=>∃a,Sy h' o bk pd ld ad r d 0 [(⟨aA "p",1,9,2,0⟩,a)] [] [] [(rA c,a1),(rB,a2)] [0,0]/\σ=[some (.int w),some (.int c),some (.ref o)]) ?_ ?_
 ·rw[dO,S.meth (by decide) rfl];simp only[bh,aT,w_c];exact Jc (x:=⟨aA "p",1,9,2,0⟩) S rfl (by simp) (by decide) (by simp) λh2 a f la S2=>⟨_,rfl,a,S2,rfl⟩
 rintro _ h2 ⟨a,S2,rfl⟩;exact k h2 o bk pd ld ad r d a1 a2 a S2
theorem way1:bf [0,0] 1=[1,0]:=rfl
theorem way2:bf [0,0] 2=[2,0]:=rfl
theorem way0:bf [0,0] 0=[0]:=rfl
theorem flow0(y:Nat->Int):bJ [0,0] 3 y 0=y 0+y 1+y 2/\bJ [0,0] 3 y 1=y 1/\bJ [0,0] 3 y 2=y 2:=by
 simp only[bJ,ee,way0,way1,way2];refine⟨?_,?_,?_⟩ <;> simp
theorem uZ(f:Nat->Int)(am:Int)(p:Nat):eB f am [p,0]=if(if f 0<f p then f 0 else f p)<am then(if f 0<f p then f 0 else f p) else am:=by
 simp[eB,eZ]
theorem BI{t:Str}{n:Nat}(lt:t.length≤100)(e1:dm 10 t.cps.toList=[t.cps.toList])(e2:dm 32 t.cps.toList=(aA "river").cps.toList::br n [])(few:n≤10)(qx:∀h',E 212 h'):wp (qB [.str t]) h Q E:=by
 have rn:∀{h:MH}{Q:MV->MH->Prop}{E:Nat->MH->Prop},E 212 h->wp (qN [.str ⟨#[]⟩,.int 40]) h Q E:=λ{h Q E} q=>by
  unfold qN;refine bY (by rfl) ?_;change wp (pT [some (.str ⟨#[]⟩),some (.int 40),none]) _ _ _;unfold pT;have l0:(⟨#[]⟩:Str).length=0:=rfl;rw[cS,eV,dA,Du,dA,bE,fF,aO];simp only[aR];rw[HF,l0];refine⟨by lia,?_⟩;rw[w_c,w_lt,decide_eq_true (by decide)];simp only[if_true,mC,bh,aT,w_c];exact⟨by simp,q⟩
 unfold qB;refine bY (by rfl) ?_;change wp (oj [some (.str t),none,none,none]) _ _ _;unfold oj;refine bq (R:=λσ h'=>∃l,h'[l]?=some (.lst [.str t])/\σ=[some (.str t),some (.ref l),none,none]) ?_ ?_
 ·rw[cu];refine Aa (c:=10) (s:=t) (lI (by simp)) rfl (by lia) (by decide) ?_;rw[e1];exact⟨_,rfl,h.length,by rw[bR];simp,rfl⟩
 rintro _ h1 ⟨l,gl,rfl⟩;refine bq (R:=λσ h'=>h1=h'/\σ=[some (.str t),some (.ref l),none,none]) ?_ ?_
 ·rw[eV];simp only[dA,bE,fF,aO,w_c,lV,gl,lw,sZ,aR,aS];rw[decide_eq_false (by simp)];simp only[c9,if_false,j8];exact⟨_,rfl,by trivial,by trivial⟩
 rintro _ _ ⟨rfl,rfl⟩;have x0:atN [MV.str t] 0=some (.str t):=rfl;refine bq (R:=λσ h'=>False) ?_ (λ_ _ z=>z.elim);simp only[cu,nF,cV,bh,aT,bE,aO,w_c,lY,gl,x0,aR,aS];unfold ue;refine bY (by rfl) ?_;change wp (qp [some (.str t),none,none,none]) _ _ _;unfold qp;refine bq (R:=λσ h'=>∃wd,h'[wd]?=some (.lst (.str (aA "river")::br n (.str ⟨#[]⟩)))/\σ=[some (.str t),some (.ref wd),none,none]) ?_ ?_
 ·rw[cu];refine Aa (c:=32) (s:=t) (lI (by simp)) rfl (by lia) (by decide) ?_;rw[e2];exact⟨_,rfl,h1.length,by rw[bR];simp,rfl⟩
 rintro _ h2 ⟨wd,gw,rfl⟩;have x1:atN (MV.str (aA "river")::br n (.str ⟨#[]⟩)) 0=some (.str (aA "river")):=rfl;refine bq (R:=λσ h'=>h2=h'/\σ=[some (.str t),some (.ref wd),none,none]) ?_ ?_
 ·rw[eV];simp only[dA,bE,aO,w_c,lY,gw,x1,yJ,decide_true,lC,c9,if_false,j8,aR,aS];exact⟨_,rfl,by trivial,by trivial⟩
 rintro _ _ ⟨rfl,rfl⟩;have ct:iQ (MV.str (aA "river")::br n (.str ⟨#[]⟩)) (some 1) none=br n (.str ⟨#[]⟩):=by rw[G8 _ (by simp)];rfl
 refine bq (R:=λσ h'=>∃a,h'[a]?=some (.lst [])/\σ=[some (.str t),some (.ref wd),some (.ref a),none]) ?_ ?_
 ·rw[cu];have e1:fB (eSl (ah 1) (some (eC (.int 1))) none) [some (.str t),some (.ref wd),none,none] h2=.ok ⟨(br n (MV.str ⟨#[]⟩)).map λv=>[v],[(h2.length,br n (MV.str ⟨#[]⟩))]⟩ (h2++[.lst (br n (MV.str ⟨#[]⟩))]):=by
   refine jn (lI ?_) bR;simp only[yH,aO,wv,zQ,w_c,CH,gw,ct,aR,aS]
   first|exact⟨trivial,rfl⟩|exact⟨trivial,trivial⟩|exact⟨rfl,rfl⟩
  refine Gg (br n ()) (λ_=>[.str ⟨#[]⟩]) (λ_ _=>False) e1 (by simp) (λh' p=>ia (p.get bR)) (by simp;lia) (λw hwr h3 p3=>?_) λxs h3 p3 F=>?_
  ·simp only[bD,gq,kQ,i7];rw[DI,dA,bE];simp only[aO,w_c,GK,aR,aS];rw[decide_eq_false (by decide)];simp only[c9,if_false,cV,bh,aT,aO,w_c,aR,aS];exact rn (qx _)
  ·have:xs=[]:=by
    cases xs with
    |nil=>rfl
    |cons x xs=>
      have l0:=F.1;simp only[eR,tE]at l0;exact(F.2 0 () x (by rw[ji,if_pos (by lia)]) rfl).elim
   subst this;exact⟨_,rfl,h3.length,bR,rfl⟩
 rintro _ h3 ⟨a,ga,rfl⟩;refine CF ?_;simp only[fV,nF,bh,aT,aO,aR,aS];exact xb ga rfl (.inl rfl) λh'=>⟨by decide,qx _⟩
end
noncomputable def cdL:List Nat:=[101,102,103,104,105,106,107,108,109,110,111,212]
section
variable {h:MH}{Q:MV->MH->Prop}{E:Nat->MH->Prop}
theorem tab3(x y z:Int):[MV.int x,.int y,.int z]=tab 3 (λk=>if k=0 then x else if k=1 then y else z):=rfl
theorem AS{c:Int}:∀x∈aE [(rA c,(0:Nat)),(rB,0)],x.pt<[0,0].length+1:=λx hx=>by
 simp only[aE,bD,gq,bu,cW,or_false]at hx;rcases hx with rfl|rfl
 ·show 1<3;decide
 ·show 2<3;decide
theorem G2{c:Int}:∀x∈[rA c,rB],PySem.PyData.strOk x.nm=true:=λx hx=>by
 simp only[bu,cW,or_false]at hx;rcases hx with rfl|rfl
 ·show PySem.PyData.strOk sA=true;decide +kernel
 ·show PySem.PyData.strOk sB=true;decide +kernel
theorem z8:d9 sA=true:=by decide +kernel
theorem wX:d9 sB=true:=by decide +kernel
theorem Ga:d9 (aA "c")=true:=by decide +kernel
theorem AR:d9 (aA "q")=true:=by decide +kernel
theorem Gu(y:Nat->Int)(p am:Nat->Nat)(m n:Int)(q r:Nat):cD [0,0] (bJ [0,0] 3 y) [(q,m),(r,n)]=[eB (bJ [0,0] 3 y) m (bf [0,0] q),eB (lower (bJ [0,0] 3 y) (eB (bJ [0,0] 3 y) m (bf [0,0] q)) (bf [0,0] q)) n (bf [0,0] r)]:=rfl
theorem FL{w:Nat}{c:Int}(hw:w<12)(h0:0≤c)(h1:c<999983)(qx:∀h',E (cdL.getD w 0) h'):wp (pN [.int w,.int c]) h Q E:=by
 unfold pN;refine bY (by rfl) ?_;change wp (rH [some (.int w),some (.int c),none]) _ _ _;unfold rH;refine bq (R:=λσ h'=>∃bk r d a1 a2,bw h' bk r d [(rA c,a1),(rB,a2)]/\bP h' r [0,0]/\σ=[some (.int w),some (.int c),some (.ref bk)]) ?_ ?_
 ·simp only[cu,cV,bh,aT,aO,aR,aS];exact xZ λh1 bk r d a1 a2 B R=>⟨_,rfl,bk,r,d,a1,a2,B,R,rfl⟩
 rintro _ h1 ⟨bk,r,d,a1,a2,B,R,rfl⟩;have pt:∀x∈aE [(rA c,a1),(rB,a2)],x.pt<[0,0].length+1:=AS;have hz:[(rA c,a1),(rB,a2)].length<64:=by simp
 have ag:aged (aE [(rA c,a1),(rB,a2)])=[rB,rA c]:=Dz c;have am:=Int.emod_nonneg c (show(100:Int)≠0 by decide);have am2:=Int.emod_lt_of_pos c (show(0:Int)<100 by decide);have rv:∀{h:MH}{σ:MSt}{Q:MV->MH->Prop}{E:Nat->MH->Prop},bw h bk r d [(rA c,a1),(rB,a2)]->σ[2]?=some (some (.ref bk))->wp (aZ 3 "river" fR (ah 2) az σ) h Q E=Q (.ref r) h:=λB s=>by
  rw[B.meth (by decide) s,aT,ng B]
 rcases(show w=0∨w=1∨w=2∨w=3∨w=4∨w=5∨w=6∨w=7∨w=8∨w=9∨w=10∨w=11 by lia) with rfl|rfl|rfl|rfl|rfl|rfl|rfl|rfl|rfl|rfl|rfl|rfl
 ·refine dk rfl ?_;simp only[nF,bh,aT,gH,w_c,bE,aO,lU,lw,aR,aS];refine⟨by decide,by simp,?_⟩;exact xb bR rfl (.inr (.inr (.inr ⟨1,_,aU _,rfl,.inr (by have:=Int.emod_nonneg c (show(9:Int)≠0 by decide);show(1:Int)≤_;lia)⟩))) qx
 ·refine sk1 rfl (by decide) ?_;refine dk rfl ?_;simp only[cV,bh,aT,gH,w_c,bE,fF,CC,aO,uf,aR,aS];refine⟨by simp,?_⟩;rw[tab3];exact FJ (B.pre (Pre.app _)) (R.pre (Pre.app _)) hz bR (.inr ⟨2,by decide,.inl (by show(-1-c:Int)<0;lia)⟩) λh' _=>qx h'
 ·refine sk1 rfl (by decide) (sk1 rfl (by decide) ?_);refine dk rfl ?_;rw[R.methR (by decide) (λQ'=>rv B rfl)];simp only[bh,aT,w_c,bE,aO,lw,aR,aS];rw[Ji R (.inr (by show(2:Int)+1≤3+c;lia))];exact qx _
 ·refine sk1 rfl (by decide) (sk1 rfl (by decide) (sk1 rfl (by decide) ?_));refine dk rfl ?_;rw[B.meth (by decide) rfl];simp only[bh,aT,w_c,aO,aR,aS];rw[Cm B (by show sB∈[sA,sB];decide) wX];exact qx _
 ·refine sk1 rfl (by decide) (sk1 rfl (by decide) (sk1 rfl (by decide) (sk1 rfl (by decide) ?_)));refine dk rfl ?_;rw[B.meth (by decide) rfl];simp only[bh,aT,w_c];rw[Dg B (by show aA "c"∉[sA,sB];decide) Ga];exact qx _
 ·refine sk1 rfl (by decide) (sk1 rfl (by decide) (sk1 rfl (by decide) (sk1 rfl (by decide) (sk1 rfl (by decide) ?_))));refine dk rfl ?_;simp only[cV,bh,aT,gH,w_c,aO,aR,aS];refine⟨by simp,?_⟩;rw[tab3];obtain⟨f0,f1,f2⟩:=flow0 (λk=>if k=0 then c else if k=1 then 200 else 0);refine Cl (k:=1) (x:=rA c) (B.pre (Pre.app _)) (R.pre (Pre.app _)) hz bR rfl (λk=>?_) pt (by rw[ag];rfl) (by rw[ag];exact congrArg (·[1]?) (Gu _ id id 7 (5+c%100) 2 1)) ?_ z8 λh' _=>qx h'
  ·by_cases k0:k=0
   ·simp only[k0,if_true];lia
   ·by_cases k1:k=1
    ·simp[k1]
    ·simp[k0,k1]
  ·generalize bJ [0,0] 3 (λk=>if k=0 then c else if k=1 then 200 else 0)=f at f0 f1 f2;simp at f0 f1 f2;rw[way1,way2,uZ,uZ];simp only[lower,bu,cW,or_false];show ¬_<(5+c%100:Int);simp[f0,f1,f2];split <;> split <;> lia
 ·refine sk1 rfl (by decide) (sk1 rfl (by decide) (sk1 rfl (by decide) (sk1 rfl (by decide) (sk1 rfl (by decide) (sk1 rfl (by decide) (sk1 rfl (by decide) (sk1 rfl (by decide) (sk1 rfl (by decide) ?_))))))));refine off (by rfl) (vj λh2 o bk pd ld ad r d a1 a2 a S=>?_);refine sk1 rfl (by decide) (sk1 rfl (by decide) (dk1 rfl ?_));rw[S.meth (by decide) rfl];simp only[bh,aT,w_c,bE,aO,lU,lw,aR,aS];refine⟨by decide,?_⟩;exact vY (x:=(⟨aA "p",1,9,2,0⟩,a)) (y:=(rA c,a1)) S (by simp) (by simp) (show 1<3 by decide) (λz=>absurd (show(1:Nat)∈[1,0] by decide) z) λ_=>⟨by have:=Int.emod_nonneg c (show(50:Int)≠0 by decide);show(0:Int)<1+c%50;lia,λh' _=>qx h'⟩
 ·refine sk1 rfl (by decide) (sk1 rfl (by decide) (sk1 rfl (by decide) (sk1 rfl (by decide) (sk1 rfl (by decide) (sk1 rfl (by decide) ?_)))));refine dk rfl ?_;rw[B.meth (by decide) rfl];simp only[bh,aT,w_c];have hu:ft (aE [(rA c,a1),(rB,a2)]) sA sB=(aA "unlike",aE [(rA c,a1),(rB,a2)]):=by
   have n1:¬sA=sB:=by decide
   simp[ft,fnd,aE,rA,rB,n1]
  refine Iu B z8 wX (λh' rs' z=>?_) (λz=>?_) λ_=>qx _
  ·rw[hu]at z;exact absurd z (by show ¬aA "unlike"=aA "done";decide)
  ·rw[hu]at z;exact absurd (congrArg Prod.fst z) (by show ¬aA "unlike"=aA "no right";decide)
 ·refine sk1 rfl (by decide) (sk1 rfl (by decide) (sk1 rfl (by decide) (sk1 rfl (by decide) (sk1 rfl (by decide) (sk1 rfl (by decide) (sk1 rfl (by decide) ?_))))));refine dk rfl ?_;simp only[cV,bh,aT,gH,w_c,aO,aR,aS];refine⟨by simp,by simp,?_⟩;have p1:=(Pre.app (h:=h1) (MO.lst [.int 0,.int 7,.int 7])).snoc (MO.lst [.ref h1.length]);have y1:iG (h1++[MO.lst [.int 0,.int 7,.int 7]]++[MO.lst [.ref h1.length]]) (h1++[MO.lst [MV.int 0,.int 7,.int 7]]).length 3 [h1.length] (λ_ k=>if k=0 then 0 else if k=1 then 7 else 7):=by
   refine⟨bR,λk a e=>?_⟩;cases k with
   |zero=>
     cases e;rw[←tab3];exact dS bR
   |succ k=>cases e
  refine Fj (k:=0) (x:=rB) (B.pre p1) (R.pre p1) hz y1 (by simp) rfl (λj k=>?_) pt (show 1<3 by decide) (by rw[ag];rfl) (λx hx=>G2 x hx) ?_ λh' _=>qx h'
  ·by_cases k0:k=0
   ·simp[k0]
   ·by_cases k1:k=1
    ·simp[k1]
    ·simp[k0,k1]
  ·rw[ag];have n1:¬sA=sB:=by decide
   have em:mvL rB.nm 1 [rB,rA c]=[⟨sB,1,7,1⟩,rA c]:=by simp[mvL,mvR,rA,rB,n1]
   rw[em];refine List.ne_nil_of_mem (cO.mpr ⟨1,mU.mpr ⟨jP.mpr (by simp),decide_eq_true ⟨0,by simp,λz=>n1 z,?_⟩⟩,rfl⟩);obtain⟨f0,f1,f2⟩:=flow0 (λk=>if k=0 then(0:Int) else if k=1 then 7 else 7);show eB (lower (bJ [0,0] 3 _) (eB (bJ [0,0] 3 _) 7 (bf [0,0] 1)) (bf [0,0] 1)) (5+c%100) (bf [0,0] 1)<eB (lower (bJ [0,0] 3 _) (eB (bJ [0,0] 3 _) 7 (bf [0,0] 2)) (bf [0,0] 2)) (5+c%100) (bf [0,0] 1);generalize bJ [0,0] 3 (λk=>if k=0 then(0:Int) else if k=1 then 7 else 7)=f at f0 f1 f2;simp at f0 f1 f2;rw[way1,way2];simp only[uZ,lower,bu,cW,or_false];simp[f0,f1,f2];split <;> split <;> lia
 ·refine sk1 rfl (by decide) (sk1 rfl (by decide) (sk1 rfl (by decide) (sk1 rfl (by decide) (sk1 rfl (by decide) (sk1 rfl (by decide) (sk1 rfl (by decide) (sk1 rfl (by decide) (sk1 rfl (by decide) ?_))))))));refine off (by rfl) (vj λh2 o bk pd ld ad r d a1 a2 a S=>?_);refine dk rfl ?_;rw[S.meth (by decide) rfl];simp only[bh,aT,w_c];unfold oh;refine bY (by rfl) ?_;unfold tz;rw[fV,q0,S.meth (by decide) rfl];simp only[bh,aT,aO,bD,gq,kQ,i7,aR,aS];exact Bb S (by show aA "q"∉[aA "p"];decide) AR (qx _)
 ·refine sk1 rfl (by decide) (sk1 rfl (by decide) (sk1 rfl (by decide) (sk1 rfl (by decide) (sk1 rfl (by decide) (sk1 rfl (by decide) (sk1 rfl (by decide) (sk1 rfl (by decide) (sk1 rfl (by decide) ?_))))))));refine off (by rfl) (vj λh2 o bk pd ld ad r d a1 a2 a S=>?_);refine sk1 rfl (by decide) (dk rfl ?_);rw[S.meth (by decide) rfl];simp only[bh,aT,w_c];exact vY (x:=(⟨aA "p",1,9,2,0⟩,a)) (y:=(rB,a2)) S (by simp) (by simp) (show 1<3 by decide) (λ_ h' _=>qx h') λz=>absurd z (show(2:Nat)∉[1,0] by decide)
 ·refine sk1 rfl (by decide) (sk1 rfl (by decide) (sk1 rfl (by decide) (sk1 rfl (by decide) (sk1 rfl (by decide) (sk1 rfl (by decide) (sk1 rfl (by decide) (sk1 rfl (by decide) ?_)))))));refine dk rfl ?_;obtain⟨k,hk,k5⟩:∃k:Nat,c%5=(k:Int)/\k<5:=⟨(c%5).toNat,by lia,by lia⟩
  have l1:(aA " ").length=1:=rfl;have l5:(aA "river").length=5:=rfl;obtain⟨s,hs,es⟩:∃s:Str,(if(k:Int)<1 then PySem.Str.empty else jB (aA " ") (k:Int))=s/\s.cps.toList=br k 32:=by
   by_cases c1:(k:Int)<1
   ·exact⟨_,if_pos c1,by rw[show k=0 by lia];rfl⟩
   ·refine⟨_,if_neg c1,?_⟩;have:=Dc 32 (n:=(k:Int)) (by lia);rw[t6]at this;exact this
  have ls:s.length=k:=by rw[sm,es,tE]
  simp only[cV,bh,aT,bE,w_c,aO,lU,F4,hk,hs,BW,ls,l1,l5,aR,aS];refine⟨by decide,⟨by lia,by lia,by lia⟩,by lia,?_⟩;have et:(aA "river"++s).cps.toList=(aA "river").cps.toList++br k 32:=by rw[zX,es]
  refine BI (n:=k) (by rw[CS,ls,l5];lia) ?_ ?_ (by lia) qx
  ·rw[et];rcases(show k=0∨k=1∨k=2∨k=3∨k=4 by lia) with rfl|rfl|rfl|rfl|rfl <;> rfl
  ·rw[et];rcases(show k=0∨k=1∨k=2∨k=3∨k=4 by lia) with rfl|rfl|rfl|rfl|rfl <;> rfl
theorem Hc{n c:Nat}(g:h[n]?=some (.exn c))(hc:([100,101,102,103,104,105,106,107,108,109,110,111,212]:List Nat).contains c=true)(q:∀h' l,Pre h h'->h'[l]?=some (.lst (cdL.map λk=>.bl ([k].contains c)))->Q (.ref l) h'):wp (o4 [.ref n]) h Q E:=by
 unfold o4;refine bY (by rfl) ?_;change wp (rO [some (.ref n),none]) _ _ _;unfold rO;refine bq (R:=λσ h'=>∃l,Pre h h'/\h'[l]?=some (.lst ((cdL.take 4).map λk=>.bl ([k].contains c)))/\σ=[some (.ref n),some (.ref l)]) ?_ ?_
 ·simp only[cu,gH,bh,aT,fF,aO,pZ,g,hc,true_and,aR,aS];exact⟨by simp,_,rfl,h.length,Pre.app _,bR,rfl⟩
 rintro _ h1 ⟨l1,p1,g1,rfl⟩;have e1:=p1.get g;refine bq (R:=λσ h'=>∃l,Pre h h'/\h'[l]?=some (.lst ((cdL.take 8).map λk=>.bl ([k].contains c)))/\σ=[some (.ref n),some (.ref l)]) ?_ ?_
 ·simp only[cu,bE,gH,bh,aT,fF,aO,pZ,e1,hc,true_and,aR,aS];refine⟨by simp,?_⟩;rw[xz,dS g1,bR];exact⟨by simp[cdL],_,rfl,_,(p1.snoc _).snoc _,bR,rfl⟩
 rintro _ h2 ⟨l2,p2,g2,rfl⟩;have e2:=p2.get g;simp only[fV,bE,gH,bh,aT,fF,aO,pZ,e2,hc,true_and,aR,aS];refine⟨by simp,?_⟩;rw[xz,dS g2,bR];exact⟨by simp[cdL],q _ _ ((p2.snoc _).snoc _) bR⟩
theorem Cz:∀w:Nat,w<12->(cdL.map λk=>[k].contains (cdL.getD w 0))=(cK 12).map λk=>decide (k=w):=by decide
theorem Eo:∀w:Nat,w<12->([100,101,102,103,104,105,106,107,108,109,110,111,212]:List Nat).contains (cdL.getD w 0)=true:=by decide
theorem Jg{w:Nat}{c:Int}(hw:w<12)(h0:0≤c)(h1:c<999983)(q:∀h',Q (.bl true) h'):wp (qU [.int w,.int c]) h Q E:=by
 unfold qU;refine bY (by rfl) ?_;change wp (rE [some (.int w),some (.int c),none,none,none]) _ _ _;unfold rE;refine bq (R:=λσ h'=>∃l,σ=[some (.int w),some (.int c),some (.ref l),none,none]) (by simp) ?_;rintro _ h2 ⟨l,rfl⟩;refine bq (R:=λσ h'=>σ=[some (.int w),some (.int c),some (.ref l),some (.bl false),none]) (by simp) ?_;rintro _ h3 rfl;refine bq (R:=λσ h'=>∃l,h'[l]?=some (.lst ((cK 12).map λk=>.bl (decide (k=w))))/\σ=[some (.int w),some (.int c),some (.ref l),some (.bl true),none]) ?_ ?_
 ·rw[Jb,dO,cV];simp only[bh,aT,aO,aR,aS];refine FL hw h0 h1 λh4=>?_;have ci:=Eo w hw;have co:=congrArg (List.map MV.bl) (Cz w hw);rw[dJ,dJ]at co;generalize cdL.getD w 0=cd at ci co;refine⟨ci,?_⟩;rw[F3,if_pos ci];have g:(h4++[MO.exn cd])[h4.length]?=some (.exn cd):=bR;generalize h4++[MO.exn cd]=h5 at g;generalize h4.length=n at g;simp only[hG,gZ];refine bq (R:=λσ h'=>∃l,h'[n]?=some (.exn cd)/\h'[l]?=some (.lst ((cK 12).map λk=>.bl (decide (k=w))))/\σ=[some (.int w),some (.int c),some (.ref l),some (.bl false),some (.ref n)]) ?_ ?_
  ·rw[cu,HP];simp only[bh,aT,aO,aR,aS];refine Hc g ci λh6 l p gl=>⟨_,rfl,l,p.get g,?_,rfl⟩;rw[gl];exact congrArg (λx=>some (MO.lst x)) co
  rintro _ h6 ⟨l,gn,gl,rfl⟩;simp only[cu,fF,aO,pZ,gn,ci,true_and,aR,aS];exact⟨_,rfl,l,gl,rfl⟩
 rintro _ h4 ⟨l,gl,rfl⟩;rw[fV,yx,dA,aO];simp only[aR,aS,if_true];rw[bE,aO];simp only[aR,aS];have hs:jC (eC (.int 12)) [some (.int w),some (.int c),some (.ref l),some (.bl true),none] h4=.ok ⟨fL 0 12,[]⟩ h4:=yg (j:=12) (lI (by simp)) ⟨by lia,by lia⟩ rfl;refine lZ (cK 12) (λ(k:Nat)=>[.int (0+(k:Int))]) (λ_=>true) (λk=>.bl (decide (k=w))) hs rfl (λ_ _=>rfl) (by simp) (λp hp h5 p5=>?_) (λp hp _ h5 p5=>?_) λh5 p5=>?_
 ·simp[hV,bH,Pre.refl]
 ·simp only[bD,gq,kQ,i7,bE,aO,su,aR,aS];refine⟨?_,.refl⟩;by_cases e:p=w
  ·subst e;simp
  ·have:¬(0+(p:Int))=(w:Int):=by lia
   rw[decide_eq_false e,decide_eq_false this]
 ·rw[sN];exact FT (dS (p5.get gl)) bR (by simp[lB]) (q _)
end
theorem law_true:∀ns:List Int,ns.length≤63->∃h',me [.scr ns] []=.ok (.bl true) h':=by
 intro ns hns
 suffices w:wp (me [.scr ns]) [] (λv _=>v=.bl true) noE by
  obtain⟨v,h',e,rfl⟩:=ko w;exact⟨h',e⟩
 unfold me;refine bY (by rfl) ?_;obtain⟨c,hc,h0,h1⟩:∃c:Int,cell ns 1%999983=c/\0≤c/\c<999983:=⟨_,rfl,by lia,by lia⟩
 change wp (pJ [some (.scr ns),none,none]) _ _ _;unfold pJ;refine bq (R:=λσ h=>σ=[some (.scr ns),some (.int c),none]) ?_ ?_
 ·simp only[cu,bE,cV,bh,aT,aO,w_c,aR,aS,wo (show(0:Int)≤1 by decide),lU,hc];exact⟨by decide,_,rfl,rfl⟩
 rintro _ h2 rfl;refine bq (R:=λσ h=>True) ?_ (by rintro σ h _;simp);rw[jp];refine dG (yg (n:=12) (j:=12) (h':=h2) (lI (by simp)) ⟨by lia,by lia⟩ (by simp)) ?_;refine iq (λk σ h=>∃u,σ=[some (.scr ns),some (.int c),u]) (λ_ _ _ _=>rfl) (λk x σ h hx J=>?_) (λσ h _=>⟨σ,rfl,trivial⟩) ⟨_,rfl⟩;obtain⟨u,rfl⟩:=J;have hk:k<12:=by
  have:=(bM.mp hx).1
  rwa [oB]at this
 rw[sU hk]at hx;cases hx;obtain⟨w,hw,hw2⟩:∃w:Nat,(cell ns 0+(0+(k:Int)))%12=(w:Int)/\w<12:=⟨((cell ns 0+(0+(k:Int)))%12).toNat,by lia,by lia⟩
 simp only[dg,gZ,hG];rw[eV,dA,w_not,dA,cV];simp only[bE,cV,bh,aT,aO,w_c,aR,aS,wo (show(0:Int)≤0 by decide),lw,lU,hw];refine⟨by decide,?_⟩;refine Jg hw2 h0 h1 λh'=>?_;simp only[lC,c9,if_false,j8];exact⟨_,rfl⟩
end L2.Rv
namespace PySem.W.Fast
def tw6451225337845792468:=0
def tw16327684637206254918:=0
def tw16258141054560783865:=0
def tw4797806156720529384:=0
def tw9156927111727501823:=0
def tw18274650578279332137:=0
def tw11855775288633767588:=0
def tw14918598243345224058:=0
def tw6695842159930154300:=0
def tw10689893578513076825:=0
def tw2711641166418170513:=0
def tw16571131371223615601:=0
def tw10331904259888748717:=0
def tw9073552556793836578:=0
def tw1136939833067384336:=0
def tw9133645362351915081:=0
def tw7305153702078763205:=0
def tw14673223061546405891:=0
def tw16057710342575359210:=0
def tw8745970905336314157:=0
def tw6718525663044494877:=0
def tw4387800027317713891:=0
def tw16876223101126775591:=0
def tw4288583174206798492:=0
def tw14618153470287643604:=0
def tw4759563630952314381:=0
def tw17726767931914072048:=0
def tw9278428241189054974:=0
def tw13252283091086800879:=0
def tw6049097510672153652:=0
def tw1076596932088739057:=0
def tw4282281793586891801:=0
def tw1955134062253860664:=0
def tw3622038864226063719:=0
def tw8250567407505879365:=0
def tw17203618724283085086:=0
def tw15415510427891312406:=0
def tw7987141464864922020:=0
def tw15666749534393241176:=0
def tw3907090055670451022:=0
def tw1784014188599229700:=0
def tw17394863688508816450:=0
def tw17273488151397944185:=0
def tw5368663218900254306:=0
def tw2701698575195423889:=0
def tw1894604623012961023:=0
def tw11672841845841962242:=0
def tw1054854964361580667:=0
def tw8126678203189804165:=0
def tw15764716260256262857:=0
def tw15372382587267783650:=0
def tw6079470855038419859:=0
def tw18421476557652686633:=0
def tw6487031836779137183:=0
def tw17132189325120733398:=0
def tw17473423461994279910:=0
def tw11058255088988269148:=0
def tw3409947891948337123:=0
def tw10349374090708596291:=0
def tw8291242113066716329:=0
def tw114712940602759001:=0
def tw8968884533598091789:=0
def tw18366950104893539555:=0
def tw12682247194314837620:=0
def tw16250919756798342372:=0
def tw15327776795773987787:=0
def tw565008007810596191:=0
def tw5218301286603176018:=0
def tw7561084756776747410:=0
def tw12796943089099685320:=0
def tw14501500663797841023:=0
def tw1993675861696238755:=0
def tw15869126094622776803:=0
def tw13814062554042685672:=0
def tw10135102017099293367:=0
def tw14779371627877041409:=0
def tw6357060687944508103:=0
def tw13930314558301668932:=0
def tw5331530384932032392:=0
def tw1904452108261537297:=0
def tw12386896041354357151:=0
def tw16290294001299189770:=0
def tw17642939379845447754:=0
def tw14699369213751107240:=0
def tw3263191165348495479:=0
def tw4131325455694500912:=0
def tw16314876191457537284:=0
def tw248542466144247485:=0
def tw12969522295354824938:=0
def tw16635553109304278429:=0
def tw15480629622392166576:=0
def tw3832723983306323680:=0
def tw8622785218827820617:=0
def tw2955286053697562107:=0
def tw3293683406689155922:=0
def tw1458930324184209834:=0
def tw16552836723395488913:=0
def tw4674633955501916651:=0
def tw9210200717931730714:=0
def tw16443066067514850918:=0
def tw1258458848297147791:=0
def tw4298904571661314200:=0
def tw4375867154491355771:=0
def tw14815419050977962904:=0
def tw16903986794793164342:=0
def tw13377525042431417527:=0
def tw16541820582809263558:=0
def tw3878394188466693275:=0
def tw9867286278026508964:=0
def tw9394483968308275160:=0
def tw5359446534851217632:=0
def tw13173914190022305607:=0
def tw5691989423705802560:=0
def tw11404834037171063521:=0
def tw2067890258418007998:=0
def tw8159111541495003428:=0
def tw18343089007036982773:=0
def tw7742766247297342142:=0
def tw15290012204384431538:=0
def tw10483292247135341018:=0
def tw2352820144633342664:=0
def tw15740600241058198074:=0
def tw9740604616418657780:=0
def tw9219956496253059082:=0
def tw7275774187204720993:=0
def tw25533127857911803:=0
def tw10210846640137532879:=0
def tw3860055216442909664:=0
def tw2726787522792512773:=0
def tw1056538262927151860:=0
def tw14952000786443517969:=0
def tw3686063605574329836:=0
def tw17907777556842079401:=0
def tw933812700305093597:=0
def tw14022700839918181258:=0
def tw16507814816376020890:=0
def tw1518931928900934971:=0
def tw9130101579844213900:=0
def tw366838434717572982:=0
def tw4116044680198741653:=0
def tw7657362614758413067:=0
def tw14062638350220352382:=0
def tw2593533031794192359:=0
def tw6041044358201843423:=0
def tw9833851145266171338:=0
def tw2511115689606265819:=0
def tw6043852248139800028:=0
def tw16852891052482414606:=0
def tw11158029620992865048:=0
def tw11762070276217412219:=0
def tw8709935829333225711:=0
def tw3622991209165961799:=0
def tw7740158990947997433:=0
def tw13354527435734636598:=0
def tw17391187857024431831:=0
def tw915632310427468378:=0
def tw4556443224381307063:=0
def tw5535986287913619930:=0
def tw10836182586891263712:=0
def tw483498798696075781:=0
def tw10587027396076851784:=0
def tw3399228996404058596:=0
def tw15984215719299628744:=0
def tw17931253462574742764:=0
def tw1887513401358753705:=0
def tw341334454122659735:=0
def tw9243165228275896067:=0
def tw7758749359838099011:=0
def tw14974215240080234711:=0
def tw821151193358165330:=0
def tw9322008506413961091:=0
def tw12811967420011298736:=0
def tw8439099713181566841:=0
def tw8818876370974363663:=0
def tw1611030117334700238:=0
def tw8034926713799269979:=0
def tw16127973356052126497:=0
def tw11026013744943054752:=0
def tw16909503826095594580:=0
def tw1944541439457621366:=0
def tw9806900361076122870:=0
def tw12061355892239965810:=0
def tw10186956400056358860:=0
def tw8743560205156792224:=0
def tw15150905856637379746:=0
def tw1038711865108188740:=0
def tw18109272734757289620:=0
def tw7916949403126327008:=0
def tw8260939963430058660:=0
def tw8561695271626014221:=0
def tw5271391986138022756:=0
def tw8400347385103221258:=0
def tw11083641117131535088:=0
def tw15906443029024895833:=0
def tw1079263326265919133:=0
def tw9906147571699013609:=0
def tw648682247496002119:=0
def tw9967498266712095828:=0
def tw18184607056053152002:=0
def tw11813834463081790762:=0
def tw2094790154686030089:=0
def tw8208594600161480323:=0
def tw1106648938554197569:=0
def tw14078350119983160437:=0
def tw12185152063439299444:=0
def tw9889629615479604094:=0
def tw6922636850920663155:=0
def tw17512406719220646147:=0
def tw16311899582610274962:=0
def tw8856365473026649291:=0
def tw7569335400853835890:=0
def tw710192135204127168:=0
def tw3927938068449262129:=0
def tw17218955940198114858:=0
def tw17044692885018370012:=0
def tw15415724923650460204:=0
def tw11900136795628414258:=0
def tw10720147330667684613:=0
def tw10417344665712728800:=0
def tw5495581352791744775:=0
def tw513201413941659720:=0
def tw11398415082885257650:=0
def tw15461699508311588258:=0
def tw14132244704848280431:=0
def tw167955987403634733:=0
def tw12540639276692577031:=0
def tw17723489189120330217:=0
def tw3989735453533761393:=0
def tw15936614064033411522:=0
def tw15911099308749119695:=0
def tw14099495513140046382:=0
def tw10355008668493453620:=0
def tw9181671456789474804:=0
def tw16374033005080979086:=0
def tw9317112777637494319:=0
def tw6411234182294828597:=0
def tw2815877173648104386:=0
def tw1397179147434186197:=0
def tw9705497630407012413:=0
def tw11564175041735983259:=0
def tw14132790266690028644:=0
def tw1586630816444195323:=0
def tw2222250463920530836:=0
def tw17237664055766526549:=0
def tw10331940398707072617:=0
def tw3046750104362914750:=0
def tw12555193382883681507:=0
def tw7305280726957122220:=0
def tw8487155847282256374:=0
def tw3708420308550228331:=0
def tw11754708478335416046:=0
def tw7276215910258788058:=0
def tw609984859082717210:=0
def tw15251819539516884309:=0
def tw11883388988558242010:=0
def tw8769667830574057311:=0
def tw1935557321107520470:=0
def tw1581094960586387416:=0
def tw2163976930764883274:=0
def tw14258333601207852800:=0
def tw13607281235375999985:=0
def tw2439194581129970714:=0
def tw13552127606873431990:=0
def tw9752424542607772582:=0
def tw5086719979924420468:=0
def tw4575612761508582452:=0
def tw15562870044581067155:=0
def tw13245322787073516597:=0
def tw8979743811976612319:=0
def tw13094429412606084162:=0
def tw17425725955599294366:=0
def tw16929220277477062137:=0
def tw16792440462435069940:=0
def tw16568959175455451666:=0
def tw2519816250146822035:=0
def tw9167940977746553574:=0
def tw1539035078105891269:=0
def tw3274499030524840293:=0
def tw3863194017985464833:=0
def tw13117175021382452588:=0
def tw7707728392321619734:=0
def tw7732004628553168835:=0
def tw13391985156449968665:=0
def tw11300217355717629688:=0
def tw3621668595246754488:=0
def tw18161355965623490996:=0
def tw6393605867873062616:=0
def tw6064000814261640845:=0
def tw12572221025260969449:=0
def tw3176893756851905884:=0
def tw13809114550638149019:=0
def tw2868968759851826671:=0
def tw15185782623463313006:=0
end PySem.W.Fast
open PySem PySem.W PyProof.Rows
set_option maxRecDepth 100000 in
set_option maxHeartbeats 0 in
theorem PySem.Challenge.cw_riverdue_k28_each_refusal_alone_holds : PySem.Challenge.rw_riverdue_k28_each_refusal_alone.Holds := by
 w_on; o_law; o_head (PySem.W.kHook L2.Rv.KQ L2.Rv.KQa (fun _ => by kernel_rfl)); (case hw => w_witness2)
 refine L2.Rv.walk (l := PySem.Challenge.rw_riverdue_k28_each_refusal_alone) (K := L2.Rv.KD L2.Rv.KQ 222) (tb := 222) rfl rfl (fun w h Y => ⟨L2.Rv.KD_in (PySem.W.kIn_of Y), PySem.W.kIn_of Y 222 _ (by kernel_rfl)⟩) (fun w => L2.Rv.KD_none) ?F
 case F => exact fun w mg fa h KX G hmg => L2.Rv.all_mk KX G hmg L2.Rv.law_true
