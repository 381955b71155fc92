import PyProof.Rows.All
import Wide.All
import OpenK.AllK
import Wide.FinOn
import PyProof.EqAt
import PyProof.EqKinds
import PyProof.TupleCall
import Lean
import PySem.Challenge.RW_strongboxes_k41_claims_that_cover
set_option Elab.async false
set_option linter.all false
set_option maxRecDepth 100000
set_option maxHeartbeats 4000000
def PySem.W.Fast.tw16018177942494188584:Nat:=0
def PySem.W.Fast.tw9667805264995996333:Nat:=0
def PySem.W.Fast.tw1034158649908689762:Nat:=0
def PySem.W.Fast.tw10082392750380514065:Nat:=0
def PySem.W.Fast.tw7394767668546971293:Nat:=0
def PySem.W.Fast.tw460045466360818549:Nat:=0
def PySem.W.Fast.tw15573453846125125317:Nat:=0
def PySem.W.Fast.tw13010242764952075412:Nat:=0
def PySem.W.Fast.tw10661077536626496083:Nat:=0
def PySem.W.Fast.tw11724247767027127796:Nat:=0
def PySem.W.Fast.tw12333230482470693489:Nat:=0
def PySem.W.Fast.tw9209110444278688068:Nat:=0
def PySem.W.Fast.tw12958709726504359691:Nat:=0
def PySem.W.Fast.tw13203194265227155532:Nat:=0
def PySem.W.Fast.tw9774698930638161917:Nat:=0
def PySem.W.Fast.tw5926359197224702302:Nat:=0
def PySem.W.Fast.tw80278856285750628:Nat:=0
def PySem.W.Fast.tw2048355515357948732:Nat:=0
def PySem.W.Fast.tw16927819861012531608:Nat:=0
def PySem.W.Fast.tw17377107882977955776:Nat:=0
def PySem.W.Fast.tw1677849109448384764:Nat:=0
def PySem.W.Fast.tw3932056403724278102:Nat:=0
def PySem.W.Fast.tw6313695008229174009:Nat:=0
def PySem.W.Fast.tw832229320613350236:Nat:=0
def PySem.W.Fast.tw17780686079993520267:Nat:=0
def PySem.W.Fast.tw11877959445794264156:Nat:=0
def PySem.W.Fast.tw10568383354206744206:Nat:=0
def PySem.W.Fast.tw13678041044369109642:Nat:=0
def PySem.W.Fast.tw12970779094749192924:Nat:=0
def PySem.W.Fast.tw2374904439707375201:Nat:=0
def PySem.W.Fast.tw10689901791133648251:Nat:=0
def PySem.W.Fast.tw2360002545361732933:Nat:=0
def PySem.W.Fast.tw12647821727873972171:Nat:=0
def PySem.W.Fast.tw13917063756878142480:Nat:=0
def PySem.W.Fast.tw9523279079252360597:Nat:=0
def PySem.W.Fast.tw6548498282224387275:Nat:=0
def PySem.W.Fast.tw16916721938501517816:Nat:=0
def PySem.W.Fast.tw5083400101893376660:Nat:=0
def PySem.W.Fast.tw4332730592820818351:Nat:=0
def PySem.W.Fast.tw6983221922143035454:Nat:=0
def PySem.W.Fast.tw4531441731661568605:Nat:=0
def PySem.W.Fast.tw7126144423096450949:Nat:=0
def PySem.W.Fast.tw2509896042276811390:Nat:=0
def PySem.W.Fast.tw4021574245798078406:Nat:=0
def PySem.W.Fast.tw16443765737265102312:Nat:=0
def PySem.W.Fast.tw9596579901921840111:Nat:=0
def PySem.W.Fast.tw5713980579308226267:Nat:=0
def PySem.W.Fast.tw4616066680493904971:Nat:=0
def PySem.W.Fast.tw12887031902321260712:Nat:=0
def PySem.W.Fast.tw12470275800296241330:Nat:=0
def PySem.W.Fast.tw14501726960188328401:Nat:=0
def PySem.W.Fast.tw9866254387289786233:Nat:=0
def PySem.W.Fast.tw4484313725456564127:Nat:=0
def PySem.W.Fast.tw12198581713260341406:Nat:=0
def PySem.W.Fast.tw9295317328651684392:Nat:=0
def PySem.W.Fast.tw379678345625339812:Nat:=0
def PySem.W.Fast.tw9105156724577741154:Nat:=0
def PySem.W.Fast.tw8002500687052529044:Nat:=0
def PySem.W.Fast.tw7338163172197787736:Nat:=0
def PySem.W.Fast.tw6628513986439450748:Nat:=0
def PySem.W.Fast.tw4689118118196423893:Nat:=0
def PySem.W.Fast.tw3854183915004211648:Nat:=0
def PySem.W.Fast.tw1987183722176016349:Nat:=0
def PySem.W.Fast.tw16384292723892691690:Nat:=0
def PySem.W.Fast.tw13341080911234492939:Nat:=0
def PySem.W.Fast.tw6842392172921355747:Nat:=0
def PySem.W.Fast.tw5955713330297456047:Nat:=0
def PySem.W.Fast.tw2646438003755545632:Nat:=0
def PySem.W.Fast.tw462737219736569152:Nat:=0
def PySem.W.Fast.tw4101833159427510278:Nat:=0
def PySem.W.Fast.tw18136936576069101325:Nat:=0
def PySem.W.Fast.tw1737554071577270505:Nat:=0
def PySem.W.Fast.tw15348791433666584963:Nat:=0
def PySem.W.Fast.tw1503480597536140886:Nat:=0
namespace L2
open PySem PySem.Spec PyProof.Rows
abbrev Key:=Sum Int Str
def OY:Key->Value->Bool
  | .inl k,v=>Value.isInt k v
  | .inr x,v=>Value.isStrOf x v
def SI (w:World):Key->Int
  | .inl k=>hashInt k
  | .inr x=>hashStr w x
theorem Am:∀ {k:Key} {v:Value},OY k v=true->(∃ i t,k=Sum.inl i /\ v=Value.int i t) ∨ (∃ x t,k=Sum.inr x /\ v=Value.str x t)
  | .inl i,v,h=>by
    obtain ⟨t,e⟩:=Value.isInt_shape (k:=i) (v:=v) h
    exact .inl ⟨i,t,rfl,e⟩
  | .inr x,v,h=>by
    obtain ⟨t,e⟩:=Value.isStrOf_shape (x:=x) (v:=v) h
    exact .inr ⟨x,t,rfl,e⟩
theorem QH (a b:Int):decide ((Sum.inl a:Key)=Sum.inl b)=(a == b):=by
  by_cases e:a=b
  . subst e; simp
  . have h : ¬ (Sum.inl a:Key)=Sum.inl b:=fun q=>e (Sum.inl.inj q)
    rw [decide_eq_false h]
    exact (beq_eq_false_iff_ne.mpr e).symm
theorem QE (a b:Str):decide ((Sum.inr a:Key)=Sum.inr b)=decide (a=b):=by
  by_cases e:a=b
  . subst e; simp
  . have h : ¬ (Sum.inr a:Key)=Sum.inr b:=fun q=>e (Sum.inr.inj q)
    rw [decide_eq_false h,decide_eq_false e]
theorem QG (a:Int) (b:Str):decide ((Sum.inl a:Key)=Sum.inr b)=false:=decide_eq_false (fun q=>nomatch q)
theorem QF (a:Str) (b:Int):decide ((Sum.inr a:Key)=Sum.inl b)=false:=decide_eq_false (fun q=>nomatch q)
def JZ (prog:Program) (w:World):PySem.KeyKind prog w Key where
  is:=OY
  hash:=SI w
  inj:=fun v a b ha hb=>by
    rcases Am ha with ⟨i,t,rfl,rfl⟩ | ⟨x,t,rfl,rfl⟩
    . rcases Am hb with ⟨j,u,rfl,e⟩ | ⟨y,u,rfl,e⟩
      . injection e with e1 _; rw [e1]
      . exact nomatch e
    . rcases Am hb with ⟨j,u,rfl,e⟩ | ⟨y,u,rfl,e⟩
      . exact nomatch e
      . injection e with e1 _; rw [e1]
  byValue:=fun k v h=>by
    rcases Am h with ⟨i,t,rfl,rfl⟩ | ⟨x,t,rfl,rfl⟩ <;> rfl
  pyHash:=fun hv h=>by
    rcases Am hv with ⟨i,t,rfl,rfl⟩ | ⟨x,t,rfl,rfl⟩
    . exact wpAny_pyHash_int h
    . exact wpAny_pyHash_str h
  eqBool:=fun hu hv h=>by
    rcases Am hu with ⟨i,t,rfl,rfl⟩ | ⟨x,t,rfl,rfl⟩
    . rcases Am hv with ⟨j,u,rfl,rfl⟩ | ⟨y,u,rfl,rfl⟩
      . rw [QH] at h; exact wpAny_eqBool_int h
      . rw [QG] at h; exact SeqAt.EqAt.int_str i t y u _ _ _ _ h
    . rcases Am hv with ⟨j,u,rfl,rfl⟩ | ⟨y,u,rfl,rfl⟩
      . rw [QF] at h; exact SeqAt.EqAt.str_int x t j u _ _ _ _ h
      . rw [QE] at h; exact wpAny_eqBool_str h
  «strs»:=fun k x t v h=>by
    rcases Am h with ⟨i,u,rfl,e⟩ | ⟨y,u,rfl,e⟩
    . exact nomatch e
    . injection e with e1 _
      subst e1
      cases v <;> rfl
end L2
namespace L2
open PySem PySem.Spec PyProof.Rows
inductive V where
  | non | bl (b:Bool) | int (i:Int) | str (x:Str) | byt (b:Array UInt8) | flt (b:UInt64) | ref (a:Addr) | ty (n:String)
  deriving DecidableEq
def RelV:V->Value->Prop
  | .non,u=>u=Value.none
  | .bl b,u=>u=Value.bool b
  | .int i,u=>∃ t,u=Value.int i t
  | .str x,u=>∃ t,u=Value.str x t
  | .byt b,u=>∃ t,u=Value.bytes b t
  | .flt b,u=>∃ t,u=Value.float b t
  | .ref a,u=>u=Value.ref a
  | .ty n,u=>u=Value.type n
abbrev Vals:List V->List Value->Prop:=Paired RelV
theorem Vals.length {xs:List V} {us:List Value} (r:Vals xs us):xs.length=us.length:=Paired.length r
theorem Vals.get:∀ {xs:List V} {us:List Value} {i:Nat} {x:V},Vals xs us->xs[i]? = some x->∃ u,us[i]? = some u /\ RelV x u
  | _,_,_,_,.nil,e=>by simp at e
  | _,_,0,_,.cons r _,e=>by simp at e; subst e; exact ⟨_,rfl,r⟩
  | _,_,i + 1,x,.cons _ t,e=>by
    obtain ⟨u,h1,h2⟩:=Vals.get (i:=i) (x:=x) t (by simpa using e)
    exact ⟨u,by simpa using h1,h2⟩
theorem Vals.append:∀ {xs ys:List V} {us ws:List Value},Vals xs us->Vals ys ws->Vals (xs ++ ys) (us ++ ws)
  | _,_,_,_,.nil,s=>s
  | _,_,_,_,.cons r t,s=>.cons r (Vals.append t s)
theorem Vals.take:∀ {xs:List V} {us:List Value} (n:Nat),Vals xs us->Vals (xs.take n) (us.take n)
  | _,_,0,_=>.nil
  | _,_,_ + 1,.nil=>.nil
  | _,_,n + 1,.cons r t=>.cons r (Vals.take n t)
theorem Vals.drop:∀ {xs:List V} {us:List Value} (n:Nat),Vals xs us->Vals (xs.drop n) (us.drop n)
  | _,_,0,r=>r
  | _,_,_ + 1,.nil=>.nil
  | _,_,n + 1,.cons _ t=>Vals.drop n t
def Qa:Option V->Option Value->Prop
  | some v,some u=>RelV v u
  | none,none=>True
  | _,_=>False
def KV {κ:Type}:List (κ × V)->List (κ × Value)->Prop:=Paired fun (p:κ × V) (q:κ × Value)=>p.1=q.1 /\ RelV p.2 q.2
def kV:Key->V
  | .inl i=>.int i
  | .inr x=>.str x
inductive HO where
  | lst (xs:List V)
  | tup (xs:List V)
  | dK (kvs:List (Key × V)) | dT (kvs:List (List Key × V))
  | set (S:Int->Bool) (n:Nat)
  | ins (C dx:Addr) (fs:List (Str × V))
  | own (x:Addr)
  | xd (fs:List (Str × V))
  | met (f x:Addr)
  | rng (lo hi:Int)
  | frz (o:Obj) (u:HO)
  | tbl (ps:Array Value)
  | ext (φ:Heap->Prop)
abbrev Hp:=Addr->Option HO
def upd (H:Hp) (a:Addr) (o:HO):Hp:=fun b=>if b=a then some o else H b
theorem AW {H:Hp} {a:Addr} {o:HO}:upd H a o a=some o:=by unfold upd; rw [if_pos rfl]
theorem AU {H:Hp} {a b:Addr} {o:HO} (h:b ≠ a):upd H a o b=H b:=by unfold upd; rw [if_neg h]
theorem BJ {H:Hp} {a b:Addr} {o:HO} (h:H a=some o) (h':H b=none):a ≠ b:=by
  intro e; subst e; rw [h] at h'; cases h'
section
variable (P:Program) (w:World)
def ObjOk (H:Hp) (h:Heap) (a:Addr):HO->Prop
  | .lst xs=>xs.length <= sizeLine /\ ∃ (its:List Value) (n:Nat),Vals xs its /\ h.get? a=some { cls:=.type "list",data:=.seq its.toArray n }
  | .tup xs=>xs.length <= sizeLine /\ ∃ its:List Value,Vals xs its /\ IsTup h a its.toArray
  | .dK kvs=>kvs.length <= sizeLine /\ (a == sysModules)=false /\ ∃ vs,KV kvs vs /\ h.DictOf (JZ P w) a vs
  | .dT kvs=>kvs.length <= sizeLine /\ (a == sysModules)=false /\ ∃ xs:List (List Key × Addr × Value),
      Paired (fun (p:List Key × V) (q:List Key × Addr × Value)=>p.1=q.1 /\ H q.2.1=some (.tup (p.1.map kV)) /\ RelV p.2 q.2.2) kvs xs /\
      ∃ o es ep,h.get? a=some o /\ o.ExactDict /\ o.data=.dict es ep /\ es.toList=xs.map (entryOfKey (tupleKind (JZ P w))) /\ (xs.map (·.1)).Nodup
  | .set S n=>h.SetOf (intKind P w) a S n
  | .ins C dx fs=>H dx=some (.own a) /\ fs.length <= 1000 /\ dx ≠ a /\ h.get? a=some (PySem.W.instObj C dx) /\
      ∃ mA,h.Ns1 dx mA /\ (∀ f,Qa (fs.lookup f) (mA f)) /\ PySem.Within mA (fs.map (·.1))
  | .own _=>∃ o,h.get? a=some o
  | .xd fs=>∃ mA,h.Ns1 a mA /\ ∀ f,Qa (fs.lookup f) (mA f)
  | .rng lo hi=>∃ t u v,h.get? a=some { cls:=.type "range",data:=.fields #[.int lo t,.int hi u,.int 1 v] }
  | .frz o u=>h.get? a=some o /\ ObjOk H h a u
  | .tbl ps=>h.get? a=some { cls:=.none,data:=.fields ps }
  | .met f x=>h.get? a=some (PySem.W.methodObj (.ref f) (.ref x))
  | .ext φ=>φ h /\ (∃ o,h.get? a=some o) /\ ∀ h1 h2:Heap,φ h1->(∀ o,h1.get? a=some o->h2.get? a=some o)->φ h2
def HOk (H:Hp) (h:Heap):Prop:=∀ a o,H a=some o->ObjOk P w H h a o
end
section
variable {P:Program} {w:World} {H H':Hp} {h h':Heap} {a:Addr} {o:HO}
theorem ObjOk.lt (x:ObjOk P w H h a o):a < h.objs.size:=by
  cases o with
  | lst xs=>obtain ⟨_,_,_,_,e⟩:=x; exact Heap.lt_size e
  | tup xs=>obtain ⟨_,_,_,p⟩:=x; exact p.lt
  | dK kvs=>obtain ⟨_,_,_,_,o,_,_,e,_⟩:=x; exact Heap.lt_size e
  | dT kvs=>obtain ⟨_,_,_,_,o,_,_,e,_⟩:=x; exact Heap.lt_size e
  | set S n=>obtain ⟨o,_,_,_,e,_⟩:=x; exact Heap.lt_size e
  | ins C dx fs=>obtain ⟨_,_,_,e,_⟩:=x; exact Heap.lt_size e
  | own y=>obtain ⟨_,e⟩:=x; exact Heap.lt_size e
  | xd fs=>obtain ⟨_,⟨_,_,_,e,_⟩,_⟩:=x; exact Heap.lt_size e
  | rng lo hi=>obtain ⟨_,_,_,e⟩:=x; exact Heap.lt_size e
  | frz ob u=>obtain ⟨e,_⟩:=x; exact Heap.lt_size e
  | tbl ps=>exact Heap.lt_size (show h.get? a=some _ from x)
  | met f y=>exact Heap.lt_size (show h.get? a=some _ from x)
  | ext φ=>obtain ⟨_,⟨_,e⟩,_⟩:=x; exact Heap.lt_size e
theorem Paired.mapP {α β:Type} {F G:α->β->Prop}:∀ {l₁:List α} {l₂:List β},Paired F l₁ l₂->(∀ a b,F a b->G a b)->Paired G l₁ l₂
  | _,_,.nil,_=>.nil
  | _,_,.cons r t,f=>.cons (f _ _ r) (Paired.mapP t f)
theorem ObjOk.stay (x:ObjOk P w H h a o) (k:∀ b u,(b=a ∨ H b=some (.own a))->h.get? b=some u->h'.get? b=some u)
    (ho:∀ b,H b=some (.own a)->H' b=some (.own a)) (ht:∀ b xs,H b=some (.tup xs)->H' b=some (.tup xs)):ObjOk P w H' h' a o:=by
  induction o with
  | lst xs=>obtain ⟨z,its,n,r,e⟩:=x; exact ⟨z,its,n,r,k _ _ (.inl rfl) e⟩
  | tup xs=>obtain ⟨z,its,r,ob,e,c⟩:=x; exact ⟨z,its,r,ob,k _ _ (.inl rfl) e,c⟩
  | dK kvs=>obtain ⟨z,y,vs,r,ob,es,ep,e,c⟩:=x; exact ⟨z,y,vs,r,ob,es,ep,k _ _ (.inl rfl) e,c⟩
  | dT kvs=>
    obtain ⟨z,y,xs,r,ob,es,ep,e,c⟩:=x
    exact ⟨z,y,xs,Paired.mapP r fun p q z=>⟨z.1,ht _ _ z.2.1,z.2.2⟩,ob,es,ep,k _ _ (.inl rfl) e,c⟩
  | set S n=>obtain ⟨ob,es,ep,t,e,c⟩:=x; exact ⟨ob,es,ep,t,k _ _ (.inl rfl) e,c⟩
  | ins C dx fs=>
    obtain ⟨d,z,ne,e,mA,⟨od,es,ep,e2,c⟩,r⟩:=x
    exact ⟨ho _ d,z,ne,k _ _ (.inl rfl) e,mA,⟨od,es,ep,k _ _ (.inr d) e2,c⟩,r⟩
  | own y=>obtain ⟨ob,e⟩:=x; exact ⟨ob,k _ _ (.inl rfl) e⟩
  | xd fs=>obtain ⟨mA,⟨od,es,ep,e,c⟩,r⟩:=x; exact ⟨mA,⟨od,es,ep,k _ _ (.inl rfl) e,c⟩,r⟩
  | rng lo hi=>obtain ⟨t,u,v,e⟩:=x; exact ⟨t,u,v,k _ _ (.inl rfl) e⟩
  | frz ob u ih=>obtain ⟨e,q⟩:=x; exact ⟨k _ _ (.inl rfl) e,ih q⟩
  | tbl ps=>
    have e:h.get? a=some { cls:=.none,data:=.fields ps }:=x
    show h'.get? a=some { cls:=.none,data:=.fields ps }
    exact k a _ (.inl rfl) e
  | met f y=>
    have e:h.get? a=some (PySem.W.methodObj (.ref f) (.ref y)):=x
    show h'.get? a=some (PySem.W.methodObj (.ref f) (.ref y))
    exact k a _ (.inl rfl) e
  | ext φ=>obtain ⟨p,⟨o,e⟩,st⟩:=x; exact ⟨st _ _ p fun o q=>k _ _ (.inl rfl) q,⟨o,k _ _ (.inl rfl) e⟩,st⟩
theorem HOk.lt (x:HOk P w H h) (e:H a=some o):a < h.objs.size:=(x a o e).lt
theorem HOk.fresh (x:HOk P w H h) (e:h.objs.size <= a):H a=none:=by
  cases q:H a with
  | none=>rfl
  | some u=>exact absurd (Nat.lt_of_lt_of_le (x.lt q) e) (Nat.lt_irrefl _)
theorem HOk.kept (x:HOk P w H h) (k:∀ b u,h.get? b=some u->h'.get? b=some u):HOk P w H h':=fun a o e=>
  (x a o e).stay (fun b u _ q=>k b u q) (fun _ q=>q) fun _ _ q=>q
theorem HOk.laid (x:HOk P w H h) (k:∀ b u,h.get? b=some u->h'.get? b=some u) (hp:h.objs.size <= a) (new:ObjOk P w (upd H a o) h' a o):HOk P w (upd H a o) h':=fun b u e=>by
  have hn:=x.fresh hp
  by_cases hb:b=a
  . subst hb; rw [AW] at e; cases e; exact new
  . rw [AU hb] at e
    exact (x b u e).stay (fun c v _ q=>k c v q) (fun c q=>by rw [AU (BJ q hn)]; exact q) fun c xs q=>by rw [AU (BJ q hn)]; exact q
end
def Rd (H:Hp) (a:Addr) (u:HO):Prop:=H a=some u ∨ ∃ o,H a=some (.frz o u)
theorem Rd.ok {P:Program} {w:World} {H:Hp} {h:Heap} {a:Addr} {u:HO} (r:Rd H a u) (x:HOk P w H h):ObjOk P w H h a u:=by
  rcases r with r | ⟨o,r⟩
  . exact x a u r
  . obtain ⟨_,q⟩:=x a _ r
    exact q
def Mut:Option HO->Prop
  | some (.lst _)=>True
  | some (.dK _)=>True
  | some (.dT _)=>True
  | some (.set _ _)=>True
  | some (.ins _ _ _)=>True
  | some (.ext _)=>True
  | _=>False
section
variable {P:Program} {w:World} {H:Hp} {h h':Heap} {x e:Addr} {o':HO}
theorem HOk.write (ok:HOk P w H h) (mu:Mut (H x)) (he:e=x ∨ H e=some (.own x)) (k:∀ b u,b ≠ e->h.get? b=some u->h'.get? b=some u) (heo:∃ u,h'.get? e=some u)
    (new:ObjOk P w (upd H x o') h' x o'):HOk P w (upd H x o') h':=fun b u q=>by
  have nown:∀ c y,H c=some (.own y)->c ≠ x:=fun c y r z=>by subst z; rw [r] at mu; exact mu
  have ntup:∀ c xs,H c=some (.tup xs)->c ≠ x:=fun c xs r z=>by subst z; rw [r] at mu; exact mu
  by_cases hb:b=x
  . subst hb; rw [AW] at q; cases q; exact new
  . rw [AU hb] at q
    by_cases hbe:b=e
    . have q':H b=some (.own x):=by
        rcases he with z | z
        . exact absurd (hbe.trans z) hb
        . rw [hbe]; exact z
      rw [q] at q'; cases q'
      obtain ⟨v,hv⟩:=heo
      exact ⟨v,by rw [hbe]; exact hv⟩
    . refine (ok b u q).stay (fun c v hc r=>k c v ?_ r) (fun c r=>by rw [AU (nown c b r)]; exact r) fun c xs r=>by rw [AU (ntup c xs r)]; exact r
      rcases hc with rfl | hc
      . exact hbe
      . rintro rfl
        rcases he with z | z
        . exact nown c b hc z
        . rw [hc] at z; cases z; exact hb rfl
end
structure Un (fs ex:List Addr) (H H':Hp) (h h':Heap):Prop where
  keep:∀ b o,h.get? b=some o->H b=none->b ∉ fs->b ∉ ex->h'.get? b=some o
  slot:∀ b o,h.get? b=some o->H b=none->b ∈ fs->b ∉ ex->∃ sl,h'.get? b=some { o with slots:=sl }
  free:∀ b o,h.get? b=some o->H b=none->b ∉ ex->H' b=none
  there:∀ b o,h.get? b=some o->b ∉ ex->∃ o',h'.get? b=some o'
  tups:∀ b xs,H b=some (.tup xs)->H' b=some (.tup xs)
  frzs:∀ b o u,H b=some (.frz o u)->H' b=some (.frz o u)
  tbls:∀ b ps,H b=some (.tbl ps)->∃ more,H' b=some (.tbl (ps ++ more))
section
variable {fs fs' ex ex':List Addr} {H H1 H2:Hp} {h h1 h2 h':Heap} {a x e:Addr} {o:HO}
theorem Un.any (u:Un fs ex H H1 h h1) {b:Addr} {ob:Obj} (q:h.get? b=some ob) (n:H b=none) (hx:b ∉ ex):∃ sl,h1.get? b=some { ob with slots:=sl }:=by
  by_cases hb:b ∈ fs
  . exact u.slot b ob q n hb hx
  . exact ⟨ob.slots,u.keep b ob q n hb hx⟩
theorem Un.kept (k:∀ b u,h.get? b=some u->h'.get? b=some u):Un fs ex H H h h':=
  ⟨fun b ob q _ _ _=>k b ob q,fun b ob q _ _ _=>⟨ob.slots,k b ob q⟩,fun _ _ _ n _=>n,fun b ob q _=>⟨ob,k b ob q⟩,fun _ _ q=>q,fun _ _ _ q=>q,fun _ ps q=>⟨#[],by rw [q]; simp⟩⟩
theorem Un.refl:Un fs ex H H h h:=Un.kept fun _ _ q=>q
theorem Un.laid (k:∀ b u,h.get? b=some u->h'.get? b=some u) (hp:h.objs.size <= a) (hn:H a=none):Un fs ex H (upd H a o) h h' where
  keep:=fun b u q _ _ _=>k b u q
  slot:=fun b u q _ _ _=>⟨u.slots,k b u q⟩
  free:=fun b u q n _=>by rw [AU (Nat.ne_of_lt (Nat.lt_of_lt_of_le (Heap.lt_size q) hp))]; exact n
  there:=fun b u q _=>⟨u,k b u q⟩
  tups:=fun b xs q=>by rw [AU (BJ q hn)]; exact q
  frzs:=fun b u xs q=>by rw [AU (BJ q hn)]; exact q
  tbls:=fun b ps q=>⟨#[],by rw [AU (BJ q hn),q]; simp⟩
theorem Un.write (mu:Mut (H x)) (he:e=x ∨ H e=some (.own x)) (k:∀ b u,b ≠ e->h.get? b=some u->h'.get? b=some u) (heo:∃ u,h'.get? e=some u):Un fs ex H (upd H x o) h h':=by
  have hx:∀ b,H b=none->b ≠ x:=fun b n z=>by subst z; rw [n] at mu; exact mu
  have hb:∀ b,H b=none->b ≠ e:=fun b n z=>by
    subst z
    rcases he with r | r
    . exact hx b n r
    . rw [n] at r; cases r
  have hm:∀ b u,H b=some u->¬ Mut (some u)->b ≠ x:=fun b u q nm z=>by subst z; rw [q] at mu; exact nm mu
  refine ⟨fun b u q n _ _=>k b u (hb b n) q,fun b u q n _ _=>⟨u.slots,k b u (hb b n) q⟩,fun b u q n _=>by rw [AU (hx b n)]; exact n,fun b u q _=>?_,
    fun b xs q=>by rw [AU (hm b _ q fun z=>z)]; exact q,fun b u xs q=>by rw [AU (hm b _ q fun z=>z)]; exact q,fun b ps q=>⟨#[],by rw [AU (hm b _ q fun z=>z),q]; simp⟩⟩
  by_cases hbe:b=e
  . subst hbe; exact heo
  . exact ⟨u,k b u hbe q⟩
end
def trk (h:Heap) (H:Hp):List Addr:=(List.range h.objs.size).filter fun a=>(H a).isSome
def Gb (h:Heap) (H:Hp):Heap:=PySem.W.hideAll h (trk h H)
theorem Kk (h:Heap) (H:Hp):(Gb h H).objs.size=h.objs.size:=PySem.W.hideAll_size _ _
theorem MH {h:Heap} {H:Hp} {b:Addr} {o:Obj} (e:h.get? b=some o) (n:H b=none):(Gb h H).get? b=some o:=
  PySem.W.hideAll_get _ e fun hm=>by
    have q:(H b).isSome=true:=(List.mem_filter.mp hm).2
    rw [n] at q; simp at q
theorem Nw {h:Heap} {H:Hp} {b:Addr} {o:Obj} (e:(Gb h H).get? b=some o):h.get? b=some o /\ H b=none:=by
  have e':h.get? b=some o:=PySem.W.of_hideAll (trk h H) e
  refine ⟨e',?_⟩
  cases q:H b with
  | none=>rfl
  | some x=>
    have hm:b ∈ trk h H:=List.mem_filter.mpr ⟨List.mem_range.mpr (Heap.lt_size e'),by simp [q]⟩
    have z:(Gb h H).get? b=none:=PySem.W.hideAll_none (trk h H) hm
    rw [z] at e; cases e
end L2
namespace L2
open PySem PySem.Spec PyProof.Rows
structure Mod (K:PySem.W.Frag) (mg:Str->Option Value) (base:Heap):Prop where
  kin:K.In base
  glob:base.Ns mainGlobals mg
  blt:∃ mb,base.Ns builtinsNs mb /\ ∀ x:Str,x ≠ "__name__" -> mb x=bootBuiltins x
  nolimit:base.NoLimit
structure Cx where
  prog:Program
  w:World
  K:PySem.W.Frag
  mg:Str->Option Value
  base:Heap
  A:Around
  N:List Str
  s₀:Shared
  H₀:Hp
  env:Env
  outer:List Env
  stack:List Env
  ex:List Addr
  fn:Str->Bool
  calm:Bool
  pn:List (Addr × Obj)
  xe:Value->Shared->Prop
def frs (l:List Env):List Addr:=l.filterMap (·.frame)
abbrev Cx.fs (X:Cx):List Addr:=frs X.outer
def Vis (sc:Scope) (x:Str):Prop:=sc.names.lookup x=some .local ∨ sc.names.lookup x=some .cell ∨ sc.names.lookup x=some .free
def Loc (sc:Scope) (x:Str):Prop:=sc.names.lookup x=some .local ∨ sc.names.lookup x=some .cell
def SK (env:Env) (h:Heap) (m:Str->Option Value) (x:Str) (u:Value):Prop:=
  (env.kindOf x=some .local /\ m x=some u) ∨ ((env.kindOf x=some .cell ∨ env.kindOf x=some .free) /\ ∃ c,env.cells.lookup x=some c /\ h.IsCell c (some u))
structure Cx.Ok (X:Cx):Prop where
  mod:Mod X.K X.mg X.base
  kind:X.env.scope.kind=.function
  glob:X.env.globals=mainGlobals
  blt:X.env.builtins=builtinsNs
  above:X.s₀.heap.objs.size <= X.env.locals
  inj:∀ x y c,X.env.cells.lookup x=some c->X.env.cells.lookup y=some c->x=y
  has:∀ x,(X.env.kindOf x=some .cell ∨ X.env.kindOf x=some .free)->∃ c,X.env.cells.lookup x=some c
  cab:∀ x c,X.fn x=true->X.env.cells.lookup x=some c->X.s₀.heap.objs.size <= c
  hd:X.calm=true->X.A.handled=none
  frames:X.A.frames=some X.stack
  stk:X.stack=X.outer ∨ (X.stack=X.env :: X.outer /\ X.env.frame=some X.env.locals)
  exf:∀ b ∈ X.ex,b ≠ X.env.locals /\ ∀ x c,X.env.cells.lookup x=some c->c ≠ b
  bs:∀ b o,X.base.get? b=some o->X.s₀.heap.get? b=some o /\ X.H₀ b=none
  bsz:X.base.objs.size <= X.s₀.heap.objs.size
  noex:∀ b o,X.base.get? b=some o->b ∉ X.ex
  exfs:∀ b ∈ X.ex,b ∉ X.fs
  funs:X.s₀.heap.FunFrames X.base X.outer
  frf:∀ b ∈ X.fs,X.H₀ b=none
structure Inv (X:Cx) (pins:List (Addr × Obj)) (σ:List (Option V)) (H:Hp) (s:Shared):Prop where
  ok:X.Ok
  os:s.os=X.s₀.os
  bare:AllBare s.gens
  base:Un X.fs X.ex X.H₀ H X.s₀.heap s.heap
  loc:∃ m,s.heap.Ns X.env.locals m /\ ∀ (i:Nat) (x:Str) (v:V),X.N[i]? = some x->σ[i]? = some (some v)->Vis X.env.scope x->∃ u,RelV v u /\ SK X.env s.heap m x u
  cell:∀ x c,X.env.cells.lookup x=some c->∃ v,s.heap.IsCell c v
  free:H X.env.locals=none
  freeC:∀ x c,X.env.cells.lookup x=some c->H c=none
  pin:∀ p ∈ X.pn ++ pins,s.heap.get? p.1=some p.2 /\ H p.1=none /\ p.1 ≠ X.env.locals /\ p.1 ∉ X.fs /\ ∀ v,p.2.data ≠ .cell v
  hok:HOk X.prog X.w H s.heap
  len:σ.length=X.N.length
section
variable {X:Cx} {pins:List (Addr × Obj)} {σ:List (Option V)} {H H':Hp} {s:Shared} {h':Heap}
theorem Cx.Ok.nofr (ok:X.Ok) {b:Addr} {o:Obj} (e:X.base.get? b=some o):b ∉ X.fs:=fun hb=>by
  have:=(ok.funs.mem hb).1
  rw [e] at this; cases this
theorem Inv.bs (I:Inv X pins σ H s):∀ b o,X.base.get? b=some o->s.heap.get? b=some o /\ H b=none:=fun b o e=>
  ⟨I.base.keep b o (I.ok.bs b o e).1 (I.ok.bs b o e).2 (I.ok.nofr e) (I.ok.noex b o e),I.base.free b o (I.ok.bs b o e).1 (I.ok.bs b o e).2 (I.ok.noex b o e)⟩
theorem Inv.bk (I:Inv X pins σ H s):∀ b o,X.base.get? b=some o->s.heap.get? b=some o:=fun b o e=>(I.bs b o e).1
theorem Inv.mod (I:Inv X pins σ H s):Mod X.K X.mg X.base:=I.ok.mod
theorem Inv.kIn (I:Inv X pins σ H s):X.K.In s.heap:=I.ok.mod.kin.keeps I.bk
theorem Inv.fr (I:Inv X pins σ H s):∃ m,Fr X.base X.env.locals s.heap m:=
  let ⟨m,hn,_⟩:=I.loc
  ⟨m,hn,I.bk,Nat.le_trans I.ok.bsz I.ok.above⟩
theorem Inv.lt (I:Inv X pins σ H s):X.env.locals < s.heap.objs.size:=let ⟨_,hn,_⟩:=I.loc; hn.lt
theorem Inv.sz (I:Inv X pins σ H s):X.s₀.heap.objs.size <= s.heap.objs.size:=Nat.le_trans I.ok.above (Nat.le_of_lt I.lt)
theorem Inv.nofs (I:Inv X pins σ H s) {a:Addr} (h:s.heap.objs.size <= a):a ∉ X.fs:=fun hb=>by
  obtain ⟨_,o,ho,_⟩:=I.ok.funs.mem hb
  exact absurd (Nat.lt_of_lt_of_le (Heap.lt_size ho) (Nat.le_trans I.sz h)) (Nat.lt_irrefl _)
theorem Inv.cne (I:Inv X pins σ H s):∀ x c,X.env.cells.lookup x=some c->c ≠ X.env.locals:=fun x c e z=>by
  obtain ⟨v,o,ho,hd⟩:=I.cell x c e
  obtain ⟨m,⟨o',es,ep,ho',hd',_⟩,_⟩:=I.loc
  rw [z,ho'] at ho; cases ho; rw [hd'] at hd; cases hd
theorem Inv.funs (I:Inv X pins σ H s):s.heap.FunFrames X.base X.outer:=by
  have all:∀ (l:List Env),(∀ b ∈ frs l,b ∈ X.fs)->X.s₀.heap.FunFrames X.base l->s.heap.FunFrames X.base l:=by
    intro l
    induction l with
    | nil=>intro _ _; trivial
    | cons env r ih=>
      intro hs hl
      obtain ⟨hk,⟨L,o,hf,hn,ho,hd⟩,hr⟩:=hl
      have hL:L ∈ X.fs:=hs L (by unfold frs; rw [List.filterMap_cons,hf]; exact List.mem_cons_self)
      obtain ⟨sl,e⟩:=I.base.slot L o ho (I.ok.frf L hL) hL fun z=>I.ok.exfs L z hL
      exact ⟨hk,⟨L,_,hf,hn,e,hd⟩,ih (fun b hb=>hs b (by unfold frs; rw [List.filterMap_cons,hf]; exact List.mem_cons_of_mem _ hb)) hr⟩
  exact all X.outer (fun _ hb=>hb) I.ok.funs
theorem Inv.stack (I:Inv X pins σ H s):s.heap.FunFrames X.base X.stack:=by
  rcases I.ok.stk with e | ⟨e,hf⟩
  . rw [e]; exact I.funs
  . rw [e]
    obtain ⟨m,hn,_⟩:=I.loc
    refine .cons (by rw [I.ok.kind]; decide) hf hn ?_ I.funs
    exact Heap.get?_none_of_le (Nat.le_trans I.ok.bsz I.ok.above)
theorem Inv.stkSub (I:Inv X pins σ H s):∀ b ∈ frs X.stack,b ∈ X.env.locals :: X.fs:=fun b hb=>by
  rcases I.ok.stk with e | ⟨e,hf⟩
  . rw [e] at hb; exact List.mem_cons_of_mem _ hb
  . rw [e] at hb
    unfold frs at hb
    rw [List.filterMap_cons,hf] at hb
    exact hb
theorem Inv.stkFree (I:Inv X pins σ H s):∀ b ∈ frs X.stack,H b=none:=fun b hb=>by
  rcases List.mem_cons.mp (I.stkSub b hb) with e | hb
  . rw [e]; exact I.free
  . obtain ⟨_,o,ho,_⟩:=I.ok.funs.mem hb
    exact I.base.free b o ho (I.ok.frf b hb) fun z=>I.ok.exfs b z hb
theorem Inv.step {g':Array GenState} {t':Nat} {d':Drawn} {ch:List Addr} (I:Inv X pins σ H s)
    (hch:∀ b ∈ ch,(b ∈ X.ex ∨ X.s₀.heap.objs.size <= b) /\ b ≠ X.env.locals /\ (∀ x c,X.env.cells.lookup x=some c->c ≠ b) /\ ∀ p ∈ X.pn ++ pins,p.1 ≠ b)
    (keep:∀ b o,b ≠ X.env.locals->b ∉ X.fs->b ∉ ch->s.heap.get? b=some o->H b=none->h'.get? b=some o)
    (slot:∀ b o,b ≠ X.env.locals->b ∈ X.fs->b ∉ ch->s.heap.get? b=some o->H b=none->∃ sl,h'.get? b=some { o with slots:=sl }) (free:∀ b o,b ∉ ch->s.heap.get? b=some o->H b=none->H' b=none)
    (there:∀ b o,b ∉ ch->s.heap.get? b=some o->∃ o',h'.get? b=some o')
    (tups:∀ b xs,H b=some (.tup xs)->H' b=some (.tup xs)) (frzs:∀ b o u,H b=some (.frz o u)->H' b=some (.frz o u)) (tbls:∀ b ps,H b=some (.tbl ps)->∃ more,H' b=some (.tbl (ps ++ more)))
    (ns:∀ m,s.heap.Ns X.env.locals m->h'.Ns X.env.locals m) (hok:HOk X.prog X.w H' h') (hg:AllBare g') :
    Inv X pins σ H' { s with heap:=h',gens:=g',drawn:=d',toks:=t' }:=by
  have neL:∀ b o,X.s₀.heap.get? b=some o->b ≠ X.env.locals:=fun b o e=>Nat.ne_of_lt (Nat.lt_of_lt_of_le (Heap.lt_size e) I.ok.above)
  have neC:∀ b o,X.s₀.heap.get? b=some o->b ∉ X.ex->b ∉ ch:=fun b o e hx hb=>by
    rcases (hch b hb).1 with z | z
    . exact hx z
    . exact absurd (Nat.lt_of_lt_of_le (Heap.lt_size e) z) (Nat.lt_irrefl _)
  have cellK:∀ x c,X.env.cells.lookup x=some c->∀ v,s.heap.IsCell c v->h'.IsCell c v:=fun x c e v ⟨o,ho,hd⟩=>by
    have nch:c ∉ ch:=fun z=>(hch c z).2.2.1 x c e rfl
    by_cases hc:c ∈ X.fs
    . obtain ⟨sl,q⟩:=slot c o (I.cne x c e) hc nch ho (I.freeC x c e)
      exact ⟨_,q,hd⟩
    . exact ⟨o,keep c o (I.cne x c e) hc nch ho (I.freeC x c e),hd⟩
  refine ⟨I.ok,I.os,hg,⟨fun b o e n hb hx=>?_,fun b o e n hb hx=>?_,fun b o e n hx=>?_,fun b o e hx=>?_,fun b xs e=>tups b xs (I.base.tups b xs e),fun b o xs e=>frzs b o xs (I.base.frzs b o xs e),fun b ps e=>?_⟩,?_,fun x c e=>?_,?_,fun x c e=>?_,fun p hp=>?_,hok,I.len⟩
  . exact keep b o (neL b o e) hb (neC b o e hx) (I.base.keep b o e n hb hx) (I.base.free b o e n hx)
  . obtain ⟨sl,e1⟩:=I.base.slot b o e n hb hx
    obtain ⟨sl',e2⟩:=slot b _ (neL b o e) hb (neC b o e hx) e1 (I.base.free b o e n hx)
    exact ⟨sl',e2⟩
  . obtain ⟨o',e1⟩:=I.base.there b o e hx
    exact free b o' (neC b o e hx) e1 (I.base.free b o e n hx)
  . obtain ⟨o',e1⟩:=I.base.there b o e hx
    exact there b o' (neC b o e hx) e1
  . obtain ⟨m1,e1⟩:=I.base.tbls b ps e
    obtain ⟨m2,e2⟩:=tbls b _ e1
    exact ⟨m1 ++ m2,by rw [e2,Array.append_assoc]⟩
  . obtain ⟨m,hn,hl⟩:=I.loc
    refine ⟨m,ns m hn,fun i x v e1 e2 e3=>?_⟩
    obtain ⟨u,r,l⟩:=hl i x v e1 e2 e3
    refine ⟨u,r,?_⟩
    rcases l with l | ⟨k,c,e,z⟩
    . exact .inl l
    . exact .inr ⟨k,c,e,cellK x c e _ z⟩
  . obtain ⟨v,z⟩:=I.cell x c e
    exact ⟨v,cellK x c e v z⟩
  . obtain ⟨m,⟨o,_,_,ho,_⟩,_⟩:=I.loc
    exact free _ o (fun z=>(hch _ z).2.1 rfl) ho I.free
  . obtain ⟨v,o,ho,hd⟩:=I.cell x c e
    exact free c o (fun z=>(hch c z).2.2.1 x c e rfl) ho (I.freeC x c e)
  . obtain ⟨e,n,ne,nf,d⟩:=I.pin p hp
    have nch:p.1 ∉ ch:=fun z=>(hch p.1 z).2.2.2 p hp rfl
    exact ⟨keep p.1 p.2 ne nf nch e n,free p.1 p.2 nch e n,ne,nf,d⟩
theorem Inv.un {t':Nat} (I:Inv X pins σ H s) (u:Un X.fs [] H H' s.heap h') (hok:HOk X.prog X.w H' h'):Inv X pins σ H' { s with heap:=h',toks:=t' }:=by
  obtain ⟨m,⟨o,es,ep,ho,r⟩,_⟩:=id I.loc
  obtain ⟨sl,hL⟩:=u.any ho I.free (by simp)
  exact I.step (g':=s.gens) (d':=s.drawn) (ch:=[]) (fun _ z=>nomatch z) (fun b o _ hb _ e n=>u.keep b o e n hb (by simp)) (fun b o _ hb _ e n=>u.slot b o e n hb (by simp)) (fun b o _ e n=>u.free b o e n (by simp)) (fun b o _ e=>u.there b o e (by simp)) u.tups u.frzs u.tbls (fun m' hm=>by
    obtain ⟨o',es',ep',ho',r'⟩:=hm
    rw [ho] at ho'; cases ho'
    exact ⟨_,es',ep',hL,r'⟩) hok I.bare
theorem Inv.call {g':Array GenState} {t':Nat} {d':Drawn} {ch:List Addr} (I:Inv X pins σ H s) (u:Un (frs X.stack) ch H H' s.heap h') (hok:HOk X.prog X.w H' h') (hg:AllBare g')
    (hch:∀ b ∈ ch,(b ∈ X.ex ∨ X.s₀.heap.objs.size <= b) /\ b ≠ X.env.locals /\ (∀ x c,X.env.cells.lookup x=some c->c ≠ b) /\ ∀ p ∈ X.pn ++ pins,p.1 ≠ b) :
    Inv X pins σ H' { s with heap:=h',gens:=g',drawn:=d',toks:=t' }:=by
  obtain ⟨m,⟨o,es,ep,ho,r⟩,_⟩:=id I.loc
  obtain ⟨sl,hL⟩:=u.any ho I.free fun z=>(hch _ z).2.1 rfl
  exact I.step (ch:=ch) hch (fun b o hL hb hc e n=>u.keep b o e n (fun z=>(List.mem_cons.mp (I.stkSub b z)).elim hL hb) hc) (fun b o _ _ hc e n=>u.any e n hc) (fun b o hc e n=>u.free b o e n hc) (fun b o hc e=>u.there b o e hc) u.tups u.frzs u.tbls (fun m' hm=>by
    obtain ⟨o',es',ep',ho',r'⟩:=hm
    rw [ho] at ho'; cases ho'
    exact ⟨_,es',ep',hL,r'⟩) hok hg
theorem Inv.turned {t':Nat} {it:Addr} (I:Inv X pins σ H s) (k:∀ b o,b ≠ it->s.heap.get? b=some o->h'.get? b=some o) (hn:H it=none) (hL:it ≠ X.env.locals)
    (h1:it ∈ X.ex ∨ X.s₀.heap.objs.size <= it) (h2:∀ x c,X.env.cells.lookup x=some c->c ≠ it) (h3:∀ p ∈ X.pn ++ pins,p.1 ≠ it):Inv X pins σ H { s with heap:=h',toks:=t' }:=by
  have nit:∀ b u,H b=some u->b ≠ it:=fun b u e z=>by rw [z,hn] at e; cases e
  refine I.step (g':=s.gens) (d':=s.drawn) (ch:=[it]) (fun b hb=>?_) (fun b o _ _ hc e _=>k b o (fun z=>hc (by simp [z])) e) (fun b o _ _ hc e _=>⟨o.slots,k b o (fun z=>hc (by simp [z])) e⟩) (fun _ _ _ _ n=>n)
    (fun b o hc e=>⟨o,k b o (fun z=>hc (by simp [z])) e⟩) (fun _ _ e=>e) (fun _ _ _ e=>e) (fun b ps e=>⟨#[],by rw [e]; simp⟩) (fun m hm=>?_) (fun b u e=>?_) I.bare
  . have e:b=it:=by simpa using hb
    subst e
    exact ⟨h1,hL,h2,h3⟩
  . obtain ⟨o,es,ep,ho,r⟩:=hm
    exact ⟨o,es,ep,k _ o (Ne.symm hL) ho,r⟩
  . refine (I.hok b u e).stay (fun c v hc q=>k c v ?_ q) (fun _ q=>q) fun _ _ q=>q
    rcases hc with z | z
    . rw [z]; exact nit b u e
    . exact nit c _ z
theorem Inv.tok (I:Inv X pins σ H s) (t:Nat):Inv X pins σ H { s with toks:=t }:=I.un (h':=s.heap) (t':=t) Un.refl I.hok
theorem Inv.kept {t':Nat} (I:Inv X pins σ H s) (k:∀ b u,s.heap.get? b=some u->h'.get? b=some u):Inv X pins σ H { s with heap:=h',toks:=t' }:=I.un (Un.kept k) (I.hok.kept k)
theorem Inv.laid {a:Addr} {o:HO} {t':Nat} (I:Inv X pins σ H s) (k:∀ b u,s.heap.get? b=some u->h'.get? b=some u) (hp:s.heap.objs.size <= a) (new:ObjOk X.prog X.w (upd H a o) h' a o) :
    Inv X pins σ (upd H a o) { s with heap:=h',toks:=t' }:=I.un (Un.laid k hp (I.hok.fresh hp)) (I.hok.laid k hp new)
theorem Inv.write {x e:Addr} {o:HO} {t':Nat} (I:Inv X pins σ H s) (mu:Mut (H x)) (he:e=x ∨ H e=some (.own x)) (k:∀ b u,b ≠ e->s.heap.get? b=some u->h'.get? b=some u) (heo:∃ u,h'.get? e=some u)
    (new:ObjOk X.prog X.w (upd H x o) h' x o):Inv X pins σ (upd H x o) { s with heap:=h',toks:=t' }:=I.un (Un.write mu he k heo) (I.hok.write mu he k heo new)
theorem Inv.weak {σ':List (Option V)} (I:Inv X pins σ H s) (hl:σ'.length=σ.length) (w:∀ (i:Nat) v,σ'[i]? = some (some v)->σ[i]? = some (some v)):Inv X pins σ' H s:=
  ⟨I.ok,I.os,I.bare,I.base,let ⟨m,hn,hl'⟩:=I.loc; ⟨m,hn,fun i x v e1 e2 e3=>hl' i x v e1 (w i v e2) e3⟩,I.cell,I.free,I.freeC,I.pin,I.hok,hl.trans I.len⟩
theorem Inv.pins_of {pins':List (Addr × Obj)} (I:Inv X pins σ H s) (h:∀ p ∈ pins',s.heap.get? p.1=some p.2 /\ H p.1=none /\ p.1 ≠ X.env.locals /\ p.1 ∉ X.fs /\ ∀ v,p.2.data ≠ .cell v):Inv X pins' σ H s:=
  ⟨I.ok,I.os,I.bare,I.base,I.loc,I.cell,I.free,I.freeC,fun p hp=>(List.mem_append.mp hp).elim (fun z=>I.pin p (List.mem_append_left _ z)) (h p),I.hok,I.len⟩
theorem HI {N:List Str} (hN:N.Nodup) {i j:Nat} {x:Str} (a:N[i]? = some x) (b:N[j]? = some x):i=j:=by
  obtain ⟨h1,e1⟩:=List.getElem?_eq_some_iff.mp a
  obtain ⟨h2,e2⟩:=List.getElem?_eq_some_iff.mp b
  exact (List.getElem_inj hN).mp (e1.trans e2.symm)
theorem Fb {M:Model} {A:Around} {E:Value->Shared->Prop} {i:Nat} {x:Str} {v:V} {u:Value} {Q:Unit->Shared->Prop} (I:Inv X pins σ H s) (hN:X.N.Nodup) (hi:X.N[i]? = some x) (hx:Loc X.env.scope x) (r:RelV v u)
    (h:∀ s',Inv X pins (σ.set i (some v)) H s'->(∃ a,Heap.SameBut a s.heap s'.heap /\ (a=X.env.locals ∨ X.env.cells.lookup x=some a))->Q () s') (hf:X.fn x=true ∨ X.env.scope.names.lookup x=some .local:=by first | exact .inl rfl | exact .inr rfl | assumption):wpAny M A (storeName X.env x u) Q E s:=by
  obtain ⟨m,hn,hl⟩:=id I.loc
  have hcls:(X.env.scope.kind == .class || (X.env.scope.kind == .module && X.env.locals != X.env.globals))=false:=by rw [I.ok.kind]; rfl
  have hiσ:i < σ.length:=by rw [I.len]; exact (List.getElem?_eq_some_iff.mp hi).1
  have cne:=I.cne
  have tracked:∀ {a:Addr} {h':Heap},(∃ o,s.heap.get? a=some o /\ H a=none)->Heap.SameBut a s.heap h'->HOk X.prog X.w H h':=fun {a h'} ha hs b ob e=>by
    obtain ⟨_,_,hfree⟩:=ha
    refine (I.hok b ob e).stay (fun c w' hc q=>(hs.2 c ?_).trans q) (fun _ q=>q) fun _ _ q=>q
    rintro rfl
    rcases hc with rfl | hc
    . rw [hfree] at e; cases e
    . rw [hfree] at hc; cases hc
  rcases hx with hk | hk
  . refine wpAny_storeName_local hk hn (fun h' hn' hs=>?_) hcls
    obtain ⟨oL,_,_,hoL,_⟩:=id hn
    refine h _ ⟨I.ok,I.os,I.bare,⟨fun b o e n hb hx=>?_,fun b o e n hb hx=>?_,I.base.free,fun b o e hx=>?_,I.base.tups,I.base.frzs,I.base.tbls⟩,⟨_,hn',fun j y v' e1 e2 e3=>?_⟩,fun y c e=>?_,I.free,I.freeC,fun p hp=>?_,tracked ⟨oL,hoL,I.free⟩ hs,by simpa using I.len⟩ ⟨_,hs,.inl rfl⟩
    . exact (hs.2 b (Nat.ne_of_lt (Nat.lt_of_lt_of_le (Heap.lt_size e) I.ok.above))).trans (I.base.keep b o e n hb hx)
    . obtain ⟨sl,e1⟩:=I.base.slot b o e n hb hx
      exact ⟨sl,(hs.2 b (Nat.ne_of_lt (Nat.lt_of_lt_of_le (Heap.lt_size e) I.ok.above))).trans e1⟩
    . obtain ⟨o',e1⟩:=I.base.there b o e hx
      exact ⟨o',(hs.2 b (Nat.ne_of_lt (Nat.lt_of_lt_of_le (Heap.lt_size e) I.ok.above))).trans e1⟩
    . by_cases hj:j=i
      . subst hj
        rw [hi] at e1; cases e1
        rw [List.getElem?_set_self hiσ] at e2
        cases e2
        exact ⟨u,r,.inl ⟨hk,by simp⟩⟩
      . rw [List.getElem?_set_ne (Ne.symm hj)] at e2
        obtain ⟨u',r',q⟩:=hl j y v' e1 e2 e3
        refine ⟨u',r',?_⟩
        rcases q with ⟨k,e⟩ | ⟨k,c,e,z⟩
        . refine .inl ⟨k,?_⟩
          have:y ≠ x:=fun e=>hj (HI hN e1 (e ▸ hi))
          simp [this,e]
        . exact .inr ⟨k,c,e,z.sameBut hs (cne y c e)⟩
    . obtain ⟨w',z⟩:=I.cell y c e
      exact ⟨w',z.sameBut hs (cne y c e)⟩
    . obtain ⟨e,n,ne,nf,d⟩:=I.pin p hp
      exact ⟨(hs.2 p.1 ne).trans e,n,ne,nf,d⟩
  . have hfn:X.fn x=true:=by
      rcases hf with z | z
      . exact z
      . rw [z] at hk; cases hk
    obtain ⟨c,hc⟩:=I.ok.has x (.inl hk)
    obtain ⟨w',z⟩:=I.cell x c hc
    refine wpAny_storeName_cell I.ok.kind hk hc z (fun h' hc' hs=>?_)
    obtain ⟨oc,hoc,hocd⟩:=id z
    refine h { s with heap:=h' } ⟨I.ok,I.os,I.bare,⟨fun b o e n hb hx=>?_,fun b o e n hb hx=>?_,I.base.free,fun b o e hx=>?_,I.base.tups,I.base.frzs,I.base.tbls⟩,⟨m,hn.sameBut hs (Ne.symm (cne x c hc)),fun j y v' e1 e2 e3=>?_⟩,fun y c' e=>?_,I.free,I.freeC,fun p hp=>?_,tracked ⟨oc,hoc,I.freeC x c hc⟩ hs,by simpa using I.len⟩ ⟨c,hs,.inr hc⟩
    . exact (hs.2 b (Nat.ne_of_lt (Nat.lt_of_lt_of_le (Heap.lt_size e) (I.ok.cab x c hfn hc)))).trans (I.base.keep b o e n hb hx)
    . obtain ⟨sl,e1⟩:=I.base.slot b o e n hb hx
      exact ⟨sl,(hs.2 b (Nat.ne_of_lt (Nat.lt_of_lt_of_le (Heap.lt_size e) (I.ok.cab x c hfn hc)))).trans e1⟩
    . obtain ⟨o',e1⟩:=I.base.there b o e hx
      exact ⟨o',(hs.2 b (Nat.ne_of_lt (Nat.lt_of_lt_of_le (Heap.lt_size e) (I.ok.cab x c hfn hc)))).trans e1⟩
    . by_cases hj:j=i
      . subst hj
        rw [hi] at e1; cases e1
        rw [List.getElem?_set_self hiσ] at e2
        cases e2
        exact ⟨u,r,.inr ⟨.inl hk,c,hc,hc'⟩⟩
      . rw [List.getElem?_set_ne (Ne.symm hj)] at e2
        obtain ⟨u',r',q⟩:=hl j y v' e1 e2 e3
        refine ⟨u',r',?_⟩
        rcases q with q | ⟨k,c',e,z'⟩
        . exact .inl q
        . refine .inr ⟨k,c',e,z'.sameBut hs ?_⟩
          rintro rfl
          exact hj (HI hN e1 (I.ok.inj _ _ _ e hc ▸ hi))
    . by_cases hcc:c'=c
      . subst hcc; exact ⟨_,hc'⟩
      . obtain ⟨w2,z2⟩:=I.cell y c' e
        exact ⟨w2,z2.sameBut hs hcc⟩
    . obtain ⟨e,n,ne,nf,d⟩:=I.pin p hp
      refine ⟨(hs.2 p.1 ?_).trans e,n,ne,nf,d⟩
      intro q
      rw [q,hoc] at e
      have q':oc=p.2:=Option.some.inj e
      exact d w' (by rw [← q']; exact hocd)
theorem Gz {M:Model} {A:Around} {E:Value->Shared->Prop} {i:Nat} {x:Str} {v:V} {u:Value} {Q:Unit->Shared->Prop} (I:Inv X pins σ H s) (hN:X.N.Nodup) (hi:X.N[i]? = some x) (hx:Loc X.env.scope x) (r:RelV v u)
    (h:∀ s',Inv X pins (σ.set i (some v)) H s'->Q () s') (hf:X.fn x=true ∨ X.env.scope.names.lookup x=some .local:=by first | exact .inl rfl | exact .inr rfl | assumption):wpAny M A (storeName X.env x u) Q E s:=
  Fb I hN hi hx r (fun s' I' _=>h s' I') hf
theorem Inv.call' {s':Shared} {ch:List Addr} (I:Inv X pins σ H s) (ho:s'.os=s.os) (u:Un (frs X.stack) ch H H' s.heap s'.heap) (hok:HOk X.prog X.w H' s'.heap) (hg:AllBare s'.gens)
    (hch:∀ b ∈ ch,(b ∈ X.ex ∨ X.s₀.heap.objs.size <= b) /\ b ≠ X.env.locals /\ (∀ x c,X.env.cells.lookup x=some c->c ≠ b) /\ ∀ p ∈ X.pn ++ pins,p.1 ≠ b):Inv X pins σ H' s':=by
  obtain ⟨h',g',d',t',o'⟩:=s'
  have e:o'=s.os:=ho
  subst e
  exact I.call (g':=g') (t':=t') (d':=d') u hok hg hch
end
abbrev XK:=Value->Option Addr->Hp->Prop
abbrev St:=List (Option V)
abbrev VK:=V->Hp->Prop
abbrev TE:=St->Hp->VK->Prop
abbrev TT:=St->Hp->(Bool->Hp->Prop)->Prop
abbrev TA:=St->Hp->(List V->Hp->Prop)->Prop
structure Ir where
  nx:St->Hp->Prop
  rt:VK
  bk:St->Hp->Prop:=fun _ _=>False
  ct:St->Hp->Prop:=fun _ _=>False
abbrev TS:=Ir->St->Hp->Prop
def EP (X:Cx) (pins:List (Addr × Obj)) (σ:St) (Q:VK) (u:Value) (s':Shared):Prop:=∃ v H',Inv X pins σ H' s' /\ RelV v u /\ Q v H'
def TP (X:Cx) (pins:List (Addr × Obj)) (σ:St) (Q:Bool->Hp->Prop) (b:Bool) (s':Shared):Prop:=∃ H',Inv X pins σ H' s' /\ Q b H'
def AP (X:Cx) (pins:List (Addr × Obj)) (σ:St) (Q:List V->Hp->Prop) (us:List Value) (s':Shared):Prop:=∃ vs H',Inv X pins σ H' s' /\ Vals vs us /\ Q vs H'
def SP (X:Cx) (pins:List (Addr × Obj)) (D:Ir) (f:Flow) (s':Shared):Prop:=
  match f with
  | .next=>∃ σ' H',Inv X pins σ' H' s' /\ D.nx σ' H'
  | .brk=>∃ σ' H',Inv X pins σ' H' s' /\ D.bk σ' H'
  | .cont=>∃ σ' H',Inv X pins σ' H' s' /\ D.ct σ' H'
  | .ret u=>∃ v σ' H',Inv X pins σ' H' s' /\ RelV v u /\ D.rt v H'
def PE (X:Cx) (e:Expr) (t:TE):Prop:=
  ∀ (pins:List (Addr × Obj)) (s:Shared) (σ:St) (H:Hp) (Q:VK),Inv X pins σ H s->t σ H Q->wpAny (model X.prog X.w) X.A (eval e X.env) (EP X pins σ Q) X.xe s
def PT (X:Cx) (e:Expr) (t:TT):Prop:=
  ∀ (pins:List (Addr × Obj)) (s:Shared) (σ:St) (H:Hp) (Q:Bool->Hp->Prop),Inv X pins σ H s->t σ H Q->wpAny (model X.prog X.w) X.A (isTrue e X.env (eval e X.env)) (TP X pins σ Q) X.xe s
def PW (X:Cx) (e:Expr) (t:TT):Prop:=
  ∀ (whole:Sem Value) (pins:List (Addr × Obj)) (s:Shared) (σ:St) (H:Hp) (Q:Bool->Hp->Prop),Inv X pins σ H s->t σ H Q->wpAny (model X.prog X.w) X.A (isTrue e X.env whole) (TP X pins σ Q) X.xe s
theorem PW.pt {X:Cx} {e:Expr} {t:TT} (h:PW X e t):PT X e t:=h _
def PA (X:Cx) (es:List Expr) (t:TA):Prop:=
  ∀ (pos:Pos) (pins:List (Addr × Obj)) (s:Shared) (σ:St) (H:Hp) (Q:List V->Hp->Prop),Inv X pins σ H s->t σ H Q->wpAny (model X.prog X.w) X.A (spliced (backTo pos (starEach es X.env))) (AP X pins σ Q) X.xe s
def PS (X:Cx) (st:Stmt) (t:TS):Prop:=
  ∀ (pins:List (Addr × Obj)) (s:Shared) (σ:St) (H:Hp) (D:Ir),Inv X pins σ H s->t D σ H->wpAny (model X.prog X.w) X.A (exec st X.env) (SP X pins D) X.xe s
def PSs (X:Cx) (st:List Stmt) (t:TS):Prop:=
  ∀ (pins:List (Addr × Obj)) (s:Shared) (σ:St) (H:Hp) (D:Ir),Inv X pins σ H s->t D σ H->wpAny (model X.prog X.w) X.A (execs st X.env) (SP X pins D) X.xe s
theorem thn {α:Type} {t:Sem α} {Q Q':α->Shared->Prop} {M:Model} {A:Around} {E:Value->Shared->Prop} {s:Shared} (h:wpAny M A t Q E s) (hQ:∀ a s,Q a s->Q' a s):wpAny M A t Q' E s:=wpAny_mono h hQ fun _ _ x=>x
end L2
namespace L2
open PySem PySem.Spec PyProof.Rows
section
variable {X:Cx}
def Rq (i:Nat):TE:=fun σ H Q=>∃ v,σ[i]? = some (some v) /\ Q v H
def tC (v:V):TE:=fun _ H Q=>Q v H
theorem Pi {i:Nat} {x:Str} {pos:Pos} (hN:X.N[i]? = some x) (hv:Vis X.env.scope x) (hd:(x == ("__debug__" : Str))=false:=by decide) (hcd:(x == ("__classdict__" : Str))=false:=by decide):PE X (.Name x pos) (Rq i):=by
  intro pins s σ H Q I h
  obtain ⟨v,e,h⟩:=h
  obtain ⟨m,hn,hl⟩:=I.loc
  obtain ⟨u,r,l⟩:=hl i x v hN e hv
  have fin:EP X pins σ Q u s:=⟨v,H,I,r,h⟩
  rcases l with ⟨hk,hm⟩ | ⟨hk,c,hc,hcell⟩
  . exact wpAny_Name (wpAny_loadName_local I.ok.kind hk hn hm fin) hd
  . rcases hk with hk | hk
    . exact wpAny_Name (wpAny_loadName_cell I.ok.kind hk hc hcell fin) hd
    . exact wpAny_Name (wpAny_loadName_free I.ok.kind hk hc hcell fin hcd) hd
theorem Pp {i j pos}:PE X (.Constant (.int i) j pos) (tC (.int i)):=fun _ _ _ H _ I h=>wpAny_Constant_int ⟨.int i,H,I.tok _,⟨_,rfl⟩,h⟩
theorem RB {b j pos}:PE X (.Constant (.bool b) j pos) (tC (.bl b)):=fun _ _ _ H _ I h=>Constant_bool ⟨.bl b,H,I,rfl,h⟩
theorem Po {j pos}:PE X (.Constant .none j pos) (tC .non):=fun _ _ _ H _ I h=>Constant_none ⟨.non,H,I,rfl,h⟩
theorem Pk {x j pos}:PE X (.Constant (.str x) j pos) (tC (.str x)):=fun _ _ _ H _ I h=>Calls.Constant_str ⟨.str x,H,I.tok _,⟨_,rfl⟩,h⟩
def Gl (X:Cx) (x:Str):Prop:=X.env.kindOf x=some .globalImplicit
theorem Nz {E:Value->Shared->Prop} {pins:List (Addr × Obj)} {s:Shared} {σ:St} {H:Hp} {x:Str} {u:Value} {pos:Pos} {Q:Value->Shared->Prop} (I:Inv X pins σ H s) (hg:Gl X x) (hm:X.mg x=some u) (h:Q u s)
    (hd:(x == ("__debug__" : Str))=false:=by decide):wpAny (model X.prog X.w) X.A (eval (.Name x pos) X.env) Q E s:=
  Calls.Name_function_global I.ok.kind hg (Calls.loadGlobal_global (by rw [I.ok.glob]; exact I.mod.glob.keeps I.bk) hm h) hd
theorem Ep {E:Value->Shared->Prop} {pins:List (Addr × Obj)} {s:Shared} {σ:St} {H:Hp} {x:Str} {u:Value} {pos:Pos} {Q:Value->Shared->Prop} (I:Inv X pins σ H s) (hg:Gl X x) (hm:X.mg x=none) (hv:bootBuiltins x=some u) (h:Q u s)
    (hn:x ≠ "__name__" := by decide) (hd:(x == ("__debug__" : Str))=false:=by decide):wpAny (model X.prog X.w) X.A (eval (.Name x pos) X.env) Q E s:=by
  obtain ⟨mb,h1,h2⟩:=I.mod.blt
  exact Calls.Name_function_global I.ok.kind hg (Calls.loadGlobal_builtin (by rw [I.ok.glob]; exact I.mod.glob.keeps I.bk) hm (by rw [I.ok.blt]; exact h1.keeps I.bk) ((h2 x hn).trans hv) h) hd
theorem Np {x:Str} {v:V} {u:Value} {pos:Pos} (hg:Gl X x) (hm:X.mg x=none) (hv:bootBuiltins x=some u) (r:RelV v u) (hn:x ≠ "__name__" := by decide) (hd:(x == ("__debug__" : Str))=false:=by decide):PE X (.Name x pos) (tC v):=
  fun _ _ _ H _ I h=>Ep I hg hm hv ⟨v,H,I,r,h⟩ hn hd
variable {a b:Expr} {ta tb:TE} {pos:Pos}
def tB (t:TE):TT:=fun σ H Q=>t σ H fun x H1=>∃ c,x=.bl c /\ Q c H1
theorem Pa {e:Expr} {t:TE} (h:PE X e t) (he:∀ whole,isTrue e X.env whole=(do let v ← whole; standAt e.pos; holding [v] (truthy v)):=by intro _; rfl):PT X e (tB t):=by
  intro pins s σ H Q I hw
  refine isTrue_plain (thn (h pins s σ H _ I hw) fun v s1 ⟨x,H1,I1,r1,q1⟩=>?_) (he _)
  obtain ⟨d,rfl,q⟩:=q1
  cases r1
  exact wpAny_truthy_bool ⟨H1,I1,q⟩
variable {tA tB':TT} {rest:List Expr}
def R6 (t u:TT):TT:=fun σ H Q=>t σ H fun c H1=>if c=true then u σ H1 Q else Q false H1
def tOr (t u:TT):TT:=fun σ H Q=>t σ H fun c H1=>if c=true then Q true H1 else u σ H1 Q
def Rv (t:TT):TT:=fun σ H Q=>t σ H fun c H1=>Q (!c) H1
theorem Nb (ha:PT X a tA):PW X (.BoolOp .And [a] pos) tA:=by
  intro wh pins s σ H Q I h
  refine isTrue_and (thn (ha pins s σ H Q I h) fun c s1 e=>?_)
  cases c with
  | true=>exact isTrue_and_nil e
  | false=>exact e
theorem PY (ha:PT X a tA):PW X (.BoolOp .Or [a] pos) tA:=by
  intro wh pins s σ H Q I h
  refine isTrue_or (thn (ha pins s σ H Q I h) fun c s1 e=>?_)
  cases c with
  | false=>exact isTrue_or_nil e
  | true=>exact e
theorem PZ (ha:PT X a tA) (hb:PW X (.BoolOp .And (b :: rest) pos) tB'):PW X (.BoolOp .And (a :: b :: rest) pos) (R6 tA tB'):=by
  intro wh pins s σ H Q I h
  refine isTrue_and (thn (ha pins s σ H _ I h) fun c s1 ⟨H1,I1,q1⟩=>?_)
  cases c with
  | true=>exact hb wh pins s1 σ H1 Q I1 q1
  | false=>exact ⟨H1,I1,q1⟩
theorem Q5 (ha:PT X a tA) (hb:PW X (.BoolOp .Or (b :: rest) pos) tB'):PW X (.BoolOp .Or (a :: b :: rest) pos) (tOr tA tB'):=by
  intro wh pins s σ H Q I h
  refine isTrue_or (thn (ha pins s σ H _ I h) fun c s1 ⟨H1,I1,q1⟩=>?_)
  cases c with
  | true=>exact ⟨H1,I1,q1⟩
  | false=>exact hb wh pins s1 σ H1 Q I1 q1
theorem Pb (ha:PT X a tA):PT X (.UnaryOp .Not a pos) (Rv tA):=by
  intro pins s σ H Q I h
  exact isTrue_not (ha pins s σ H (fun c H1=>Q (!c) H1) I h)
def Qu (ta tb:TE):TE:=fun σ H Q=>ta σ H fun x H1=>∃ c,x=.bl c /\ if c=true then tb σ H1 Q else Q (.bl false) H1
theorem Pn {op} {t:TE} (h:PE X a t):PE X (.BoolOp op [a] pos) t:=fun pins s σ H Q I hw=>BoolOp_one (h pins s σ H Q I hw)
theorem Pr (ha:PE X a ta) (hb:PE X (.BoolOp .And (b :: rest) pos) tb):PE X (.BoolOp .And (a :: b :: rest) pos) (Qu ta tb):=by
  intro pins s σ H Q I h
  refine BoolOp_and (thn (ha pins s σ H _ I h) fun v s1 ⟨x,H1,I1,r1,q1⟩=>?_)
  obtain ⟨c,rfl,q1⟩:=q1
  cases r1
  refine wpAny_truthy_bool ?_
  cases c with
  | true=>exact hb pins s1 σ H1 Q I1 q1
  | false=>exact ⟨.bl false,H1,I1,rfl,q1⟩
end
end L2
namespace L2
open PySem PySem.Spec PyProof.Rows
def SqL (K:PySem.W.Frag) (H:Hp) (a:Addr) (xs:List V):Prop:=
  Rd H a (.lst xs) ∨
    ∃ (o:Obj) (its:Array Value) (n:Nat),K.lookup a=some o /\ o.cls=.type "list" /\ o.dict=none /\ o.data=.seq its n /\ its.size <= sizeLine /\ Vals xs its.toList
def SqT (K:PySem.W.Frag) (H:Hp) (a:Addr) (xs:List V):Prop:=
  Rd H a (.tup xs) ∨
    ∃ (o:Obj) (its:Array Value) (n:Nat),K.lookup a=some o /\ o.cls=.type "tuple" /\ o.data=.seq its n /\ its.size <= sizeLine /\ Vals xs its.toList
def SJ:Value->Option V
  | .none=>some .non
  | .bool b=>some (.bl b)
  | .int i _=>some (.int i)
  | .str x _=>some (.str x)
  | .bytes b _=>some (.byt b)
  | .float b _=>some (.flt b)
  | .ref a=>some (.ref a)
  | .type n=>some (.ty n)
  | _=>none
theorem RelV.abs {x:V} {u:Value} (r:RelV x u):SJ u=some x:=by
  cases x with
  | non=>cases r; rfl
  | bl _=>cases r; rfl
  | int _=>obtain ⟨t,rfl⟩:=r; rfl
  | str _=>obtain ⟨t,rfl⟩:=r; rfl
  | byt _=>obtain ⟨t,rfl⟩:=r; rfl
  | flt _=>obtain ⟨t,rfl⟩:=r; rfl
  | ref _=>cases r; rfl
  | ty _=>cases r; rfl
theorem RelV.inj {x y:V} {u:Value} (r:RelV x u) (q:RelV y u):x=y:=Option.some.inj (r.abs.symm.trans q.abs)
theorem Vals.inj:∀ {xs ys:List V} {us:List Value},Vals xs us->Vals ys us->xs=ys
  | _,_,_,.nil,.nil=>rfl
  | _,_,_,.cons r t,.cons r' t'=>by rw [r.inj r',Vals.inj t t']
section
variable {X:Cx} {pins:List (Addr × Obj)} {σ:St} {H:Hp} {s:Shared} {a:Addr} {xs ys:List V}
theorem SqL.of {K:PySem.W.Frag} (h:H a=some (.lst xs)):SqL K H a xs:=.inl (.inl h)
theorem SqT.of {K:PySem.W.Frag} (h:H a=some (.tup xs)):SqT K H a xs:=.inl (.inl h)
theorem Inv.list (I:Inv X pins σ H s) (h:SqL X.K H a xs):∃ its:List Value,Vals xs its /\ PlainL s.heap a its.toArray /\ xs.length <= sizeLine:=by
  rcases h with h | ⟨o,its,n,hk,hc,hd,hs,hz,r⟩
  . obtain ⟨z,its,n,r,e⟩:=h.ok I.hok
    exact ⟨its,r,⟨_,n,e,rfl,rfl,rfl⟩,z⟩
  . refine ⟨its.toList,r,⟨o,n,I.kIn a o hk,hc,hd,by simpa using hs⟩,?_⟩
    have e:=r.length
    simp only [Array.length_toList] at e
    omega
theorem Inv.tuple (I:Inv X pins σ H s) (h:SqT X.K H a xs):∃ its:List Value,Vals xs its /\ IsTup s.heap a its.toArray /\ xs.length <= sizeLine:=by
  rcases h with h | ⟨o,its,n,hk,hc,hs,hz,r⟩
  . obtain ⟨z,its,r,p⟩:=h.ok I.hok
    exact ⟨its,r,p,z⟩
  . refine ⟨its.toList,r,⟨o,I.kIn a o hk,hc,n,by simpa using hs⟩,?_⟩
    have e:=r.length
    simp only [Array.length_toList] at e
    omega
theorem Inv.list_inj (I:Inv X pins σ H s) (h:SqL X.K H a xs) (h':SqL X.K H a ys):xs=ys:=by
  obtain ⟨its,r,⟨o,n,e,_,_,d⟩,_⟩:=I.list h
  obtain ⟨its',r',⟨o',n',e',_,_,d'⟩,_⟩:=I.list h'
  rw [e] at e'; cases e'
  rw [d] at d'
  injection d' with d1 _
  have:its=its':=by simpa using congrArg Array.toList d1
  subst this
  exact r.inj r'
theorem Inv.tuple_inj (I:Inv X pins σ H s) (h:SqT X.K H a xs) (h':SqT X.K H a ys):xs=ys:=by
  obtain ⟨its,r,⟨o,e,_,n,d⟩,_⟩:=I.tuple h
  obtain ⟨its',r',⟨o',e',_,n',d'⟩,_⟩:=I.tuple h'
  rw [e] at e'; cases e'
  rw [d] at d'
  injection d' with d1 _
  have:its=its':=by simpa using congrArg Array.toList d1
  subst this
  exact r.inj r'
end
abbrev Cx.wish (X:Cx) (E:Value->Shared->Prop):Cx:={ X with xe:=E }
abbrev Cx.nox (X:Cx):Cx:=X.wish fun _ _=>False
theorem Cx.Ok.wish {X:Cx} (ok:X.Ok) (E:Value->Shared->Prop):(X.wish E).Ok:=
  ⟨ok.mod,ok.kind,ok.glob,ok.blt,ok.above,ok.inj,ok.has,ok.cab,ok.hd,ok.frames,ok.stk,ok.exf,ok.bs,ok.bsz,ok.noex,ok.exfs,ok.funs,ok.frf⟩
theorem Cx.Ok.unwish {X:Cx} {E:Value->Shared->Prop} (ok:(X.wish E).Ok):X.Ok:=
  ⟨ok.mod,ok.kind,ok.glob,ok.blt,ok.above,ok.inj,ok.has,ok.cab,ok.hd,ok.frames,ok.stk,ok.exf,ok.bs,ok.bsz,ok.noex,ok.exfs,ok.funs,ok.frf⟩
section
variable {X:Cx} {pins:List (Addr × Obj)} {σ:St} {H:Hp} {s:Shared} {E:Value->Shared->Prop}
theorem Inv.wish (I:Inv X pins σ H s) (E:Value->Shared->Prop):Inv (X.wish E) pins σ H s:=⟨I.ok.wish E,I.os,I.bare,I.base,I.loc,I.cell,I.free,I.freeC,I.pin,I.hok,I.len⟩
theorem Inv.unwish (I:Inv (X.wish E) pins σ H s):Inv X pins σ H s:=⟨I.ok.unwish,I.os,I.bare,I.base,I.loc,I.cell,I.free,I.freeC,I.pin,I.hok,I.len⟩
theorem SP.unwish {D:Ir} {f:Flow} {s':Shared} (h:SP (X.wish E) pins D f s'):SP X pins D f s':=by
  cases f with
  | next=>obtain ⟨σ',H',I,q⟩:=h; exact ⟨σ',H',I.unwish,q⟩
  | brk=>obtain ⟨σ',H',I,q⟩:=h; exact ⟨σ',H',I.unwish,q⟩
  | cont=>obtain ⟨σ',H',I,q⟩:=h; exact ⟨σ',H',I.unwish,q⟩
  | ret u=>obtain ⟨v,σ',H',I,r,q⟩:=h; exact ⟨v,σ',H',I.unwish,r,q⟩
theorem PSs.nox {st:List Stmt} {t:TS} (h:PSs X.nox st t):PSs X st t:=fun pins s σ H D I hw=>
  wpAny_mono (h pins s σ H D (I.wish _) hw) (fun _ _ q=>q.unwish) fun _ _ z=>False.elim z
end
section
variable {X:Cx} {st:Stmt} {rest:List Stmt} {t u:TS} {e:Expr} {te:TE} {pos:Pos}
def Qo:TS:=fun D σ H=>D.nx σ H
def Rs (t u:TS):TS:=fun D σ H=>t { D with nx:=u D } σ H
theorem Nf:PSs X [] Qo:=fun _ _ σ H _ I h=>wpAny_execs_nil ⟨σ,H,I,h⟩
theorem Ll (h1:PS X st t) (h2:PSs X rest u):PSs X (st :: rest) (Rs t u):=by
  intro pins s σ H D I h
  refine wpAny_execs_cons (thn (h1 pins s σ H { D with nx:=u D } I h) fun f s1 q=>?_)
  cases f with
  | next=>
    obtain ⟨σ',H',I',q⟩:=q
    exact h2 pins s1 σ' H' D I' q
  | ret v=>exact q
  | brk=>exact q
  | cont=>exact q
theorem Nd (h1:PS X st t):PSs X [st] t:=by
  intro pins s σ H D I h
  refine wpAny_execs_cons (thn (h1 pins s σ H D I h) fun f s1 q=>?_)
  cases f with
  | next=>exact wpAny_execs_nil q
  | ret v=>exact q
  | brk=>exact q
  | cont=>exact q
theorem Inv.quiet {pins:List (Addr × Obj)} {σ:St} {H:Hp} {s:Shared} (I:Inv X pins σ H s):interactive X.env=false:=by simp [interactive,I.ok.kind]
def Qq (te:TE):TS:=fun D σ H=>te σ H fun _ H1=>D.nx σ H1
theorem Ng (he:PE X e te) (hs:swapsWith e none pos.line X.env=pure false:=by rfl):PS X (.Expr e pos) (Qq te):=by
  intro pins s σ H D I h
  exact wpAny_Expr_any (thn (he pins s σ H _ I h) fun v s1 ⟨x,H1,I1,r1,q1⟩=>⟨σ,H1,I1,q1⟩) I.quiet hs
def Ru (te:TE):TS:=fun D σ H=>te σ H D.rt
theorem Pe (he:PE X e te):PS X (.Return (some e) pos) (Ru te):=by
  intro pins s σ H D I h
  exact wpAny_Return_some (thn (he pins s σ H _ I h) fun v s1 ⟨x,H1,I1,r1,q1⟩=>⟨x,σ,H1,I1,r1,q1⟩)
def Ry (c:TT) (t u:TS):TS:=fun D σ H=>c σ H fun b H1=>if b=true then t D σ H1 else u D σ H1
theorem Q6 {c:Expr} {a b:List Stmt} {tc:TT} (hc:PT X c tc) (ha:PSs X a t) (hb:PSs X b u):PS X (.If c a b pos) (Ry tc t u):=by
  intro pins s σ H D I h
  refine wpAny_If (thn (hc pins s σ H _ I h) fun d s1 ⟨H1,I1,q1⟩=>?_)
  cases d with
  | true=>exact ha pins s1 σ H1 D I1 q1
  | false=>exact hb pins s1 σ H1 D I1 q1
end
abbrev TG:=V->St->Hp->(St->Hp->Prop)->Prop
abbrev TGs:=List V->St->Hp->(St->Hp->Prop)->Prop
def PG (X:Cx) (target:Expr) (t:TG):Prop:=
  ∀ (pins:List (Addr × Obj)) (s:Shared) (σ:St) (H:Hp) (v:V) (u:Value) (Q:St->Hp->Prop),Inv X pins σ H s->RelV v u->t v σ H Q->
    wpAny (model X.prog X.w) X.A (assign target X.env u) (fun _ s'=>∃ σ' H',Inv X pins σ' H' s' /\ Q σ' H') X.xe s
def PGs (X:Cx) (ts:List Expr) (t:TGs):Prop:=
  ∀ (pins:List (Addr × Obj)) (s:Shared) (σ:St) (H:Hp) (vs:List V) (us:List Value) (Q:St->Hp->Prop),Inv X pins σ H s->Vals vs us->t vs σ H Q->
    wpAny (model X.prog X.w) X.A (assignInOrder ((assignEach ts X.env).map (·.2)) us) (fun _ s'=>∃ σ' H',Inv X pins σ' H' s' /\ Q σ' H') X.xe s
section
variable {X:Cx} {pos:Pos}
def C8 (i:Nat):TG:=fun v σ H Q=>Q (σ.set i (some v)) H
theorem BE {i:Nat} {x:Str} (hN:X.N.Nodup) (hi:X.N[i]? = some x) (hx:Loc X.env.scope x) (hf:X.fn x=true ∨ X.env.scope.names.lookup x=some .local:=by first | exact .inl rfl | exact .inr rfl | assumption):PG X (.Name x pos) (C8 i):=by
  intro pins s σ H v u Q I r h
  exact wpAny_assign_Name (Gz I hN hi hx r (fun s' I'=>⟨_,H,I',h⟩) hf)
def Re:TGs:=fun vs σ H Q=>vs=[] /\ Q σ H
def Ob (t:TG) (u:TGs):TGs:=fun vs σ H Q=>∃ v r,vs=v :: r /\ t v σ H fun σ' H'=>u r σ' H' Q
theorem JQ:PGs X [] Re:=by
  intro pins s σ H vs us Q I r h
  obtain ⟨e,h⟩:=h
  subst e
  cases r
  exact assignInOrder_nil ⟨σ,H,I,h⟩
theorem Ck {e:Expr} {es:List Expr} {t:TG} {u:TGs} (h1:PG X e t) (h2:PGs X es u)
    (hs:(assignEach (e :: es) X.env).map (·.2)=assign e X.env :: (assignEach es X.env).map (·.2):=by rfl):PGs X (e :: es) (Ob t u):=by
  intro pins s σ H vs us Q I r h
  obtain ⟨v,vr,e1,h⟩:=h
  subst e1
  cases r with
  | cons r rr=>
    rw [hs]
    refine assignInOrder_cons (thn (h1 pins s σ H _ _ _ I r h) fun _ s1 ⟨σ1,H1,I1,q1⟩=>?_)
    exact h2 pins s1 σ1 H1 _ _ Q I1 rr q1
def QN (K:PySem.W.Frag) (n:Nat) (t:TGs):TG:=fun v σ H Q=>∃ a xs,v=.ref a /\ SqT K H a xs /\ xs.length=n /\ t xs σ H Q
theorem Lq {es:List Expr} {k:Nat} {t:TGs} {n:Nat} (hc:X.calm=true) (h:PGs X es t)
    (hn:(assignEach es X.env).length=n:=by rfl) (hst:(assignEach es X.env).findIdx? (·.1)=none:=by rfl):PG X (.Tuple es k pos) (QN X.K n t):=by
  intro pins s σ H v u Q I r hw
  obtain ⟨a,xs,e1,hq,hl,hw⟩:=hw
  subst e1
  cases r
  obtain ⟨its,rv,ht,hz⟩:=I.tuple hq
  refine assign_Tuple_tuple (I.ok.hd hc) ht (by simp [hn,← hl,rv.length]) hst fun h' hx=>?_
  have I1:Inv X pins σ H { s with heap:=h' }:=I.kept (t':=s.toks) fun b o e=>hx b o (Nat.ne_of_lt (Heap.lt_size e)) e
  exact h pins _ σ H xs _ Q I1 (by simpa using rv) hw
def NI (te:TE) (g:TG):TS:=fun D σ H=>te σ H fun x H1=>g x σ H1 D.nx
theorem Pg {tg e:Expr} {te:TE} {g:TG} (he:PE X e te) (hg:PG X tg g) (hs:swapsWithSole [tg] e pos.line X.env=pure false:=by rfl) (hw:swappedStores [tg] e X.env=pure none:=by rfl)
    (h1:(assignEach [tg] X.env).map (·.2)=[assign tg X.env]:=by rfl):PS X (.Assign [tg] e pos) (NI te g):=by
  intro pins s σ H D I h
  refine wpAny_Assign_stores (thn (he pins s σ H _ I h) fun v s1 ⟨x,H1,I1,r1,q1⟩=>?_) hs hw
  rw [h1]
  exact thn (hg pins s1 σ H1 x v _ I1 r1 q1) fun _ s2 q=>q
theorem Pd {i:Nat} {x:Str} {e:Expr} {te:TE} {pos':Pos} (hN:X.N.Nodup) (hi:X.N[i]? = some x) (hx:Loc X.env.scope x) (he:PE X e te) (hs:swapsWith e (some (.Name x pos')) pos.line X.env=pure false:=by rfl) (hf:X.fn x=true ∨ X.env.scope.names.lookup x=some .local:=by first | exact .inl rfl | exact .inr rfl | assumption) :
    PS X (.Assign [.Name x pos'] e pos) (NI te (C8 i)):=by
  intro pins s σ H D I h
  refine wpAny_Assign_Name (thn (he pins s σ H _ I h) fun v s1 ⟨y,H1,I1,r1,q1⟩=>?_) hs
  exact Gz I1 hN hi hx r1 (fun s2 I2=>⟨_,H1,I2,q1⟩) hf
end
section
variable {X:Cx} {pos:Pos}
end
structure It where
  go:Nat->Hp->Prop
  yld:Nat->Hp->V->Hp->Prop
  stop:Nat->Hp->Prop
def C3 (X:Cx) (pins:List (Addr × Obj)) (H:Hp) (b:Addr):Prop:=
  H b=none /\ b ≠ X.env.locals /\ b ∉ X.fs /\ (b ∈ X.ex ∨ X.s₀.heap.objs.size <= b) /\ (∀ x c,X.env.cells.lookup x=some c->c ≠ b) /\ ∀ p ∈ X.pn ++ pins,p.1 ≠ b
theorem Inv.fpOk {X:Cx} {pins:List (Addr × Obj)} {σ:St} {H H':Hp} {s:Shared} {b:Addr} (I:Inv X pins σ H s) (hb:s.heap.objs.size <= b) (hn:H' b=none):C3 X pins H' b:=by
  refine ⟨hn,Nat.ne_of_gt (Nat.lt_of_lt_of_le I.lt hb),I.nofs hb,.inr (Nat.le_trans I.sz hb),fun x c e z=>?_,fun p hp z=>?_⟩
  . obtain ⟨v,q⟩:=I.cell x c e
    exact absurd (Nat.lt_of_lt_of_le q.lt (by rw [z]; exact hb)) (Nat.lt_irrefl _)
  . exact absurd (Nat.lt_of_lt_of_le (Heap.lt_size (I.pin p hp).1) (by rw [z]; exact hb)) (Nat.lt_irrefl _)
structure Hn (P:Program) (w:World) (K:PySem.W.Frag) (tg:Expr) (J:It) (fp:List Addr) (it:Addr) (tn:Nat->Heap->Prop):Prop where
  mem:it ∈ fp
  obj:∀ i h,tn i h->∀ b ∈ fp,∃ o,h.get? b=some o /\ ∀ v,o.data ≠ .cell v
  keep:∀ i h h',tn i h->(∀ b ∈ fp,∀ o,h.get? b=some o->h'.get? b=some o)->tn i h'
  item:∀ (X:Cx),X.prog=P->X.w=w->X.K=K->X.calm=true->∀ (i:Nat) (pins:List (Addr × Obj)) (s:Shared) (σ:St) (H:Hp) (E:Value->Shared->Prop),Inv X pins σ H s->(∀ b ∈ fp,C3 X pins H b)->tn i s.heap->J.go i H->
    wpAny (model P w) X.A (pyNext (.ref it)) (fun r s1=>∃ u,r=some u /\
      wpAny (model P w) X.A (letOwnedTupleGo tg (.ref it) u) (fun _ s2=>∃ x H',Inv X pins σ H' s2 /\ RelV x u /\ J.yld i H x H' /\ tn (i + 1) s2.heap /\ ∀ b ∈ fp,H' b=none) E s1) E s
  done:∀ (X:Cx),X.prog=P->X.w=w->X.K=K->X.calm=true->∀ (i:Nat) (pins:List (Addr × Obj)) (s:Shared) (σ:St) (H:Hp) (E:Value->Shared->Prop),Inv X pins σ H s->(∀ b ∈ fp,C3 X pins H b)->tn i s.heap->J.stop i H->
    wpAny (model P w) X.A (pyNext (.ref it)) (fun r s1=>r=none /\ Inv X pins σ H s1) E s
  self:∀ (A:Around) (i:Nat) (s:Shared) (Q:Value->Shared->Prop) (E:Value->Shared->Prop),tn i s.heap->Q (.ref it) s->wpAny (model P w) A (pyIter (.ref it)) Q E s
abbrev TI:=St->Hp->(It->Hp->Prop)->Prop
def PIE (X:Cx) (pins:List (Addr × Obj)) (σ:St) (tg:Expr) (R:It->Hp->Prop) (itv:Value) (s2:Shared):Prop:=
  ∃ (it:Addr) (fp:List Addr) (tn:Nat->Heap->Prop) (J:It) (H':Hp),itv=.ref it /\ Inv X pins σ H' s2 /\ Hn X.prog X.w X.K tg J fp it tn /\ tn 0 s2.heap /\ (∀ b ∈ fp,C3 X pins H' b) /\ R J H'
def PI (X:Cx) (tg iter:Expr) (wi:TI):Prop:=
  ∀ (pins:List (Addr × Obj)) (s:Shared) (σ:St) (H:Hp) (R:It->Hp->Prop),Inv X pins σ H s->wi σ H R->
    wpAny (model X.prog X.w) X.A (eval iter X.env) (fun v s1=>wpAny (model X.prog X.w) X.A (pyIter v) (PIE X pins σ tg R) X.xe s1) X.xe s
theorem MJ {M:Model} {A:Around} {E:Value->Shared->Prop} {s:Shared} {tg:Expr} {it:Addr} {u:Value} {o:Obj} {n:String} {vs:Array Value} {Q:Unit->Shared->Prop} (ho:s.heap.get? it=some o) (hc:o.cls=.type n) (hd:o.data=.fields vs)
    (hn:["enumerate", "zip", "dict_itemiterator", "dict_reverseitemiterator", "odict_iterator", "itertools.zip_longest", "itertools.pairwise"].contains n=false) (hQ:Q () s):wpAny M A (letOwnedTupleGo tg (.ref it) u) Q E s:=by
  unfold letOwnedTupleGo
  cases tg <;> first
    | exact wpAny_pure hQ
    | (cases u <;> first
        | exact wpAny_pure hQ
        | (refine wpAny_bind (wpAny_load ho ?_)
           rw [hc,hd]
           show wpAny M A (if (["enumerate", "zip", "dict_itemiterator", "dict_reverseitemiterator", "odict_iterator", "itertools.zip_longest", "itertools.pairwise"].contains n && vs[0]? == some (rawInt _))=true then _ else _) Q E s
           rw [if_neg (by intro h; rw [hn,Bool.false_and] at h; cases h)]
           exact wpAny_pure hQ))
def Itl (K:PySem.W.Frag) (a:Addr):It:=
  ⟨fun i H=>∃ xs x,SqL K H a xs /\ xs[i]? = some x,fun i H x H'=>H'=H /\ ∀ xs,SqL K H a xs->xs[i]? = some x,fun i H=>∃ xs,SqL K H a xs /\ xs.length <= i⟩
def Itt (K:PySem.W.Frag) (a:Addr):It:=
  ⟨fun i H=>∃ xs x,SqT K H a xs /\ xs[i]? = some x,fun i H x H'=>H'=H /\ ∀ xs,SqT K H a xs->xs[i]? = some x,fun i H=>∃ xs,SqT K H a xs /\ xs.length <= i⟩
def Itr (lo:Int) (n:Nat):It:=⟨fun i _=>i < n,fun i H x H'=>H'=H /\ x=.int (lo + i),fun i _=>n <= i⟩
theorem J7 {P:Program} {w:World} {K:PySem.W.Frag} {tg:Expr} (a it:Addr):Hn P w K tg (Itl K a) [it] it (fun i h=>h.IsListIter it a i) where
  mem:=by simp
  obj:=fun i h st b hb=>by
    have e:b=it:=by simpa using hb
    subst e
    obtain ⟨o,e,c,d⟩:=st
    exact ⟨o,e,fun v z=>by rw [d] at z; cases z⟩
  keep:=fun i h h' st k=>st.at fun o e=>k it (by simp) o e
  item:=by
    intro X hP hw hK hc i pins s σ H E I hf st hg
    subst hP hw hK
    obtain ⟨xs,x,hq,hx⟩:=hg
    obtain ⟨its,rv,p,hz⟩:=I.list hq
    obtain ⟨u,hu,ru⟩:=rv.get hx
    obtain ⟨f0,f1,f2,f3,f4,f5⟩:=hf it (by simp)
    refine wpAny_pyNext_list_item st p.isList (x:=u) (by simpa using hu) fun h' st' sb=>?_
    have I1:Inv X pins σ H { s with heap:=h' }:=I.turned (t':=s.toks) (fun b o hb e=>(sb.2 b hb).trans e) f0 f1 f3 f4 f5
    obtain ⟨o,e,c,d⟩:=id st'
    exact ⟨u,rfl,MJ (s:={ s with heap:=h' }) e c d (by decide) ⟨x,H,I1,ru,⟨rfl,fun ys hy=>by rw [I.list_inj hy hq]; exact hx⟩,st',fun b hb=>(hf b hb).1⟩⟩
  done:=by
    intro X hP hw hK hc i pins s σ H E I hf st hg
    subst hP hw hK
    obtain ⟨xs,hq,hx⟩:=hg
    obtain ⟨its,rv,p,hz⟩:=I.list hq
    obtain ⟨f0,f1,f2,f3,f4,f5⟩:=hf it (by simp)
    have hl:=rv.length
    exact wpAny_pyNext_list_end (I.ok.hd hc) st p.isList (by simp; omega) fun h' eb=>⟨rfl,I.turned (t':=s.toks) (fun b o hb e=>eb b o hb e) f0 f1 f3 f4 f5⟩
  self:=fun _ _ _ _ _ st h=>wpAny_pyIter_listiter st h
theorem Ho {P:Program} {w:World} {K:PySem.W.Frag} {tg:Expr} (a it:Addr):Hn P w K tg (Itt K a) [it] it (fun i h=>h.IsTupleIter it a i) where
  mem:=by simp
  obj:=fun i h st b hb=>by
    have e:b=it:=by simpa using hb
    subst e
    obtain ⟨o,e,c,d⟩:=st
    exact ⟨o,e,fun v z=>by rw [d] at z; cases z⟩
  keep:=fun i h h' st k=>st.at fun o e=>k it (by simp) o e
  item:=by
    intro X hP hw hK hc i pins s σ H E I hf st hg
    subst hP hw hK
    obtain ⟨xs,x,hq,hx⟩:=hg
    obtain ⟨its,rv,p,hz⟩:=I.tuple hq
    obtain ⟨u,hu,ru⟩:=rv.get hx
    obtain ⟨f0,f1,f2,f3,f4,f5⟩:=hf it (by simp)
    refine wpAny_pyNext_tuple_item st (show s.heap.IsTuple a its.toArray from p) (x:=u) (by simpa using hu) fun h' st' sb=>?_
    have I1:Inv X pins σ H { s with heap:=h' }:=I.turned (t':=s.toks) (fun b o hb e=>(sb.2 b hb).trans e) f0 f1 f3 f4 f5
    obtain ⟨o,e,c,d⟩:=id st'
    exact ⟨u,rfl,MJ (s:={ s with heap:=h' }) e c d (by decide) ⟨x,H,I1,ru,⟨rfl,fun ys hy=>by rw [I.tuple_inj hy hq]; exact hx⟩,st',fun b hb=>(hf b hb).1⟩⟩
  done:=by
    intro X hP hw hK hc i pins s σ H E I hf st hg
    subst hP hw hK
    obtain ⟨xs,hq,hx⟩:=hg
    obtain ⟨its,rv,p,hz⟩:=I.tuple hq
    obtain ⟨f0,f1,f2,f3,f4,f5⟩:=hf it (by simp)
    have hl:=rv.length
    exact wpAny_pyNext_tuple_end (I.ok.hd hc) st (show s.heap.IsTuple a its.toArray from p) (by simp; omega) fun h' eb=>⟨rfl,I.turned (t':=s.toks) (fun b o hb e=>eb b o hb e) f0 f1 f3 f4 f5⟩
  self:=fun _ _ _ _ _ st h=>wpAny_pyIter_tupleiter st h
theorem Hq {P:Program} {w:World} {K:PySem.W.Frag} {tg:Expr} (it:Addr) (lo:Int) (n:Nat):Hn P w K tg (Itr lo n) [it] it (fun i h=>IsRangeIter h it (lo + (i:Nat) * 1) ((n:Int) - (i:Nat)) 1) where
  mem:=by simp
  obj:=fun i h st b hb=>by
    have e:b=it:=by simpa using hb
    subst e
    exact ⟨_,st,fun v z=>by
      have z':Data.fields _=Data.cell v:=z
      cases z'⟩
  keep:=fun i h h' st k=>k it (by simp) _ st
  item:=by
    intro X hP hw hK hc i pins s σ H E I hf st hg
    subst hP hw hK
    obtain ⟨f0,f1,f2,f3,f4,f5⟩:=hf it (by simp)
    have W:=Walks.range (prog:=X.prog) (w:=X.w) (I.ok.hd hc) it lo 1 n
    refine W.item i s _ _ hg st fun v h' tk hv st' kk=>?_
    obtain ⟨t,rfl⟩:=hv
    have I1:Inv X pins σ H { s with heap:=h',toks:=tk }:=I.turned (fun b o hb e=>kk b o (by simpa using hb) e) f0 f1 f3 f4 f5
    refine ⟨_,rfl,MJ (s:={ s with heap:=h',toks:=tk }) (n := "range_iterator") st' rfl rfl (by decide) ⟨.int (lo + i),H,I1,⟨t,?_⟩,⟨rfl,rfl⟩,st',fun b hb=>(hf b hb).1⟩⟩
    rw [Int.mul_one]
  done:=by
    intro X hP hw hK hc i pins s σ H E I hf st hg
    subst hP hw hK
    obtain ⟨f0,f1,f2,f3,f4,f5⟩:=hf it (by simp)
    exact wpAny_pyNext_range_end (I.ok.hd hc) st (by have:n <= i:=hg; omega) fun h' eb=>⟨rfl,I.turned (t':=s.toks) (fun b o hb e=>eb b o hb e) f0 f1 f3 f4 f5⟩
  self:=fun _ _ _ _ _ st h=>wpAny_pyIter_rangeiter st h
end L2
namespace L2
open PySem PySem.Spec PyProof.Rows
section
variable {X:Cx} {tg:Expr}
def Oa (K:PySem.W.Frag) (tl:TE):TI:=fun σ H R=>tl σ H fun x H1=>∃ a,x=.ref a /\ (∃ xs,SqL K H1 a xs) /\ R (Itl K a) H1
def Rb (K:PySem.W.Frag) (tl:TE):TI:=fun σ H R=>tl σ H fun x H1=>∃ a,x=.ref a /\ (∃ xs,SqT K H1 a xs) /\ R (Itt K a) H1
theorem Nl {l:Expr} {tl:TE} (hl:PE X l tl):PI X tg l (Oa X.K tl):=by
  intro pins s σ H R I h
  refine thn (hl pins s σ H _ I h) fun v s1 ⟨x,H1,I1,r1,q1⟩=>?_
  obtain ⟨a,e,⟨xs,hq⟩,q⟩:=q1
  subst e
  cases r1
  obtain ⟨its,rv,p,hz⟩:=I1.list hq
  refine wpAny_pyIter_list p.isList ?_
  refine ⟨s1.heap.objs.size,[s1.heap.objs.size],_,_,H1,rfl,I1.kept (t':=s1.toks) fun b o e=>Heap.get?_push_of_some _ e,J7 a _,⟨_,Heap.get?_push_size _ rfl,rfl,rfl⟩,fun b hb=>?_,q⟩
  have e:b=s1.heap.objs.size:=by simpa using hb
  subst e
  exact I1.fpOk (Nat.le_refl _) (I1.hok.fresh (Nat.le_refl _))
theorem Ph {l:Expr} {tl:TE} (hl:PE X l tl):PI X tg l (Rb X.K tl):=by
  intro pins s σ H R I h
  refine thn (hl pins s σ H _ I h) fun v s1 ⟨x,H1,I1,r1,q1⟩=>?_
  obtain ⟨a,e,⟨xs,hq⟩,q⟩:=q1
  subst e
  cases r1
  obtain ⟨its,rv,p,hz⟩:=I1.tuple hq
  refine wpAny_pyIter_tuple (show s1.heap.IsTuple a its.toArray from p) ?_
  refine ⟨s1.heap.objs.size,[s1.heap.objs.size],_,_,H1,rfl,I1.kept (t':=s1.toks) fun b o e=>Heap.get?_push_of_some _ e,Ho a _,⟨_,Heap.get?_push_size _ rfl,rfl,rfl⟩,fun b hb=>?_,q⟩
  have e:b=s1.heap.objs.size:=by simpa using hb
  subst e
  exact I1.fpOk (Nat.le_refl _) (I1.hok.fresh (Nat.le_refl _))
theorem Lb {pins:List (Addr × Obj)} {σ:St} {H:Hp} {s:Shared} {R:It->Hp->Prop} {E:Value->Shared->Prop} {lo hi:Int} {t u v:Tok} {tk:Nat} (I:Inv X pins σ H s) (h1 : -(2 ^ 62) <= lo) (h2:lo < 2 ^ 62) (h3 : -(2 ^ 62) <= hi) (h4:hi < 2 ^ 62)
    (q:R (Itr lo (hi - lo).toNat) H):wpAny (model X.prog X.w) X.A (pyIter (.ref s.heap.objs.size)) (PIE X pins σ tg R) E { s with heap:=s.heap.push { cls:=.type "range",data:=.fields #[.int lo t,.int hi u,.int 1 v] },toks:=tk }:=by
  refine wpAny_pyIter_range (IsRange.new ..) (small_one h1 h2 h3 h4) ?_
  have I1:Inv X pins σ H { s with heap:=s.heap.push { cls:=.type "range",data:=.fields #[.int lo t,.int hi u,.int 1 v] },toks:=tk }:=I.kept fun b o e=>Heap.get?_push_of_some _ e
  refine ⟨(s.heap.push { cls:=.type "range",data:=.fields #[.int lo t,.int hi u,.int 1 v] }).objs.size,[(s.heap.push { cls:=.type "range",data:=.fields #[.int lo t,.int hi u,.int 1 v] }).objs.size],_,_,H,rfl,
    I1.kept (t':=tk) fun b o e=>Heap.get?_push_of_some _ e,Hq _ lo (hi - lo).toNat,?_,fun b hb=>?_,q⟩
  . have e1:lo + ((0:Nat):Int) * 1=lo:=by simp
    have e2:(((hi - lo).toNat:Nat):Int) - ((0:Nat):Int)=Builtin.Range.rangeSize lo hi 1:=by rw [rangeSize_one]; split <;> omega
    show IsRangeIter _ _ (lo + ((0:Nat):Int) * 1) ((((hi - lo).toNat:Nat):Int) - ((0:Nat):Int)) 1
    rw [e1,e2]
    exact Heap.get?_push_size _ rfl
  . have e:b=(s.heap.push { cls:=.type "range",data:=.fields #[.int lo t,.int hi u,.int 1 v] }).objs.size:=by simpa using hb
    subst e
    exact I1.fpOk (Nat.le_refl _) (I1.hok.fresh (Nat.le_refl _))
def Rc (ta:TA):TI:=fun σ H R=>ta σ H fun vs H1=>∃ j:Int,vs=[.int j] /\ -(2 ^ 62) <= j /\ j < 2 ^ 62 /\ R (Itr 0 j.toNat) H1
theorem KP {a:Expr} {ta:TA} {p pos:Pos} (hg:Gl X "range") (hm:X.mg "range" = none) (ha:PA X [a] ta) (hs:starEach [a] X.env=[(false,eval a X.env)]:=by rfl):PI X tg (.Call (.Name "range" p) [a] [] pos) (Rc ta):=by
  intro pins s σ H R I h
  refine Call_ (Ep I hg hm boot_range (PyProof.Rows.callWith_type1 (thn (ha pos pins s σ H _ I h) fun us s1 ⟨vs,H1,I1,r1,q1⟩=>?_) hs rfl))
  obtain ⟨j,e,q1,q2,q⟩:=q1
  subst e
  cases r1 with
  | cons r rr=>
    cases rr
    obtain ⟨t,rfl⟩:=r
    exact call_range_1 (Lb I1 (by omega) (by omega) q1 q2 (by simpa using q))
def Rz (wi:TI) (g:TG) (tb:TS):TS:=fun D σ H=>wi σ H fun J H1=>∃ W:Nat->Nat->St->Hp->Prop,(∃ m,W 0 m σ H1) /\ ∀ i m σ H,W i m σ H->
  (J.stop i H /\ D.nx σ H) ∨ (J.go i H /\ ∃ N:St->Hp->Prop,(∀ σ' H',N σ' H'->∃ m',m' < m /\ W (i + 1) m' σ' H') /\ ∀ x H',J.yld i H x H'->g x σ H' fun σ2 H2=>tb { D with nx:=N,ct:=N,bk:=D.nx } σ2 H2)
def GQ (fp:List Addr) (h:Heap):List (Addr × Obj):=fp.filterMap fun b=>(h.get? b).map fun o=>(b,o)
theorem An {fp:List Addr} {h:Heap} {b:Addr} {o:Obj} (hb:b ∈ fp) (e:h.get? b=some o):(b,o) ∈ GQ fp h:=List.mem_filterMap.mpr ⟨b,hb,by rw [e]; rfl⟩
theorem KT {fp:List Addr} {h:Heap} {p:Addr × Obj} (hp:p ∈ GQ fp h):p.1 ∈ fp /\ h.get? p.1=some p.2:=by
  obtain ⟨b,hb,e⟩:=List.mem_filterMap.mp hp
  cases q:h.get? b with
  | none=>rw [q] at e; cases e
  | some o=>
    rw [q] at e
    have e':(b,o)=p:=Option.some.inj e
    subst e'
    exact ⟨hb,q⟩
theorem Inv.pinned {pins:List (Addr × Obj)} {σ:St} {H:Hp} {s:Shared} {fp:List Addr} (I:Inv X pins σ H s) (hf:∀ b ∈ fp,C3 X pins H b) (ho:∀ b ∈ fp,∃ o,s.heap.get? b=some o /\ ∀ v,o.data ≠ .cell v):Inv X (pins ++ GQ fp s.heap) σ H s:=
  I.pins_of fun p hp=>(List.mem_append.mp hp).elim (fun z=>I.pin p (List.mem_append_right _ z)) fun z=>by
    obtain ⟨hb,e⟩:=KT z
    obtain ⟨f0,f1,f2,_⟩:=hf p.1 hb
    obtain ⟨o,e',d⟩:=ho p.1 hb
    rw [e] at e'; cases e'
    exact ⟨e,f0,f1,f2,d⟩
theorem Inv.unpinned {pins pl:List (Addr × Obj)} {σ:St} {H:Hp} {s:Shared} (I:Inv X (pins ++ pl) σ H s):Inv X pins σ H s:=I.pins_of fun p hp=>I.pin p (List.mem_append_right _ (List.mem_append_left _ hp))
theorem Pf {iter:Expr} {body:List Stmt} {wi:TI} {g:TG} {tb:TS} {pos:Pos} (hp:PassesOwn (model X.prog X.w) X.A X.env X.xe) (hc:X.calm=true) (hi:PI X tg iter wi) (hg:PG X tg g) (hb:PSs X body tb)
    (hs:∀ x,foldedSetIterable iter X.env x=pure x:=by intro _; rfl):PS X (.For tg iter body [] pos) (Rz wi g tb):=by
  intro pins s σ H D I h
  refine wpAny_For (thn (hi pins s σ H _ I h) fun v s1 h1=>thn h1 fun itv s2 h2=>?_) hs
  obtain ⟨it,fp,tn,J,H2,e,I2,T,st2,f2,W,⟨m0,w0⟩,turn⟩:=h2
  subst e
  have stat:∀ {H':Hp},(∀ b ∈ fp,H' b=none)->∀ b ∈ fp,C3 X pins H' b:=fun hn b hb=>⟨hn b hb,(f2 b hb).2⟩
  refine codeAny_forLoop_any (fun n s'=>∃ i σ' H',Inv X pins σ' H' s' /\ tn i s'.heap /\ (∀ b ∈ fp,H' b=none) /\ W i n σ' H') ?_ m0 ⟨0,σ,H2,I2,st2,fun b hb=>(f2 b hb).1,w0⟩
  rintro n s3 ⟨i,σ3,H3,I3,st3,fr3,w3⟩
  rcases turn i n σ3 H3 w3 with ⟨stop,qn⟩ | ⟨go,N,hN,step⟩
  . refine wpAny_passesOwn hp (thn (T.done X rfl rfl rfl hc i pins s3 σ3 H3 X.xe I3 (stat fr3) st3 stop) fun r s4 ⟨hr,I4⟩=>?_)
    subst hr
    exact wpAny_execs_nil ⟨σ3,H3,I4,qn⟩
  . refine wpAny_passesOwn hp (thn (T.item X rfl rfl rfl hc i pins s3 σ3 H3 X.xe I3 (stat fr3) st3 go) fun r s4 ⟨u,hr,h4⟩=>?_)
    subst hr
    refine wpAny_passesOwn hp (thn h4 fun _ s5 ⟨x,H5,I5,r5,y5,st5,fr5⟩=>?_)
    have I5':=I5.pinned (stat fr5) (T.obj _ _ st5)
    refine wpAny_passesOwn hp (thn (hg _ s5 σ3 H5 x u _ I5' r5 (step x H5 y5)) fun _ s6 ⟨σ6,H6,I6,q6⟩=>?_)
    refine wpAny_passesOwn hp (thn (hb _ s6 σ6 H6 _ I6 q6) fun f s7 q7=>?_)
    have again:∀ {σ7:St} {H7:Hp},Inv X (pins ++ GQ fp s5.heap) σ7 H7 s7->N σ7 H7->∃ m,m < n /\ ∃ i σ' H',Inv X pins σ' H' s7 /\ tn i s7.heap /\ (∀ b ∈ fp,H' b=none) /\ W i m σ' H':=fun {σ7 H7} I7 n7=>by
      obtain ⟨m',hm,w7⟩:=hN σ7 H7 n7
      refine ⟨m',hm,i + 1,σ7,H7,I7.unpinned,T.keep _ _ _ st5 fun b hb o e=>(I7.pin (b,o) (List.mem_append_right _ (List.mem_append_right _ (An hb e)))).1,fun b hb=>?_,w7⟩
      obtain ⟨o,e,d⟩:=T.obj _ _ st5 b hb
      exact (I7.pin (b,o) (List.mem_append_right _ (List.mem_append_right _ (An hb e)))).2.1
    cases f with
    | next=>obtain ⟨σ7,H7,I7,n7⟩:=q7; exact again I7 n7
    | cont=>obtain ⟨σ7,H7,I7,n7⟩:=q7; exact again I7 n7
    | brk=>obtain ⟨σ7,H7,I7,q7⟩:=q7; exact ⟨σ7,H7,I7.unpinned,q7⟩
    | ret v=>obtain ⟨x7,σ7,H7,I7,r7,q7⟩:=q7; exact ⟨x7,σ7,H7,I7.unpinned,r7,q7⟩
end
end L2
namespace L2
open PySem PySem.Spec PyProof.Rows
abbrev R2:=V->V->Hp->VK->Prop
def OpR (X:Cx) (f:Value->Value->Sem Value) (r:R2):Prop:=
  ∀ (pins:List (Addr × Obj)) (s:Shared) (σ:St) (H:Hp) (x y:V) (v u:Value) (Q:VK),Inv X pins σ H s->RelV x v->RelV y u->r x y H Q->
    wpAny (model X.prog X.w) X.A (f v u) (EP X pins σ Q) X.xe s
def UnR (X:Cx) (f:Value->Sem Value) (r:V->Hp->VK->Prop):Prop:=
  ∀ (pins:List (Addr × Obj)) (s:Shared) (σ:St) (H:Hp) (x:V) (v:Value) (Q:VK),Inv X pins σ H s->RelV x v->r x H Q->
    wpAny (model X.prog X.w) X.A (f v) (EP X pins σ Q) X.xe s
def A0 (X:Cx) (f:Value) (r:List V->Hp->VK->Prop):Prop:=
  ∀ (pins:List (Addr × Obj)) (s:Shared) (σ:St) (H:Hp) (xs:List V) (us:List Value) (Q:VK),Inv X pins σ H s->Vals xs us->r xs H Q->
    wpAny (model X.prog X.w) X.A (call f us) (EP X pins σ Q) X.xe s
def tOp (r:R2) (ta tb:TE):TE:=fun σ H Q=>ta σ H fun x H1=>tb σ H1 fun y H2=>r x y H2 Q
def tUn (r:V->Hp->VK->Prop) (ta:TE):TE:=fun σ H Q=>ta σ H fun x H1=>r x H1 Q
def rI (C:Int->Int->Prop) (g:Int->Int->V):R2:=fun x y H Q=>∃ i j,x=.int i /\ y=.int j /\ C i j /\ Q (g i j) H
def rI0 (g:Int->Int->V):R2:=fun x y H Q=>∃ i j,x=.int i /\ y=.int j /\ Q (g i j) H
def rU (g:Int->V):V->Hp->VK->Prop:=fun x H Q=>∃ i,x=.int i /\ Q (g i) H
section
variable {X:Cx} {a b c:Expr} {ta tb tc:TE} {pos:Pos}
theorem QX (ha:PE X a ta) (hb:PE X b tb) {pins:List (Addr × Obj)} {s:Shared} {σ:St} {H:Hp} {R:V->V->Hp->Prop} (I:Inv X pins σ H s)
    (h:ta σ H fun x H1=>tb σ H1 fun y H2=>R x y H2) {Q:Value->Shared->Prop} {f:Value->Value->Sem Value}
    (hf:∀ v u s2 x y H2,Inv X pins σ H2 s2->RelV x v->RelV y u->R x y H2->wpAny (model X.prog X.w) X.A (f v u) Q X.xe s2) :
    wpAny (model X.prog X.w) X.A (eval a X.env) (fun v s₁=>wpAny (model X.prog X.w) X.A (eval b X.env) (fun u s₂=>wpAny (model X.prog X.w) X.A (f v u) Q X.xe s₂) X.xe s₁) X.xe s:=by
  refine thn (ha pins s σ H _ I h) fun v s1 ⟨x,H1,I1,r1,q1⟩=>?_
  refine thn (hb pins s1 σ H1 _ I1 q1) fun u s2 ⟨y,H2,I2,r2,q2⟩=>?_
  exact hf v u s2 x y H2 I2 r1 r2 q2
theorem OQ {op:Operator} {r:R2} (ho:OpR X (binaryOp op) r) (ha:PE X a ta) (hb:PE X b tb):PE X (.BinOp a op b pos) (tOp r ta tb):=by
  intro pins s σ H Q I h
  exact wpAny_BinOp (QX ha hb I h fun v u s2 x y H2 I2 rx ry q=>ho pins s2 σ H2 x y v u Q I2 rx ry q)
theorem Q7 {op:UnaryOp} {r:V->Hp->VK->Prop} (ho:UnR X (unaryOp op) r) (ha:PE X a ta):PE X (.UnaryOp op a pos) (tUn r ta):=by
  intro pins s σ H Q I h
  exact UnaryOp_ (thn (ha pins s σ H _ I h) fun v s1 ⟨x,H1,I1,r1,q1⟩=>ho pins s1 σ H1 x v Q I1 r1 q1)
theorem opI {f:Value->Value->Sem Value} {C:Int->Int->Prop} {g:Int->Int->Int}
    (rule:∀ (i j:Int) (t u:Tok) (s:Shared) (Q:Value->Shared->Prop) (E:Value->Shared->Prop),C i j->Q (.int (g i j) s.toks) { s with toks:=s.toks + 1 }->wpAny (model X.prog X.w) X.A (f (.int i t) (.int j u)) Q E s) :
    OpR X f (rI C fun i j=>.int (g i j)):=by
  intro pins s σ H x y v u Q I rx ry h
  obtain ⟨i,j,rfl,rfl,hc,q⟩:=h
  obtain ⟨t,rfl⟩:=rx
  obtain ⟨t',rfl⟩:=ry
  exact rule i j t t' s _ _ hc ⟨.int (g i j),H,I.tok _,⟨_,rfl⟩,q⟩
theorem RJ {f:Value->Value->Sem Value} {g:Int->Int->Int}
    (rule:∀ (i j:Int) (t u:Tok) (s:Shared) (Q:Value->Shared->Prop) (E:Value->Shared->Prop),Q (.int (g i j) s.toks) { s with toks:=s.toks + 1 }->wpAny (model X.prog X.w) X.A (f (.int i t) (.int j u)) Q E s) :
    OpR X f (rI0 fun i j=>.int (g i j)):=by
  intro pins s σ H x y v u Q I rx ry h
  obtain ⟨i,j,rfl,rfl,q⟩:=h
  obtain ⟨t,rfl⟩:=rx
  obtain ⟨t',rfl⟩:=ry
  exact rule i j t t' s _ _ ⟨.int (g i j),H,I.tok _,⟨_,rfl⟩,q⟩
theorem P8 {f:Value->Value->Sem Value} {g:Int->Int->Bool}
    (rule:∀ (i j:Int) (t u:Tok) (s:Shared) (Q:Value->Shared->Prop) (E:Value->Shared->Prop),Q (.bool (g i j)) s->wpAny (model X.prog X.w) X.A (f (.int i t) (.int j u)) Q E s) :
    OpR X f (rI0 fun i j=>.bl (g i j)):=by
  intro pins s σ H x y v u Q I rx ry h
  obtain ⟨i,j,rfl,rfl,q⟩:=h
  obtain ⟨t,rfl⟩:=rx
  obtain ⟨t',rfl⟩:=ry
  exact rule i j t t' s _ _ ⟨.bl (g i j),H,I,rfl,q⟩
def SO (i j:Int):Prop:=0 < j /\ j < 1073741824
def SN (i j:Int):Prop:=0 <= j /\ j <= 1000000 /\ i.natAbs < 2 ^ 64
def CMul (i j:Int):Prop:=(-(2 ^ 64) < i /\ i < 2 ^ 64) ∨ (-(2 ^ 64) < j /\ j < 2 ^ 64)
theorem CMul.ok {i j:Int} (h:CMul i j):IntMulOk i j:=by
  rcases h with ⟨h1,h2⟩ | ⟨h1,h2⟩
  . exact .of_left (intBits_le_64 h1 h2)
  . exact .of_right (intBits_le_64 h1 h2)
theorem P7:OpR X (binaryOp .Add) (rI0 fun i j=>.int (i + j)):=RJ fun _ _ _ _ _ _ _ q=>add_int q
theorem Pu:OpR X (binaryOp .Sub) (rI0 fun i j=>.int (i - j)):=RJ fun _ _ _ _ _ _ _ q=>sub_int q
theorem Py:OpR X (binaryOp .Mult) (rI CMul fun i j=>.int (i * j)):=opI fun _ _ _ _ _ _ _ hc q=>mul_int q hc.ok
theorem Nt:OpR X (binaryOp .FloorDiv) (rI SO fun i j=>.int (i / j)):=opI fun i j _ _ _ _ _ hc q=>by
  have h1:(0:Int) < j:=hc.1
  have h2:j < 1073741824:=hc.2
  exact floordiv_int (by omega) (by rw [Int.fdiv_eq_ediv_of_nonneg i (by omega)]; exact q) (.inl (PyProof.noPylong_small (by omega)))
theorem P3:OpR X (binaryOp .Mod) (rI (fun _ j=>0 < j) fun i j=>.int (i % j)):=opI fun i j _ _ _ _ _ hc q=>by
  have h1:(0:Int) < j:=hc
  exact mod_int' (by omega) (by rw [Int.fmod_eq_emod_of_nonneg i (by omega)]; exact q)
theorem Pw:OpR X (binaryOp .Pow) (rI SN fun i j=>.int (i ^ j.toNat)):=opI fun _ _ _ _ _ _ _ hc q=>pow_int_small hc.1 hc.2.1 hc.2.2 q
theorem unI {f:Value->Sem Value} {g:Int->Int}
    (rule:∀ (i:Int) (t:Tok) (s:Shared) (Q:Value->Shared->Prop) (E:Value->Shared->Prop),Q (.int (g i) s.toks) { s with toks:=s.toks + 1 }->wpAny (model X.prog X.w) X.A (f (.int i t)) Q E s) :
    UnR X f (rU fun i=>.int (g i)):=by
  intro pins s σ H x v Q I rx h
  obtain ⟨i,rfl,q⟩:=h
  obtain ⟨t,rfl⟩:=rx
  exact rule i t s _ _ ⟨.int (g i),H,I.tok _,⟨_,rfl⟩,q⟩
theorem O4:UnR X (unaryOp .USub) (rU fun i=>.int (-i)):=unI fun _ _ _ _ _ q=>neg_int q
end
section
variable {X:Cx} {a b c:Expr} {ta tb tc:TE} {pos:Pos}
theorem IY {pins:List (Addr × Obj)} {σ:St} {H:Hp} {s:Shared} {Q:VK} {k k':Bool} (I:Inv X pins σ H s) (q:Q (.bl k) H) (e:k=k'):EP X pins σ Q (.bool k') s:=by
  subst e
  exact ⟨.bl k,H,I,rfl,q⟩
theorem RD:OpR X (compareOp .Lt) (rI0 fun i j=>.bl (decide (i < j))):=P8 fun _ _ _ _ _ _ _ q=>lt_int q
theorem RF:OpR X (compareOp .Gt) (rI0 fun i j=>.bl (decide (j < i))):=P8 fun _ _ _ _ _ _ _ q=>gt_int q
theorem RH:OpR X (compareOp .GtE) (rI0 fun i j=>.bl (decide (j <= i))):=P8 fun _ _ _ _ _ _ _ q=>ge_int q
theorem P4:OpR X (compareOp .Is) (fun x y H Q=>y=.non /\ Q (.bl (decide (x=.non))) H):=by
  intro pins s σ H x y v u Q I rx ry h
  obtain ⟨rfl,q⟩:=h
  cases ry
  refine is_none_gen (IY I q ?_)
  cases x <;> first
    | (cases rx; rfl)
    | (obtain ⟨t,rfl⟩:=rx; rfl)
theorem Nr:OpR X (compareOp .IsNot) (fun x y H Q=>y=.non /\ Q (.bl (!decide (x=.non))) H):=by
  intro pins s σ H x y v u Q I rx ry h
  obtain ⟨rfl,q⟩:=h
  cases ry
  refine isnot_none_gen (IY I q ?_)
  cases x <;> first
    | (cases rx; rfl)
    | (obtain ⟨t,rfl⟩:=rx; rfl)
theorem GR:OpR X (compareOp .NotIn) (fun x y H Q=>∃ i j,x=.str i /\ y=.str j /\ Q (.bl (!(!(Builtin.Str.occurrences j i 0 j.length 1).isEmpty))) H):=by
  intro pins s σ H x y v u Q I rx ry h
  obtain ⟨i,j,rfl,rfl,q⟩:=h
  obtain ⟨t,rfl⟩:=rx
  obtain ⟨t',rfl⟩:=ry
  exact notIn_str (IY I q rfl)
theorem L3 (b:Expr) {op:CmpOp} (h:op ≠ .In:=by decide) (h2:op ≠ .NotIn:=by decide):behindInMarks op b=false:=by
  have e1:(op == CmpOp.In)=false:=by cases op <;> first | rfl | exact absurd rfl h
  have e2:(op == CmpOp.NotIn)=false:=by cases op <;> first | rfl | exact absurd rfl h2
  cases b <;> simp [behindInMarks,e1,e2]
theorem Nn {op:CmpOp} {r:R2} (ho:OpR X (compareOp op) r) (ha:PE X a ta) (hb:PE X b tb) (hm:behindInMarks op b=false):PE X (.Compare a [op] [b] pos) (tOp r ta tb):=by
  intro pins s σ H Q I h
  exact wpAny_Compare1 (QX ha hb I h fun v u s2 x y H2 I2 rx ry q=>ho pins s2 σ H2 x y v u Q I2 rx ry q) hm
def Qm (t:TE):TT:=fun σ H Q=>t σ H fun x H'=>∃ k,x=.bl k /\ Q k H'
theorem Nc {op:CmpOp} {r:R2} (ho:OpR X (compareOp op) r) (ha:PE X a ta) (hb:PE X b tb) (hm:behindInMarks op b=false):PT X (.Compare a [op] [b] pos) (Qm (tOp r ta tb)):=by
  intro pins s σ H Q I h
  refine wpAny_isTrue_Compare1 (thn (ha pins s σ H _ I h) fun v s1 ⟨x,H1,I1,r1,q1⟩=>thn (hb pins s1 σ H1 _ I1 q1) fun u s2 ⟨y,H2,I2,r2,q2⟩=>
    thn (ho pins s2 σ H2 x y v u _ I2 r1 r2 q2) fun c s3 ⟨z,H3,I3,r3,k,e,q3⟩=>?_) hm
  subst e
  cases r3
  exact wpAny_truthy_bool ⟨H3,I3,q3⟩
theorem GW:(sizeLine:Nat) < 2 ^ 63:=by rw [sizeLine_eq]; decide
theorem IM:OpR X (binaryOp .Add) (fun x y H Q=>∃ i j,x=.str i /\ y=.str j /\ i.length + j.length <= sizeLine /\ Q (.str (i ++ j)) H):=by
  intro pins s σ H x y v u Q I rx ry h
  obtain ⟨i,j,rfl,rfl,hz,q⟩:=h
  obtain ⟨t,rfl⟩:=rx
  obtain ⟨t',rfl⟩:=ry
  exact add_str (fun t' tk=>⟨.str (i ++ j),H,I.tok _,⟨_,rfl⟩,q⟩) hz
theorem FZ {x:V} {us:List Value} (r:Vals [x] us):∃ u,us=[u] /\ RelV x u:=by
  cases r with
  | cons r1 r2=>cases r2; exact ⟨_,rfl,r1⟩
theorem Qk {x y:V} {us:List Value} (r:Vals [x,y] us):∃ u w',us=[u,w'] /\ RelV x u /\ RelV y w':=by
  cases r with
  | cons r1 r2=>
    cases r2 with
    | cons r3 r4=>cases r4; exact ⟨_,_,rfl,r1,r3⟩
theorem Kp:A0 X (.type "int") (fun xs H Q=>(∃ i,xs=[.int i] /\ Q (.int i) H) ∨ ∃ k,xs=[.bl k] /\ Q (.int (if k then 1 else 0)) H):=by
  intro pins s σ H xs us Q I r h
  rcases h with ⟨i,rfl,q⟩ | ⟨k,rfl,q⟩
  . obtain ⟨u,rfl,t,rfl⟩:=FZ r
    exact call_int_int ⟨.int i,H,I,⟨_,rfl⟩,q⟩
  . obtain ⟨u,rfl,r1⟩:=FZ r
    cases r1
    exact call_int_bool ⟨.int (if k then 1 else 0),H,I.tok _,⟨_,rfl⟩,q⟩
def SL (K:PySem.W.Frag) (x:V) (H:Hp) (n:Nat):Prop:=
  match x with
  | .str y=>y.length <= sizeLine /\ n=y.length
  | .byt y=>y.size <= sizeLine /\ n=y.size
  | .ref p=>(∃ xs,SqL K H p xs /\ n=xs.length) ∨ ∃ xs,SqT K H p xs /\ n=xs.length
  | _=>False
theorem Mb:A0 X (.builtin "len") (fun xs H Q=>∃ x n,xs=[x] /\ SL X.K x H n /\ Q (.int n) H):=by
  intro pins s σ H xs us Q I r h
  obtain ⟨x,n,rfl,e,q⟩:=h
  obtain ⟨u,rfl,rx⟩:=FZ r
  have hl:=GW
  have hs:sizeLine=16777216:=sizeLine_eq
  cases x with
  | str y=>
    obtain ⟨t,rfl⟩:=rx
    obtain ⟨hy,e'⟩:y.length <= sizeLine /\ n=y.length:=e
    subst e'
    exact len_str (by omega) ⟨.int _,H,I.tok _,⟨_,rfl⟩,q⟩
  | byt y=>
    obtain ⟨t,rfl⟩:=rx
    obtain ⟨hy,e'⟩:y.size <= sizeLine /\ n=y.size:=e
    subst e'
    exact PySem.W.len_bytes (by omega) ⟨.int _,H,I.tok _,⟨_,rfl⟩,q⟩
  | ref p=>
    cases rx
    have e':(∃ xs,SqL X.K H p xs /\ n=xs.length) ∨ ∃ xs,SqT X.K H p xs /\ n=xs.length:=e
    rcases e' with ⟨xs,hx,e'⟩ | ⟨xs,hx,e'⟩
    . subst e'
      obtain ⟨its,r',pl,hz⟩:=I.list hx
      have hlen:=r'.length
      exact Calls.call_len_list pl.isList (by simp only [List.size_toArray]; omega) ⟨.int xs.length,H,I.tok _,⟨_,by simp only [List.size_toArray]; rw [hlen]⟩,q⟩
    . subst e'
      obtain ⟨its,r',pl,hz⟩:=I.tuple hx
      have hlen:=r'.length
      exact len_tuple pl (by simp only [List.size_toArray]; omega) ⟨.int xs.length,H,I.tok _,⟨_,by simp only [List.size_toArray]; rw [hlen]⟩,q⟩
  | _=>exact (show False from e).elim
end
end L2
namespace L2
open PySem PySem.Spec PyProof.Rows
structure ObjM (h:Heap) (x dx C:Addr) (mA:Str->Option Value):Prop where
  obj:h.get? x=some (PySem.W.instObj C dx)
  ns:h.Ns1 dx mA
  ne:dx ≠ x
theorem Kf {h:Heap} {dx:Addr} {mA:Str->Option Value} (n:h.Ns1 dx mA):∃ od,h.get? dx=some od /\ ∀ name,PySem.W.lookIn name od=some (mA name):=by
  obtain ⟨o,es,ep,ho,hd,hk,_,hm⟩:=n
  refine ⟨o,ho,fun name=>?_⟩
  have e:=hm name
  unfold nsFind findBy at e
  rw [← Array.find?_toList] at e
  unfold PySem.W.lookIn
  rw [hd]
  dsimp only
  split
  . rename_i y q
    rw [q] at e
    exact congrArg some e
  . rename_i q
    rw [q] at e
    have a:es.toList.any (·.refKey)=false:=by
      rw [List.any_eq_false]
      intro y hy
      obtain ⟨z,t,hkey⟩:=hk y (Array.mem_toList_iff.mp hy)
      simp [DictEntry.refKey,hkey]
    have a' : ¬ es.toList.any (·.refKey)=true:=by rw [a]; exact Bool.false_ne_true
    rw [if_neg a']
    exact congrArg some e
theorem ObjM.look {h:Heap} {x dx C:Addr} {mA:Str->Option Value} (I:ObjM h x dx C mA):∃ od,PySem.W.InstAt h x (PySem.W.instObj C dx) C (some od) /\ ∀ name,PySem.W.lookIn name od=some (mA name):=
  let ⟨od,ho,hl⟩:=Kf I.ns
  ⟨od,⟨I.obj,rfl,rfl,ho⟩,hl⟩
section
variable {prog:Program} {w:World} {A:Around} {E:Value->Shared->Prop} {s:Shared} {K:PySem.W.Frag} {x dx C f:Addr} {mA:Str->Option Value} {name:Str} {v:Value}
end
section
variable {P:Program} {w:World} {H H':Hp} {h h':Heap} {a C dx:Addr} {fs fs':List (Str × V)}
theorem OA (hok:HOk P w H h) (e:H a=some (.ins C dx fs)):∃ mA,ObjM h a dx C mA /\ (∀ f,Qa (fs.lookup f) (mA f)) /\ PySem.Within mA (fs.map (·.1)) /\ fs.length <= 1000 /\ H dx=some (.own a):=by
  obtain ⟨d,z,ne,ob,mA,n,r,q⟩:=(show ObjOk P w H h a (.ins C dx fs) from hok a _ e)
  exact ⟨mA,⟨ob,n,ne⟩,r,q,z,d⟩
end
structure Cls (K:PySem.W.Frag) (C:Addr):Prop where
  pg:PySem.W.plainGet K C Str.empty=true
  hd:PySem.W.hasDictIn K C=true
  po:PySem.W.plainOver K C=true
  sa:PySem.W.findIn K (.ref C) "__setattr__" = some (some (.builtin "object.__setattr__"))
theorem Cls.get {K:PySem.W.Frag} {C:Addr} (c:Cls K C) (f:Str):PySem.W.plainGet K C f=true:=c.pg
section
variable {X:Cx} {pins:List (Addr × Obj)} {σ:St} {H:Hp} {s:Shared} {a C dx:Addr} {fs:List (Str × V)} {f:Str} {v:V} {A:Around} {E:Value->Shared->Prop}
end
section
variable {X:Cx} {o e value:Expr} {f:Str} {pos pos' tpos:Pos} {ta tv:TE}
end
section
variable {X:Cx} {pins:List (Addr × Obj)} {σ:St} {H:Hp} {s:Shared} {A:Around} {E:Value->Shared->Prop} {Q:Value->Shared->Prop} {c:Value} {b:Bool}
inductive Db (K:PySem.W.Frag) (H:Hp):V->Value->Prop where
  | non:Db K H .non (.type "NoneType")
  | bl (x:Bool):Db K H (.bl x) (.type "bool")
  | int (i:Int):Db K H (.int i) (.type "int")
  | str (x:Str):Db K H (.str x) (.type "str")
  | flt (x:UInt64):Db K H (.flt x) (.type "float")
  | lst {a:Addr} {xs:List V} (e:H a=some (.lst xs)):Db K H (.ref a) (.type "list")
  | frz {a:Addr} {o:Obj} {xs:List V} (e:H a=some (.frz o (.lst xs))):Db K H (.ref a) (.type "list")
  | tup {a:Addr} {xs:List V} (e:H a=some (.tup xs)):Db K H (.ref a) (.type "tuple")
  | dK {a:Addr} {kvs:List (Key × V)} (e:H a=some (.dK kvs)):Db K H (.ref a) (.type "dict")
  | dT {a:Addr} {kvs:List (List Key × V)} (e:H a=some (.dT kvs)):Db K H (.ref a) (.type "dict")
  | ins {a C dx:Addr} {fs:List (Str × V)} (e:H a=some (.ins C dx fs)) (cl:Cls K C) (ha:PySem.W.findIn K (.ref C) "__class__" = some (some (.builtin "object.__class__")))
      (hn:PySem.W.specialIn K (.builtin "object.__class__") "__get__" = some (some (.builtin "getset_descriptor.__get__"))) (htk:PySem.W.takesIn K (.builtin "object.__class__")=some true)
      (hm:PySem.W.mroIn K C (.type "object")=some true):Db K H (.ref a) (.ref C)
theorem Kh {x:V} {u t:Value} (I:Inv X pins σ H s) (rx:RelV x u) (ty:Db X.K H x t) (e:PySem.W.kitOne X.K t c=some b) (h:∀ tk,Q (.bool b) { s with toks:=tk }) :
    wpAny (model X.prog X.w) A (call (.builtin "isinstance") [u,c]) Q E s:=by
  cases ty with
  | non=>cases (show u=Value.none from rx); exact PySem.W.kia_one PySem.W.kitx_none I.kIn True.intro e (fun z=>nomatch z) h
  | bl y=>cases (show u=Value.bool y from rx); exact PySem.W.kia_one PySem.W.kitx_bool I.kIn True.intro e (fun z=>nomatch z) h
  | int i=>obtain ⟨t,q⟩:=(show ∃ t,u=Value.int i t from rx); cases q; exact PySem.W.kia_one PySem.W.kitx_int I.kIn True.intro e (fun z=>nomatch z) h
  | str y=>obtain ⟨t,q⟩:=(show ∃ t,u=Value.str y t from rx); cases q; exact PySem.W.kia_one PySem.W.kitx_str I.kIn True.intro e (fun z=>nomatch z) h
  | flt y=>obtain ⟨t,q⟩:=(show ∃ t,u=Value.float y t from rx); cases q; exact PySem.W.kia_one PySem.W.kitx_float I.kIn True.intro e (fun z=>nomatch z) h
  | @lst a xs ea=>
    cases (show u=Value.ref a from rx)
    obtain ⟨_,_,n,_,h1⟩:=(show ObjOk X.prog X.w H s.heap a (.lst xs) from I.hok a _ ea)
    exact PySem.W.kia_one PySem.W.kitx_list I.kIn ⟨_,h1,rfl⟩ e (fun z=>nomatch z) h
  | @frz a ob xs ea=>
    cases (show u=Value.ref a from rx)
    obtain ⟨_,_,_,n,_,h1⟩:=(show ObjOk X.prog X.w H s.heap a (.frz ob (.lst xs)) from I.hok a _ ea)
    exact PySem.W.kia_one PySem.W.kitx_list I.kIn ⟨_,h1,rfl⟩ e (fun z=>nomatch z) h
  | @tup a xs ea=>
    cases (show u=Value.ref a from rx)
    obtain ⟨_,_,_,p⟩:=(show ObjOk X.prog X.w H s.heap a (.tup xs) from I.hok a _ ea)
    obtain ⟨o,h1,h2,_⟩:=p
    exact PySem.W.kia_one PySem.W.kitx_tuple I.kIn ⟨o,h1,h2⟩ e (fun z=>nomatch z) h
  | @dK a kvs ea=>
    cases (show u=Value.ref a from rx)
    obtain ⟨_,_,vs,_,p⟩:=(show ObjOk X.prog X.w H s.heap a (.dK kvs) from I.hok a _ ea)
    obtain ⟨o,es,ep,h1,h2,_⟩:=p
    exact PySem.W.kia_one PySem.W.kitx_dict I.kIn ⟨o,h1,h2.1⟩ e (fun z=>nomatch z) h
  | @dT a kvs ea=>
    cases (show u=Value.ref a from rx)
    obtain ⟨_,_,xs,_,o,es,ep,h1,h2,_⟩:=(show ObjOk X.prog X.w H s.heap a (.dT kvs) from I.hok a _ ea)
    exact PySem.W.kia_one PySem.W.kitx_dict I.kIn ⟨o,h1,h2.1⟩ e (fun z=>nomatch z) h
  | @ins a C dx fs ea cl ha hn htk hm=>
    cases (show u=Value.ref a from rx)
    obtain ⟨mA,O,_⟩:=OA I.hok ea
    obtain ⟨od,J,_⟩:=O.look
    exact PySem.W.kia_one (PySem.W.kitx_own (cl.get _) cl.hd ha hn htk hm) I.kIn J e (fun z=>nomatch z) h
end
end L2
namespace L2
open PySem PySem.Spec PyProof.Rows
structure Room (k:Nat) (A:Around):Prop where
  hd:A.handled=none
  dp:A.depth + 3 * k + 5 < recursionLimit
  un:A.units + 16 * k + 200 < cLine
theorem Room.mono {j k:Nat} {A:Around} (r:Room k A) (h:j <= k):Room j A:=⟨r.hd,by have:=r.dp; omega,by have:=r.un; omega⟩
theorem Room.deeper {k:Nat} {A:Around} (r:Room (k + 1) A) (env:Env):Room k (A.deeper env):=
  ⟨r.hd,by have:=r.dp; show A.depth + 1 + 3 * k + 5 < _; omega,by have:=r.un; show A.units + 3 + 16 * k + 200 < _; omega⟩
theorem Room.depth {k:Nat} {A:Around} (r:Room k A):A.depth < recursionLimit:=by have:=r.dp; omega
theorem Room.units {k:Nat} {A:Around} (r:Room k A):A.units + 64 < cLine:=by have:=r.un; omega
def Rw:TA:=fun _ H Q=>Q [] H
def Qr (ta:TE) (tr:TA):TA:=fun σ H Q=>ta σ H fun x H1=>tr σ H1 fun xs H2=>Q (x :: xs) H2
section
variable {X:Cx} {e:Expr} {es:List Expr} {te:TE} {t:TA} {pos:Pos}
theorem Cn:PA X [] Rw:=fun _ _ _ _ H Q I h=>Calls.spliced_nil ⟨[],H,I,.nil,h⟩
theorem B7 (ha:PE X e te) (hr:PA X es t) (hs:starEach (e :: es) X.env=(false,eval e X.env) :: starEach es X.env:=by rfl):PA X (e :: es) (Qr te t):=by
  intro pos pins s σ H Q I h
  rw [hs]
  show wpAny _ _ (spliced ((false,eval e X.env) :: backTo pos (starEach es X.env))) _ _ s
  refine Calls.spliced_cons (thn (ha pins s σ H _ I h) fun u s1 ⟨x,H1,I1,r1,q1⟩=>?_)
  exact thn (hr pos pins s1 σ H1 _ I1 q1) fun us s2 ⟨xs,H2,I2,r2,q2⟩=>⟨x :: xs,H2,I2,.cons r1 r2,q2⟩
def Rr (t:TA):TE:=fun σ H Q=>t σ H fun xs H1=>xs.length <= sizeLine /\ ∀ p,H1 p=none->Q (.ref p) (upd H1 p (.tup xs))
def Rx (t:TA):TE:=fun σ H Q=>t σ H fun xs H1=>xs.length <= sizeLine /\ ∀ p,H1 p=none->Q (.ref p) (upd H1 p (.lst xs))
theorem Pj {x1} (h:PA X es t):PE X (.Tuple es x1 pos) (Rr t):=by
  intro pins s σ H Q I hq
  refine wpAny_Tuple_spliced (thn (h pos pins s σ H _ I hq) fun us s1 ⟨xs,H1,I1,r,z,q⟩=>⟨by rw [← r.length]; exact z,?_⟩)
  have hf:H1 s1.heap.objs.size=none:=I1.hok.fresh (Nat.le_refl _)
  refine ⟨.ref s1.heap.objs.size,upd H1 s1.heap.objs.size (.tup xs),I1.laid (t':=s1.toks) (fun b u e=>Heap.get?_push_of_some _ e) (Nat.le_refl _) ?_,rfl,q _ hf⟩
  exact ⟨z,us,r,⟨_,Heap.get?_push_size _ rfl,rfl,_,rfl⟩⟩
theorem Lu (h:PA X es t):PE X (.List es pos) (Rx t):=by
  intro pins s σ H Q I hq
  refine wpAny_List_spliced (thn (h pos pins s σ H _ I hq) fun us s1 ⟨xs,H1,I1,r,z,q⟩=>⟨by rw [← r.length]; exact z,?_⟩)
  have hf:H1 s1.heap.objs.size=none:=I1.hok.fresh (Nat.le_refl _)
  refine ⟨.ref s1.heap.objs.size,upd H1 s1.heap.objs.size (.lst xs),I1.laid (t':=s1.toks) (fun b u e=>Heap.get?_push_of_some _ e) (Nat.le_refl _) ?_,rfl,q _ hf⟩
  exact ⟨z,us,0,r,Heap.get?_push_size _ rfl⟩
end
abbrev Sp:=List V->Hp->VK->XK->Prop
abbrev CXT:=List Env->Hp->Shared->XK->Value->Shared->Prop
structure ON (P:Program) (w:World) (K:PySem.W.Frag) (mg:Str->Option Value) (base:Heap) (A:Around) (outer:List Env) (s:Shared) (H:Hp):Prop where
  frames:A.frames=some outer
  mod:Mod K mg base
  bs:∀ b o,base.get? b=some o->s.heap.get? b=some o /\ H b=none
  bsz:base.objs.size <= s.heap.objs.size
  funs:s.heap.FunFrames base outer
  frf:∀ b ∈ frs outer,H b=none
  hok:HOk P w H s.heap
  bare:AllBare s.gens
def CE (outer:List Env) (P:Program) (w:World) (H:Hp) (s:Shared) (Q:VK) (u:Value) (s':Shared):Prop:=
  ∃ v H',s'.os=s.os /\ AllBare s'.gens /\ Un (frs outer) [] H H' s.heap s'.heap /\ HOk P w H' s'.heap /\ RelV v u /\ Q v H'
def CR (CX:CXT) (outer:List Env) (P:Program) (w:World) (H:Hp) (s:Shared) (Q:VK) (E:XK) (r:Result) (s':Shared):Prop:=
  match r with
  | .ok (.ret u)=>CE outer P w H s Q u s'
  | .ok _=>False
  | .error e=>CX outer H s E e s'
structure FnOk (P:Program) (w:World) (K:PySem.W.Frag) (mg:Str->Option Value) (base:Heap) (CX:CXT) (k:Nat) (f:Addr) (fd:FuncData) (ps:List Str) (sp:Sp):Prop where
  len:∀ vs H Q E,sp vs H Q E->vs.length=ps.length
  run:∀ (A:Around) (outer:List Env) (s:Shared) (H:Hp) (args:Args) (us:List Value) (vs:List V) (Q:VK) (E:XK),Room k A->ON P w K mg base A outer s H->BindsTo s fd args (ps.zip us)->Vals vs us->sp vs H Q E->
    codeAny (model P w) A (.call (.ref f) args) (CR CX outer P w H s Q E) s
theorem FnOk.imp {P:Program} {w:World} {K:PySem.W.Frag} {mg:Str->Option Value} {base:Heap} {CX:CXT} {k:Nat} {f:Addr} {fd:FuncData} {ps:List Str} {sp sp':Sp} (F:FnOk P w K mg base CX k f fd ps sp)
    (h:∀ vs H Q E,sp' vs H Q E->sp vs H Q E):FnOk P w K mg base CX k f fd ps sp':=
  ⟨fun vs H Q E q=>F.len vs H Q E (h _ _ _ _ q),fun A outer s H args us vs Q E hr he hb hv hs=>F.run A outer s H args us vs Q E hr he hb hv (h _ _ _ _ hs)⟩
section
variable {X:Cx} {pins:List (Addr × Obj)} {σ:St} {H:Hp} {s s':Shared}
theorem Inv.env0 (I:Inv X pins σ H s):ON X.prog X.w X.K X.mg X.base X.A X.stack s H:=
  ⟨I.ok.frames,I.ok.mod,I.bs,Nat.le_trans I.ok.bsz I.sz,I.stack,I.stkFree,I.hok,I.bare⟩
theorem Inv.after {Q:VK} {u:Value} (I:Inv X pins σ H s) (h:CE X.stack X.prog X.w H s Q u s'):EP X pins σ Q u s':=by
  obtain ⟨v,H',os,bare,un,hok,r,q⟩:=h
  obtain ⟨hh,g,d,t,os'⟩:=s'
  obtain rfl:os'=s.os:=os
  exact ⟨v,H',I.call (h':=hh) (g':=g) (d':=d) (t':=t) (ch:=[]) un hok bare (fun b z=>absurd z (by simp)),r,q⟩
end
def Qs (sp:Sp) (dvs:List V) (E:XK) (t:TA):TE:=fun σ H Q=>t σ H fun vs H1=>sp (vs ++ dvs) H1 Q E
def Binds (K:PySem.W.Frag) (fd:FuncData) (ps:List Str) (ds:List Value):Prop:=
  ∀ (s:Shared) (us:List Value),K.In s.heap->(us ++ ds).length=ps.length->BindsTo s fd ⟨us,[]⟩ (ps.zip (us ++ ds))
theorem Binds.all {K:PySem.W.Frag} {fd:FuncData} {ps:List Str} (h:∀ us:List Value,us.length=ps.length->bindArgs fd ⟨us,[]⟩=pure (ps.zip us)):Binds K fd ps []:=fun s us _ hl=>by
  rw [List.append_nil] at hl ⊢
  exact .of_eq (h us hl)
def Iq (CX:CXT) (X:Cx) (E:XK):Prop:=∀ (pins:List (Addr × Obj)) (σ:St) (H:Hp) (s:Shared) (e:Value) (s':Shared),Inv X pins σ H s->CX X.stack H s E e s'->X.xe e s'
section
variable {X:Cx} {CX:CXT} {k:Nat} {f C:Addr} {fd:FuncData} {ps:List Str} {sp:Sp} {dvs:List V} {ds:List Value} {E:XK} {x m:Str} {p pos apos:Pos} {e o:Expr} {es:List Expr} {ta:TE} {t:TA}
theorem PF {pins:List (Addr × Obj)} {σ:St} {H:Hp} {s:Shared} {Q:VK} {us:List Value} {vs:List V} (F:FnOk X.prog X.w X.K X.mg X.base CX k f fd ps sp) (hr:Room k X.A) (hb:Binds X.K fd ps ds) (hd:Vals dvs ds) (hx:Iq CX X E)
    (I:Inv X pins σ H s) (r:Vals vs us) (h:sp (vs ++ dvs) H Q E):wpAny (model X.prog X.w) X.A (call (.ref f) us) (EP X pins σ Q) X.xe s:=by
  have r2:Vals (vs ++ dvs) (us ++ ds):=r.append hd
  have hl:(us ++ ds).length=ps.length:=by rw [← r2.length]; exact F.len _ _ _ _ h
  refine wpAny_call (codeAny_mono (F.run X.A X.stack s H ⟨us,[]⟩ (us ++ ds) (vs ++ dvs) Q E hr I.env0 (hb s us I.kIn hl) r2 h) fun r s' hq=>?_)
  cases r with
  | error e=>exact hx pins σ H s e s' I hq
  | ok fl=>
    cases fl with
    | ret u=>exact I.after hq
    | next=>exact False.elim hq
    | brk=>exact False.elim hq
    | cont=>exact False.elim hq
theorem No (F:FnOk X.prog X.w X.K X.mg X.base CX k f fd ps sp) (hr:Room k X.A) (hg:Gl X x) (hm:X.mg x=some (.ref f)) (hk:PySem.W.keepIn X.K (.ref f)=true) (hb:Binds X.K fd ps ds) (hd:Vals dvs ds) (hx:Iq CX X E)
    (ha:PA X (e :: es) t) (hdb:(x == ("__debug__" : Str))=false:=by decide) (he:starEach (e :: es) X.env=(false,eval e X.env) :: starEach es X.env:=by rfl) (hpl:(backTo pos (starEach es X.env)).any (·.1)=false:=by rfl) :
    PE X (.Call (.Name x p) (e :: es) [] pos) (Qs sp dvs E t):=by
  intro pins s σ H Q I h
  refine wpAny_Call_Name_kw (Nz I hg hm ?_ hdb)
  refine PySem.W.callWith_K (h₀:=X.base) I.ok.mod.kin hk (thn (ha pos pins s σ H _ I h) fun us s1 ⟨vs,H1,I1,r,q⟩=>⟨I1.kIn,?_⟩) he hpl
  exact PF F hr hb hd hx I1 r q
end
section
variable {X:Cx} {CX:CXT} {k:Nat} {f C:Addr} {fd:FuncData} {ps ks:List Str} {sp:Sp} {E:XK} {x m:Str} {p pos apos kpos:Pos} {e o:Expr} {es:List Expr} {kws:List Keyword} {te ta:TE} {t tk:TA} {nm:Option Str}
variable {g:List Value->List Value->List Value} {gV:List V->List V->List V}
end
structure Ag (N P:List Str) (sc:Scope):Prop where
  kind:sc.kind=.function
  co:sc.isCoroutine=false
  gen:sc.isGenerator=false
  nd:N.Nodup
  pre:N.take P.length=P
  par:∀ x ∈ P,sc.names.lookup x=some .local ∨ sc.names.lookup x=some .cell
  nofree:∀ y ∈ sc.names,y.2 ≠ .free
theorem F8 {kindOf:Str->Option NameKind} {x:Str}:∀ {binds:List (Str × Value)} {m:Str->Option Value},(∀ v,(x,v) ∉ binds)->bindL kindOf binds m x=m x
  | [],_,_=>rfl
  | (n,v) :: r,m,h=>by
    unfold bindL
    rw [F8 fun w hw=>h w (List.mem_cons_of_mem _ hw)]
    split
    . have:x ≠ n:=by rintro rfl; exact h v List.mem_cons_self
      simp [this]
    . rfl
theorem GA {kindOf:Str->Option NameKind} {x:Str}:∀ {binds:List (Str × Value)} {m:Str->Option Value},(∀ v,(x,v) ∉ binds)->bindC kindOf binds m x=m x
  | [],_,_=>rfl
  | (n,v) :: r,m,h=>by
    unfold bindC
    rw [GA fun w hw=>h w (List.mem_cons_of_mem _ hw)]
    split
    . rfl
    . have:x ≠ n:=by rintro rfl; exact h v List.mem_cons_self
      simp [this]
theorem F9 {kindOf:Str->Option NameKind} {x:Str} {v:Value}:∀ {P:List Str} {vs:List Value} {i:Nat} {m:Str->Option Value},P.Nodup->P[i]? = some x->vs[i]? = some v->kindOf x=some .local->
    bindL kindOf (P.zip vs) m x=some v
  | [],_,_,_,_,h,_,_=>by simp at h
  | _ :: _,[],_,_,_,_,h,_=>by simp at h
  | p :: P,w :: vs,0,m,nd,h1,h2,hk=>by
    simp at h1 h2; subst h1; subst h2
    show bindL kindOf ((p,w) :: P.zip vs) m p=_
    unfold bindL
    rw [F8 fun v hv=>(List.nodup_cons.mp nd).1 (List.of_mem_zip hv).1,if_pos hk]
    simp
  | p :: P,w :: vs,i + 1,m,nd,h1,h2,hk=>by
    show bindL kindOf ((p,w) :: P.zip vs) m x=_
    unfold bindL
    exact F9 (i:=i) (List.nodup_cons.mp nd).2 (by simpa using h1) (by simpa using h2) hk
theorem GB {kindOf:Str->Option NameKind} {x:Str} {v:Value}:∀ {P:List Str} {vs:List Value} {i:Nat} {m:Str->Option Value},P.Nodup->P[i]? = some x->vs[i]? = some v->kindOf x ≠ some .local->
    bindC kindOf (P.zip vs) m x=some v
  | [],_,_,_,_,h,_,_=>by simp at h
  | _ :: _,[],_,_,_,_,h,_=>by simp at h
  | p :: P,w :: vs,0,m,nd,h1,h2,hk=>by
    simp at h1 h2; subst h1; subst h2
    show bindC kindOf ((p,w) :: P.zip vs) m p=_
    unfold bindC
    rw [GA fun v hv=>(List.nodup_cons.mp nd).1 (List.of_mem_zip hv).1,if_neg hk]
    simp
  | p :: P,w :: vs,i + 1,m,nd,h1,h2,hk=>by
    show bindC kindOf ((p,w) :: P.zip vs) m x=_
    unfold bindC
    exact GB (i:=i) (List.nodup_cons.mp nd).2 (by simpa using h1) (by simpa using h2) hk
def start (N:List Str) (vs:List V):St:=vs.map some ++ List.replicate (N.length - vs.length) none
def B5 (CX:CXT) (P:Program) (w:World) (K:PySem.W.Frag) (mg:Str->Option Value) (base:Heap) (N:List Str) (qual:Str) (scope:Scope) (f:Addr) (cd:Value) (A:Around) (outer:List Env) (s:Shared) (H:Hp) (E:XK):Cx where
  prog:=P
  w:=w
  K:=K
  mg:=mg
  base:=base
  A:=A.deeper (envOfC qual scope s.heap.objs.size f cd)
  N:=N
  s₀:=s
  H₀:=H
  env:=envOfC qual scope s.heap.objs.size f cd
  outer:=outer
  stack:=envOfC qual scope s.heap.objs.size f cd :: outer
  ex:=[]
  calm:=true
  fn:=fun _=>true
  pn:=[]
  xe:=fun e s'=>wpAny (model P w) (A.deeper (envOfC qual scope s.heap.objs.size f cd)) (leaving (envOfC qual scope s.heap.objs.size f cd) e) (fun _ s''=>CX outer H s E e s'') (fun e' s''=>CX outer H s E e' s'') s'
theorem He {sc:Scope} {n:Nat} {x:Str} (h:sc.names.lookup x=some .cell):∃ c,(cellsFrom n sc.names []).lookup x=some c:=by
  have q:=PySem.W.cellsFrom_some sc.names n [] (.inl h)
  exact Option.isSome_iff_exists.mp q
theorem Ki {CX:CXT} {P:Program} {w:World} {K:PySem.W.Frag} {mg:Str->Option Value} {base:Heap} {N ps:List Str} {qual:Str} {scope:Scope} {f:Addr} {cd:Value} {A:Around} {outer:List Env} {s s1:Shared} {H:Hp} {E:XK} {us:List Value} {vs:List V}
    (S:Ag N ps scope) (hd:A.handled=none) (e0:ON P w K mg base A outer s H) (hl:vs.length=ps.length) (r:Vals vs us)
    (x:InCallC s s.heap.objs.size (bindL (envOfC qual scope s.heap.objs.size f cd).kindOf (ps.zip us) fun _=>none) (cellsFrom (s.heap.objs.size + 1) scope.names []) (bindC (envOfC qual scope s.heap.objs.size f cd).kindOf (ps.zip us) fun _=>none) s1) :
    Inv (B5 CX P w K mg base N qual scope f cd A outer s H E) [] (start N vs) H s1:=by
  have hpl:ps.length <= N.length:=by have:=congrArg List.length S.pre; rw [List.length_take] at this; omega
  obtain ⟨h1,tk,rfl,hk⟩:=x.done
  have noA:∀ b:Addr,b ∉ (B5 CX P w K mg base N qual scope f cd A outer s H E).ex:=fun b z=>absurd (show b ∈ ([]:List Addr) from z) (by simp)
  refine ⟨⟨e0.mod,S.kind,rfl,rfl,Nat.le_refl _,fun y z c h1 h2=>?_,fun y hy=>?_,fun y c _ h=>?_,fun _=>hd,Around.frames_deeper e0.frames,.inr ⟨rfl,rfl⟩,fun b z=>absurd z (noA b),e0.bs,e0.bsz,fun b _ _=>noA b,fun b z=>absurd z (noA b),e0.funs,e0.frf⟩,
    rfl,e0.bare,Un.kept hk,⟨_,x.toInCall.ns,fun i y v h1 h2 h3=>?_⟩,fun y c h=>⟨_,x.cell y c h⟩,e0.hok.fresh (Nat.le_refl _),fun y c h=>?_,fun p hp=>absurd (show p ∈ ([]:List (Addr × Obj)) from hp) (by simp),e0.hok.kept hk,?_⟩
  . exact name_of_addr x.apart (PySem.mem_of_lookup h1) (PySem.mem_of_lookup h2)
  . have hy:scope.names.lookup y=some .cell ∨ scope.names.lookup y=some .free:=hy
    rcases hy with hy | hy
    . exact He hy
    . exact absurd rfl (S.nofree _ (PySem.mem_of_lookup hy))
  . exact Nat.le_of_lt (x.above y c (PySem.mem_of_lookup h))
  . have hi:i < vs.length:=by
      unfold start at h2
      by_cases hi:i < vs.length
      . exact hi
      . rw [List.getElem?_append_right (by simpa using hi)] at h2
        rw [List.getElem?_replicate] at h2
        split at h2 <;> cases h2
    have ha:vs[i]? = some v:=by
      unfold start at h2
      rw [List.getElem?_append_left (by simpa using hi),List.getElem?_map] at h2
      cases e:vs[i]? with
      | none=>rw [e] at h2; cases h2
      | some a=>rw [e] at h2; cases h2; rfl
    obtain ⟨u,hu,rv⟩:=r.get ha
    have hp:ps[i]? = some y:=by
      rw [← S.pre,List.getElem?_take_of_lt (by omega)]; exact h1
    have ndP:ps.Nodup:=by rw [← S.pre]; exact S.nd.sublist (List.take_sublist _ _)
    refine ⟨u,rv,?_⟩
    rcases S.par y (List.mem_of_getElem? hp) with k | k
    . exact .inl ⟨k,F9 ndP hp hu k⟩
    . obtain ⟨c,e⟩:=He (n:=s.heap.objs.size + 1) k
      refine .inr ⟨.inl k,c,e,?_⟩
      have q:=x.cell y c e
      rw [GB ndP hp hu (by show scope.names.lookup y ≠ _; rw [k]; decide)] at q
      exact q
  . exact e0.hok.fresh (Nat.le_of_lt (x.above y c (PySem.mem_of_lookup h)))
  . unfold start
    show _=N.length
    rw [List.length_append,List.length_map,List.length_replicate]
    omega
theorem Rf {CX:CXT} {P:Program} {w:World} {K:PySem.W.Frag} {mg:Str->Option Value} {base:Heap} {k:Nat} {f:Addr} {name qual:Str} {params:Arguments} {body:List Stmt} {scope:Scope} {dV kV doc pm cdv ct oc:Value} {an od:Option Addr}
    {osl:Array (Option Value)} {N ps:List Str} {sp:Sp} (lk:K.lookup f=some ⟨oc,od,.func (PySem.W.fnOf name qual params body scope dV kV doc pm an cdv ct),osl⟩) (hcd:PySem.W.codeIn K cdv qual=true) (S:Ag N ps scope)
    (len:∀ vs H Q E,sp vs H Q E->vs.length=ps.length)
    (hbody:∀ (A:Around) (outer:List Env) (s:Shared) (H:Hp) (vs:List V) (Q:VK) (E:XK),Room k (A.deeper (envOfC qual scope s.heap.objs.size f cdv))->sp vs H Q E->
      ∃ t,PSs (B5 CX P w K mg base N qual scope f cdv A outer s H E) body t /\ t { nx:=fun _ H'=>Q .non H',rt:=Q } (start N vs) H) :
    FnOk P w K mg base CX (k + 1) f (PySem.W.fnOf name qual params body scope dV kV doc pm an cdv ct) ps sp:=by
  refine ⟨len,fun A outer s H args us vs Q E hr e0 hb r hsp=>?_⟩
  have hl:=len _ _ _ _ hsp
  have KX:K.In s.heap:=e0.mod.kin.keeps fun b o e=>(e0.bs b o e).1
  have lim:s.heap.NoLimit:=e0.mod.nolimit.keeps fun b o e=>(e0.bs b o e).1
  have hkind:∀ y ∈ ps.zip us,scope.names.lookup y.1=some .local ∨ (scope.names.lookup y.1=some .cell /\ ((cellsFrom (s.heap.objs.size + 1) scope.names []).lookup y.1).isSome=true):=fun ⟨n,v⟩ hy=>by
    rcases S.par n (List.of_mem_zip hy).1 with q | q
    . exact .inl q
    . exact .inr ⟨q,PySem.W.cellsFrom_some _ _ _ (.inl q)⟩
  refine codeAny_call_function hr.depth (KX _ _ lk) rfl S.co S.gen rfl (PySem.W.codeRec_of KX hcd) (hb _ _ _ _ ?_)
  refine wpAny_newFunctionEnv_cells S.kind hkind fun env he s1 x=>?_
  subst he
  refine ⟨lim.keeps x.toInCall.keep,codeAny_func ?_⟩
  obtain ⟨t,ht,hq⟩:=hbody A outer s H vs Q E (hr.deeper _) hsp
  have I:Inv (B5 CX P w K mg base N qual scope f cdv A outer s H E) [] (start N vs) H s1:=Ki S hr.hd e0 hl r x
  refine wpAny_mono (ht [] s1 (start N vs) H _ I hq) (fun fl s' hs=>?_) fun e s' hs=>hs
  have fin:∀ {σ':St} {H':Hp} {v:V} {u:Value},Inv (B5 CX P w K mg base N qual scope f cdv A outer s H E) [] σ' H' s'->RelV v u->Q v H'->CE outer P w H s Q u s':=
    fun {σ' H' v u} J rv q=>⟨v,H',J.os,J.bare,J.base,J.hok,rv,q⟩
  cases fl with
  | ret u=>
    obtain ⟨v,σ',H',J,rv,q⟩:=hs
    exact fin J rv q
  | next=>
    obtain ⟨σ',H',J,q⟩:=hs
    exact fin (v:=V.non) (u:=Value.none) J rfl q
  | brk=>
    obtain ⟨_,_,_,q⟩:=hs
    exact False.elim q
  | cont=>
    obtain ⟨_,_,_,q⟩:=hs
    exact False.elim q
end L2
namespace L2
open PySem PySem.Spec PyProof.Rows
section
variable {X:Cx} {x:Str} {p pos:Pos} {e:Expr} {es:List Expr} {t:TA} {id T:String} {r:List V->Hp->VK->Prop}
def tCB (r:List V->Hp->VK->Prop) (t:TA):TE:=fun σ H Q=>t σ H fun vs H1=>r vs H1 Q
theorem Ef (hc:A0 X (.builtin id) r) (hg:Gl X x) (hm:X.mg x=none) (hv:bootBuiltins x=some (.builtin id)) (ha:PA X (e :: es) t) (hn:x ≠ "__name__" := by decide) (hdb:(x == ("__debug__" : Str))=false:=by decide)
    (he:starEach (e :: es) X.env=(false,eval e X.env) :: starEach es X.env:=by rfl) (hpl:(backTo pos (starEach es X.env)).any (·.1)=false:=by rfl):PE X (.Call (.Name x p) (e :: es) [] pos) (tCB r t):=by
  intro pins s σ H Q I h
  refine wpAny_Call_Name_kw (Ep I hg hm hv ?_ hn hdb)
  exact PyProof.Rows.callWith_builtin1 (thn (ha pos pins s σ H _ I h) fun us s1 ⟨vs,H1,I1,r1,q1⟩=>hc pins s1 σ H1 vs us Q I1 r1 q1) he hpl
theorem Br (hc:A0 X (.type T) r) (hg:Gl X x) (hm:X.mg x=none) (hv:bootBuiltins x=some (.type T)) (ha:PA X (e :: es) t) (hn:x ≠ "__name__" := by decide) (hdb:(x == ("__debug__" : Str))=false:=by decide)
    (he:starEach (e :: es) X.env=(false,eval e X.env) :: starEach es X.env:=by rfl) (hpl:(backTo pos (starEach es X.env)).any (·.1)=false:=by rfl):PE X (.Call (.Name x p) (e :: es) [] pos) (tCB r t):=by
  intro pins s σ H Q I h
  refine wpAny_Call_Name_kw (Ep I hg hm hv ?_ hn hdb)
  exact PyProof.Rows.callWith_type1 (thn (ha pos pins s σ H _ I h) fun us s1 ⟨vs,H1,I1,r1,q1⟩=>hc pins s1 σ H1 vs us Q I1 r1 q1) he hpl
end
end L2
namespace HT
open PySem PyProof.Rows
def BQ:List Int->List Int->Bool
  | [],[]=>false
  | [],_ :: _=>true
  | _ :: _,[]=>false
  | x :: xs,y :: ys=>if x=y then BQ xs ys else decide (x < y)
theorem Aq (x y:Int) (xs ys:List Int):BQ (x :: xs) (y :: ys)=if x=y then BQ xs ys else decide (x < y):=rfl
theorem FT:BQ [] []=false:=rfl
theorem En (y:Int) (ys:List Int):BQ [] (y :: ys)=true:=rfl
theorem Eo (x:Int) (xs:List Int):BQ (x :: xs) []=false:=rfl
theorem MR (A:Around) (s:Shared) (a:Int) (t:Tok) (c:Int) (u:Tok):∃ e,SeqAt.EqAt A s (.int a t) (.int c u) e /\ (e=true ↔ a=c):=
  ⟨(a == c),SeqAt.EqAt.int_int a t c u,by simp⟩
theorem La (A:Around) (s:Shared) (a:Int) (t:Tok) (c:Int) (u:Tok) (prog:Program) (w:World) (E:Value->Shared->Prop) (Q:Value->Shared->Prop) (h:Q (.bool (decide (a < c))) s) :
    wpAny (model prog w) A (richCompare .Lt (.int a t) (.int c u)) Q E s:=
  (PyProof.Rows.lt_int h:wpAny (model prog w) A (compareOp .Lt (.int a t) (.int c u)) Q E s)
section
open PySem.SeqAt
open PySem.AutoSeq1 (wpAny_loadPart')
open PySem.MeetsSeq PySem.MeetsSeq2 PySem.MeetsSeq3
theorem FO (l b:Addr) (items items2:Array Value) (n n2:Nat) (dd dd2:Option Addr) (sl sl2:Array (Option Value)) (ns ms:List Int) (hi:IntsAre items.toList ns) (hj:IntsAre items2.toList ms) :
    Meets (Builtin.«tuple.__lt__» ⟨[.ref l,.ref b],[]⟩)
      (fun _ R s=>s.heap.get? l=some { cls:=.type "tuple",dict:=dd,data:=.seq items n,slots:=sl } /\ s.heap.get? b=some { cls:=.type "tuple",dict:=dd2,data:=.seq items2 n2,slots:=sl2 } /\
        R (.ok (.ret (.bool (BQ ns ms)))) s):=
  .of_wp fun prog w A R s h=>by
    obtain ⟨hp,g,d,tk,os⟩:=s; obtain ⟨hl,hb,h⟩:=h
    have f2:=AutoSeq1.sub_tuple_tuple
    have z1:items.size=ns.length:=by rw [← hi.length]; simp
    have z2:items2.size=ms.length:=by rw [← hj.length]; simp
    wp_walk using wpAny_loadPart' hl,wpAny_loadPart' hb,wpAny_forIn_list _ (fun rest b s'=>b.1=none /\ s'=⟨hp,g,d,tk,os⟩ /\ ∃ (vs ws:List Value) (ns' ms':List Int),rest=vs.zip ws /\
      IntsAre vs ns' /\ IntsAre ws ms' /\ ns'.length + items2.size=ms'.length + items.size /\ R (.ok (.ret (.bool (BQ ns' ms')))) ⟨hp,g,d,tk,os⟩) _
    case turn=>
      rintro ⟨y,x⟩ rest b s' ⟨hb',rfl,vs,ws,ns',ms',hz,hvi,hwi,hlen,hR⟩
      cases hvi with
      | nil=>rw [List.zip_nil_left] at hz; cases hz
      | cons a t hvi'=>
        cases hwi with
        | nil=>rw [List.zip_nil_right] at hz; cases hz
        | cons c u hwi'=>
          rw [List.zip_cons_cons] at hz
          injection hz with hyx hrest
          injection hyx with hy hx
          subst hy hx
          rw [Aq] at hR
          simp only [List.length_cons] at hlen
          obtain ⟨e,he,hiff⟩:=MR A.in1 ⟨hp,g,d,tk,os⟩ a t c u
          refine wpAny_bind (he prog w _ _ ?_)
          cases e with
          | true=>
            rw [if_pos (hiff.mp rfl)] at hR
            wp_walk
            exact ⟨rfl,rfl,_,_,_,_,hrest,hvi',hwi',by omega,hR⟩
          | false=>
            rw [if_neg (fun q=>absurd (hiff.mpr q) Bool.false_ne_true)] at hR
            have hri:=La A.in1 ⟨hp,g,d,tk,os⟩ a t c u prog w
            wp_walk using hri
            exact ⟨_,rfl,by simpa using hR⟩
    case fin=>
      rintro ⟨b1,b2⟩ s' ⟨hb',rfl,vs,ws,ns',ms',hz,hvi,hwi,hlen,hR⟩
      simp only at hb'
      subst hb'
      have hv:BQ ns' ms'=decide (items.size < items2.size):=by
        cases hvi with
        | nil=>
          cases hwi with
          | nil=>
            simp only [List.length_nil] at hlen
            rw [FT]
            exact (decide_eq_false (by omega)).symm
          | cons c u hw=>
            simp only [List.length_nil,List.length_cons] at hlen
            rw [En]
            exact (decide_eq_true (by omega)).symm
        | cons a t hv=>
          cases hwi with
          | nil=>
            simp only [List.length_nil,List.length_cons] at hlen
            rw [Eo]
            exact (decide_eq_false (by omega)).symm
          | cons c u hw=>
            rw [List.zip_cons_cons] at hz
            cases hz
      rw [hv] at hR
      wp_walk
      exact ⟨_,rfl,by simpa [Builtin.Tuple.tupleCompareSizes] using hR⟩
    case h=>
      exact ⟨rfl,rfl,items.toList,items2.toList,ns,ms,rfl,hi,hj,by omega,h⟩
end
section
variable {prog:Program} {w:World} {A:Around} {E:Value->Shared->Prop} {s:Shared}
theorem IQ {l b:Addr} {items items2:Array Value} {ns ms:List Int} {Q:Value->Shared->Prop} (hl:IsTup s.heap l items) (hb:IsTup s.heap b items2) (hi:IntsAre items.toList ns) (hj:IntsAre items2.toList ms)
    (hu:A.units < cLine) (h:Q (.bool (BQ ns ms)) s):wpAny (model prog w) A (compareOp .Lt (.ref l) (.ref b)) Q E s:=by
  obtain ⟨⟨cls,dd,data,sl⟩,ho,hc,n,hd⟩:=id hl
  obtain ⟨⟨cls2,dd2,data2,sl2⟩,ho2,hc2,n2,hd2⟩:=id hb
  simp only at hc hd hc2 hd2
  subst hc hd hc2 hd2
  exact richCompare_meets_room (op:=.Lt) ⟨_,ho,rfl⟩ ⟨_,ho2,rfl⟩ PySem.F.slot_tuple_lt PySem.F.entry_tuple_lt (PySem.F.args_tuple_lt_2 _ _) (FO l b items items2 n n2 dd dd2 sl sl2 ns ms hi hj)
    ⟨ho,ho2,show Value.bool (BQ ns ms) ≠ Value.notImplemented /\ Q (.bool (BQ ns ms)) s from ⟨(fun x=>nomatch x),h⟩⟩ hu
theorem OE {t b:Addr} {vs ws:List Value} {Q:Value->Shared->Prop} (ht:IsTup s.heap t vs.toArray) (hb:IsTup s.heap b ws.toArray) (hv:vs ≠ [])
    (h1:ws=[]->Q (.ref t) s) (h2:ws ≠ []->Q (.ref s.heap.objs.size) { s with heap:=s.heap.push { cls:=.type "tuple",data:=.seq (vs ++ ws).toArray } })
    (hsz:vs.length + ws.length <= sizeLine):wpAny (model prog w) A (binaryOp .Add (.ref t) (.ref b)) Q E s:=by
  obtain ⟨⟨cls,dd,data,sl⟩,ho,hc,n,hd⟩:=id ht
  obtain ⟨⟨cls2,dd2,data2,sl2⟩,ho2,hc2,n2,hd2⟩:=id hb
  simp only at hc hd hc2 hd2
  subst hc hd hc2 hd2
  have e:vs.toArray ++ ws.toArray=(vs ++ ws).toArray:=by simp
  by_cases hw:ws=[]
  . exact concat_meets ⟨_,ho,rfl⟩ ⟨_,ho2,rfl⟩ noFill_tuple_add seq_tuple_add PySem.F.slot_tuple_add PySem.F.entry_tuple_add (PySem.F.args_tuple_add_2 _ _)
      (tuple_addW1 t b vs.toArray ws.toArray n n2 dd dd2 sl sl2 (by simpa using hv) (by simp [hw])) ⟨ho,ho2,h1 hw⟩
  . refine concat_meets ⟨_,ho,rfl⟩ ⟨_,ho2,rfl⟩ noFill_tuple_add seq_tuple_add PySem.F.slot_tuple_add PySem.F.entry_tuple_add (PySem.F.args_tuple_add_2 _ _)
      (tuple_addW2 t b vs.toArray ws.toArray n n2 dd dd2 sl sl2 (by simpa using hv) (by simpa using hw) (by rw [List.size_toArray,List.size_toArray]; exact hsz)) ⟨ho,ho2,?_⟩
    rw [e]
    exact h2 hw
def sIx (n d:Nat):Option Int->Nat
  | none=>d
  | some v=>if v < 0 then (v + (n:Int)).toNat else min v.toNat n
theorem PB (n d:Nat) (hd:d <= n) (o:Option Int):sIx n d o <= n:=by
  cases o with
  | none=>exact hd
  | some v=>
    show (if v < 0 then (v + (n:Int)).toNat else min v.toNat n) <= n
    by_cases hv:v < 0
    . rw [if_pos hv]; omega
    . rw [if_neg hv]; exact Nat.min_le_right _ _
theorem Jn (v:Int) (n d:Nat):(if v < 0 then max (v + (n:Int)) 0 else min v (n:Int))=((sIx n d (some v):Nat):Int):=by
  show (if v < 0 then max (v + (n:Int)) 0 else min v (n:Int))=(((if v < 0 then (v + (n:Int)).toNat else min v.toNat n):Nat):Int)
  by_cases hv:v < 0
  . simp only [if_pos hv]; omega
  . simp only [if_neg hv]; omega
theorem Ip (lo hi:Option Int) (n:Nat):Builtin.Slice.sliceAdjust lo hi 1 (n:Int)=(((sIx n 0 lo:Nat):Int),((sIx n n hi:Nat):Int)):=by
  have h1 : ¬ ((1:Int) < 0):=by omega
  unfold Builtin.Slice.sliceAdjust
  simp only [h1,if_false]
  refine Prod.ext ?_ ?_
  . cases lo with
    | none=>rfl
    | some v=>exact Jn v n 0
  . cases hi with
    | none=>rfl
    | some v=>exact Jn v n n
theorem IL (i j:Nat):Builtin.Slice.slicePlaces (i:Int) (j:Int) 1=j - i:=by
  unfold Builtin.Slice.slicePlaces
  have h1:(1:Int) > 0:=by omega
  simp only [h1,if_true,Int.ediv_one]
  split <;> omega
theorem EV {v:Value} {o:Option Int} {Q:Option Int->Shared->Prop} (p:IsPart v o) (h:Q o s):wpAny (model prog w) A (Builtin.Slice.slicePartIndex v) Q E s:=by
  cases p with
  | none=>exact slicePart_none h
  | int i t=>exact slicePart_int h
theorem CJ {sl:Addr} {vl vu:Value} {lo hi:Option Int} {n:Nat} {Q:Int × Int × Nat->Shared->Prop} (hs:s.heap.IsSliceOf sl vl vu .none) (pl:IsPart vl lo) (pu:IsPart vu hi)
    (h:Q (((sIx n 0 lo:Nat):Int),1,sIx n n hi - sIx n 0 lo) s):wpAny (model prog w) A (Builtin.Slice.sliceApplied (.ref sl) (pure (n:Int))) Q E s:=by
  obtain ⟨os,hos,hcs,hds⟩:=id hs
  unfold Builtin.Slice.sliceApplied Builtin.Slice.sliceFields
  refine wpAny_bind (wpAny_bind (wpAny_field hos hds (x:=vl) rfl (wpAny_bind (wpAny_field hos hds (x:=vu) rfl (wpAny_bind (wpAny_field hos hds (x:=.none) rfl (wpAny_pure ?_)))))))
  refine wpAny_bind (slicePart_none ?_)
  show wpAny _ _ (if ((1:Int) == 0)=true then _ else _) _ _ s
  rw [if_neg (by decide)]
  refine wpAny_bind (EV pl (wpAny_bind (EV pu (wpAny_bind (wpAny_pure ?_)))))
  show wpAny _ _ (match Builtin.Slice.sliceAdjust lo hi 1 (n:Int) with | (lo,hi)=>pure (lo,(1:Int),Builtin.Slice.slicePlaces lo hi 1)) _ _ s
  rw [Ip lo hi n]
  show wpAny _ _ (pure (((sIx n 0 lo:Nat):Int),(1:Int),Builtin.Slice.slicePlaces ((sIx n 0 lo:Nat):Int) ((sIx n n hi:Nat):Int) 1)) _ _ s
  rw [IL]
  exact wpAny_pure h
theorem Lo (xs:Array Value) (i k:Nat):((List.range k).filterMap fun (m:Nat)=>xs[((i:Int) + (m:Int) * 1).toNat]?).toArray=((xs.toList.drop i).take k).toArray:=by
  have e:(fun (m:Nat)=>xs[((i:Int) + (m:Int) * 1).toNat]?)=fun m=>xs[i + m]?:=by
    funext m
    have:((i:Int) + (m:Int) * 1).toNat=i + m:=by omega
    rw [this]
  rw [e]
  have:=pick_run xs i k
  rw [List.filterMap_map] at this
  have e2:((fun x=>xs[x]?) ∘ fun x=>i + x)=fun m=>xs[i + m]?:=rfl
  rw [e2] at this
  rw [this]
theorem DX {t sl:Addr} {items:Array Value} {vl vu:Value} {lo hi:Option Int} {Q:Value->Shared->Prop} (ht:IsTup s.heap t items) (hs:s.heap.IsSliceOf sl vl vu .none) (pl:IsPart vl lo) (pu:IsPart vu hi)
    (hw : ¬ (sIx items.size 0 lo=0 /\ sIx items.size items.size hi=items.size))
    (h:Q (.ref s.heap.objs.size) { s with heap:=s.heap.push { cls:=.type "tuple",data:=.seq ((items.toList.drop (sIx items.size 0 lo)).take (sIx items.size items.size hi - sIx items.size 0 lo)).toArray } })
    (hsz:items.size <= sizeLine):wpAny (model prog w) A (getItem (.ref t) (.ref sl)) Q E s:=by
  have htake:sizeOk (.seq ((items.toList.drop (sIx items.size 0 lo)).take (sIx items.size items.size hi - sIx items.size 0 lo)).toArray):=by
    show ((items.toList.drop (sIx items.size 0 lo)).take (sIx items.size items.size hi - sIx items.size 0 lo)).toArray.size <= sizeLine
    rw [List.size_toArray,List.length_take,List.length_drop,Array.length_toList]
    omega
  have hj:sIx items.size items.size hi <= items.size:=PB _ _ (Nat.le_refl _) hi
  obtain ⟨os,hos,hcs,hds⟩:=id hs
  have hTs:s.TypeIs (.ref sl) "slice" := ⟨os,hos,hcs⟩
  unfold getItem
  try with_reducible refine wpAny_holding ?_
  first | refine wpAny_bind (wpAny_pure ?_) | skip
  refine wpAny_bind (wpAny_sequenceKey ht.typeIs (by decide) ?_)
  refine wpAny_bind (wpAny_callSpecial?_slot (name:=Str.ofString "__getitem__") ht.typeIs PyProof.Rows.slot_tuple_getitem
    (wpAny_call_entry PyProof.Rows.slot_tuple_getitem ht.typeIs entry_tuple_getitem ?_ (args_tuple_getitem _ _)))
  show wpAny _ _ (Builtin.Tuple.tupleItemsOf (.ref t) >>= _) _ _ s
  refine wpAny_bind (tupleItemsOf_ ht ?_)
  refine wpAny_bind (wpAny_typeOf hTs ?_)
  rw [if_pos (by decide)]
  refine wpAny_bind (CJ hs pl pu ?_)
  have hno : ¬ ((((sIx items.size 0 lo:Nat):Int) == 0 && (1:Int) == 1 && (sIx items.size items.size hi - sIx items.size 0 lo) == items.size)=true):=by
    intro q
    rw [Bool.and_eq_true,Bool.and_eq_true] at q
    have q1:((sIx items.size 0 lo:Nat):Int)=0:=eq_of_beq q.1.1
    have q2:sIx items.size items.size hi - sIx items.size 0 lo=items.size:=eq_of_beq q.2
    exact hw ⟨by omega,by omega⟩
  show wpAny _ _ (if (((sIx items.size 0 lo:Nat):Int) == 0 && (1:Int) == 1 && (sIx items.size items.size hi - sIx items.size 0 lo) == items.size)=true then _ else _) _ _ s
  rw [if_neg hno,Lo]
  first
    | exact wpAny_bind (m:=Builtin.Tuple.tupleExact _) (wpAny_newObj_type (wpAny_pure ⟨_,rfl,wpAny_pure h⟩) htake)
    | exact wpAny_bind (m:=Builtin.Tuple.tupleExact _) (wpAny_newObj_type (wpAny_bind (wpAny_pure (wpAny_pure ⟨_,rfl,wpAny_pure h⟩))) htake)
    | exact wpAny_bind (wpAny_bind (m:=Builtin.Tuple.tupleExact _) (wpAny_newObj_type (wpAny_pure (wpAny_pure ⟨_,rfl,wpAny_pure h⟩)) htake))
    | exact wpAny_bind (wpAny_bind (m:=Builtin.Tuple.tupleExact _) (wpAny_newObj_type (wpAny_pure ⟨_,rfl,wpAny_pure h⟩) htake))
end
end HT
namespace L2
open PySem PySem.Spec PyProof.Rows
abbrev TO:=St->Hp->(Option Int->Hp->Prop)->Prop
def PO (X:Cx) (e:Option Expr) (t:TO):Prop:=
  ∀ (pins:List (Addr × Obj)) (s:Shared) (σ:St) (H:Hp) (Q:Option Int->Hp->Prop),Inv X pins σ H s->t σ H Q->
    wpAny (model X.prog X.w) X.A (evalPart e X.env) (fun u s'=>∃ o H',Inv X pins σ H' s' /\ IsPart u o /\ Q o H') X.xe s
def NH:TO:=fun _ H Q=>Q none H
def Qn (t:TE):TO:=fun σ H Q=>t σ H fun x H1=>∃ i,x=.int i /\ Q (some i) H1
theorem Eu {ns:List Int}:∀ {us:List Value},Vals (ns.map V.int) us->IntsAre us ns:=by
  induction ns with
  | nil=>intro us r; rw [List.map_nil] at r; cases r; exact .nil
  | cons n ns ih=>
    intro us r
    rw [List.map_cons] at r
    cases r with
    | cons r1 r2=>
      obtain ⟨t,e⟩:=r1
      subst e
      exact .cons n t (ih r2)
section
variable {X:Cx} {e:Expr} {te:TE} {lo hi:Option Expr} {tl th:TO} {pos p2:Pos}
theorem Ni:PO X none NH:=by
  intro pins s σ H Q I h
  rw [evalPart_none]
  exact wpAny_pure ⟨none,H,I,.none,h⟩
theorem Nh (h:PE X e te):PO X (some e) (Qn te):=by
  intro pins s σ H Q I hw
  rw [evalPart_some]
  refine thn (h pins s σ H _ I hw) fun u s1 ⟨x,H1,I1,r1,q1⟩=>?_
  obtain ⟨i,rfl,q⟩:=q1
  obtain ⟨t,rfl⟩:=r1
  exact ⟨some i,H1,I1,.int i t,q⟩
def SlR (X:Cx) (r:V->Option Int->Option Int->Hp->VK->Prop):Prop:=
  ∀ (pins:List (Addr × Obj)) (s:Shared) (σ:St) (H:Hp) (x:V) (v vl vu:Value) (lo hi:Option Int) (sl:Addr) (Q:VK),Inv X pins σ H s->RelV x v->s.heap.IsSliceOf sl vl vu .none->IsPart vl lo->IsPart vu hi->r x lo hi H Q->
    ∃ T id,typeLookup (.type T) "__getitem__" = pure (some (.builtin id)) /\ s.TypeIs v T /\ wpAny (model X.prog X.w) X.A (getItem v (.ref sl)) (EP X pins σ Q) X.xe s
theorem SlR.or {r r':V->Option Int->Option Int->Hp->VK->Prop} (h:SlR X r) (h':SlR X r'):SlR X (fun x lo hi H Q=>r x lo hi H Q ∨ r' x lo hi H Q):=by
  intro pins s σ H x v vl vu lo hi sl Q I rx hs pl pu q
  rcases q with q | q
  . exact h pins s σ H x v vl vu lo hi sl Q I rx hs pl pu q
  . exact h' pins s σ H x v vl vu lo hi sl Q I rx hs pl pu q
def tSl (r:V->Option Int->Option Int->Hp->VK->Prop) (te:TE) (tl th:TO):TE:=fun σ H Q=>te σ H fun x H1=>tl σ H1 fun l H2=>th σ H2 fun u H3=>r x l u H3 Q
theorem Ls {r:V->Option Int->Option Int->Hp->VK->Prop} (hr:SlR X r) (he:PE X e te) (hl:PO X lo tl) (hu:PO X hi th):PE X (.Subscript e (.Slice lo hi none p2) pos) (tSl r te tl th):=by
  intro pins s σ H Q I h
  refine Subscript_ (thn (he pins s σ H _ I h) fun v s1 ⟨x,H1,I1,r1,q1⟩=>?_)
  refine wpAny_Slice (thn (hl pins s1 σ H1 _ I1 q1) fun vl s2 ⟨l,H2,I2,pl,q2⟩=>thn (hu pins s2 σ H2 _ I2 q2) fun vu s3 ⟨u,H3,I3,pu,q3⟩=>?_)
  rw [evalPart_none]
  refine wpAny_pure ?_
  have I4:Inv X pins σ H3 { s3 with heap:=s3.heap.push { cls:=.type "slice",data:=.fields #[vl,vu,.none] } }:=I3.kept (t':=s3.toks) fun b ob q=>Heap.get?_push_of_some _ q
  obtain ⟨T,id,hT,ht,hg⟩:=hr pins { s3 with heap:=s3.heap.push { cls:=.type "slice",data:=.fields #[vl,vu,.none] } } σ H3 x v vl vu l u s3.heap.objs.size Q I4 r1 (Heap.IsSliceOf.new ..) pl pu q3
  show wpAny (model X.prog X.w) X.A (subscriptTail e (.Slice lo hi none p2) v (.ref s3.heap.objs.size)) (EP X pins σ Q) X.xe { s3 with heap:=s3.heap.push { cls:=.type "slice",data:=.fields #[vl,vu,.none] } }
  exact tail_any (ops:=[.ref s3.heap.objs.size,v]) ht hT hg (by with_unfolding_all rfl)
def HY (xs:List V) (lo hi:Option Int):List V:=(xs.drop (HT.sIx xs.length 0 lo)).take (HT.sIx xs.length xs.length hi - HT.sIx xs.length 0 lo)
theorem D4 (xs:List V) (lo hi:Option Int):(HY xs lo hi).length <= xs.length:=by
  unfold HY
  rw [List.length_take,List.length_drop]
  omega
def R7 (K:PySem.W.Frag):V->Option Int->Option Int->Hp->VK->Prop:=fun x lo hi H Q=>∃ a xs,x=.ref a /\ SqT K H a xs /\
  ¬ (HT.sIx xs.length 0 lo=0 /\ HT.sIx xs.length xs.length hi=xs.length) /\ ∀ p,H p=none->Q (.ref p) (upd H p (.tup (HY xs lo hi)))
theorem O9:SlR X (R7 X.K):=by
  intro pins s σ H x v vl vu lo hi sl Q I rx hs pl pu h
  obtain ⟨a,xs,rfl,hx,hw,q⟩:=h
  cases rx
  obtain ⟨its,r,ht,hz⟩:=I.tuple hx
  have hlen:its.toArray.size=xs.length:=by rw [List.size_toArray]; exact r.length.symm
  refine ⟨"tuple",_,PyProof.Rows.slot_tuple_getitem.lookup,ht.typeIs,?_⟩
  refine HT.DX ht hs pl pu (by rw [hlen]; exact hw) ?_ (by rw [hlen]; exact hz)
  rw [hlen]
  refine ⟨.ref s.heap.objs.size,_,I.laid (t':=s.toks) (o:=.tup (HY xs lo hi)) (fun b ob q=>Heap.get?_push_of_some _ q) (Nat.le_refl _) ?_,rfl,q _ (I.hok.fresh (Nat.le_refl _))⟩
  exact ⟨Nat.le_trans (D4 xs lo hi) hz,_,(r.drop (HT.sIx xs.length 0 lo)).take (HT.sIx xs.length xs.length hi - HT.sIx xs.length 0 lo),IsTup.new _ _⟩
def Q2 (K:PySem.W.Frag):R2:=fun x y H Q=>∃ a b xs ys,x=.ref a /\ y=.ref b /\ SqT K H a xs /\ SqT K H b ys /\ xs ≠ [] /\ xs.length + ys.length <= sizeLine /\
  (ys=[]->Q (.ref a) H) /\ (ys ≠ []->∀ p,H p=none->Q (.ref p) (upd H p (.tup (xs ++ ys))))
theorem Vals.nil_iff {xs:List V} {us:List Value} (r:Vals xs us):us=[] ↔ xs=[]:=by
  cases r with
  | nil=>simp
  | cons _ _=>simp
theorem Nu:OpR X (binaryOp .Add) (Q2 X.K):=by
  intro pins s σ H x y v u Q I rx ry h
  obtain ⟨a,b,xs,ys,rfl,rfl,ha,hb,hx,hz,q1,q2⟩:=h
  cases rx
  cases ry
  obtain ⟨its,r1,p1,_⟩:=I.tuple ha
  obtain ⟨its2,r2,p2,_⟩:=I.tuple hb
  refine HT.OE p1 p2 (fun z=>hx (r1.nil_iff.mp z)) (fun z=>⟨.ref a,H,I,rfl,q1 (r2.nil_iff.mp z)⟩) (fun z=>?_) (by rw [← r1.length,← r2.length]; exact hz)
  refine ⟨.ref s.heap.objs.size,_,I.laid (t':=s.toks) (o:=.tup (xs ++ ys)) (fun b ob q=>Heap.get?_push_of_some _ q) (Nat.le_refl _) ?_,rfl,q2 (fun w=>z (r2.nil_iff.mpr w)) _ (I.hok.fresh (Nat.le_refl _))⟩
  exact ⟨by rw [List.length_append]; exact hz,_,r1.append r2,IsTup.new _ _⟩
theorem Hf:A0 X (.type "tuple") (fun xs H Q=>∃ a ys,xs=[.ref a] /\ SqT X.K H a ys /\ Q (.ref a) H):=by
  intro pins s σ H xs us Q I r h
  obtain ⟨a,ys,rfl,ha,q⟩:=h
  obtain ⟨u,rfl,ru⟩:=FZ r
  cases ru
  obtain ⟨its,_,p1,_⟩:=I.tuple ha
  exact call_tuple_same (items:=its.toArray) p1 ⟨.ref a,H,I,rfl,q⟩
end
end L2
namespace L2
open PySem PySem.Spec PyProof.Rows
def ixN (n:Nat) (i:Int):Option Nat:=if 0 <= i then (if i < n then some i.toNat else none) else if -(n:Int) <= i then some (i + n).toNat else none
def atI {α:Type} (xs:List α) (i:Int):Option α:=(ixN xs.length i).bind fun j=>xs[j]?
theorem N3 {n:Nat} {i:Int} {j:Nat} (h:ixN n i=some j):seqIndex? i n=some j /\ j < n /\ -(n:Int) <= i /\ i < n:=by
  unfold ixN at h
  by_cases h0:0 <= i
  . rw [if_pos h0] at h
    by_cases h1:i < n
    . rw [if_pos h1] at h
      have e:i.toNat=j:=Option.some.inj h
      exact ⟨by rw [seqIndex_of h0 h1,e],by omega,by omega,h1⟩
    . rw [if_neg h1] at h; cases h
  . rw [if_neg h0] at h
    by_cases h1 : -(n:Int) <= i
    . rw [if_pos h1] at h
      have e:(i + n).toNat=j:=Option.some.inj h
      exact ⟨by rw [seqIndex_neg (by omega) h1,e],by omega,h1,by omega⟩
    . rw [if_neg h1] at h; cases h
theorem Gf {α:Type} {xs:List α} {i:Int} {v:α} (h:atI xs i=some v):∃ j,seqIndex? i xs.length=some j /\ xs[j]? = some v /\ j < xs.length /\ -(xs.length:Int) <= i /\ i < xs.length:=by
  unfold atI at h
  cases e:ixN xs.length i with
  | none=>rw [e] at h; cases h
  | some j=>
    rw [e] at h
    obtain ⟨h1,h2,h3,h4⟩:=N3 e
    exact ⟨j,h1,h,h2,h3,h4⟩
def Jv (b:Expr):Prop:=∀ o i,subscripted b false o i=operate [o,i] (getItem o i)
def IxR (X:Cx) (r:R2):Prop:=
  ∀ (value slice:Expr) (pins:List (Addr × Obj)) (s:Shared) (σ:St) (H:Hp) (x y:V) (v u:Value) (Q:VK),Inv X pins σ H s->RelV x v->RelV y u->r x y H Q->
    subscripted slice false v u=operate [v,u] (getItem v u)->wpAny (model X.prog X.w) X.A (subscriptTail value slice v u) (EP X pins σ Q) X.xe s
def MtR (X:Cx) (id:String) (r:V->List V->Hp->VK->Prop):Prop:=
  ∀ (pins:List (Addr × Obj)) (s:Shared) (σ:St) (H:Hp) (x:V) (xs:List V) (v:Value) (us:List Value) (Q:VK),Inv X pins σ H s->RelV x v->Vals xs us->r x xs H Q->
    wpAny (model X.prog X.w) X.A (call (.builtin id) (v :: us)) (EP X pins σ Q) X.xe s
section
variable {X:Cx} {a b:Expr} {ta tb:TE} {pos:Pos}
theorem IxR.or {r r':R2} (h:IxR X r) (h':IxR X r'):IxR X (fun x y H Q=>r x y H Q ∨ r' x y H Q):=by
  intro value slice pins s σ H x y v u Q I rx ry q hs
  rcases q with q | q
  . exact h value slice pins s σ H x y v u Q I rx ry q hs
  . exact h' value slice pins s σ H x y v u Q I rx ry q hs
theorem Q8 {r:R2} (hr:IxR X r) (ha:PE X a ta) (hb:PE X b tb) (hs:Jv b):PE X (.Subscript a b pos) (tOp r ta tb):=by
  intro pins s σ H Q I h
  exact Subscript_ (QX ha hb I h fun v u s2 x y H2 I2 rx ry q=>hr a b pins s2 σ H2 x y v u Q I2 rx ry q (hs _ _))
def Q1 (K:PySem.W.Frag):R2:=fun x y H Q=>∃ p xs i v,x=.ref p /\ y=.int i /\ SqL K H p xs /\ atI xs i=some v /\ Q v H
def Qz (K:PySem.W.Frag):R2:=fun x y H Q=>∃ p xs i v,x=.ref p /\ y=.int i /\ SqT K H p xs /\ atI xs i=some v /\ Q v H
def Q0:R2:=fun x y H Q=>∃ z i c,x=.str z /\ y=.int i /\ z.length <= sizeLine /\ atI z.cps.toList i=some c /\ Q (.str ⟨#[c]⟩) H
theorem ix_list:IxR X (Q1 X.K):=by
  intro value slice pins s σ H x y v u Q I rx ry h hs
  obtain ⟨p,xs,i,z,rfl,rfl,hq,he,q⟩:=h
  cases rx
  obtain ⟨t,rfl⟩:=ry
  obtain ⟨its,r,pl,hz⟩:=I.list hq
  obtain ⟨j,h1,h2,h3,h4,h5⟩:=Gf he
  obtain ⟨w,ew,rw'⟩:=r.get h2
  have hl:=r.length
  have hn:=GW
  have fin:EP X pins σ Q w s:=⟨z,H,I,rw',q⟩
  by_cases h0:0 <= i
  . have hj:i.toNat=j:=by
      rw [seqIndex_of h0 h5] at h1
      exact Option.some.inj h1
    exact item_listR pl.isList h0 (by omega) (by rw [hj]; simpa using ew) fin hs
  . have hj:(i + (its.toArray.size:Int)).toNat=j:=by
      rw [seqIndex_neg (by omega) h4] at h1
      rw [List.size_toArray,← hl]
      exact Option.some.inj h1
    exact subscriptTail_builtinR (x:=w) pl.isList.typeIs slot_list_getitem.lookup
      (wpAny_getItem_list_neg (Q:=fun r s'=>r=w /\ EP X pins σ Q r s') pl.isList (by omega) (by rw [List.size_toArray] <;> omega) (by omega) (by rw [hj]; simpa using ew) ⟨rfl,fin⟩) hs
theorem ix_tup:IxR X (Qz X.K):=by
  intro value slice pins s σ H x y v u Q I rx ry h hs
  obtain ⟨p,xs,i,z,rfl,rfl,hq,he,q⟩:=h
  cases rx
  obtain ⟨t,rfl⟩:=ry
  obtain ⟨its,r,pl,hz⟩:=I.tuple hq
  obtain ⟨j,h1,h2,h3,h4,h5⟩:=Gf he
  obtain ⟨w,ew,rw'⟩:=r.get h2
  have hl:=r.length
  have hn:=GW
  have fin:EP X pins σ Q w s:=⟨z,H,I,rw',q⟩
  exact subscriptTail_builtinR (x:=w) pl.typeIs slot_tuple_getitem.lookup
    (getItem_tuple (j:=j) (Q:=fun r s'=>r=w /\ EP X pins σ Q r s') pl (by omega) (by omega) (by rw [List.size_toArray,← hl]; exact h1) (by simpa using ew) ⟨rfl,fin⟩) hs
theorem QI:IxR X Q0:=by
  intro value slice pins s σ H x y v u Q I rx ry h hs
  obtain ⟨z,i,c,rfl,rfl,hz,he,q⟩:=h
  obtain ⟨t,rfl⟩:=rx
  obtain ⟨t',rfl⟩:=ry
  obtain ⟨j,h1,h2,h3,h4,h5⟩:=Gf he
  have hl:z.cps.toList.length=z.length:=by simp [Str.length]
  rw [hl] at h1 h4 h5
  have hn:=GW
  exact tail_any (typeIs_str s z t) slot_str_getitem.lookup (getItem_str (c:=c) (by
    have e1:decide (i < -(2 ^ 63:Int))=false:=decide_eq_false (by omega)
    have e2:decide (i ≥ 2 ^ 63)=false:=decide_eq_false (by omega)
    rw [e1,e2,Bool.or_false]) (by rw [h1]; simpa using h2) ⟨.str ⟨#[c]⟩,H,I.tok _,⟨_,rfl⟩,q⟩) hs
def rIx (K:PySem.W.Frag):R2:=fun x y H Q=>Q1 K x y H Q ∨ Qz K x y H Q ∨ Q0 x y H Q
theorem IT:IxR X (rIx X.K):=ix_list.or (ix_tup.or QI)
theorem GJ (lo hi:Option Int) (n:Nat):(sliceBounds lo hi none n).1=((HT.sIx n 0 lo:Nat):Int) /\ (sliceBounds lo hi none n).2.1=((HT.sIx n n hi:Nat):Int) /\ (sliceBounds lo hi none n).2.2=1:=by
  refine ⟨?_,?_,rfl⟩
  . cases lo with
    | none=>simp [sliceBounds,HT.sIx]
    | some i=>
      simp only [sliceBounds,HT.sIx,Option.getD_none,show (1:Int) > 0 by decide,if_true]
      by_cases h:i < 0
      . simp only [h,if_true] <;> omega
      . simp only [h,if_false] <;> omega
  . cases hi with
    | none=>simp [sliceBounds,HT.sIx]
    | some i=>
      simp only [sliceBounds,HT.sIx,Option.getD_none,show (1:Int) > 0 by decide,if_true]
      by_cases h:i < 0
      . simp only [h,if_true] <;> omega
      . simp only [h,if_false] <;> omega
theorem FP (its:List Value) (lo hi:Option Int):slicePick its.toArray lo hi none=((its.drop (HT.sIx its.length 0 lo)).take (HT.sIx its.length its.length hi - HT.sIx its.length 0 lo)).toArray:=by
  obtain ⟨h1,h2,h3⟩:=GJ lo hi its.toArray.size
  unfold slicePick
  rw [h1,h2,h3]
  simp only [sliceRange_one,pick_run,List.size_toArray] <;> rfl
def R8 (K:PySem.W.Frag):V->Option Int->Option Int->Hp->VK->Prop:=fun x lo hi H Q=>∃ a xs,x=.ref a /\ SqL K H a xs /\ ∀ p,H p=none->Q (.ref p) (upd H p (.lst (HY xs lo hi)))
theorem NQ:SlR X (R8 X.K):=by
  intro pins s σ H x v vl vu lo hi sl Q I rx hs pl pu h
  obtain ⟨a,xs,rfl,hx,q⟩:=h
  cases rx
  obtain ⟨its,r,ht,hz⟩:=I.list hx
  have hlen:=r.length
  refine ⟨"list",_,slot_list_getitem.lookup,ht.isList.typeIs,?_⟩
  refine wpAny_getItem_list_slice ht.isList hs pl pu .none (by simp) ?_ (by rw [List.size_toArray] <;> omega)
  rw [FP,← hlen]
  refine ⟨.ref s.heap.objs.size,_,I.laid (t':=s.toks) (o:=.lst (HY xs lo hi)) (fun b ob q=>Heap.get?_push_of_some _ q) (Nat.le_refl _) ?_,rfl,q _ (I.hok.fresh (Nat.le_refl _))⟩
  exact ⟨Nat.le_trans (D4 xs lo hi) hz,_,0,(r.drop (HT.sIx xs.length 0 lo)).take (HT.sIx xs.length xs.length hi - HT.sIx xs.length 0 lo),Heap.get?_push_size _ rfl⟩
def C9:V->Bool
  | .non=>true
  | .bl _=>true
  | .int _=>true
  | .str _=>true
  | _=>false
def eqV:V->V->Bool
  | .non,.non=>true
  | .bl a,.bl b=>a == b
  | .bl a,.int b=>(if a then 1 else 0) == b
  | .int a,.bl b=>a == (if b then 1 else 0)
  | .int a,.int b=>a == b
  | .str a,.str b=>a == b
  | _,_=>false
theorem QU {A:Around} {s:Shared} {y x:V} {u v:Value} (ry:RelV y u) (rx:RelV x v) (fy:C9 y=true) (fx:C9 x=true):SeqAt.EqAt A s u v (eqV y x):=by
  cases y with
  | non=>
    cases ry
    cases x with
    | non=>cases rx; exact SeqAt.EqAt.same _
    | bl b=>cases rx; exact SeqAt.EqAt.none_bool b
    | int b=>obtain ⟨t,rfl⟩:=rx; exact SeqAt.EqAt.none_int b t
    | str b=>obtain ⟨t,rfl⟩:=rx; exact SeqAt.EqAt.none_str b t
    | _=>exact absurd (show false=true from fx) Bool.false_ne_true
  | bl a=>
    cases ry
    cases x with
    | non=>cases rx; exact SeqAt.EqAt.bool_none a
    | bl b=>cases rx; exact SeqAt.EqAt.bool_bool a b
    | int b=>obtain ⟨t,rfl⟩:=rx; exact SeqAt.EqAt.bool_int a b t
    | str b=>obtain ⟨t,rfl⟩:=rx; exact SeqAt.EqAt.bool_str a b t
    | _=>exact absurd (show false=true from fx) Bool.false_ne_true
  | int a=>
    obtain ⟨t',rfl⟩:=ry
    cases x with
    | non=>cases rx; exact SeqAt.EqAt.int_none a t'
    | bl b=>cases rx; exact SeqAt.EqAt.int_bool a t' b
    | int b=>obtain ⟨t,rfl⟩:=rx; exact SeqAt.EqAt.int_int a t' b t
    | str b=>obtain ⟨t,rfl⟩:=rx; exact SeqAt.EqAt.int_str a t' b t
    | _=>exact absurd (show false=true from fx) Bool.false_ne_true
  | str a=>
    obtain ⟨t',rfl⟩:=ry
    cases x with
    | non=>cases rx; exact SeqAt.EqAt.str_none a t'
    | bl b=>cases rx; exact SeqAt.EqAt.str_bool a t' b
    | int b=>obtain ⟨t,rfl⟩:=rx; exact SeqAt.EqAt.str_int a t' b t
    | str b=>obtain ⟨t,rfl⟩:=rx; exact SeqAt.EqAt.str_str a t' b t
    | _=>exact absurd (show false=true from fx) Bool.false_ne_true
  | _=>exact absurd (show false=true from fy) Bool.false_ne_true
def eqU (x:V) (u:Value):Bool:=match u with
  | .none=>eqV .non x
  | .bool b=>eqV (.bl b) x
  | .int i _=>eqV (.int i) x
  | .str z _=>eqV (.str z) x
  | _=>false
theorem MP {x y:V} {u:Value} (r:RelV y u) (f:C9 y=true):eqU x u=eqV y x:=by
  cases y with
  | non=>cases r; rfl
  | bl b=>cases r; rfl
  | int i=>obtain ⟨t,rfl⟩:=r; rfl
  | str z=>obtain ⟨t,rfl⟩:=r; rfl
  | _=>exact absurd (show false=true from f) Bool.false_ne_true
theorem Gh {x:V}:∀ {xs:List V} {us:List Value},Vals xs us->xs.all C9=true->us.any (eqU x)=xs.any fun y=>eqV y x
  | _,_,.nil,_=>rfl
  | y :: xs,u :: us,.cons r t,f=>by
    rw [List.all_cons,Bool.and_eq_true] at f
    rw [List.any_cons,List.any_cons,MP r f.1,Gh t f.2]
theorem El {A:Around} {s:Shared} {x:V} {v:Value} (rx:RelV x v) (fx:C9 x=true):∀ {xs:List V} {us:List Value},Vals xs us->xs.all C9=true->∀ u ∈ us,SeqAt.EqAt A s u v (eqU x u)
  | _,_,.nil,_=>fun u hu=>by cases hu
  | y :: xs,u :: us,.cons r t,f=>fun u' hu=>by
    rw [List.all_cons,Bool.and_eq_true] at f
    rcases List.mem_cons.mp hu with rfl | hu
    . rw [MP r f.1]; exact QU r rx f.1 fx
    . exact El rx fx t f.2 u' hu
def inV (x:V) (xs:List V):Bool:=xs.any fun y=>eqV y x
def rIn (K:PySem.W.Frag) (neg:Bool):R2:=fun x y H Q=>∃ p xs,y=.ref p /\ (SqL K H p xs ∨ SqT K H p xs) /\ C9 x=true /\ xs.all C9=true /\ Q (.bl (if neg then !inV x xs else inV x xs)) H
theorem GS:OpR X (compareOp .NotIn) (rIn X.K true):=by
  intro pins s σ H x y v u Q I rx ry h
  obtain ⟨p,xs,rfl,hq,fx,fs,q⟩:=h
  cases ry
  rcases hq with hq | hq
  . obtain ⟨its,r,pl,hz⟩:=I.list hq
    refine SeqAt.notIn_listAt (eqU x) pl.isList (fun w hw=>El rx fx r fs w (by simpa using hw)) ⟨.bl _,H,I,rfl,?_⟩
    rw [show its.toArray.any (eqU x)=its.any (eqU x) by simp,Gh r fs]
    exact q
  . obtain ⟨its,r,pl,hz⟩:=I.tuple hq
    refine SeqAt.notIn_tupleAt (eqU x) pl (fun w hw=>El rx fx r fs w (by simpa using hw)) ⟨.bl _,H,I,rfl,?_⟩
    rw [show its.toArray.any (eqU x)=its.any (eqU x) by simp,Gh r fs]
    exact q
theorem Gd:A0 X (.type "list") (fun xs H Q=>∃ p ys,xs=[.ref p] /\ (SqL X.K H p ys ∨ SqT X.K H p ys) /\ ∀ l,H l=none->Q (.ref l) (upd H l (.lst ys))):=by
  intro pins s σ H xs us Q I r h
  obtain ⟨p,ys,rfl,hq,q⟩:=h
  obtain ⟨u,rfl,rx⟩:=FZ r
  cases rx
  have fin:∀ (its:List Value),Vals ys its->ys.length <= sizeLine->∀ (h':Heap) (c':Nat),(∀ b o',s.heap.get? b=some o'->h'.get? b=some o')->
      h'.get? s.heap.objs.size=some { cls:=.type "list",dict:=none,data:=.seq its.toArray c',slots:=#[] }->EP X pins σ Q (.ref s.heap.objs.size) { s with heap:=h' }:=fun its r' hz h' c' kp e=>
    ⟨.ref s.heap.objs.size,_,I.laid (t':=s.toks) kp (Nat.le_refl _) (show ObjOk X.prog X.w _ h' _ (.lst ys) from ⟨hz,its,c',r',e⟩),rfl,q _ (I.hok.fresh (Nat.le_refl _))⟩
  rcases hq with hq | hq
  . obtain ⟨its,r',pl,hz⟩:=I.list hq
    have hlen:=r'.length
    obtain ⟨o,ho,hc,n,hd⟩:=pl.isList
    exact call_list_seq p (.inl rfl) ho hc hd (fun h' c' kp e=>fin its r' hz h' c' kp e) (by simp only [List.size_toArray] <;> omega)
  . obtain ⟨its,r',pl,hz⟩:=I.tuple hq
    have hlen:=r'.length
    obtain ⟨o,ho,hc,n,hd⟩:=pl
    exact call_list_seq p (.inr rfl) ho hc hd (fun h' c' kp e=>fin its r' hz h' c' kp e) (by simp only [List.size_toArray] <;> omega)
def tyV (K:PySem.W.Frag) (T:String) (x:V) (H:Hp):Prop:=match x with
  | .str _=>T = "str"
  | .int _=>T = "int"
  | .ref p=>(T = "list" /\ ∃ xs,SqL K H p xs) ∨ (T = "tuple" /\ ∃ o,K.lookup p=some o /\ o.cls=.type "tuple" /\ o.dict=none) ∨
      (T = "dict" /\ ((∃ kvs,H p=some (.dK kvs)) ∨ ∃ kvs,H p=some (.dT kvs))) ∨ (T = "set" /\ ∃ S n,H p=some (.set S n))
  | _=>False
theorem LH {pins:List (Addr × Obj)} {σ:St} {H:Hp} {s:Shared} {T:String} {x:V} {v:Value} (I:Inv X pins σ H s) (r:RelV x v) (ty:tyV X.K T x H) :
    s.TypeIs v T /\ ∀ a,v=.ref a->∃ ob,s.heap.get? a=some ob /\ ob.dict=none:=by
  cases x with
  | str z=>
    obtain ⟨t,rfl⟩:=r
    cases (show T = "str" from ty)
    exact ⟨typeIs_str s z t,fun _ e=>nomatch e⟩
  | int i=>
    obtain ⟨t,rfl⟩:=r
    cases (show T = "int" from ty)
    exact ⟨typeIs_int s i t,fun _ e=>nomatch e⟩
  | ref p=>
    cases r
    rcases ty with ⟨rfl,xs,hq⟩ | ⟨rfl,o,hk,hc,hd⟩ | ⟨rfl,hk⟩ | ⟨rfl,S,n,hk⟩
    . obtain ⟨its,_,pl,_⟩:=I.list hq
      refine ⟨pl.isList.typeIs,fun a e=>?_⟩
      cases e
      obtain ⟨o,n,e,c,hd,_⟩:=pl
      exact ⟨o,e,hd⟩
    . refine ⟨⟨o,I.kIn p o hk,hc⟩,fun a e=>?_⟩
      cases e
      exact ⟨o,I.kIn _ o hk,hd⟩
    . have z:∃ o,s.heap.get? p=some o /\ o.ExactDict:=by
        rcases hk with ⟨kvs,hk⟩ | ⟨kvs,hk⟩
        . obtain ⟨_,_,_,_,o,_,_,e,ex,_⟩:=I.hok p _ hk
          exact ⟨o,e,ex⟩
        . obtain ⟨_,_,_,_,o,_,_,e,ex,_⟩:=I.hok p _ hk
          exact ⟨o,e,ex⟩
      obtain ⟨o,e,ex⟩:=z
      refine ⟨⟨o,e,ex.1⟩,fun a e2=>?_⟩
      cases e2
      exact ⟨o,e,ex.2.1⟩
    . obtain ⟨o,_,_,_,e,ex,_⟩:=I.hok p _ hk
      refine ⟨⟨o,e,ex.1⟩,fun a e2=>?_⟩
      cases e2
      exact ⟨o,e,ex.2.1⟩
  | _=>exact False.elim ty
def Qt (K:PySem.W.Frag) (T:String) (r:V->List V->Hp->VK->Prop) (to:TE):TE:=fun σ H Q=>to σ H fun x H1=>tyV K T x H1 /\ r x [] H1 Q
def tBM (K:PySem.W.Frag) (T:String) (r:V->List V->Hp->VK->Prop) (to:TE) (t:TA):TE:=fun σ H Q=>to σ H fun x H1=>tyV K T x H1 /\ t σ H1 fun xs H2=>r x xs H2 Q
variable {o e:Expr} {es:List Expr} {to:TE} {t:TA} {name:Str} {apos cpos:Pos} {T id:String} {r:V->List V->Hp->VK->Prop}
theorem Pq (pa:PlainAttrs T) (slot:Slot T name id) (hty:typeOf (.builtin id)=pure (.type "method_descriptor")) (hm:MtR X id r) (ho:PE X o to)
    (hbase:attributeBase o name X.env (eval o X.env)=eval o X.env:=by rfl) (hline:(apos.endLine == cpos.line)=true:=by rfl):PE X (.Call (.Attribute o name apos) [] [] cpos) (Qt X.K T r to):=by
  intro pins s σ H Q I h
  refine wpAny_Call_method0_late hbase hline (thn (ho pins s σ H _ I h) fun v s1 ⟨x,H1,I1,r1,ty,q1⟩=>?_)
  obtain ⟨h1,h2⟩:=LH I1 r1 ty
  exact ⟨T,id,pa,slot,hty,h1,h2,Calls.callWith_builtin rfl (PySem.evalArgs_none (hm pins s1 σ H1 x [] v [] Q I1 r1 .nil q1))⟩
theorem Q9 (pa:PlainAttrs T) (slot:Slot T name id) (hty:typeOf (.builtin id)=pure (.type "method_descriptor")) (hm:MtR X id r) (ho:PE X o to) (ha:PA X (e :: es) t)
    (hbase:attributeBase o name X.env (eval o X.env)=eval o X.env:=by rfl)
    (hfew:((backTo cpos (starEach (e :: es) X.env)).all (fun x=>!x.1) && (backToKw cpos (keywordEach [] X.env)).all (fun x=>x.1.isSome)
      && decide ((e :: es).length + ([]:List Keyword).length + (if ([]:List Keyword).isEmpty then 0 else 1) < 30))=true:=by rfl)
    (hline:(apos.endLine == cpos.line)=true:=by rfl) (hs:starEach (e :: es) X.env=(false,eval e X.env) :: starEach es X.env:=by rfl) (hplain:(backTo cpos (starEach es X.env)).any (·.1)=false:=by rfl) :
    PE X (.Call (.Attribute o name apos) (e :: es) [] cpos) (tBM X.K T r to t):=by
  intro pins s σ H Q I h
  refine wpAny_Call_method_late hbase hfew hline rfl (thn (ho pins s σ H _ I h) fun v s1 ⟨x,H1,I1,r1,ty,q1⟩=>?_)
  obtain ⟨h1,h2⟩:=LH I1 r1 ty
  refine ⟨T,id,pa,slot,hty,h1,h2,?_⟩
  have hA:=ha cpos pins s1 σ H1 _ I1 q1
  rw [hs] at hA ⊢
  refine Calls.callWith_builtin (by show (false || (backTo cpos (starEach es X.env)).any (·.1))=false; rw [hplain] <;> rfl) (Calls.evalArgs_plain ?_)
  exact thn hA fun us s2 ⟨vs,H2,I2,r2,q2⟩=>hm pins s2 σ H2 x vs v us Q I2 r1 r2 q2
end
end L2
namespace L2
open PySem PySem.Spec PyProof.Rows
def MtM (X:Cx) (id:String) (r:V->List V->Hp->VK->Prop):Prop:=
  ∀ (pins:List (Addr × Obj)) (s:Shared) (σ:St) (H:Hp) (x:V) (xs:List V) (v:Value) (us:List Value) (Q:VK),Inv X pins σ H s->RelV x v->Vals xs us->r x xs H Q->
    wpAny (model X.prog X.w) X.A (call (.builtin id) (v :: us)) (EP X pins σ Q) X.xe s
theorem Vals.one:∀ {x:V} {us:List Value},Vals [x] us->∃ u,us=[u] /\ RelV x u
  | _,_,.cons r .nil=>⟨_,rfl,r⟩
theorem Vals.two:∀ {x y:V} {us:List Value},Vals [x,y] us->∃ u v,us=[u,v] /\ RelV x u /\ RelV y v
  | _,_,_,.cons r (.cons q .nil)=>⟨_,_,rfl,r,q⟩
theorem Vals.zero:∀ {us:List Value},Vals [] us->us=[]
  | _,.nil=>rfl
theorem Vals.dropLast {xs:List V} {us:List Value} (h:Vals xs us):Vals xs.dropLast us.dropLast:=by
  induction h with
  | nil=>exact .nil
  | cons r t ih=>
    cases t with
    | nil=>exact .nil
    | cons q t'=>exact .cons r ih
theorem Vals.reverse {xs:List V} {us:List Value} (h:Vals xs us):Vals xs.reverse us.reverse:=by
  induction h with
  | nil=>exact .nil
  | cons r t ih=>rw [List.reverse_cons,List.reverse_cons]; exact Vals.append ih (.cons r .nil)
theorem Vals.rep {xs:List V} {us:List Value} (h:Vals xs us):∀ k:Nat,Vals (List.replicate k xs).flatten (List.replicate k us).flatten
  | 0=>.nil
  | k + 1=>by
    rw [List.replicate_succ,List.replicate_succ,List.flatten_cons,List.flatten_cons]
    exact Vals.append h (Vals.rep h k)
theorem IZ {α:Type} (l:List α):l.eraseIdx (l.length - 1)=l.dropLast:=by
  induction l with
  | nil=>rfl
  | cons a r ih=>
    cases r with
    | nil=>rfl
    | cons b r=>
      have e:(a :: b :: r).length - 1=((b :: r).length - 1) + 1:=by
        have h1:(a :: b :: r).length=r.length + 2:=rfl
        have h2:(b :: r).length=r.length + 1:=rfl
        omega
      rw [e,List.eraseIdx_cons_succ,ih]
      all_goals rfl
theorem Fx (its:List Value):∀ (k:Nat) (acc:List Value),
    List.foldl (fun x1 x2=>x1 ++ x2) acc.toArray (List.replicate k its.toArray)=(acc ++ (List.replicate k its).flatten).toArray
  | 0,acc=>by simp
  | k + 1,acc=>by
    have e:acc.toArray ++ its.toArray=(acc ++ its).toArray:=by simp
    have e2:(acc ++ its) ++ (List.replicate k its).flatten=acc ++ (List.replicate (k + 1) its).flatten:=by
      rw [List.replicate_succ,List.flatten_cons,List.append_assoc]
    rw [← e2,← Fx its k (acc ++ its),← e,List.replicate_succ,List.foldl_cons]
section
variable {X:Cx} {pins:List (Addr × Obj)} {σ:St} {H:Hp} {s:Shared} {l b:Addr} {xs ys zs:List V}
theorem Inv.lset {its its':List Value} {n:Nat} {f:Array Value->Array Value} {t':Nat} (I:Inv X pins σ H s) (hH:H l=some (.lst xs))
    (e:s.heap.get? l=some { cls:=.type "list",data:=.seq its.toArray n }) (hf:f its.toArray=its'.toArray) (hv:Vals ys its') (hz:ys.length <= sizeLine) :
    Inv X pins σ (upd H l (.lst ys)) { s with heap:=s.heap.update l (Obj.mapSeq f),toks:=t' }:=by
  have q:=PySem.IsL.update e f
  rw [hf] at q
  refine I.write (x:=l) (e:=l) (by rw [hH]; exact trivial) (.inl rfl) (fun b' u hb hu=>(Heap.get?_update_other s.heap (Obj.mapSeq f) (Ne.symm hb)).trans hu) ⟨_,q⟩ ?_
  exact ⟨hz,its',_,hv,q⟩
theorem Inv.lnew {its:List Value} {t':Nat} (I:Inv X pins σ H s) (hv:Vals ys its) (hz:ys.length <= sizeLine) :
    Inv X pins σ (upd H s.heap.objs.size (.lst ys)) { s with heap:=s.heap.push { cls:=.type "list",data:=.seq its.toArray },toks:=t' }:=
  I.laid (fun _ _ q=>Heap.get?_push_of_some _ q) (Nat.le_refl _) ⟨hz,its,0,hv,Heap.get?_push_size _ rfl⟩
theorem Inv.fresh (I:Inv X pins σ H s):H s.heap.objs.size=none:=I.hok.fresh (Nat.le_refl _)
theorem Inv.lstM (I:Inv X pins σ H s) (hH:H l=some (.lst xs)):xs.length <= sizeLine /\ ∃ (its:List Value) (n:Nat),Vals xs its /\ xs.length=its.length /\ s.heap.get? l=some { cls:=.type "list",data:=.seq its.toArray n }:=by
  obtain ⟨z,its,n,r,e⟩:=I.hok l _ hH
  exact ⟨z,its,n,r,r.length,e⟩
theorem L1 {n:Nat} (h:n <= sizeLine):Builtin.List.listTooLong n=false:=by
  unfold Builtin.List.listTooLong
  exact decide_eq_false (by omega)
end
section
variable {X:Cx}
def NY:V->List V->Hp->VK->Prop:=fun x vs H Q=>∃ l xs y,x=.ref l /\ vs=[y] /\ H l=some (.lst xs) /\ xs.length < sizeLine /\ Q .non (upd H l (.lst (xs ++ [y])))
theorem Kc:MtM X "list.append" NY:=by
  intro pins s σ H x vs v us Q I rx rv h
  obtain ⟨l,xs,y,rfl,rfl,hH,hz,q⟩:=h
  cases rx
  obtain ⟨u,rfl,ru⟩:=rv.one
  obtain ⟨z,its,n,r,hl,e⟩:=I.lstM hH
  refine call_meets F.slot_list_append ⟨_,e,rfl⟩ F.entry_list_append (F.args_list_append_2 _ _) (PySem.list_append l its.toArray n u (by rw [List.size_toArray]; omega)) ⟨e,?_⟩
  refine ⟨.non,_,I.lset (its':=its ++ [u]) hH e (by simp) (r.append (.cons ru .nil)) ?_,rfl,q⟩
  rw [List.length_append,List.length_singleton]
  omega
def SA:V->List V->Hp->VK->Prop:=fun x vs H Q=>∃ l xs y,x=.ref l /\ vs=[] /\ H l=some (.lst xs) /\ xs[xs.length - 1]? = some y /\ Q y (upd H l (.lst xs.dropLast))
theorem P9:MtM X "list.pop" SA:=by
  intro pins s σ H x vs v us Q I rx rv h
  obtain ⟨l,xs,y,rfl,rfl,hH,hy,q⟩:=h
  cases rx
  have hus:=rv.zero
  subst hus
  obtain ⟨z,its,n,r,hl,e⟩:=I.lstM hH
  obtain ⟨u,hu,ru⟩:=r.get hy
  have hy':its.toArray[its.toArray.size - 1]? = some u:=by
    show its.toArray[its.length - 1]? = some u
    rw [← Array.getElem?_toList,← hl]
    exact hu
  refine call_meets F.slot_list_pop ⟨_,e,rfl⟩ F.entry_list_pop (F.args_list_pop_1 _) (MeetsSeq.list_pop_last l its.toArray n u hy' (by rw [List.size_toArray]; omega)) ⟨e,?_⟩
  refine ⟨y,_,I.lset (its':=its.dropLast) hH e ?_ r.dropLast ?_,ru,q⟩
  . show its.toArray.eraseIdxIfInBounds (its.toArray.size - 1)=its.dropLast.toArray
    rw [List.size_toArray,List.eraseIdxIfInBounds_toArray,IZ]
  . rw [List.length_dropLast]
    omega
def SC:R2:=fun x y H Q=>∃ l b xs zs,x=.ref l /\ y=.ref b /\ H l=some (.lst xs) /\ H b=some (.lst zs) /\ xs.length + zs.length <= sizeLine /\ ∀ p,H p=none->Q (.ref p) (upd H p (.lst (xs ++ zs)))
theorem P6:OpR X (binaryOp .Add) SC:=by
  intro pins s σ H x y v u Q I rx ry h
  obtain ⟨l,b,xs,zs,rfl,rfl,hH,hB,hz,q⟩:=h
  cases rx
  cases ry
  obtain ⟨z,its,n,r,hl,e⟩:=I.lstM hH
  obtain ⟨z2,its2,n2,r2,hl2,e2⟩:=I.lstM hB
  refine PySem.P.add_list e e2 ?_ (by rw [List.size_toArray,List.size_toArray]; omega)
  have ea:its.toArray ++ its2.toArray=(its ++ its2).toArray:=by simp
  rw [ea]
  exact ⟨.ref _,_,I.lnew (t':=s.toks) (r.append r2) (by rw [List.length_append]; omega),rfl,q _ I.fresh⟩
def R9:R2:=fun x y H Q=>∃ l k xs,x=.ref l /\ y=.int k /\ H l=some (.lst xs) /\ -(2 ^ 63) <= k /\ k < 2 ^ 63 /\ xs.length * k.toNat <= sizeLine /\
  ∀ p,H p=none->Q (.ref p) (upd H p (.lst (List.replicate k.toNat xs).flatten))
theorem Ny {α:Type} (xs:List α) (k:Nat):(List.replicate k xs).flatten.length=k * xs.length:=by
  induction k with
  | zero=>simp
  | succ k ih=>rw [List.replicate_succ,List.flatten_cons,List.length_append,ih,Nat.succ_mul,Nat.add_comm]
theorem Pv:OpR X (binaryOp .Mult) R9:=by
  intro pins s σ H x y v u Q I rx ry h
  obtain ⟨l,k,xs,rfl,rfl,hH,h1,h2,hz,q⟩:=h
  cases rx
  obtain ⟨t,rfl⟩:=ry
  obtain ⟨z,its,n,r,hl,e⟩:=I.lstM hH
  have hlen:its.toArray.size * k.toNat <= sizeLine:=by rw [List.size_toArray,← hl]; exact hz
  have hcap : ¬ its.toArray.size * k.toNat > (2 ^ 63 - 1) / 8:=by
    have:(sizeLine:Nat) <= (2 ^ 63 - 1) / 8:=by decide
    omega
  have hfit : ¬ (!Builtin.List.listFitsIndex k)=true:=by
    rw [fitsIndex_both h1 h2]
    exact Bool.false_ne_true
  have hlong : ¬ Builtin.List.listTooLong (its.toArray.size * k.toNat)=true:=by
    rw [L1 hlen]
    exact Bool.false_ne_true
  have hnew:List.foldl (fun x1 x2=>x1 ++ x2) #[] (List.replicate (if its.toArray.isEmpty=true then 0 else k.toNat) its.toArray)=(List.replicate k.toNat its).flatten.toArray:=by
    have f0:∀ m:Nat,List.foldl (fun x1 x2=>x1 ++ x2) #[] (List.replicate m its.toArray)=(List.replicate m its).flatten.toArray:=fun m=>by
      have:=Fx its m []
      rw [List.nil_append] at this
      exact this
    rw [f0]
    cases its with
    | nil=>simp
    | cons a r'=>rw [if_neg (by simp)]
  refine wpAny_binaryOp_repeat_ref (T := "list") (U := "int") (by decide) ⟨_,e,rfl⟩ (fun s'=>typeIs_int s' k t) noFill_list_mul F.fills_int_mul F.slot_int_rmul repeat_list F.slot_int_index.lookup
    (call_meets F.slot_int_rmul (typeIs_int s k t) F.entry_int_rmul (F.args_int_rmul_2 _ _) (int___rmul___int_list k t l its.toArray n)
      ⟨e,rfl,⟨_,e,rfl⟩,call_meets F.slot_list_mul ⟨_,e,rfl⟩ F.entry_list_mul (F.args_list_mul_2 _ _) (AutoListH.list___mul___list_int_3 l its.toArray n k t hfit hcap hlong) ⟨e,?_⟩⟩)
  rw [hnew]
  exact ⟨.ref _,_,I.lnew (t':=s.toks) (r.rep k.toNat) (by rw [Ny,Nat.mul_comm]; exact hz),rfl,q _ I.fresh⟩
end
section
variable {prog:Program} {w:World} {A:Around} {E:Value->Shared->Prop} {s:Shared}
end
section
variable {X:Cx}
end
end L2
namespace L2
open PySem PySem.Spec PyProof.Rows
section
variable {κ:Type} [DecidableEq κ]
end
section
variable {P:Program} {w:World} {H:Hp} {h:Heap} {a:Addr}
end
section
variable {X:Cx} {pins:List (Addr × Obj)} {σ:St} {H:Hp} {s:Shared} {a:Addr} {y v:V} {u r:Value} {o:Option V} {A:Around} {E:Value->Shared->Prop}
end
section
variable {X:Cx} {pins:List (Addr × Obj)} {σ:St} {H:Hp} {s:Shared} {a:Addr} {kvs:List (Key × V)} {k:Key} {u:Value} {A:Around} {E:Value->Shared->Prop}
end
section
variable {X:Cx} {o i e value:Expr} {pos pos' tpos:Pos} {td ty tv:TE}
end
section
variable {X:Cx} {pos:Pos}
end
section
variable {X:Cx} {pins:List (Addr × Obj)} {σ:St} {H:Hp} {s:Shared} {a:Addr} {y d:V} {u r:Value} {o:Option V} {A:Around} {E:Value->Shared->Prop}
end
section
variable {X:Cx} {o e f:Expr} {apos cpos:Pos} {td ty tx:TE}
end
section
variable {X:Cx} {pins:List (Addr × Obj)} {σ:St} {H:Hp} {s:Shared} {a:Addr} {kvs:List (Key × V)} {A:Around} {E:Value->Shared->Prop}
end
section
variable {X:Cx} {pins:List (Addr × Obj)} {σ:St} {H:Hp} {s:Shared} {a:Addr} {y:V} {u:Value} {A:Around} {E:Value->Shared->Prop}
end
end L2
namespace Att
open PySem PySem.W PySem.Calls PyProof.Rows
theorem EA {P:Params} {h:Heap}:∀ (ns:List Int) (vs:List Value),WellAll P h vs (ns.map WData.int)->IntsAre vs ns:=by
  intro ns
  induction ns with
  | nil=>
    intro vs w
    rw [List.map_nil] at w
    cases w
    exact .nil
  | cons n ns ih=>
    intro vs w
    rw [List.map_cons] at w
    cases w with
    | cons a b=>
      cases a
      exact .cons _ _ (ih _ b)
theorem KF {l:OpenLaw} {n:Nat} (hn:l.most=some n) {P:Params} {h:Heap} {args:List WData} {vals:List Value}
    (hpre:l.row.toRowW.claim.pre args=true) (hwl:WellAll P h vals args) :
    ∃ a vs ns,vals=[Value.ref a] /\ args=[WData.list (ns.map WData.int)] /\ h.get? a=some { cls:=.type "list",data:=.seq vs.toArray } /\ IntsAre vs ns /\ ns.length <= n:=by
  have hsh:WShape.hasAll [] args [.list .int]=true:=(pre_splitW hpre).1
  have hc:l.pre.holds [] { args:=args }=true:=(pre_splitW hpre).2
  obtain ⟨d,r,rfl,h1,h2⟩:=hasAllW_cons hsh
  obtain rfl:=hasAllW_nil h2
  obtain ⟨xs,rfl,h3⟩:=hasW_list h1
  obtain ⟨ns,rfl⟩:=items_int h3
  have hlen:ns.length <= n:=by
    unfold OpenLaw.pre at hc
    have h4:(WTm.not (.lt (.lit (.int (n:Int))) (.len (.arg 0)))).holds [] { args:=[.list (ns.map .int)] }=true:=by
      have h4:=(holds_andW hc).1
      rw [hn] at h4
      exact h4
    have h5:=condW_of h4 (w_not (w_lt w_lit (w_len_list (w_arg rfl))))
    rw [List.length_map] at h5
    refine Nat.le_of_not_lt fun q=>?_
    have q':(n:Int) < ((ns.length:Nat):Int):=by omega
    first
      | (rw [decide_eq_true q'] at h5; exact absurd h5 (by decide))
      | (simp at h5; omega)
  cases hwl with
  | cons w1 w2=>
    cases w2
    cases w1 with
    | list ho hall=>exact ⟨_,_,ns,rfl,rfl,ho,EA ns _ hall,hlen⟩
theorem KN (l:OpenLaw) (args:List WData):l.row.toRowW.claim.post args (.bool true) args=true:=
  postW_of (r:=l.row.toRowW) (X:=(true == true))
    (show WShape.has [] (.bool true) .bool=true by first | rfl | decide | simp [WShape.has,WShape.arms,WShape.armsAll])
    (show (WTm.eq .res (.lit (.bool true))).value [] { args:=args,res:=some (.bool true),after:=args }=some (.bool (true == true)) from w_eq_bool (w_res rfl) w_lit) rfl
theorem Hk {l:OpenLaw} {n:Nat} {q:Program} {loose:List Str} {XP:(Str->Option Value)->Heap->Prop} {YP:World->Heap->Prop} {d:DefRec}
    (hn:l.most=some n) (hdf:d.params.defaults=[])
    (call:∀ (w:World) (s₀ s₁:Shared) (mg mb:Str->Option Value) (fa:Addr) (o:Obj) (pm cd doc:Value) (a:Addr) (vs:List Value) (ns:List Int),
      Ground q loose [] XP w s₀ mg mb s₁.heap->YP w s₁.heap->
      s₁.heap.get? fa=some o->o.data=.func (docDef d.name d.params d.body d.scope pm cd doc)->s₁.heap.CodeRec cd d.name->mg d.name=some (.ref fa)->
      s₁.heap.get? a=some { cls:=.type "list",data:=.seq vs.toArray }->IntsAre vs ns->ns.length <= n->s₁.gens = #[]->
      codeAny (model l.prog w) callerA (.call (.ref fa) ⟨[.ref a],[]⟩) (fun r s'=>r=.ok (.ret (.bool true)) /\ OldK s₁.heap s'.heap /\ s'.os=s₁.os /\ AllBare s'.gens) s₁) :
    WalkO q loose XP YP l.row.toRowW d [] (fun f vs=>PySem.call f vs):=by
  intro w s₀ s₁ mg mb G Y fa o pm cd doc dV kV ho hd hcd hD hmg hg args vals as hpre hlay hrd hwl hlo
  obtain rfl:dV=.none:=Dflts.none hD hdf
  obtain rfl:kV=.none:=Dflts.noKw hD
  obtain ⟨a,vs,ns,rfl,rfl,hobj,hints,hlen⟩:=KF hn hpre hwl
  refine enter_call (codeAny_mono (call w s₀ s₁ mg mb fa o pm cd doc a vs ns G Y ho (fd_plain hd) hcd hmg hobj hints hlen hg) fun r s' hq=>?_)
  obtain ⟨rfl,h2,h3,h4⟩:=hq
  exact ⟨.inl ⟨.bool true,.bool true,[],rfl,fun _=>rfl,.bool true,KN l _,fun _=>⟨List.Pairwise.nil,fun _ hm=>(nomatch hm)⟩⟩,h2,h3,h4⟩
section
variable {prog:Program} {w:World} {A:Around} {E:Value->Shared->Prop} {s:Shared} {K:Frag}
end
end Att
namespace L2
open PySem PySem.Spec PyProof.Rows
theorem De:∀ {vs:List Value} {ns:List Int},IntsAre vs ns->Vals (ns.map V.int) vs
  | _,_,.nil=>.nil
  | _,_,.cons n t h=>.cons ⟨t,rfl⟩ (De h)
def OL (H:Hp):Prop:=∀ b,H b=none ∨ ∃ o xs,H b=some (.frz o (.lst xs))
theorem MB {P:Program} {w:World} {K:PySem.W.Frag} {mg mb:Str->Option Value} {CX:CXT} {k:Nat} {fa a:Addr} {fd:FuncData} {x:Str} {sp:Sp} {s₁:Shared} {vs:List Value} {ns:List Int}
    (KX:K.In s₁.heap) (hns:s₁.heap.Ns mainGlobals mg) (hb:s₁.heap.Ns builtinsNs mb) (hbb:∀ x:Str,x ≠ "__name__" -> mb x=bootBuiltins x) (hlim:s₁.heap.NoLimit) (hg:s₁.gens = #[])
    (ha:s₁.heap.get? a=some { cls:=.type "list",data:=.seq vs.toArray }) (hi:IntsAre vs ns) (hl:ns.length <= sizeLine) (hr:Room k callerA)
    (F:∀ base:Heap,K.In base->base.Ns mainGlobals mg->FnOk P w K mg base CX k fa fd [x] sp) (hbind:∀ (s:Shared) (u:Value),BindsTo s fd ⟨[u],[]⟩ [(x,u)])
    (hsp:∀ H:Hp,OL H->SqL K H a (ns.map V.int)->sp [.ref a] H (fun v _=>v=.bl true) fun _ _ _=>False)
    (hCX:∀ H e s',CX [] H s₁ (fun _ _ _=>False) e s'->False) :
    codeAny (model P w) callerA (.call (.ref fa) ⟨[.ref a],[]⟩) (fun r s'=>r=.ok (.ret (.bool true)) /\ OldK s₁.heap s'.heap /\ s'.os=s₁.os /\ AllBare s'.gens) s₁:=by
  have rv:=De hi
  have lenV:=hi.length
  have core:∀ H:Hp,OL H->SqL K H a (ns.map V.int)->HOk P w H s₁.heap->(∀ b,H b ≠ none->b=a)->(H a ≠ none->K.lookup a=none)->
      codeAny (model P w) callerA (.call (.ref fa) ⟨[.ref a],[]⟩) (fun r s'=>r=.ok (.ret (.bool true)) /\ OldK s₁.heap s'.heap /\ s'.os=s₁.os /\ AllBare s'.gens) s₁:=by
    intro H hO hS hok hA hK
    have base_of:∀ {b:Addr} {o:Obj},s₁.heap.get? b=some o->H b=none->(Gb s₁.heap H).get? b=some o:=fun e n=>MH e n
    have noA:∀ {b:Addr} {o:Obj} {es:Array DictEntry} {ep:Nat},s₁.heap.get? b=some o->o.data=.dict es ep->H b=none:=fun {b o es ep} e d=>by
      cases q:H b with
      | none=>rfl
      | some u=>
        have e':b=a:=hA b (by rw [q]; simp)
        subst e'
        rw [ha] at e; cases e
        have d':Data.seq vs.toArray _=Data.dict es ep:=d
        cases d'
    have nsK:∀ {b:Addr} {m:Str->Option Value},s₁.heap.Ns b m->(Gb s₁.heap H).Ns b m:=fun {b m} ⟨o,es,ep,e,d,r⟩=>⟨o,es,ep,base_of e (noA e d),d,r⟩
    have hKb:K.In (Gb s₁.heap H):=fun b o e=>base_of (KX b o e) (by
      cases q:H b with
      | none=>rfl
      | some u=>
        have e':b=a:=hA b (by rw [q]; simp)
        subst e'
        rw [hK (by rw [q]; simp)] at e; cases e)
    have hM:Mod K mg (Gb s₁.heap H):=⟨hKb,nsK hns,⟨mb,nsK hb,hbb⟩,let ⟨mc,h1,h2⟩:=hlim; ⟨mc,nsK h1,h2⟩⟩
    have e0:ON P w K mg (Gb s₁.heap H) callerA [] s₁ H:=⟨rfl,hM,fun b o e=>Nw e,Nat.le_of_eq (Kk _ _),trivial,fun b hb=>absurd (show b ∈ ([]:List Addr) from hb) (by simp),hok,.of_eq hg⟩
    refine codeAny_mono ((F _ hKb (nsK hns)).run callerA [] s₁ H ⟨[.ref a],[]⟩ [.ref a] [.ref a] _ _ hr e0 (hbind s₁ (.ref a)) (.cons rfl .nil) (hsp H hO hS)) fun r s' h=>?_
    cases r with
    | error e=>exact (hCX H e s' h).elim
    | ok fl=>
      cases fl with
      | next=>exact False.elim h
      | brk=>exact False.elim h
      | cont=>exact False.elim h
      | ret u=>
        obtain ⟨v,H',os,bare,un,hok',r',q⟩:=h
        have q':v=.bl true:=q
        subst q'
        obtain rfl:u=Value.bool true:=r'
        refine ⟨rfl,OldK.of_keep fun b o e=>?_,os,bare⟩
        cases q:H b with
        | none=>exact un.keep b o e q (by intro z; exact absurd (show b ∈ ([]:List Addr) from z) (by simp)) (by simp)
        | some u=>
          rcases hO b with z | ⟨ob,xs,z⟩
          . rw [q] at z; cases z
          . have z2:=un.frzs b ob _ z
            obtain ⟨e1,_⟩:=hok b _ z
            obtain ⟨e2,_⟩:=hok' b _ z2
            rw [e] at e1; cases e1
            exact e2
  cases hk:K.lookup a with
  | some o=>
    have e:=KX a o hk
    rw [ha] at e
    cases e
    refine core (fun _=>none) (fun _=>.inl rfl) (.inr ⟨_,vs.toArray,_,hk,rfl,rfl,rfl,by rw [List.size_toArray,lenV]; exact hl,by simpa using rv⟩) (fun b u z=>by have z':(none:Option HO)=some u:=z; cases z') (fun b z=>absurd rfl z) fun z=>absurd rfl z
  | none=>
    refine core (fun b=>if b=a then some (.frz { cls:=.type "list",data:=.seq vs.toArray } (.lst (ns.map V.int))) else none) (fun b=>?_) (.inl (.inr ⟨{ cls:=.type "list",data:=.seq vs.toArray },if_pos rfl⟩)) (fun b u z=>?_) (fun b z=>?_) fun _=>hk
    . by_cases hb:b=a
      . exact .inr ⟨_,_,if_pos hb⟩
      . exact .inl (if_neg hb)
    . by_cases hb:b=a
      . have z':=(if_pos hb).symm.trans z
        cases z'
        subst hb
        exact ⟨ha,by rw [List.length_map]; exact hl,vs,_,rv,ha⟩
      . have z':=(if_neg hb).symm.trans z
        cases z'
    . by_cases hb:b=a
      . exact hb
      . exact absurd (if_neg hb) z
end L2
namespace L2
open PySem PySem.Spec PyProof.Rows
theorem NG {l:PySem.W.OpenLaw} {n k:Nat} {q:Program} {loose:List Str} {XP:(Str->Option Value)->Heap->Prop} {YP:World->Heap->Prop} {d:DefRec} {K:Params->PySem.W.Frag} {CX:World->CXT} {sp:World->Sp} {x:Str}
    (hn:l.most=some n) (hn2:n <= sizeLine) (hdf:d.params.defaults=[]) (hr:Room k callerA)
    (hY:∀ (w:World) (h:Heap),YP w h->(K w.params).In h)
    (F:∀ (w:World) (mg:Str->Option Value) (fa:Addr) (h:Heap),(K w.params).In h->h.Ns mainGlobals mg->mg d.name=some (.ref fa)->
      ∃ fd:FuncData,(∀ (s:Shared) (u:Value),BindsTo s fd ⟨[u],[]⟩ [(x,u)]) /\
        ∀ base:Heap,(K w.params).In base->base.Ns mainGlobals mg->FnOk l.prog w (K w.params) mg base (CX w) k fa fd [x] (sp w))
    (hsp:∀ (w:World) (H:Hp) (a:Addr) (ns:List Int),ns.length <= n->OL H->SqL (K w.params) H a (ns.map V.int)->sp w [.ref a] H (fun v _=>v=.bl true) fun _ _ _=>False)
    (hCX:∀ (w:World) (H:Hp) (s:Shared) (e:Value) (s':Shared),CX w [] H s (fun _ _ _=>False) e s'->False) :
    PySem.W.WalkO q loose XP YP l.row.toRowW d [] (fun f vs=>PySem.call f vs):=by
  refine Att.Hk hn hdf fun w s₀ s₁ mg mb fa o pm cd doc a vs ns G Y ho hd hcd hmg hobj hints hlen hg=>?_
  have KX:=hY w _ Y
  obtain ⟨fd,hb,hF⟩:=F w mg fa _ KX G.T.g hmg
  exact MB KX G.T.g G.T.b G.T.builtins G.T.nolimit hg hobj hints (Nat.le_trans hlen hn2) hr hF hb (fun H hO hS=>hsp w H a ns hlen hO hS) fun H e s'=>hCX w H s₁ e s'
end L2
namespace L2
open PySem PySem.Spec PyProof.Rows
def Da (s:Stmt):Arguments:=match s with
  | .FunctionDef _ a _ _ _ _ _ _ _ _=>a
  | _=>{ posonlyargs:=[],args:=[],vararg:=none,kwonlyargs:=[],kw_defaults:=[],kwarg:=none,defaults:=[] }
def Ab (s:Stmt):List Stmt:=match s with
  | .FunctionDef _ _ b _ _ _ _ _ _ _=>b
  | _=>[]
def AG (s:Stmt):Scope:=match s with
  | .FunctionDef _ _ _ _ _ _ sc _ _ _=>sc
  | _=>{ kind:=.function,names:=[],isGenerator:=false,isCoroutine:=false }
abbrev CX0:CXT:=fun _ _ _ _ _ _=>False
abbrev E0:XK:=fun _ _ _=>False
theorem RC {X:Cx}:Iq CX0 X E0:=fun _ _ _ _ _ _ _ h=>h.elim
structure Fun (K:PySem.W.Frag) (x qual:Str) (st:Stmt) (f:Addr) (fd:FuncData):Prop where
  ex:∃ (oc:Value) (od:Option Addr) (kV doc pm:Value) (an:Option Addr) (cdv ct:Value) (osl:Array (Option Value)),
    fd=PySem.W.fnOf x qual (Da st) (Ab st) (AG st) .none kV doc pm an cdv ct /\ K.lookup f=some ⟨oc,od,.func fd,osl⟩ /\ PySem.W.codeIn K cdv qual=true
  kp:PySem.W.keepIn K (.ref f)=true
section
variable {P:Program} {w:World} {K:PySem.W.Frag} {mg:Str->Option Value} {base:Heap}
theorem Fun.ok {x qual:Str} {st:Stmt} {f:Addr} {fd:FuncData} {N ps:List Str} {k:Nat} {sp:Sp} (F:Fun K x qual st f fd) (S:Ag N ps (AG st)) (len:∀ vs H Q E,sp vs H Q E->vs.length=ps.length)
    (hbody:∀ (cdv:Value) (A:Around) (outer:List Env) (s:Shared) (H:Hp) (vs:List V) (Q:VK) (E:XK),Room k (A.deeper (envOfC qual (AG st) s.heap.objs.size f cdv))->sp vs H Q E->
      ∃ t,PSs (B5 CX0 P w K mg base N qual (AG st) f cdv A outer s H E).nox (Ab st) t /\ t { nx:=fun _ H'=>Q .non H',rt:=Q } (start N vs) H):FnOk P w K mg base CX0 (k + 1) f fd ps sp:=by
  obtain ⟨oc,od,kV,doc,pm,an,cdv,ct,osl,rfl,lk,hcd⟩:=F.ex
  refine Rf lk hcd S len fun A outer s H vs Q E hr hsp=>?_
  obtain ⟨t,h,q⟩:=hbody cdv A outer s H vs Q E hr hsp
  exact ⟨t,h.nox,q⟩
theorem Fun.binds {x qual:Str} {st:Stmt} {f:Addr} {fd:FuncData} {ps:List Str} (F:Fun K x qual st f fd)
    (h:∀ (kV doc pm:Value) (an:Option Addr) (cdv ct:Value) (us:List Value),us.length=ps.length->bindArgs (PySem.W.fnOf x qual (Da st) (Ab st) (AG st) .none kV doc pm an cdv ct) ⟨us,[]⟩=pure (ps.zip us)):Binds K fd ps []:=by
  obtain ⟨oc,od,kV,doc,pm,an,cdv,ct,osl,rfl,lk,hcd⟩:=F.ex
  exact .all (h kV doc pm an cdv ct)
theorem QP {x qual:Str} {st:Stmt} {f:Addr} {oc:Value} {od an:Option Addr} {osl:Array (Option Value)} {kV doc pm cdv ct:Value} (l:K.lookup f=some ⟨oc,od,.func (PySem.W.fnOf x qual (Da st) (Ab st) (AG st) .none kV doc pm an cdv ct),osl⟩)
    (c:PySem.W.codeIn K cdv qual=true) (k:PySem.W.keepIn K (.ref f)=true):Fun K x qual st f (PySem.W.fnOf x qual (Da st) (Ab st) (AG st) .none kV doc pm an cdv ct):=⟨⟨oc,od,kV,doc,pm,an,cdv,ct,osl,rfl,l,c⟩,k⟩
end
section
variable {X:Cx}
end
section
variable {κ:Type} [DecidableEq κ]
end
end L2
namespace L2
open PySem PySem.Spec PyProof.Rows
def CI (env:Env):List (Str × NameKind)->List (Str × Addr)->List (Str × Addr)
  | [],cs=>cs
  | (n,k) :: r,cs=>CI env r (if k == .free then (match env.cells.lookup n with | some c=>(n,c) :: cs | none=>cs) else cs)
theorem Bg {env:Env}:∀ (l:List (Str × NameKind)) (cs:List (Str × Addr)),(∀ x ∈ l,x.2=.free->∃ c,env.cells.lookup x.1=some c)->
    (forIn l cs fun (x:Str × NameKind) (r:List (Str × Addr))=>(if (x.2 == NameKind.free)=true then (do let a ← cellOf env x.1; pure (ForInStep.yield ((x.1,a) :: r))) else pure (ForInStep.yield r):Sem (ForInStep (List (Str × Addr)))))=pure (CI env l cs)
  | [],cs,_=>by rw [List.forIn_nil]; rfl
  | (n,k) :: r,cs,h=>by
    have hr:∀ x ∈ r,x.2=.free->∃ c,env.cells.lookup x.1=some c:=fun x hx=>h x (List.mem_cons_of_mem _ hx)
    rw [List.forIn_cons]
    by_cases hk:k=.free
    . subst hk
      obtain ⟨c,hc⟩:=h (n,.free) List.mem_cons_self rfl
      have e:cellOf env n=pure c:=by unfold cellOf; rw [hc]
      dsimp only
      rw [if_pos (by decide),e,pure_bind,pure_bind]
      dsimp only
      rw [Bg r _ hr]
      show _=pure (CI env r (if (NameKind.free == NameKind.free)=true then (match env.cells.lookup n with | some c=>(n,c) :: cs | none=>cs) else cs))
      rw [if_pos (by decide),hc]
    . have hb : ¬ (k == NameKind.free)=true:=by simpa using hk
      dsimp only
      rw [if_neg hb,pure_bind]
      dsimp only
      rw [Bg r _ hr]
      show _=pure (CI env r (if (k == NameKind.free)=true then (match env.cells.lookup n with | some c=>(n,c) :: cs | none=>cs) else cs))
      rw [if_neg hb]
theorem BY {scope:Scope} {env:Env} (h:∀ x ∈ scope.names,x.2=.free->∃ c,env.cells.lookup x.1=some c):closureFor scope env=pure (CI env scope.names []):=by
  have e:=Bg (env:=env) scope.names [] h
  unfold closureFor
  dsimp only
  rw [← bind_pure (pure (CI env scope.names [])),← e]
theorem CP {env:Env}:∀ (l:List (Str × NameKind)) (cs:List (Str × Addr)),(∀ x c,cs.lookup x=some c->env.cells.lookup x=some c)->∀ x c,(CI env l cs).lookup x=some c->env.cells.lookup x=some c
  | [],cs,h=>h
  | (n,k) :: r,cs,h=>by
    refine CP r _ ?_
    intro x c
    by_cases hk:(k == NameKind.free)=true
    . rw [if_pos hk]
      cases hl:env.cells.lookup n with
      | none=>exact h x c
      | some d=>
        intro q
        by_cases hx:x=n
        . subst hx
          rw [List.lookup_cons_self] at q
          rw [hl]; exact q
        . have hb:(x == n)=false:=beq_eq_false_iff_ne.mpr hx
          simp only [List.lookup_cons,hb] at q
          exact h x c q
    . rw [if_neg hk]; exact h x c
theorem FD {env:Env}:∀ (l:List (Str × NameKind)) (cs:List (Str × Addr)) (x:Str),(cs.lookup x).isSome=true->((CI env l cs).lookup x).isSome=true
  | [],cs,x,h=>h
  | (n,k) :: r,cs,x,h=>by
    refine FD r _ x ?_
    by_cases hk:(k == NameKind.free)=true
    . rw [if_pos hk]
      cases hl:env.cells.lookup n with
      | none=>exact h
      | some d=>
        by_cases hx:(x == n)=true
        . simp only [List.lookup_cons,hx,Option.isSome_some]
        . have hb:(x == n)=false:=by simpa using hx
          simp only [List.lookup_cons,hb]; exact h
    . rw [if_neg hk]; exact h
theorem Hd {env:Env}:∀ (l:List (Str × NameKind)) (cs:List (Str × Addr)) (x:Str) (c:Addr),(x,NameKind.free) ∈ l->env.cells.lookup x=some c->((CI env l cs).lookup x).isSome=true
  | [],cs,x,c,h,_=>by simp at h
  | (n,k) :: r,cs,x,c,h,hc=>by
    rcases List.mem_cons.mp h with e | e
    . obtain ⟨rfl,rfl⟩:=Prod.mk.inj e
      refine FD r _ _ ?_
      rw [if_pos (by decide),hc]
      simp only [List.lookup_cons_self,Option.isSome_some]
    . exact Hd r _ x c e hc
theorem F4 {env:Env} {l:List (Str × NameKind)} {x:Str} {c:Addr} (h:(x,NameKind.free) ∈ l) (hc:env.cells.lookup x=some c):(CI env l []).lookup x=some c:=by
  obtain ⟨d,hd⟩:=Option.isSome_iff_exists.mp (Hd l [] x c h hc)
  have:=CP l [] (fun _ _ z=>by simp at z) x d hd
  rw [hc] at this; cases this
  exact hd
def BK:List (Str × NameKind)->List Str
  | []=>[]
  | (n,.free) :: r=>n :: BK r
  | _ :: r=>BK r
theorem DH {x:Str}:∀ {l:List (Str × NameKind)},x ∈ BK l->(x,NameKind.free) ∈ l
  | [],h=>by simp [BK] at h
  | (n,k) :: r,h=>by
    cases k <;> first
      | (rcases List.mem_cons.mp (show x ∈ n :: BK r from h) with e | e
         . subst e; exact List.mem_cons_self
         . exact List.mem_cons_of_mem _ (DH e))
      | exact List.mem_cons_of_mem _ (DH (show x ∈ BK r from h))
theorem Fv {x:Str}:∀ {l:List (Str × NameKind)},(x,NameKind.free) ∈ l->x ∈ BK l
  | [],h=>by simp at h
  | (n,k) :: r,h=>by
    rcases List.mem_cons.mp h with e | e
    . cases e; exact List.mem_cons_self
    . have ih:=Fv e
      cases k <;> first
        | exact List.mem_cons_of_mem _ ih
        | exact ih
theorem Cw {x:Str} (f:Str × NameKind->Str × NameKind) (hf:∀ p,f p=p ∨ p.2=.free /\ f p=(p.1,.cell)):∀ (l:List (Str × NameKind)) (k:NameKind),(l.map f).lookup x=some k->l.lookup x=some k ∨ l.lookup x=some .free /\ k=.cell
  | [],_,h=>nomatch h
  | (y,j) :: l,k,h=>by
    have rest:=Cw (x:=x) f hf l k
    rw [List.map_cons] at h
    rcases hf (y,j) with e | ⟨ej,e⟩ <;> rw [e] at h <;> cases he:x == y <;> simp only [List.lookup_cons,he] at h ⊢
    . exact rest h
    . exact .inl h
    . exact rest h
    . cases h
      cases (show j=NameKind.free from ej)
      exact .inr ⟨rfl,rfl⟩
theorem Bu {scope:Scope} {env:Env} {x:Str} {k:NameKind} (h:(relabel scope env).names.lookup x=some k):scope.names.lookup x=some k ∨ scope.names.lookup x=some .free /\ k=.cell:=by
  unfold relabel at h
  refine Cw _ (fun p=>?_) _ _ h
  obtain ⟨n,j⟩:=p
  dsimp only
  split
  . rename_i hc
    refine .inr ⟨?_,rfl⟩
    simp only [Bool.and_eq_true,beq_iff_eq] at hc
    exact hc.1.1
  . exact .inl rfl
def Fh (ix:List Nat) (σ:St):St:=ix.map fun j=>(σ[j]?).getD none
def cxB (X:Cx) (scope:Scope) (tgs:List Str) (fp:List Addr) (C:Addr) (s:Shared) (H:Hp):Cx:=
  { X with N:=tgs ++ BK scope.names,s₀:=s,H₀:=H,env:=compEnvC scope (CI X.env scope.names []) C X.env,outer:=X.stack,ex:=fp,fn:=fun _=>false,pn:=[],xe:=fun _ _=>False }
def Qb {α:Type} (P:α->Prop):List α->Prop
  | []=>True
  | x :: r=>P x /\ Qb P r
theorem FL {α:Type} {P:α->Prop}:∀ {l:List α},Qb P l->∀ x ∈ l,P x
  | [],_,_,h=>by simp at h
  | _ :: _,h,x,hx=>by
    rcases List.mem_cons.mp hx with e | e
    . subst e; exact h.1
    . exact FL h.2 x e
structure BScope (X:Cx) (scope:Scope) (tgs:List Str) (ix:List Nat):Prop where
  kind:scope.kind=.function
  nocell:∀ y ∈ scope.names,y.2 ≠ .cell
  loc:∀ y ∈ scope.names,y.2=.local->scope.names.lookup y.1=some .local
  fre:Qb (fun x=>X.env.kindOf x=some .cell ∨ X.env.kindOf x=some .free) (BK scope.names)
  ixs:(BK scope.names).map some=ix.map fun j=>X.N[j]?
  ndl:∀ x ∈ BK scope.names,scope.names.lookup x=some .free
section
variable {X:Cx} {scope:Scope} {tgs:List Str} {ix:List Nat}
theorem BScope.cells (S:BScope X scope tgs ix) (ok:X.Ok):∀ x ∈ scope.names,x.2=.free->∃ c,X.env.cells.lookup x.1=some c:=fun x hx hk=>by
  obtain ⟨n,k⟩:=x
  subst hk
  exact ok.has n (FL S.fre n (Fv hx))
theorem Inv.cellLt {pins:List (Addr × Obj)} {σ:St} {H:Hp} {s:Shared} (I:Inv X pins σ H s) {x:Str} {c:Addr} (e:X.env.cells.lookup x=some c):c < s.heap.objs.size:=by
  obtain ⟨v,q⟩:=I.cell x c e
  exact q.lt
theorem Inv.track {pins:List (Addr × Obj)} {σ:St} {H:Hp} {s:Shared} {D:Addr} {o:HO} (I:Inv X pins σ H s) (f:C3 X pins H D) (new:ObjOk X.prog X.w (upd H D o) s.heap D o):Inv X pins σ (upd H D o) s:=by
  obtain ⟨f0,f1,f2,f3,f4,f5⟩:=f
  have nD:∀ b u,H b=some u->b ≠ D:=fun b u e z=>by rw [z,f0] at e; cases e
  have:=I.step (h':=s.heap) (H':=upd H D o) (g':=s.gens) (t':=s.toks) (d':=s.drawn) (ch:=[D]) (fun b hb=>?_) (fun b u _ _ _ e _=>e) (fun b u _ _ _ e _=>⟨u.slots,e⟩) (fun b u hb e n=>?_) (fun b u _ e=>⟨u,e⟩)
    (fun b xs e=>?_) (fun b u v e=>?_) (fun b ps e=>?_) (fun m hm=>hm) (fun b u e=>?_) I.bare
  . exact this
  . have e:b=D:=by simpa using hb
    subst e
    exact ⟨f3,f1,f4,f5⟩
  . rw [AU (fun z=>hb (by simp [z]))]; exact n
  . rw [AU (nD b _ e)]; exact e
  . rw [AU (nD b _ e)]; exact e
  . exact ⟨#[],by rw [AU (nD b _ e),e]; simp⟩
  . by_cases hb:b=D
    . subst hb; rw [AW] at e; cases e; exact new
    . rw [AU hb] at e
      exact (I.hok b u e).stay (fun _ _ _ q=>q) (fun c q=>by rw [AU (nD c _ q)]; exact q) fun c xs q=>by rw [AU (nD c _ q)]; exact q
theorem Ib {pins:List (Addr × Obj)} {σ:St} {H:Hp} {s:Shared} {fp:List Addr} {C:Addr} (S:BScope X scope tgs ix) (I:Inv X pins σ H s) (hf:∀ b ∈ fp,C3 X pins H b) (hfo:∀ b ∈ fp,b < s.heap.objs.size) (hC:s.heap.objs.size <= C) :
    (cxB X scope tgs fp C s H).Ok:=by
  have sub:∀ x c,(CI X.env scope.names []).lookup x=some c->X.env.cells.lookup x=some c:=CP scope.names [] (fun _ _ z=>by simp at z)
  refine ⟨I.ok.mod,S.kind,I.ok.glob,I.ok.blt,hC,fun x y c h1 h2=>I.ok.inj x y c (sub x c h1) (sub y c h2),fun x hx=>?_,fun x c h=>absurd h (by simp [cxB]),I.ok.hd,I.ok.frames,.inl rfl,fun b hb=>⟨?_,fun x c e=>?_⟩,fun b o e=>I.bs b o e,
    Nat.le_trans I.ok.bsz I.sz,fun b o e hb=>?_,fun b hb hz=>?_,I.stack,I.stkFree⟩
  . have hx':(relabel scope X.env).names.lookup x=some .cell ∨ (relabel scope X.env).names.lookup x=some .free:=hx
    have hm:(x,NameKind.free) ∈ scope.names:=by
      rcases hx' with h | h
      . rcases Bu h with q | q
        . exact absurd rfl (S.nocell _ (PySem.mem_of_lookup q))
        . exact PySem.mem_of_lookup q.1
      . rcases Bu h with q | q
        . exact PySem.mem_of_lookup q
        . exact absurd q.2 (by decide)
    obtain ⟨c,hc⟩:=S.cells I.ok _ hm rfl
    exact ⟨c,F4 hm hc⟩
  . exact fun z=>absurd (hfo b hb) (by rw [z]; exact Nat.not_lt.mpr hC)
  . exact (hf b hb).2.2.2.2.1 x c (sub x c e)
  . obtain ⟨f0,f1,f2,f3,f4,f5⟩:=hf b hb
    rcases f3 with z | z
    . exact I.ok.noex b o e z
    . exact absurd (Heap.lt_size (I.ok.bs b o e).1) (Nat.not_lt.mpr z)
  . obtain ⟨f0,f1,f2,f3,f4,f5⟩:=hf b hb
    rcases List.mem_cons.mp (I.stkSub b hz) with z | z
    . exact f1 z
    . exact f2 z
end
end L2
namespace L2
open PySem PySem.Spec PyProof.Rows
section
variable {X:Cx} {scope:Scope} {tgs:List Str} {ix:List Nat}
abbrev BG (tgs:List Str) (ix:List Nat) (σ:St):St:=List.replicate tgs.length none ++ Fh ix σ
theorem ET {σ:St} {k:Nat} {v:V} (h:(BG tgs ix σ)[k]? = some (some v)):tgs.length <= k /\ ∃ j,ix[k - tgs.length]? = some j /\ σ[j]? = some (some v):=by
  have hk:tgs.length <= k:=by
    rcases Nat.lt_or_ge k tgs.length with z | z
    . rw [List.getElem?_append_left (by simpa using z),List.getElem?_replicate,if_pos z] at h
      cases h
    . exact z
  refine ⟨hk,?_⟩
  rw [List.getElem?_append_right (by simpa using hk),List.length_replicate] at h
  unfold Fh at h
  rw [List.getElem?_map] at h
  cases e:ix[k - tgs.length]? with
  | none=>rw [e] at h; cases h
  | some j=>
    rw [e] at h
    refine ⟨j,rfl,?_⟩
    have h':(σ[j]?).getD none=some v:=Option.some.inj h
    cases q:σ[j]? with
    | none=>rw [q] at h'; cases h'
    | some o=>
      rw [q] at h'
      have h'':o=some v:=h'
      rw [h'']
theorem Es {pins:List (Addr × Obj)} {σ:St} {H:Hp} {s s4:Shared} {fp:List Addr} {C D:Addr} {o:Obj} (S:BScope X scope tgs ix) (I:Inv X pins σ H s) (hf:∀ b ∈ fp,C3 X pins H b) (hfo:∀ b ∈ fp,b < s.heap.objs.size)
    (hC:s.heap.objs.size <= C) (hD:s.heap.objs.size <= D) (hDC:D ≠ C) {m:Str->Option Value} (hn:s4.heap.Ns C m) (hk:∀ b u,s.heap.get? b=some u->s4.heap.get? b=some u) (hos:s4.os=s.os) (hg:s4.gens=s.gens)
    (hDo:s4.heap.get? D=some o) (hcell:∀ v,o.data ≠ .cell v):Inv (cxB X scope tgs fp C s H) [(D,o)] (BG tgs ix σ) H s4:=by
  have ok:=Ib (tgs:=tgs) (ix:=ix) (C:=C) S I hf hfo hC
  have sub:∀ x c,(CI X.env scope.names []).lookup x=some c->X.env.cells.lookup x=some c:=CP scope.names [] (fun _ _ z=>by simp at z)
  refine ⟨ok,hos,by rw [hg]; exact I.bare,Un.kept hk,⟨m,hn,fun k x v h1 h2 h3=>?_⟩,fun x c e=>?_,I.hok.fresh hC,fun x c e=>I.freeC x c (sub x c e),fun p hp=>?_,I.hok.kept hk,?_⟩
  . obtain ⟨hkl,j,hj,hσ⟩:=ET h2
    have h1':(BK scope.names)[k - tgs.length]? = some x:=by
      have:(tgs ++ BK scope.names)[k]? = some x:=h1
      rwa [List.getElem?_append_right hkl] at this
    have hx:x ∈ BK scope.names:=List.mem_of_getElem? h1'
    have hXN:X.N[j]? = some x:=by
      have e:=congrArg (fun l=>l[k - tgs.length]?) S.ixs
      simp only [List.getElem?_map,h1',hj,Option.map_some] at e
      exact (Option.some.inj e).symm
    have kx:=FL S.fre x hx
    obtain ⟨m0,hn0,hl⟩:=I.loc
    obtain ⟨u,r,l⟩:=hl j x v hXN hσ (by rcases kx with z | z; exact .inr (.inl z); exact .inr (.inr z))
    refine ⟨u,r,?_⟩
    rcases l with ⟨z,_⟩ | ⟨_,c,hc,q⟩
    . rcases kx with y | y <;> rw [z] at y <;> cases y
    . refine .inr ⟨?_,c,F4 (DH hx) hc,?_⟩
      . have h3':(relabel scope X.env).names.lookup x=some .local ∨ (relabel scope X.env).names.lookup x=some .cell ∨ (relabel scope X.env).names.lookup x=some .free:=h3
        rcases h3' with z | z | z
        . exfalso
          rcases Bu z with w | w
          . have lk:scope.names.lookup x=some .local:=w
            have:=S.ndl x hx
            rw [lk] at this; cases this
          . exact absurd w.2 (by decide)
        . exact .inl z
        . exact .inr z
      . obtain ⟨oc,hoc,hd⟩:=q
        exact ⟨oc,hk c oc hoc,hd⟩
  . obtain ⟨v,oc,hoc,hd⟩:=I.cell x c (sub x c e)
    exact ⟨v,oc,hk c oc hoc,hd⟩
  . have e:p=(D,o):=by simpa [cxB] using hp
    subst e
    refine ⟨hDo,I.hok.fresh hD,hDC,fun hz=>?_,hcell⟩
    have hz':D ∈ frs X.stack:=hz
    rcases List.mem_cons.mp (I.stkSub D hz') with z | z
    . exact absurd I.lt (by rw [← z]; exact Nat.not_lt.mpr hD)
    . exact I.nofs hD z
  . show (List.replicate tgs.length none ++ Fh ix σ).length=(tgs ++ BK scope.names).length
    have e:=congrArg List.length S.ixs
    simp only [List.length_map] at e
    rw [List.length_append,List.length_append,List.length_replicate,e]
    unfold Fh
    rw [List.length_map]
def Gi (X:Cx) (ifs:List Expr) (tc:TT):Prop:=
  ∀ (pins:List (Addr × Obj)) (s:Shared) (σ:St) (H:Hp) (Q:Bool->Hp->Prop),Inv X pins σ H s->tc σ H Q->
    wpAny (model X.prog X.w) X.A (forIn ifs true fun c r=>if r=true then do let ok ← isTrue c X.env (eval c X.env); pure (ForInStep.yield ok) else pure (ForInStep.yield r)) (TP X pins σ Q) X.xe s
def Ql:TT:=fun _ H Q=>Q true H
theorem Ln:Gi X [] Ql:=fun pins s σ H Q I h=>wpAny_tests_nil ⟨H,I,h⟩
theorem Lm {c:Expr} {tc:TT} (h:PT X c tc):Gi X [c] tc:=fun pins s σ H Q I hw=>wpAny_tests_one (h pins s σ H Q I hw)
def GK (n:Nat) (g:TG):Prop:=∀ x σ H Q,g x σ H Q->g x σ H fun σ2 H2=>Q σ2 H2 /\ σ2.length=σ.length /\ σ2.drop n=σ.drop n
theorem Jh {n i:Nat} (h:i < n):GK n (C8 i):=fun x σ H Q q=>⟨q,by simp,by rw [List.drop_set_of_lt h]⟩
def Rm (tgs:List Str) (ix:List Nat) (g:TG) (tc:TT) (te:TE) (σ:St) (Q:VK) (J:It) (H1:Hp):Prop:=∃ W:Nat->Nat->List V->Hp->Prop,(∃ m,W 0 m [] H1) /\ ∀ i m ys H,W i m ys H->
  (J.stop i H /\ ys.length <= sizeLine /\ ∀ p,H p=none->Q (.ref p) (upd H p (.lst ys))) ∨
  (J.go i H /\ ys.length < sizeLine /\ ∃ N:List V->Hp->Prop,(∀ ys' H',N ys' H'->∃ m',m' < m /\ W (i + 1) m' ys' H') /\ ∀ x H',J.yld i H x H'->g x (BG tgs ix σ) H' fun σ2 H2=>tc σ2 H2 fun b H3=>
    if b=true then te σ2 H3 fun v H4=>N (ys ++ [v]) H4 else N ys H3)
def Gx (tgs:List Str) (ix:List Nat) (wi:TI) (g:TG) (tc:TT) (te:TE):TE:=fun σ H Q=>wi σ H fun J H1=>Rm tgs ix g tc te σ Q J H1
theorem Dr {α:Type} {t:Sem α} {Q Q':α->Shared->Prop} {M:Model} {A:Around} {E:Value->Shared->Prop} {s:Shared} (h:wpAny M A t Q (fun _ _=>False) s) (hQ:∀ a s,Q a s->Q' a s):wpAny M A t Q' E s:=wpAny_mono h hQ fun _ _ x=>x.elim
theorem KQ {α:Type} {u:Sem Unit} {t:Sem α} {P:Unit->Shared->Prop} {Q:α->Shared->Prop} {M:Model} {A:Around} {E:Value->Shared->Prop} {s:Shared} (hu:u=pure ()) (h:wpAny M A u P E s) (k:∀ s',P () s'->wpAny M A t Q E s'):wpAny M A t Q E s:=by
  subst hu
  have z:wpAny M A ((pure ():Sem Unit) >>= fun _=>t) Q E s:=wpAny_bind (wpAny_mono h (fun _ s' p=>k s' p) fun _ _ x=>x)
  exact z
end
end L2
namespace L2
open PySem PySem.Spec PyProof.Rows
section
variable {X:Cx} {scope:Scope} {tgs:List Str} {ix:List Nat}
abbrev Ca (its:List Value) (k:Nat):Obj:={ cls:=.type "list",data:=.seq its.toArray k }
theorem Iy {fp:List Addr} {C:Addr} {s0:Shared} {H0:Hp} {pins:List (Addr × Obj)} {σ σ6:St} {H:Hp} {s:Shared} (I:Inv (cxB X scope tgs fp C s0 H0) pins σ6 H s) (l6:σ6.length=(BG tgs ix σ).length)
    (d6:σ6.drop tgs.length=(BG tgs ix σ).drop tgs.length):Inv (cxB X scope tgs fp C s0 H0) pins (BG tgs ix σ) H s:=by
  refine I.weak l6.symm fun k v e=>?_
  obtain ⟨hk,_⟩:=ET e
  have e1:σ6[k]? = (σ6.drop tgs.length)[k - tgs.length]?:=by rw [List.getElem?_drop]; congr 1; omega
  have e2:(BG tgs ix σ)[k]? = ((BG tgs ix σ).drop tgs.length)[k - tgs.length]?:=by rw [List.getElem?_drop]; congr 1; omega
  rw [e1,d6,← e2]
  exact e
theorem FC {elt tg iter:Expr} {ifs:List Expr} {pos:Pos} {g:TG} {tc:TT} {te:TE} {pins:List (Addr × Obj)} {σ:St} {H2:Hp} {s2:Shared} {it:Addr} {fp:List Addr} {tn:Nat->Heap->Prop} {J:It} {Q:VK}
    (S:BScope X scope tgs ix) (ht:∀ o v,letOwnedTupleGo tg o v=pure ()) (hc:X.calm=true) (hg:∀ fp C s H,PG (cxB X scope tgs fp C s H) tg g) (hgk:GK tgs.length g) (hi:∀ fp C s H,Gi (cxB X scope tgs fp C s H) ifs tc) (he:∀ fp C s H,PE (cxB X scope tgs fp C s H) elt te)
    (I2:Inv X pins σ H2 s2) (T:Hn X.prog X.w X.K tg J fp it tn) (t0:tn 0 s2.heap) (hf:∀ b ∈ fp,C3 X pins H2 b)
    (W:Nat->Nat->List V->Hp->Prop) (w0:∃ m,W 0 m [] H2)
    (turn:∀ i m ys H,W i m ys H->(J.stop i H /\ ys.length <= sizeLine /\ ∀ p,H p=none->Q (.ref p) (upd H p (.lst ys))) ∨
      (J.go i H /\ ys.length < sizeLine /\ ∃ N:List V->Hp->Prop,(∀ ys' H',N ys' H'->∃ m',m' < m /\ W (i + 1) m' ys' H') /\ ∀ x H',J.yld i H x H'->g x (BG tgs ix σ) H' fun σ2 H2=>tc σ2 H2 fun b H3=>
        if b=true then te σ2 H3 fun v H4=>N (ys ++ [v]) H4 else N ys H3))
    {RR:Value->Addr->Result->Shared->Prop}
    (fin:∀ (D C:Addr) (s':Shared) (H':Hp) (m:Str->Option Value),Inv X pins σ H' s'->Q (.ref D) H'->s'.heap.Ns C m->C3 X pins H' C->RR (.ref D) C (.ok .next) s') :
    wpAny (model X.prog X.w) X.A (newList []) (fun acc s₃=>wpAny (model X.prog X.w) X.A (newFunctionEnv scope X.env.globals (CI X.env scope.names []) [] X.env.qual none .none (some X.env)) (fun cenv s₄=>
      codeAny (model X.prog X.w) X.A (.compStart (.ListComp elt [⟨tg,iter,ifs,0⟩] scope pos) 0 (.ref it) acc { cenv with scope:=relabel scope X.env }) (RR acc cenv.locals) s₄) X.xe s₃) X.xe s2:=by
  refine wpAny_newObj_type (wpAny_newFunctionEnv S.nocell (by intro y hy; simp at hy) (fun h₁ hns₁ hsb₁=>?_) S.kind)
  dsimp only at hns₁ hsb₁ ⊢
  generalize hH2:s2.heap.push { cls:=.type "list",dict:=none,data:=.seq ([]:List Value).toArray }=G2 at hns₁ hsb₁ ⊢
  have hC:G2.objs.size=s2.heap.objs.size + 1:=by rw [← hH2,Heap.size_push]
  have hCle:s2.heap.objs.size <= G2.objs.size:=by rw [hC]; exact Nat.le_succ _
  have hDC:s2.heap.objs.size ≠ G2.objs.size:=by rw [hC]; exact Nat.ne_of_lt (Nat.lt_succ_self _)
  have below:∀ b,b < s2.heap.objs.size->b ≠ G2.objs.size /\ b ≠ s2.heap.objs.size:=fun b hb=>⟨by rw [hC]; exact Nat.ne_of_lt (Nat.lt_succ_of_lt hb),Nat.ne_of_lt hb⟩
  have old:∀ b o,s2.heap.get? b=some o->h₁.get? b=some o:=fun b o e=>hsb₁.extBut b o (below b (Heap.lt_size e)).1 (Heap.get?_push_of_some _ (hH2 ▸ Heap.get?_push_of_some _ e))
  have hacc:h₁.get? s2.heap.objs.size=some (Ca [] 0):=hsb₁.extBut _ _ hDC (Heap.get?_push_of_some _ (hH2 ▸ Heap.get?_push_size _ rfl))
  have hfo:∀ b ∈ fp,b < s2.heap.objs.size:=fun b hb=>let ⟨o,e,_⟩:=T.obj 0 _ t0 b hb; Heap.lt_size e
  have ok:=Ib (tgs:=tgs) (ix:=ix) (C:=G2.objs.size) S I2 hf hfo hCle
  have sub:∀ x c,(CI X.env scope.names []).lookup x=some c->X.env.cells.lookup x=some c:=CP scope.names [] (fun _ _ z=>by simp at z)
  have nDfs:s2.heap.objs.size ∉ frs X.stack:=fun hz=>by
    rcases List.mem_cons.mp (I2.stkSub _ hz) with z | z
    . exact absurd I2.lt (by rw [← z]; exact Nat.lt_irrefl _)
    . exact I2.nofs (Nat.le_refl _) z
  have nDcell:∀ x c,(CI X.env scope.names []).lookup x=some c->c ≠ s2.heap.objs.size:=fun x c e=>Nat.ne_of_lt (I2.cellLt (sub x c e))
  have ncell:∀ (its:List Value) (k:Nat) (v:Option Value),(Ca its k).data ≠ .cell v:=fun its k v z=>by cases z
  have stat:∀ {Hx:Hp} {o:Obj},(∀ b ∈ fp,Hx b=none)->∀ b ∈ fp,C3 (cxB X scope tgs fp G2.objs.size s2 H2) [(s2.heap.objs.size,o)] Hx b:=fun {Hx o} hn b hb=>
    ⟨hn b hb,(ok.exf b hb).1,ok.exfs b hb,.inl hb,(ok.exf b hb).2,fun p hp z=>by
      have e:p=(s2.heap.objs.size,o):=by simpa [cxB] using hp
      subst e
      exact absurd (hfo b hb) (by rw [← z]; exact Nat.lt_irrefl _)⟩
  have loop:∀ s₃:Shared,s₃={ s2 with heap:=h₁,toks:=s2.toks + ([]:List (Str × Value)).length }->
      codeAny (model X.prog X.w) X.A (.compLoop (.ListComp elt [⟨tg,iter,ifs,0⟩] scope pos) 0 (.ref it) (.ref s2.heap.objs.size) (compEnvC scope (CI X.env scope.names []) G2.objs.size X.env)) (RR (.ref s2.heap.objs.size) G2.objs.size) s₃:=by
    rintro s₃ rfl
    obtain ⟨m0,w0⟩:=w0
    refine codeAny_compLoop_tests (fun n s=>∃ i ys its k H,Inv (cxB X scope tgs fp G2.objs.size s2 H2) [(s2.heap.objs.size,Ca its k)] (BG tgs ix σ) H s /\ tn i s.heap /\ (∀ b ∈ fp,H b=none) /\ Vals ys its /\ W i n ys H) ?_ m0
      ⟨0,[],[],0,H2,Es S I2 hf hfo hCle (Nat.le_refl _) hDC hns₁ old rfl rfl hacc (ncell _ _),T.keep 0 _ _ t0 fun b _ o e=>old b o e,fun b hb=>(hf b hb).1,.nil,w0⟩ (ht _)
    rintro n s ⟨i,ys,its,k,H,I,st,fr,rv,w⟩
    rcases turn i n ys H w with ⟨stop,hz,q⟩ | ⟨go,hz8,N,hN,step⟩
    . refine thn (T.done (cxB X scope tgs fp G2.objs.size s2 H2) rfl rfl rfl hc i _ s _ H _ I (stat fr) st stop) fun r s1 ⟨hr,I1⟩=>?_
      subst hr
      obtain ⟨pe,pn,_⟩:=I1.pin (s2.heap.objs.size,Ca its k) (List.mem_append_right _ (by simp))
      have J0:Inv X pins σ H s1:=I2.call' I1.os I1.base I1.hok I1.bare fun b hb=>⟨(hf b hb).2.2.2.1,(hf b hb).2.1,(hf b hb).2.2.2.2.1,(hf b hb).2.2.2.2.2⟩
      have J1:Inv X pins σ (upd H s2.heap.objs.size (.lst ys)) s1:=J0.track (I2.fpOk (Nat.le_refl _) pn) ⟨hz,its,k,rv,pe⟩
      obtain ⟨m,hn,_⟩:=I1.loc
      exact fin _ _ s1 _ m J1 (q _ pn) hn (I2.fpOk hCle (by rw [AU (Ne.symm hDC)]; exact I1.free))
    . refine thn (T.item (cxB X scope tgs fp G2.objs.size s2 H2) rfl rfl rfl hc i _ s _ H _ I (stat fr) st go) fun r s1 ⟨u,hr,h1⟩=>?_
      subst hr
      refine KQ (ht _ _) h1 fun s5 ⟨x,H5,I5,r5,y5,st5,fr5⟩=>?_
      have I5':=I5.pinned (stat fr5) (T.obj _ _ st5)
      refine Dr (hg fp G2.objs.size s2 H2 _ s5 _ H5 x u _ I5' r5 (hgk _ _ _ _ (step x H5 y5))) fun _ s6 ⟨σ6,H6,I6,q6,l6,d6⟩=>?_
      refine Dr (hi fp G2.objs.size s2 H2 _ s6 σ6 H6 _ I6 q6) fun okb s7 ⟨H7,I7,q7⟩=>?_
      cases okb with
      | false=>
        rw [if_neg Bool.false_ne_true] at q7 ⊢
        obtain ⟨m',hm,w7⟩:=hN _ _ q7
        refine ⟨m',hm,i + 1,ys,its,k,H7,Iy I7.unpinned l6 d6,T.keep _ _ _ st5 fun b hb o e=>(I7.pin (b,o) (List.mem_append_right _ (List.mem_append_right _ (An hb e)))).1,fun b hb=>?_,rv,w7⟩
        obtain ⟨o,e,_⟩:=T.obj _ _ st5 b hb
        exact (I7.pin (b,o) (List.mem_append_right _ (List.mem_append_right _ (An hb e)))).2.1
      | true=>
        rw [if_pos rfl] at q7 ⊢
        refine Dr (he fp G2.objs.size s2 H2 _ s7 σ6 H7 _ I7 q7) fun xv s8 ⟨v,H8,I8,rv8,q8⟩=>?_
        obtain ⟨m',hm,w8⟩:=hN _ _ q8
        obtain ⟨pe,pn,_⟩:=I8.pin (s2.heap.objs.size,Ca its k) (List.mem_append_right _ (List.mem_append_left _ (by simp)))
        have hlen:=rv.length
        refine call_meets PySem.F.slot_list_append ⟨_,pe,rfl⟩ PySem.F.entry_list_append (PySem.F.args_list_append_2 _ _) (PySem.list_append s2.heap.objs.size its.toArray k xv (by rw [List.size_toArray]; omega)) ⟨pe,?_⟩
        have hp:its.toArray.push xv=(its ++ [xv]).toArray:=by simp
        have q':∃ k',(s8.heap.update s2.heap.objs.size (Obj.mapSeq (fun a=>a.push xv))).get? s2.heap.objs.size=some (Ca (its ++ [xv]) k'):=⟨_,by
          unfold Ca
          rw [← hp]
          exact PySem.IsL.update pe (fun a=>a.push xv)⟩
        obtain ⟨k',q'⟩:=q'
        have I9:Inv (cxB X scope tgs fp G2.objs.size s2 H2) [] σ6 H8 { s8 with heap:=s8.heap.update s2.heap.objs.size (Obj.mapSeq (fun a=>a.push xv)) }:=
          (I8.pins_of (pins':=[]) (fun p hp=>absurd hp (by simp))).turned (t':=s8.toks) (fun b o hb e=>(Heap.get?_update_other s8.heap (Obj.mapSeq (fun a=>a.push xv)) (Ne.symm hb)).trans e) pn hDC (.inr (Nat.le_refl _)) nDcell (fun p hp=>absurd hp (by simp [cxB]))
        have I10:Inv (cxB X scope tgs fp G2.objs.size s2 H2) [(s2.heap.objs.size,Ca (its ++ [xv]) k')] σ6 H8 { s8 with heap:=s8.heap.update s2.heap.objs.size (Obj.mapSeq (fun a=>a.push xv)) }:=
          I9.pins_of fun p hp=>by
            have e:p=(s2.heap.objs.size,Ca (its ++ [xv]) k'):=by simpa using hp
            subst e
            exact ⟨q',pn,hDC,nDfs,ncell _ _⟩
        refine ⟨m',hm,i + 1,ys ++ [v],its ++ [xv],k',H8,Iy I10 l6 d6,T.keep _ _ _ st5 fun b hb o e=>?_,fun b hb=>?_,rv.append (.cons rv8 .nil),w8⟩
        . exact (Heap.get?_update_other s8.heap (Obj.mapSeq (fun a=>a.push xv)) (Ne.symm (below b (hfo b hb)).2)).trans (I8.pin (b,o) (List.mem_append_right _ (List.mem_append_right _ (An hb e)))).1
        . obtain ⟨o,e,_⟩:=T.obj _ _ st5 b hb
          exact (I8.pin (b,o) (List.mem_append_right _ (List.mem_append_right _ (An hb e)))).2.1
  exact codeAny_compStart_list (loop _ rfl) (T.self _ 0 _ _ _ (T.keep 0 _ _ t0 fun b _ o e=>old b o e) (loop _ rfl))
theorem Nm {elt tg iter:Expr} {ifs:List Expr} {pos:Pos} {wi:TI} {g:TG} {tc:TT} {te:TE} (S:BScope X scope tgs ix) (hc:X.calm=true) (hi:PI X tg iter wi) (hg:∀ fp C s H,PG (cxB X scope tgs fp C s H) tg g) (hgk:GK tgs.length g)
    (hif:∀ fp C s H,Gi (cxB X scope tgs fp C s H) ifs tc) (he:∀ fp C s H,PE (cxB X scope tgs fp C s H) elt te) (hs:∀ x,foldedSetIterable iter X.env x=pure x:=by intro _; rfl) (ht:∀ o v,letOwnedTupleGo tg o v=pure ():=by intro _ _; rfl) :
    PE X (.ListComp elt [⟨tg,iter,ifs,0⟩] scope pos) (Gx tgs ix wi g tc te):=by
  intro pins s σ H Q I h
  rw [eval_ListComp]
  refine wpAny_comprehension_free (use:=none) rfl hs (BY (S.cells I.ok)) S.kind S.loc ?_
  show wpAny _ _ (eval iter X.env) _ _ s
  refine thn (hi pins s σ H _ I h) fun v s1 h1=>thn h1 fun itv s2 h2=>?_
  obtain ⟨it,fp,tn,J,H2,e,I2,T,t0,f2,W,w0,turn⟩:=h2
  subst e
  refine FC (RR:=fun acc C=>compPost (model X.prog X.w) X.A X.xe none (EP X pins σ Q) acc C) S ht hc hg hgk hif he I2 T t0 f2 W w0 turn ?_
  intro D C s' H' m J1 q hn fC
  obtain ⟨f0,f1,f2,f3,f4,f5⟩:=fC
  exact ⟨m,hn,fun h' sb=>⟨.ref D,H',J1.turned (t':=s'.toks) (fun b o hb e=>(sb.2 b hb).trans e) f0 f1 f3 f4 f5,rfl,q⟩⟩
theorem IK {i:Nat} {y:Str} {py:Pos} {elt tg iter:Expr} {ifs:List Expr} {pos spos:Pos} {wi:TI} {g:TG} {tc:TT} {te:TE} (hN:X.N.Nodup) (hiN:X.N[i]? = some y) (hy:X.env.scope.names.lookup y=some .local)
    (S:BScope X scope tgs ix) (hc:X.calm=true) (hi:PI X tg iter wi) (hg:∀ fp C s H,PG (cxB X scope tgs fp C s H) tg g) (hgk:GK tgs.length g)
    (hif:∀ fp C s H,Gi (cxB X scope tgs fp C s H) ifs tc) (he:∀ fp C s H,PE (cxB X scope tgs fp C s H) elt te)
    (hsw:swapsWith (.ListComp elt [⟨tg,iter,ifs,0⟩] scope pos) (some (.Name y py)) spos.line X.env=pure true:=by rfl) (hs:∀ x,foldedSetIterable iter X.env x=pure x:=by intro _; rfl) (ht:∀ o v,letOwnedTupleGo tg o v=pure ():=by intro _ _; rfl) :
    PS X (.Assign [.Name y py] (.ListComp elt [⟨tg,iter,ifs,0⟩] scope pos) spos) (NI (Gx tgs ix wi g tc te) (C8 i)):=by
  intro pins s σ H D0 I h
  rw [exec_Assign_Name_used _ _ _ _ hsw]
  refine wpAny_bind (wpAny_standAt (wpAny_bind ?_))
  show wpAny _ X.A (do let _ ← comprehension (.ListComp elt [⟨tg,iter,ifs,0⟩] scope pos) scope X.env _ (newList []) false (eval iter X.env) (some (assign (.Name y py) X.env))) _ _ s
  refine wpAny_bind (wpAny_mono (wpAny_comprehension_free (use:=some (assign (.Name y py) X.env)) (Q:=fun _ s'=>SP X pins D0 .next s') rfl hs (BY (S.cells I.ok)) S.kind S.loc ?_) (fun _ s' hq=>wpAny_pure (wpAny_pure hq)) fun _ _ e=>e)
  refine thn (hi pins s σ H _ I h) fun v s1 h1=>thn h1 fun itv s2 h2=>?_
  obtain ⟨it,fp,tn,J,H2,e,I2,T,t0,f2,W,w0,turn⟩:=h2
  subst e
  refine FC (Q:=fun x H1=>C8 i x σ H1 D0.nx) (RR:=fun acc C=>compPost (model X.prog X.w) X.A X.xe (some (assign (.Name y py) X.env)) (fun _ s'=>SP X pins D0 .next s') acc C) S ht hc hg hgk hif he I2 T t0 f2 W w0 turn ?_
  intro D C s' H' m J1 q hn fC
  obtain ⟨f0,f1,f2,f3,f4,f5⟩:=fC
  show wpAny _ X.A (assign (.Name y py) X.env (.ref D)) _ _ _
  refine wpAny_assign_Name (Fb (v:=.ref D) J1 hN hiN (.inl hy) rfl (fun s'' I'' hsb=>?_) (.inr hy))
  obtain ⟨a,sb,ha⟩:=hsb
  have hCa:C ≠ a:=by
    rcases ha with z | z
    . rw [z]; exact f1
    . exact Ne.symm (f4 y a z)
  exact ⟨m,hn.sameBut sb hCa,fun h' sb'=>⟨_,H',I''.turned (t':=s''.toks) (fun b o hb e=>(sb'.2 b hb).trans e) f0 f1 f3 f4 f5,q⟩⟩
end
end L2
namespace L2
open PySem PySem.Spec PyProof.Rows
section
variable {X:Cx}
theorem Hi:A0 X (.builtin "isinstance") (fun xs H Q=>∃ x T t b,xs=[x,.ty T] /\ Db X.K H x t /\ PySem.W.kitOne X.K t (.type T)=some b /\ Q (.bl b) H):=by
  intro pins s σ H xs us Q I r h
  obtain ⟨x,T,t,b,rfl,ty,e,q⟩:=h
  obtain ⟨u,w',rfl,rx,ry⟩:=Qk r
  cases ry
  exact Kh I rx ty e fun tk=>⟨.bl b,H,I.tok tk,rfl,q⟩
def Rt (K:PySem.W.Frag) (te ts:TE):TE:=fun σ H Q=>te σ H fun x H1=>ts σ H1 fun y H2=>y=.int (-1) /\ ∃ a xs,x=.ref a /\ SqL K H2 a xs /\ ∀ p,H2 p=none->Q (.ref p) (upd H2 p (.lst xs.reverse))
theorem Pl {e st:Expr} {te ts:TE} {pos p2:Pos} (he:PE X e te) (hst:PE X st ts):PE X (.Subscript e (.Slice none none (some st) p2) pos) (Rt X.K te ts):=by
  intro pins s σ H Q I h
  refine Subscript_ (thn (he pins s σ H _ I h) fun v s1 ⟨x,H1,I1,r1,q1⟩=>?_)
  refine wpAny_Slice ?_
  rw [evalPart_none,evalPart_some]
  refine wpAny_pure (wpAny_pure (thn (hst pins s1 σ H1 _ I1 q1) fun vk s3 ⟨y,H3,I3,pk,ey,a,xs,ex,hq,q⟩=>?_))
  subst ey ex
  obtain ⟨t,rfl⟩:=pk
  cases r1
  have I4:Inv X pins σ H3 { s3 with heap:=s3.heap.push { cls:=.type "slice",data:=.fields #[.none,.none,.int (-1) t] } }:=I3.kept (t':=s3.toks) fun b ob q=>Heap.get?_push_of_some _ q
  obtain ⟨its,r,ht,hz⟩:=I4.list hq
  have hlen:=r.length
  show wpAny (model X.prog X.w) X.A (subscriptTail e (.Slice none none (some st) p2) (.ref a) (.ref s3.heap.objs.size)) (EP X pins σ Q) X.xe { s3 with heap:=s3.heap.push { cls:=.type "slice",data:=.fields #[.none,.none,.int (-1) t] } }
  refine tail_any (ops:=[.ref a,.ref s3.heap.objs.size]) ht.isList.typeIs slot_list_getitem.lookup ?_ (by with_unfolding_all rfl)
  refine wpAny_getItem_list_slice ht.isList (Heap.IsSliceOf.new ..) .none .none (.int (-1) t) (by decide) ?_ (by rw [List.size_toArray] <;> omega)
  rw [PySem.W.krv_pick]
  refine ⟨.ref _,_,I4.laid (t':=s3.toks) (o:=.lst xs.reverse) (fun b ob q=>Heap.get?_push_of_some _ q) (Nat.le_refl _) ?_,rfl,q _ (I4.hok.fresh (Nat.le_refl _))⟩
  exact ⟨by rw [List.length_reverse]; exact hz,its.reverse,0,r.reverse,by
    have e:its.toArray.toList.reverse.toArray=its.reverse.toArray:=by simp
    rw [e]
    exact Heap.get?_push_size _ rfl⟩
end
section
variable {prog:Program} {w:World} {A:Around} {E:Value->Shared->Prop} {s:Shared}
end
end L2
namespace L2
open PySem PySem.Spec PyProof.Rows
section
variable {prog:Program} {w:World} {A:Around} {R:Result->Shared->Prop}
end
section
variable {X:Cx}
end
end L2
namespace L2
open PySem PySem.Spec PyProof.Rows
theorem IH {α:Type} (d:α) (bs:List α):(List.range bs.length).map (fun i=>bs.getD i d)=bs:=by
  apply List.ext_getElem
  . simp
  . intro i h1 h2
    simp [List.getD,h2]
theorem KK (bs:List Bool):((List.range bs.length).all fun i=>bs.getD i true)=bs.all id:=by
  conv=>rhs; rw [← IH true bs]
  rw [List.all_map]; rfl
section
variable {X:Cx}
theorem Gu {P:Program} {w:World} {A:Around} {bs:List Bool} {its:List Value} (r:Vals (bs.map V.bl) its):TruthOf P w A (fun i v=>its.toArray[i]? = some v) (fun i=>bs.getD i true):=by
  intro i v s Q E hP hQ
  have hi:its[i]? = some v:=by simpa using hP
  have hlt:i < its.length:=(List.getElem?_eq_some_iff.mp hi).1
  have hl:=r.length
  rw [List.length_map] at hl
  have hb:(bs.map V.bl)[i]? = some (V.bl (bs.getD i true)):=by
    rw [List.getElem?_map,List.getElem?_eq_getElem (show i < bs.length by omega)]
    simp [List.getD,show i < bs.length by omega]
  obtain ⟨u,hu,ru⟩:=r.get hb
  rw [hi] at hu; cases hu
  cases ru
  exact wpAny_truthy_bool hQ
theorem Ih (hc:X.calm=true) {pins:List (Addr × Obj)} {s:Shared} {σ:St} {H:Hp} {a:Addr} {bs:List Bool} {Q:VK} {c:Bool} {f:(Nat->Bool)->List Nat->Bool} (I:Inv X pins σ H s) (ha:SqL X.K H a (bs.map V.bl)) (hf:f (fun i=>bs.getD i true) (List.range bs.length)=c) (q:Q (.bl c) H) :
    wpAny (model X.prog X.w) X.A.in1 (pyIter (.ref a)) (fun it s₂=>∃ I fp wr n P St tr,it=.ref I /\ Walks X.prog X.w X.A.in1 I fp wr n P St /\ St 0 s₂.heap /\ TruthOf X.prog X.w X.A.in1 P tr /\
      ∀ h' tk,(∀ b o,b ∉ wr->s₂.heap.get? b=some o->h'.get? b=some o)->EP X pins σ Q (.bool (f tr (List.range n))) { s₂ with heap:=h',toks:=tk }) X.xe s:=by
  obtain ⟨its,r,p,hz⟩:=I.list ha
  refine wpAny_pyIter_list p.isList ?_
  have hlt:a < s.heap.objs.size:=by
    obtain ⟨o,n,e,_⟩:=p
    exact Heap.lt_size e
  have I1:Inv X pins σ H { s with heap:=s.heap.push { cls:=.type "list_iterator",data:=.fields #[.ref a,.int 0 0] } }:=I.kept (t':=s.toks) fun b o e=>Heap.get?_push_of_some _ e
  obtain ⟨f0,f1,f2,f3,f4,f5⟩:=I.fpOk (H':=H) (Nat.le_refl _) (I.hok.fresh (Nat.le_refl _))
  refine ⟨s.heap.objs.size,_,_,_,_,_,_,rfl,Walks.list (prog:=X.prog) (w:=X.w) (A:=X.A.in1) (show X.A.handled=none from I.ok.hd hc) s.heap.objs.size a (Nat.ne_of_lt hlt) its.toArray,⟨⟨_,Heap.get?_push_size _ rfl,rfl,rfl⟩,p.isList.push _⟩,Gu r,fun h' tk kk=>?_⟩
  have hl:=r.length
  rw [List.length_map] at hl
  rw [List.size_toArray,← hl,hf]
  exact ⟨.bl c,H,I1.turned (t':=tk) (fun b o hb e=>kk b o (by simpa using hb) e) f0 f1 f3 f4 f5,rfl,q⟩
theorem Kq (hc:X.calm=true):A0 X (.builtin "all") (fun xs H Q=>∃ (a:Addr) (bs:List Bool),xs=[.ref a] /\ SqL X.K H a (bs.map V.bl) /\ Q (.bl (bs.all id)) H):=by
  intro pins s σ H xs us Q I r h
  obtain ⟨a,bs,rfl,ha,q⟩:=h
  obtain ⟨u,rfl,ru⟩:=FZ r
  cases ru
  exact call_all_walk (Ih (f:=fun tr l=>l.all tr) hc I ha (KK bs) q)
end
mutual
inductive DatV (K:PySem.W.Frag) (H:Hp):V->PyData->Prop
  | non:DatV K H .non .none
  | bl (b:Bool):DatV K H (.bl b) (.bool b)
  | int (i:Int):DatV K H (.int i) (.int i)
  | str (x:Str):DatV K H (.str x) (.str x)
  | tup {a:Addr} {xs:List V} {ds:List PyData}:SqT K H a xs->DatVs K H xs ds->DatV K H (.ref a) (.tuple ds)
  | lst {a:Addr} {xs:List V} {ds:List PyData}:SqL K H a xs->DatVs K H xs ds->DatV K H (.ref a) (.list ds)
inductive DatVs (K:PySem.W.Frag) (H:Hp):List V->List PyData->Prop
  | nil:DatVs K H [] []
  | cons {v:V} {d:PyData} {vs:List V} {ds:List PyData}:DatV K H v d->DatVs K H vs ds->DatVs K H (v :: vs) (d :: ds)
end
section
variable {X:Cx} {pins:List (Addr × Obj)} {σ:St} {H:Hp} {s:Shared}
mutual
theorem DatV.reads (I:Inv X pins σ H s):∀ {v:V} {d:PyData},DatV X.K H v d->∀ {u:Value},RelV v u->∃ as,Reads s.heap u d as
  | _,_,.non,_,r=>by cases r; exact ⟨[],.none⟩
  | _,_,.bl b,_,r=>by cases r; exact ⟨[],.bool b⟩
  | _,_,.int i,_,r=>by obtain ⟨t,rfl⟩:=r; exact ⟨[],.int i t⟩
  | _,_,.str x,_,r=>by obtain ⟨t,rfl⟩:=r; exact ⟨[],.str x t⟩
  | _,_,.tup hq hs,_,r=>by
    cases r
    obtain ⟨its,rv,⟨o,e,c,n,d⟩,_⟩:=I.tuple hq
    obtain ⟨as,ra⟩:=DatVs.reads I hs rv
    exact ⟨_,.tuple e c d (by simpa using ra)⟩
  | _,_,.lst hq hs,_,r=>by
    cases r
    obtain ⟨its,rv,⟨o,n,e,c,_,d⟩,_⟩:=I.list hq
    obtain ⟨as,ra⟩:=DatVs.reads I hs rv
    exact ⟨_,.list e c d (by simpa using ra)⟩
theorem DatVs.reads (I:Inv X pins σ H s):∀ {vs:List V} {ds:List PyData},DatVs X.K H vs ds->∀ {us:List Value},Vals vs us->∃ as,ReadsAll s.heap us ds as
  | _,_,.nil,_,.nil=>⟨[],.nil⟩
  | _,_,.cons h t,_,.cons r rr=>by
    obtain ⟨a,ra⟩:=DatV.reads I h r
    obtain ⟨b,rb⟩:=DatVs.reads I t rr
    exact ⟨_,.cons ra rb⟩
end
end
section
variable {X:Cx}
theorem P5 (hu:X.A.units + 64 < cLine):OpR X (compareOp .Eq) (fun x y H Q=>∃ d d',DatV X.K H x d /\ DatV X.K H y d' /\ SeqAt.shaped d=true /\ SeqAt.shaped d'=true /\ Q (.bl (PyData.eqv d d')) H):=by
  intro pins s σ H x y v u Q I rx ry h
  obtain ⟨d,d',h1,h2,s1,s2,q⟩:=h
  obtain ⟨as,ra⟩:=h1.reads I rx
  obtain ⟨bs,rb⟩:=h2.reads I ry
  exact SeqAt.compareEq_shaped ra rb s1 s2 hu ⟨.bl _,H,I,rfl,q⟩
theorem Px (hu:X.A.units + 64 < cLine):OpR X (compareOp .NotEq) (fun x y H Q=>∃ d d',DatV X.K H x d /\ DatV X.K H y d' /\ SeqAt.shaped d=true /\ SeqAt.shaped d'=true /\ Q (.bl (!PyData.eqv d d')) H):=by
  intro pins s σ H x y v u Q I rx ry h
  obtain ⟨d,d',h1,h2,s1,s2,q⟩:=h
  obtain ⟨as,ra⟩:=h1.reads I rx
  obtain ⟨bs,rb⟩:=h2.reads I ry
  exact SeqAt.compareNe_shaped ra rb s1 s2 hu ⟨.bl _,H,I,rfl,q⟩
theorem LU {A:Around} {k:Nat} (hr:Room k A):A.units + 64 < cLine:=hr.units
end
end L2
namespace L2
open PySem PySem.Spec PyProof.Rows
theorem Inv.turnedL {X:Cx} {pins:List (Addr × Obj)} {σ:St} {H:Hp} {s:Shared} {h':Heap} {t':Nat} {ch:List Addr} (I:Inv X pins σ H s) (k:∀ b o,b ∉ ch->s.heap.get? b=some o->h'.get? b=some o) (hf:∀ b ∈ ch,C3 X pins H b):Inv X pins σ H { s with heap:=h',toks:=t' }:=by
  have nit:∀ b u,H b=some u->b ∉ ch:=fun b u e z=>by rw [(hf b z).1] at e; cases e
  refine I.step (g':=s.gens) (d':=s.drawn) (ch:=ch) (fun b hb=>⟨(hf b hb).2.2.2.1,(hf b hb).2.1,(hf b hb).2.2.2.2.1,(hf b hb).2.2.2.2.2⟩) (fun b o _ _ hc e _=>k b o hc e) (fun b o _ _ hc e _=>⟨o.slots,k b o hc e⟩) (fun _ _ _ _ n=>n)
    (fun b o hc e=>⟨o,k b o hc e⟩) (fun _ _ e=>e) (fun _ _ _ e=>e) (fun b ps e=>⟨#[],by rw [e]; simp⟩) (fun m hm=>?_) (fun b u e=>?_) I.bare
  . obtain ⟨o,es,ep,ho,r⟩:=hm
    exact ⟨o,es,ep,k _ o (fun z=>(hf _ z).2.1 rfl) ho,r⟩
  . refine (I.hok b u e).stay (fun c v hc q=>k c v ?_ q) (fun _ q=>q) fun _ _ q=>q
    rcases hc with z | z
    . rw [z]; exact nit b u e
    . exact nit c _ z
def ItP (K:PySem.W.Frag) (n:Nat) (src:Nat->List V) (Cond:PySem.W.Frag->Hp->Prop):It:=
  ⟨fun i H=>i < n /\ Cond K H,fun i H v H'=>∃ T,H T=none /\ v=.ref T /\ H'=upd H T (.tup (src i)),fun i H=>i=n /\ Cond K H⟩
theorem Hr {P:Program} {w:World} {K:PySem.W.Frag} {es:List Expr} {k0:Nat} {pos:Pos} {I0:Addr} {ι:Type} {fp wr:List Addr} {n:Nat} {src:Nat->List V} {good:ι->Prop} {Pt:ι->Nat->Array Value->Prop} {Sw:ι->Nat->Heap->Prop} {Mid:ι->Nat->Addr->Heap->Prop} {tn:Nat->Heap->Prop} {Cond:PySem.W.Frag->Hp->Prop}
    (W:∀ A:Around,A.handled=none->∀ z,good z->WalksT P w A I0 fp wr n (Pt z) (Sw z) (Mid z)) (hmem:I0 ∈ wr) (hPt:∀ z i vals,good z->Pt z i vals->Vals (src i) vals.toList) (hlen:∀ i,(src i).length <= sizeLine)
    (obj:∀ i h,tn i h->∀ b ∈ wr,∃ o,h.get? b=some o /\ ∀ v,o.data ≠ .cell v)
    (keep:∀ i h h',tn i h->(∀ b ∈ wr,∀ o,h.get? b=some o->h'.get? b=some o)->tn i h')
    (into:∀ (X:Cx) (pins:List (Addr × Obj)) (σ:St) (H:Hp) (s:Shared) (i:Nat),X.prog=P->X.w=w->X.K=K->Inv X pins σ H s->Cond K H->tn i s.heap->∃ z,good z /\ Sw z i s.heap) (out:∀ z i h,Sw z i h->tn i h)
    (self:∀ (A:Around) (i:Nat) (s:Shared) (Q:Value->Shared->Prop) (E:Value->Shared->Prop),tn i s.heap->Q (.ref I0) s->wpAny (model P w) A (pyIter (.ref I0)) Q E s) :
    Hn P w K (.Tuple es k0 pos) (ItP K n src Cond) wr I0 tn where
  mem:=hmem
  obj:=obj
  keep:=keep
  item:=by
    intro X hP hw hK hc i pins s σ H E I hf st hg
    obtain ⟨hi,hcond⟩:=hg
    obtain ⟨z,gz,sz⟩:=into X pins σ H s i hP hw hK I hcond st
    have W':=W X.A (I.ok.hd hc) z gz
    refine W'.item i s _ _ hi sz fun T vals h' tk hp hT ht hm kk=>⟨_,rfl,?_⟩
    have I1:Inv X pins σ H { s with heap:=h',toks:=tk }:=I.turnedL kk hf
    refine W'.go es k0 pos i T _ _ _ hm fun h2 st2 kk2=>?_
    have I2:Inv X pins σ H { s with heap:=h2,toks:=tk }:=I1.turnedL (t':=tk) kk2 hf
    have hn:H T=none:=I.hok.fresh hT
    have ht2:IsTup h2 T vals:=by
      obtain ⟨o,e,r⟩:=ht
      exact ⟨o,kk2 T o (W'.apart i T _ hm) e,r⟩
    refine ⟨.ref T,upd H T (.tup (src i)),I2.track (I.fpOk hT hn) ⟨hlen i,vals.toList,hPt z i vals gz hp,by simpa using ht2⟩,rfl,⟨T,hn,rfl,rfl⟩,out z _ _ st2,fun b hb=>?_⟩
    have hbT:b ≠ T:=fun z=>W'.apart i T _ hm (by rw [← z]; exact hb)
    rw [AU hbT]
    exact (hf b hb).1
  done:=by
    intro X hP hw hK hc i pins s σ H E I hf st hg
    obtain ⟨hi,hcond⟩:=hg
    subst hi
    obtain ⟨z,gz,sz⟩:=into X pins σ H s i hP hw hK I hcond st
    exact (W X.A (I.ok.hd hc) z gz).done s _ _ sz fun h' tk kk=>⟨rfl,I.turnedL kk hf⟩
  self:=self
end L2
namespace L2
open PySem PySem.Spec PyProof.Rows
open AutoSeq1 (wpAny_loadPart')
section
variable {X:Cx} {es:List Expr} {k0:Nat} {tpos:Pos}
end
end L2
namespace L2
open PySem PySem.Spec PyProof.Rows
section
variable {X:Cx} {pins:List (Addr × Obj)} {σ:St} {H:Hp} {s:Shared} {a:Addr} {y v:V} {u r:Value} {o:Option V} {A:Around} {E:Value->Shared->Prop}
end
section
variable {X:Cx} {o i e value:Expr} {pos pos' tpos:Pos} {td ty tv:TE}
end
end L2
namespace L2
open PySem PySem.Spec PyProof.Rows
section
variable {X:Cx} {value e e2:Expr} {es:List Expr} {pos:Pos} {tv t t2:TE} {ts:List TE}
end
end L2
namespace Nk
open PySem PySem.Spec PyProof.Rows
inductive NK where
  | int (i:Int) | tup (ks:List NK)
noncomputable instance:DecidableEq NK:=fun _ _=>Classical.propDecidable _
mutual
def NK.deep:NK->Nat
  | .int _=>0
  | .tup ks=>NK.deeps ks + 1
def NK.deeps:List NK->Nat
  | []=>0
  | k :: ks=>max (NK.deep k) (NK.deeps ks)
end
mutual
def NK.hash:NK->Int
  | .int i=>hashInt i
  | .tup ks=>reduceHash (Builtin.Tuple.tupleHashOf (NK.hashes ks))
def NK.hashes:List NK->List Int
  | []=>[]
  | k :: ks=>NK.hash k :: NK.hashes ks
end
mutual
def NK.draws:NK->Nat
  | .int _=>1
  | .tup ks=>NK.drawsL ks + 1
def NK.drawsL:List NK->Nat
  | []=>0
  | k :: ks=>NK.draws k + NK.drawsL ks
end
mutual
def At (h:Heap):NK->Value->Prop
  | .int i,v=>∃ t,v=.int i t
  | .tup ks,v=>∃ a o items n,v=.ref a /\ h.get? a=some o /\ o.cls=.type "tuple" /\ o.data=.seq items n /\ Ats h ks items.toList
def Ats (h:Heap):List NK->List Value->Prop
  | [],vs=>vs=[]
  | k :: ks,vs=>∃ v vs',vs=v :: vs' /\ At h k v /\ Ats h ks vs'
end
mutual
theorem At.inj {h:Heap}:∀ {k j:NK} {v:Value},At h k v->At h j v->k=j
  | .int i,.int j,v,a,b=>by
    unfold At at a b
    obtain ⟨t,rfl⟩:=a
    obtain ⟨u,e⟩:=b
    injection e with e1 _
    rw [e1]
  | .int i,.tup js,v,a,b=>by
    unfold At at a b
    obtain ⟨t,rfl⟩:=a
    obtain ⟨_,_,_,_,e,_⟩:=b
    cases e
  | .tup ks,.int j,v,a,b=>by
    unfold At at a b
    obtain ⟨t,rfl⟩:=b
    obtain ⟨_,_,_,_,e,_⟩:=a
    cases e
  | .tup ks,.tup js,v,a,b=>by
    unfold At at a b
    obtain ⟨x,o,items,n,rfl,h1,_,h3,h4⟩:=a
    obtain ⟨x',o',items',n',e,h1',_,h3',h4'⟩:=b
    cases e
    rw [h1] at h1'; cases h1'
    rw [h3] at h3'; cases h3'
    rw [Ats.inj h4 h4']
theorem Ats.inj {h:Heap}:∀ {ks js:List NK} {vs:List Value},Ats h ks vs->Ats h js vs->ks=js
  | [],[],_,_,_=>rfl
  | [],_ :: _,vs,a,b=>by
    unfold Ats at a b
    subst a
    obtain ⟨_,_,e,_⟩:=b
    cases e
  | _ :: _,[],vs,a,b=>by
    unfold Ats at a b
    subst b
    obtain ⟨_,_,e,_⟩:=a
    cases e
  | k :: ks,j :: js,vs,a,b=>by
    unfold Ats at a b
    obtain ⟨v,vs',rfl,a1,a2⟩:=a
    obtain ⟨v',vs'',e,b1,b2⟩:=b
    cases e
    rw [At.inj a1 b1,Ats.inj a2 b2]
end
mutual
theorem At.kept {h h':Heap}:∀ {k:NK} {v:Value},At h k v->(∀ a o items n,h.get? a=some o->o.cls=.type "tuple" -> o.data=.seq items n->h'.get? a=some o)->At h' k v
  | .int i,v,a,_=>by unfold At at a ⊢; exact a
  | .tup ks,v,a,kp=>by
    unfold At at a ⊢
    obtain ⟨x,o,items,n,rfl,h1,h2,h3,h4⟩:=a
    exact ⟨x,o,items,n,rfl,kp x o items n h1 h2 h3,h2,h3,Ats.kept h4 kp⟩
theorem Ats.kept {h h':Heap}:∀ {ks:List NK} {vs:List Value},Ats h ks vs->(∀ a o items n,h.get? a=some o->o.cls=.type "tuple" -> o.data=.seq items n->h'.get? a=some o)->Ats h' ks vs
  | [],vs,a,_=>by unfold Ats at a ⊢; exact a
  | k :: ks,vs,a,kp=>by
    unfold Ats at a ⊢
    obtain ⟨v,vs',rfl,a1,a2⟩:=a
    exact ⟨v,vs',rfl,At.kept a1 kp,Ats.kept a2 kp⟩
end
section
variable {prog:Program} {w:World} {A:Around} {E:Value->Shared->Prop} {s:Shared}
theorem MI {a:Addr} {o:Obj} {items:Array Value} {n:Nat} {hs:List Int} {d:Nat} {Q:Int->Shared->Prop} (hu:A.units < cLine) (ho:s.heap.get? a=some o) (hc:o.cls=.type "tuple") (hd:o.data=.seq items n)
    (each:∀ (P:Array Int->Shared->Prop),P hs.toArray { s with toks:=s.toks + d }->wpAny (model prog w) A.in1 (forIn items.toList (#[]:Array Int) fun x r=>do let y ← pyHash x; pure (ForInStep.yield (r.push y))) P E s)
    (q:Q (reduceHash (Builtin.Tuple.tupleHashOf hs)) { s with toks:=s.toks + (d + 1) }):wpAny (model prog w) A (pyHash (.ref a)) Q E s:=by
  have hT:s.TypeIs (.ref a) "tuple" := ⟨o,ho,hc⟩
  show wpAny _ _ (pyHashByItsType (.ref a)) Q E s
  unfold pyHashByItsType
  refine wpAny_bind (wpAny_cRoomFor_or (.inr hu) (wpAny_bind (wpAny_specialOf hT PySem.F.slot_tuple_hash.lookup ?_)))
  rw [if_neg (by rw [beq_builtin_none]; exact Bool.false_ne_true)]
  refine wpAny_bind (wpAny_specialOf hT PySem.F.slot_tuple_hash.lookup ?_)
  show wpAny _ _ (callSpecialIfBoundUnlessNone? (.ref a) "__hash__" _ >>= _) Q E s
  refine wpAny_bind (wpAny_callSpecialIfBoundUnlessNone?_slot hT PySem.F.slot_tuple_hash (wpAny_call_entry PySem.F.slot_tuple_hash hT PySem.F.entry_tuple_hash ?_ (PySem.F.args_tuple_hash_1 _)))
  show wpAny _ _ (Builtin.Tuple.tupleItemsOf (.ref a) >>= _) _ _ s
  refine wpAny_bind (wpAny_tupleItemsOf ho hd (wpAny_bind ?_))
  rw [← Array.forIn_toList]
  refine each _ ?_
  show wpAny _ _ (retInt (Builtin.Tuple.tupleHashOf hs.toArray.toList)) _ _ _
  refine wpAny_ret_mkInt ?_
  show wpAny _ _ (pyHashByItsType.reduced _) Q E _
  unfold pyHashByItsType.reduced
  unfold reduceHash at q
  split
  . rename_i hr
    rw [if_pos hr] at q
    exact wpAny_pure q
  . rename_i hr
    rw [if_neg hr] at q
    exact wpAny_bind (wpAny_rule (wpAny_pure q))
mutual
theorem At.hash:∀ {k:NK} {v:Value} {A:Around} {E:Value->Shared->Prop} {s:Shared} {Q:Int->Shared->Prop},A.units + k.deep < cLine->At s.heap k v->Q k.hash { s with toks:=s.toks + k.draws }->wpAny (model prog w) A (pyHash v) Q E s
  | .int i,v,A,E,s,Q,hu,hk,q=>by
    unfold At at hk
    obtain ⟨t,rfl⟩:=hk
    exact (intKind prog w).pyHash (k:=i) (by simp [intKind,Value.isInt]) q
  | .tup ks,v,A,E,s,Q,hu,hk,q=>by
    unfold At at hk
    obtain ⟨a,o,items,n,rfl,h1,h2,h3,h4⟩:=hk
    have hu':A.units + (NK.deeps ks + 1) < cLine:=hu
    refine MI (hs:=NK.hashes ks) (d:=NK.drawsL ks) (by omega) h1 h2 h3 (fun P p=>?_) q
    exact Ats.hash (A:=A.in1) (by show A.units + 1 + NK.deeps ks < cLine; omega) h4 (acc:=#[]) (by simpa using p)
theorem Ats.hash:∀ {ks:List NK} {vs:List Value} {A:Around} {E:Value->Shared->Prop} {s:Shared} {acc:Array Int} {P:Array Int->Shared->Prop},A.units + NK.deeps ks < cLine->Ats s.heap ks vs->P (acc ++ (NK.hashes ks).toArray) { s with toks:=s.toks + NK.drawsL ks }->
    wpAny (model prog w) A (forIn vs acc fun x r=>do let y ← pyHash x; pure (ForInStep.yield (r.push y))) P E s
  | [],vs,A,E,s,acc,P,hu,hk,q=>by
    unfold Ats at hk
    subst hk
    rw [List.forIn_nil]
    exact wpAny_pure (by simpa [NK.hashes,NK.drawsL] using q)
  | k :: ks,vs,A,E,s,acc,P,hu,hk,q=>by
    unfold Ats at hk
    obtain ⟨v,vs',rfl,a1,a2⟩:=hk
    rw [List.forIn_cons]
    have hu':A.units + max (NK.deep k) (NK.deeps ks) < cLine:=hu
    refine wpAny_bind (wpAny_bind (At.hash (by omega) a1 (wpAny_pure ?_)))
    refine Ats.hash (by omega) (s:={ s with toks:=s.toks + k.draws }) a2 ?_
    simpa [NK.hashes,NK.drawsL,Nat.add_assoc] using q
end
end
end Nk
namespace Nk
open PySem PySem.Spec PyProof.Rows PySem.MeetsSeq PySem.SeqAt
theorem Ats.len {h:Heap}:∀ {ks:List NK} {vs:List Value},Ats h ks vs->vs.length=ks.length
  | [],_,a=>by unfold Ats at a; subst a; rfl
  | k :: ks,_,a=>by
    unfold Ats at a
    obtain ⟨v,vs',rfl,_,a2⟩:=a
    simp [Ats.len a2]
noncomputable def Em (ks js:List NK) (j:Nat):Bool:=decide (ks[j]? = js[j]?)
theorem Kg {ks js:List NK}:((List.range (min ks.length js.length)).all (Em ks js) && ks.length == js.length)=decide (NK.tup ks=NK.tup js):=by
  by_cases e:ks=js
  . subst e
    rw [decide_eq_true rfl,beq_self_eq_true,Bool.and_true,List.all_eq_true]
    intro j _
    exact decide_eq_true rfl
  . rw [decide_eq_false (fun z=>e (NK.tup.inj z))]
    by_cases hl:ks.length=js.length
    . rw [beq_iff_eq.mpr hl,Bool.and_true,← Bool.not_eq_true]
      intro z
      rw [List.all_eq_true] at z
      refine e (List.ext_getElem? fun j=>?_)
      by_cases hj:j < ks.length
      . exact of_decide_eq_true (z j (List.mem_range.mpr (by omega)))
      . rw [List.getElem?_eq_none (by omega),List.getElem?_eq_none (by omega)]
    . rw [beq_eq_false_iff_ne.mpr hl,Bool.and_false]
mutual
theorem At.eq:∀ {k j:NK} {u v:Value} {A:Around} {s:Shared},A.units + k.deep < cLine->At s.heap k u->At s.heap j v->EqAt A s u v (decide (k=j))
  | .int i,.int j,u,v,A,s,hu,a,b=>by
    unfold At at a b
    obtain ⟨t,rfl⟩:=a
    obtain ⟨t',rfl⟩:=b
    have:decide (NK.int i=NK.int j)=(i == j):=by
      by_cases e:i=j
      . subst e; simp
      . rw [decide_eq_false (fun z=>e (NK.int.inj z)),beq_eq_false_iff_ne.mpr e]
    rw [this]
    exact EqAt.int_int i t j t'
  | .int i,.tup js,u,v,A,s,hu,a,b=>by
    unfold At at a b
    obtain ⟨t,rfl⟩:=a
    obtain ⟨x,o,items,n,rfl,h1,h2,h3,_⟩:=b
    rw [decide_eq_false (by intro z; cases z)]
    exact EqAt.int_tuple i t ⟨o,h1,h2,n,h3⟩ (Nat.lt_of_le_of_lt (Nat.le_add_right _ _) hu)
  | .tup ks,.int j,u,v,A,s,hu,a,b=>by
    unfold At at a b
    obtain ⟨t,rfl⟩:=b
    obtain ⟨x,o,items,n,rfl,h1,h2,h3,_⟩:=a
    rw [decide_eq_false (by intro z; cases z)]
    exact EqAt.tuple_int j t ⟨o,h1,h2,n,h3⟩ (Nat.lt_of_le_of_lt (Nat.le_add_right _ _) hu)
  | .tup ks,.tup js,u,v,A,s,hu,a,b=>by
    have a':=a
    have b':=b
    unfold At at a b
    obtain ⟨x,o,items,n,rfl,h1,h2,h3,h4⟩:=a
    obtain ⟨y,o',items',n',rfl,h1',h2',h3',h4'⟩:=b
    have hu':A.units + (NK.deeps ks + 1) < cLine:=hu
    by_cases e:x=y
    . subst e
      rw [At.inj a' b',decide_eq_true rfl]
      exact EqAt.same _
    . rw [← Kg]
      have l1:=h4.len
      have l2:=h4'.len
      rw [Array.length_toList] at l1 l2
      rw [← l1,← l2]
      refine EqAt.of_refs e (RcAt.tuples ⟨o,h1,h2,n,h3⟩ ⟨o',h1',h2',n',h3'⟩ (by omega) fun j g1 g2=>?_)
      have:=Ats.eqs (A:=A.in1) (by show A.units + 1 + NK.deeps ks < cLine; omega) h4 h4' j (by simpa using g1) (by simpa using g2)
      simpa using this
theorem Ats.eqs:∀ {ks js:List NK} {us vs:List Value} {A:Around} {s:Shared},A.units + NK.deeps ks < cLine->Ats s.heap ks us->Ats s.heap js vs->∀ (j:Nat) (h1:j < us.length) (h2:j < vs.length),EqAt A s us[j] vs[j] (Em ks js j)
  | [],js,us,vs,A,s,hu,a,b,j,h1,h2=>by unfold Ats at a; subst a; simp at h1
  | k :: ks,[],us,vs,A,s,hu,a,b,j,h1,h2=>by unfold Ats at b; subst b; simp at h2
  | k :: ks,l :: js,us,vs,A,s,hu,a,b,j,h1,h2=>by
    unfold Ats at a b
    obtain ⟨u,us',rfl,a1,a2⟩:=a
    obtain ⟨v,vs',rfl,b1,b2⟩:=b
    have hu':A.units + max (NK.deep k) (NK.deeps ks) < cLine:=hu
    cases j with
    | zero=>
      have:=At.eq (k:=k) (j:=l) (A:=A) (by omega) a1 b1
      have e:Em (k :: ks) (l :: js) 0=decide (k=l):=by unfold Em; simp
      rw [e]
      exact this
    | succ j=>
      have:=Ats.eqs (A:=A) (by omega) a2 b2 j (by simpa using h1) (by simpa using h2)
      have e:Em (k :: ks) (l :: js) (j + 1)=Em ks js j:=by unfold Em; simp
      rw [e]
      simpa using this
end
section
variable {prog:Program} {w:World}
theorem At.quiet:∀ (d:Nat) {k:NK} {v:Value} {A:Around} {E:Value->Shared->Prop} {s:Shared} {Q:Bool->Shared->Prop},k.deep <= d->At s.heap k v->Q true s->wpAny (model prog w) A (eqIsQuiet d v) Q E s
  | d,.int i,v,A,E,s,Q,hd,a,q=>by
    unfold At at a
    obtain ⟨t,rfl⟩:=a
    unfold eqIsQuiet
    exact wpAny_pure q
  | 0,.tup ks,v,A,E,s,Q,hd,a,q=>by
    have hd':NK.deeps ks + 1 <= 0:=hd
    omega
  | d' + 1,.tup ks,v,A,E,s,Q,hd,a,q=>by
    have hd':NK.deeps ks + 1 <= d' + 1:=hd
    unfold At at a
    obtain ⟨x,o,items,n,rfl,h1,h2,h3,h4⟩:=a
    have hT:s.TypeIs (.ref x) "tuple" := ⟨o,h1,h2⟩
    unfold eqIsQuiet
    refine wpAny_bind (wpAny_specialOf hT PySem.F.slot_tuple_eq.lookup ?_)
    show wpAny _ _ (isInstance (.ref x) (.type "tuple") >>= _) _ _ s
    refine wpAny_bind (wpAny_isInstance hT isSubtype_tuple_tuple ?_)
    simp only [Bool.not_true,Bool.false_eq_true,if_false]
    refine wpAny_bind (wpAny_seqItems h1 h3 (wpAny_bind ?_))
    show wpAny _ _ (forIn items _ _) _ _ s
    rw [← Array.forIn_toList]
    refine wpAny_forIn_list _ (fun rest r s'=>r.1=none /\ s'=s /\ ∃ ks',NK.deeps ks' <= d' /\ Ats s.heap ks' rest) _ ?_ ?_ _ _ ⟨rfl,rfl,ks,by omega,h4⟩
    . rintro y rest r s' ⟨hr,rfl,ks',hk,at'⟩
      cases ks' with
      | nil=>unfold Ats at at'; cases at'
      | cons k' ks'=>
        unfold Ats at at'
        obtain ⟨_,_,e,a1,a2⟩:=at'
        cases e
        have hk':max (NK.deep k') (NK.deeps ks') <= d':=hk
        refine wpAny_bind (At.quiet d' (k:=k') (by omega) a1 ?_)
        simp only [Bool.not_true,Bool.false_eq_true,if_false]
        exact wpAny_pure ⟨rfl,rfl,ks',by omega,a2⟩
    . rintro ⟨r1,r2⟩ s' ⟨hr,rfl,_⟩
      simp only at hr
      subst hr
      exact wpAny_pure q
noncomputable def kind (prog:Program) (w:World):HeapKind prog w NK where
  is:=fun h k a=>At h k (.ref a) /\ k.deep <= 8
  hash:=NK.hash
  draws:=NK.draws
  room:=fun A=>A.units + 8 < cLine
  inj:=fun hx hy=>hx.1.inj hy.1
  keeps:=fun {h h' k a d o es ep} x ho hd hs=>⟨x.1.kept fun b o' items n e _ e3=>by
    have hne:b ≠ d:=by
      intro z
      subst z
      rw [ho] at e
      cases e
      rw [hd] at e3
      cases e3
    exact (hs.2 b hne).trans e,x.2⟩
  pyHash:=fun hu hk h=>At.hash (by have:=hk.2; omega) hk.1 h
  eqBool:=fun {A E s x y a b Q} hu hx hy h=>At.eq (by have:=hx.2; omega) hx.1 hy.1 _ _ E Q h
  quiet:=fun hk h=>At.quiet 8 hk.2 hk.1 h
end
abbrev Cs:=Int × Int × List Int
def csK (c:Cs):NK:=.tup [.int c.1,.int c.2.1,.tup (c.2.2.map NK.int)]
open L2 in
def Rg (p:Addr) (l:List (Cs × Addr × V)):HO:=.ext fun h=>∃ (us:List Value) (o:Obj) (es:Array DictEntry) (ep:Nat),Vals (l.map (·.2.2)) us /\ h.get? p=some o /\ o.ExactDict /\ o.data=.dict es ep /\
  es.toList=(l.zip us).map (fun x=>{ key:=.ref x.1.2.1,hash:=(csK x.1.1).hash,val:=x.2 }) /\ (l.map (·.1)).Nodup /\ l.length <= sizeLine /\ (p == sysModules)=false
end Nk
namespace Mi
open PySem L2 Nk
inductive D where
  | non | bl (b:Bool) | int (i:Int) | str (x:Str) | ty (n:String) | scr (ns:List Int) | tup (xs:List D) | lst (xs:List D) | ref (n:Nat)
inductive MO where
  | lst (xs:List D) | dK (kvs:List (Key × D)) | dC (kvs:List (Cs × D))
abbrev Mh:=List MO
abbrev M (α:Type):=Mh->Option (α × Mh)
abbrev Sl:=List (Option D)
def ret {α:Type} (a:α):M α:=fun μ=>some (a,μ)
def bnd {α β:Type} (m:M α) (f:α->M β):M β:=fun μ=>match m μ with
  | some (a,μ1)=>f a μ1
  | none=>none
def BL {α:Type}:M α:=fun _=>none
theorem AE {α β:Type} {m:M α} {f:α->M β} {μ:Mh} {r:β × Mh} (h:bnd m f μ=some r):∃ a μ1,m μ=some (a,μ1) /\ f a μ1=some r:=by
  unfold bnd at h
  cases e:m μ with
  | none=>rw [e] at h; cases h
  | some p=>obtain ⟨a,μ1⟩:=p; rw [e] at h; exact ⟨a,μ1,rfl,h⟩
@[simp] theorem Ro {α β:Type} (a:α) (f:α->M β):bnd (ret a) f=f a:=rfl
theorem Ay {α β:Type} {m:M α} {f:α->M β} {μ μ1:Mh} {a:α} (h:m μ=some (a,μ1)):bnd m f μ=f a μ1:=by unfold bnd; rw [h]
def ScrAt (K:PySem.W.Frag) (H:Hp) (a:Addr) (xs:List V):Prop:=
  (∃ o,H a=some (.frz o (.lst xs))) ∨ ∃ (o:Obj) (its:Array Value) (n:Nat),K.lookup a=some o /\ o.cls=.type "list" /\ o.dict=none /\ o.data=.seq its n /\ its.size <= sizeLine /\ Vals xs its.toList
theorem ScrAt.sq {K:PySem.W.Frag} {H:Hp} {a:Addr} {xs:List V} (h:ScrAt K H a xs):SqL K H a xs:=h.elim (fun z=>.inl (.inr z)) .inr
mutual
def Is (K:PySem.W.Frag) (ι:Nat->Addr) (k:Nat) (H:Hp):D->V->Prop
  | .non,v=>v=.non
  | .bl b,v=>v=.bl b
  | .int i,v=>v=.int i
  | .str x,v=>v=.str x
  | .ty n,v=>v=.ty n
  | .scr ns,v=>∃ p,v=.ref p /\ ScrAt K H p (ns.map V.int)
  | .tup ds,v=>∃ p vs,v=.ref p /\ SqT K H p vs /\ IsL K ι k H ds vs
  | .lst ds,v=>∃ p vs,v=.ref p /\ H p=some (.lst vs) /\ (∀ n,n < k->ι n ≠ p) /\ IsL K ι k H ds vs
  | .ref n,v=>n < k /\ v=.ref (ι n)
def IsL (K:PySem.W.Frag) (ι:Nat->Addr) (k:Nat) (H:Hp):List D->List V->Prop
  | [],vs=>vs=[]
  | d :: ds,vs=>∃ v vs',vs=v :: vs' /\ Is K ι k H d v /\ IsL K ι k H ds vs'
end
section
variable {K:PySem.W.Frag} {ι ι' ι2:Nat->Addr} {k k' k2:Nat} {H H' H2:Hp}
theorem IsL.length:∀ {ds:List D} {vs:List V},IsL K ι k H ds vs->vs.length=ds.length
  | [],_,h=>by unfold IsL at h; subst h; rfl
  | _ :: _,_,h=>by
    unfold IsL at h
    obtain ⟨v,vs',rfl,_,h⟩:=h
    simp only [List.length_cons,IsL.length h]
theorem IsL.get:∀ {ds:List D} {vs:List V} {i:Nat} {d:D},IsL K ι k H ds vs->ds[i]? = some d->∃ v,vs[i]? = some v /\ Is K ι k H d v
  | [],_,_,_,_,e=>by simp at e
  | _ :: _,_,0,_,h,e=>by
    unfold IsL at h
    obtain ⟨v,vs',rfl,h1,_⟩:=h
    simp at e; subst e
    exact ⟨v,rfl,h1⟩
  | _ :: _,_,i + 1,d,h,e=>by
    unfold IsL at h
    obtain ⟨v,vs',rfl,_,h⟩:=h
    obtain ⟨u,e1,e2⟩:=IsL.get (i:=i) (d:=d) h (by simpa using e)
    exact ⟨u,by simpa using e1,e2⟩
theorem IsL.append:∀ {ds es:List D} {vs us:List V},IsL K ι k H ds vs->IsL K ι k H es us->IsL K ι k H (ds ++ es) (vs ++ us)
  | [],_,_,_,h,q=>by unfold IsL at h; subst h; exact q
  | _ :: _,_,_,_,h,q=>by
    unfold IsL at h
    obtain ⟨v,vs',rfl,h1,h⟩:=h
    show IsL K ι k H (_ :: (_ ++ _)) _
    unfold IsL
    exact ⟨v,_,rfl,h1,IsL.append h q⟩
theorem IsL.take:∀ (n:Nat) {ds:List D} {vs:List V},IsL K ι k H ds vs->IsL K ι k H (ds.take n) (vs.take n)
  | 0,ds,vs,_=>by rw [List.take_zero,List.take_zero]; unfold IsL; rfl
  | n + 1,[],_,h=>by unfold IsL at h; subst h; simp only [List.take_nil]; unfold IsL; rfl
  | n + 1,_ :: _,_,h=>by
    unfold IsL at h
    obtain ⟨v,vs',rfl,h1,h⟩:=h
    simp only [List.take_succ_cons]
    unfold IsL
    exact ⟨v,_,rfl,h1,IsL.take n h⟩
theorem IsL.drop:∀ (n:Nat) {ds:List D} {vs:List V},IsL K ι k H ds vs->IsL K ι k H (ds.drop n) (vs.drop n)
  | 0,_,_,h=>h
  | n + 1,[],_,h=>by unfold IsL at h; subst h; simp only [List.drop_nil]; unfold IsL; rfl
  | n + 1,_ :: _,_,h=>by
    unfold IsL at h
    obtain ⟨v,vs',rfl,h1,h⟩:=h
    simp only [List.drop_succ_cons]
    exact IsL.drop n h
theorem IsL.cons {d:D} {ds:List D} {v:V} {vs:List V} (h:Is K ι k H d v) (t:IsL K ι k H ds vs):IsL K ι k H (d :: ds) (v :: vs):=by
  unfold IsL
  exact ⟨v,vs,rfl,h,t⟩
theorem IsL.nil:IsL K ι k H [] []:=by unfold IsL; rfl
theorem IsL.one {d:D} {v:V} (h:Is K ι k H d v):IsL K ι k H [d] [v]:=.cons h .nil
theorem IsL.reverse:∀ {ds:List D} {vs:List V},IsL K ι k H ds vs->IsL K ι k H ds.reverse vs.reverse
  | [],_,h=>by unfold IsL at h; subst h; exact .nil
  | _ :: _,_,h=>by
    unfold IsL at h
    obtain ⟨v,vs',rfl,h1,h⟩:=h
    rw [List.reverse_cons,List.reverse_cons]
    exact (IsL.reverse h).append (.one h1)
theorem IsL.ints:∀ {ns:List Int} {vs:List V},IsL K ι k H (ns.map D.int) vs->vs=ns.map V.int
  | [],_,h=>by unfold IsL at h; exact h
  | _ :: _,_,h=>by
    unfold List.map IsL at h
    obtain ⟨v,vs',rfl,h1,h⟩:=h
    unfold Is at h1
    rw [h1,IsL.ints h]; rfl
theorem IsL.ofInts:∀ (ns:List Int),IsL K ι k H (ns.map D.int) (ns.map V.int)
  | []=>.nil
  | n :: r=>.cons (by unfold Is; rfl) (IsL.ofInts r)
def MF:HO->Bool
  | .lst _=>true
  | .dK _=>true
  | .ext _=>true
  | _=>false
def Muts (ι:Nat->Addr) (k:Nat) (H:Hp):Prop:=∀ n,n < k->∃ o,H (ι n)=some o /\ MF o=true
structure Ext (ι:Nat->Addr) (k:Nat) (H:Hp) (ι':Nat->Addr) (k':Nat) (H':Hp):Prop where
  le:k <= k'
  agree:∀ n,n < k->ι' n=ι n
  fresh:∀ n,k <= n->n < k'->H (ι' n)=none
  keep:∀ p o,H p=some o->(∀ n,n < k->ι n ≠ p)->H' p=some o
  was:Muts ι k H
  there:Muts ι k H'
theorem Ext.refl (h:Muts ι k H):Ext ι k H ι k H:=⟨Nat.le_refl _,fun _ _=>rfl,fun n h1 h2=>absurd h1 (by omega),fun _ _ e _=>e,h,h⟩
theorem Ext.trans (a:Ext ι k H ι' k' H') (b:Ext ι' k' H' ι2 k2 H2):Ext ι k H ι2 k2 H2 where
  le:=Nat.le_trans a.le b.le
  agree:=fun n h=>(b.agree n (Nat.lt_of_lt_of_le h a.le)).trans (a.agree n h)
  fresh:=fun n h1 h2=>by
    rcases Nat.lt_or_ge n k' with z | z
    . rw [b.agree n z]; exact a.fresh n h1 z
    . have q:=b.fresh n z h2
      cases e:H (ι2 n) with
      | none=>rfl
      | some o=>
        by_cases hx:∃ m,m < k /\ ι m=ι2 n
        . obtain ⟨m,hm,e2⟩:=hx
          obtain ⟨o',q',_⟩:=a.there m hm
          rw [e2,q] at q'; cases q'
        . have:=a.keep _ o e (fun m hm e2=>hx ⟨m,hm,e2⟩)
          rw [q] at this; cases this
  keep:=fun p o e hn=>b.keep p o (a.keep p o e hn) (fun n hlt e2=>by
    rcases Nat.lt_or_ge n k with z | z
    . rw [a.agree n z] at e2; exact hn n z e2
    . have:=a.fresh n z hlt
      rw [e2,e] at this; cases this)
  was:=a.was
  there:=fun n h=>by
    have:=b.there n (Nat.lt_of_lt_of_le h a.le)
    rw [a.agree n h] at this; exact this
theorem Ext.out (a:Ext ι k H ι' k' H') {p:Addr} {o:HO} (e:H p=some o) (hn:∀ n,n < k->ι n ≠ p):∀ n,n < k'->ι' n ≠ p:=fun n h e2=>by
  rcases Nat.lt_or_ge n k with z | z
  . rw [a.agree n z] at e2; exact hn n z e2
  . have:=a.fresh n z h
    rw [e2,e] at this; cases this
theorem Muts.ne (a:Muts ι k H) {p:Addr} {o:HO} (e:H p=some o) (hm:MF o=false):∀ n,n < k->ι n ≠ p:=fun n hn e2=>by
  obtain ⟨o',q,h⟩:=a n hn
  rw [e2,e] at q; cases q
  rw [hm] at h; cases h
theorem ED {p:Addr} {vs:List V} (a:Ext ι k H ι' k' H') (h:SqT K H p vs):SqT K H' p vs:=by
  rcases h with h | h
  . rcases h with h | ⟨o,h⟩
    . exact .inl (.inl (a.keep p _ h (a.was.ne h rfl)))
    . exact .inl (.inr ⟨o,a.keep p _ h (a.was.ne h rfl)⟩)
  . exact .inr h
theorem JO {p:Addr} {vs:List V} (a:Ext ι k H ι' k' H') (h:ScrAt K H p vs):ScrAt K H' p vs:=by
  rcases h with ⟨o,h⟩ | h
  . exact .inl ⟨o,a.keep p _ h (a.was.ne h rfl)⟩
  . exact .inr h
mutual
theorem Is.ext (a:Ext ι k H ι' k' H'):∀ {d:D} {v:V},Is K ι k H d v->Is K ι' k' H' d v
  | .non,_,h=>by unfold Is at h ⊢; exact h
  | .bl _,_,h=>by unfold Is at h ⊢; exact h
  | .int _,_,h=>by unfold Is at h ⊢; exact h
  | .str _,_,h=>by unfold Is at h ⊢; exact h
  | .ty _,_,h=>by unfold Is at h ⊢; exact h
  | .scr ns,_,h=>by
    unfold Is at h ⊢
    obtain ⟨p,rfl,h⟩:=h
    exact ⟨p,rfl,JO a h⟩
  | .tup ds,_,h=>by
    unfold Is at h ⊢
    obtain ⟨p,vs,rfl,h1,h2⟩:=h
    exact ⟨p,vs,rfl,ED a h1,IsL.ext a h2⟩
  | .lst ds,_,h=>by
    unfold Is at h ⊢
    obtain ⟨p,vs,rfl,h1,hn,h2⟩:=h
    exact ⟨p,vs,rfl,a.keep p _ h1 hn,a.out h1 hn,IsL.ext a h2⟩
  | .ref n,_,h=>by
    unfold Is at h ⊢
    obtain ⟨h,rfl⟩:=h
    exact ⟨Nat.lt_of_lt_of_le h a.le,by rw [a.agree n h]⟩
theorem IsL.ext (a:Ext ι k H ι' k' H'):∀ {ds:List D} {vs:List V},IsL K ι k H ds vs->IsL K ι' k' H' ds vs
  | [],_,h=>by unfold IsL at h ⊢; exact h
  | _ :: _,_,h=>by
    unfold IsL at h ⊢
    obtain ⟨v,vs',rfl,h1,h2⟩:=h
    exact ⟨v,vs',rfl,Is.ext a h1,IsL.ext a h2⟩
end
def KVs (K:PySem.W.Frag) (ι:Nat->Addr) (k:Nat) (H:Hp):List (Key × D)->List (Key × V)->Prop
  | [],r=>r=[]
  | (y,d) :: l,r=>∃ v r',r=(y,v) :: r' /\ Is K ι k H d v /\ KVs K ι k H l r'
theorem KVs.ext (a:Ext ι k H ι' k' H'):∀ {l:List (Key × D)} {r:List (Key × V)},KVs K ι k H l r->KVs K ι' k' H' l r
  | [],_,h=>h
  | (_,_) :: _,_,h=>by
    obtain ⟨v,r',rfl,h1,h2⟩:=h
    exact ⟨v,r',rfl,h1.ext a,h2.ext a⟩
def csD (c:Cs):D:=.tup [.int c.1,.int c.2.1,.tup (c.2.2.map D.int)]
def CVs (K:PySem.W.Frag) (ι:Nat->Addr) (k:Nat) (H:Hp):List (Cs × D)->List (Cs × Addr × V)->Prop
  | [],r=>r=[]
  | (y,d) :: l,r=>∃ a v r',r=(y,a,v) :: r' /\ Is K ι k H (csD y) (.ref a) /\ Is K ι k H d v /\ CVs K ι k H l r'
theorem CVs.ext (a:Ext ι k H ι' k' H'):∀ {l:List (Cs × D)} {r:List (Cs × Addr × V)},CVs K ι k H l r->CVs K ι' k' H' l r
  | [],_,h=>h
  | (_,_) :: _,_,h=>by
    obtain ⟨b,v,r',rfl,h1,h2,h3⟩:=h
    exact ⟨b,v,r',rfl,h1.ext a,h2.ext a,h3.ext a⟩
def ObjIs (K:PySem.W.Frag) (ι:Nat->Addr) (k:Nat) (H:Hp) (p:Addr):MO->HO->Prop
  | .lst ds,o=>∃ vs,o=.lst vs /\ IsL K ι k H ds vs
  | .dK l,o=>∃ r,o=.dK r /\ KVs K ι k H l r
  | .dC l,o=>∃ r,o=Rg p r /\ CVs K ι k H l r
structure RelH (K:PySem.W.Frag) (ι:Nat->Addr) (μ:Mh) (H:Hp):Prop where
  inj:∀ i j,i < μ.length->j < μ.length->ι i=ι j->i=j
  obj:∀ n o,μ[n]? = some o->∃ u,H (ι n)=some u /\ ObjIs K ι μ.length H (ι n) o u
theorem ObjIs.mut {p:Addr} {o:MO} {u:HO} (h:ObjIs K ι k H p o u):MF u=true:=by
  cases o with
  | lst ds=>obtain ⟨vs,rfl,_⟩:=h; rfl
  | dK l=>obtain ⟨r,rfl,_⟩:=h; rfl
  | dC l=>obtain ⟨r,rfl,_⟩:=h; rfl
theorem ObjIs.ext (a:Ext ι k H ι' k' H') {p:Addr} {o:MO} {u:HO} (h:ObjIs K ι k H p o u):ObjIs K ι' k' H' p o u:=by
  cases o with
  | lst ds=>obtain ⟨vs,rfl,h⟩:=h; exact ⟨vs,rfl,h.ext a⟩
  | dK l=>obtain ⟨r,rfl,h⟩:=h; exact ⟨r,rfl,h.ext a⟩
  | dC l=>obtain ⟨r,rfl,h⟩:=h; exact ⟨r,rfl,h.ext a⟩
theorem RelH.muts {μ:Mh} (r:RelH K ι μ H):Muts ι μ.length H:=fun n hn=>by
  obtain ⟨u,e,h⟩:=r.obj n μ[n] (by simp [hn])
  exact ⟨u,e,h.mut⟩
theorem RelH.ext0 {μ:Mh} (r:RelH K ι μ H):Ext ι μ.length H ι μ.length H:=Ext.refl r.muts
theorem RelH.laid {μ:Mh} (r:RelH K ι μ H) {p:Addr} (o:HO) (hp:H p=none):Ext ι μ.length H ι μ.length (upd H p o) /\ RelH K ι μ (upd H p o):=by
  have kp:∀ q u,H q=some u->upd H p o q=some u:=fun q u e=>by rw [AU (BJ e hp)]; exact e
  have a:Ext ι μ.length H ι μ.length (upd H p o):=⟨Nat.le_refl _,fun _ _=>rfl,fun n h1 h2=>absurd h1 (by omega),fun q u e _=>kp q u e,r.muts,fun n hn=>by
    obtain ⟨u,e,h⟩:=r.muts n hn
    exact ⟨u,kp _ _ e,h⟩⟩
  refine ⟨a,r.inj,fun n o' e=>?_⟩
  obtain ⟨u,e1,h⟩:=r.obj n o' e
  exact ⟨u,kp _ _ e1,h.ext a⟩
theorem RelH.grown {μ:Mh} (r:RelH K ι μ H) {p:Addr} {o:HO} {m:MO} (hp:H p=none) (h:ObjIs K ι μ.length H p m o) :
    ∃ ι',Ext ι μ.length H ι' (μ ++ [m]).length (upd H p o) /\ RelH K ι' (μ ++ [m]) (upd H p o) /\ ι' μ.length=p:=by
  have kp:∀ q u,H q=some u->upd H p o q=some u:=fun q u e=>by rw [AU (BJ e hp)]; exact e
  let ι':Nat->Addr:=fun n=>if n=μ.length then p else ι n
  have e0:ι' μ.length=p:=if_pos rfl
  have e1:∀ n,n < μ.length->ι' n=ι n:=fun n hn=>if_neg (by omega)
  have a:Ext ι μ.length H ι' (μ ++ [m]).length (upd H p o):=⟨by simp,e1,fun n h1 h2=>by
      have:n=μ.length:=by simp at h2; omega
      rw [this,e0]; exact hp,fun q u e _=>kp q u e,r.muts,fun n hn=>by
    obtain ⟨u,e,h⟩:=r.muts n hn
    exact ⟨u,kp _ _ e,h⟩⟩
  refine ⟨ι',a,⟨fun i j hi hj e=>?_,fun n o' e=>?_⟩,e0⟩
  . simp at hi hj
    have old:∀ i,i < μ.length->ι' i ≠ p:=fun i hi e=>by
      obtain ⟨u,q,_⟩:=r.muts i hi
      rw [← e1 i hi,e,hp] at q; cases q
    rcases Nat.lt_or_ge i μ.length with zi | zi <;> rcases Nat.lt_or_ge j μ.length with zj | zj
    . rw [e1 i zi,e1 j zj] at e; exact r.inj i j zi zj e
    . have:j=μ.length:=by omega
      subst this; rw [e0] at e; exact absurd e (old i zi)
    . have:i=μ.length:=by omega
      subst this; rw [e0] at e; exact absurd e.symm (old j zj)
    . omega
  . rcases Nat.lt_or_ge n μ.length with z | z
    . rw [List.getElem?_append_left z] at e
      obtain ⟨u,q,hq⟩:=r.obj n o' e
      exact ⟨u,by rw [e1 n z]; exact kp _ _ q,by rw [e1 n z]; exact hq.ext a⟩
    . have hn:n=μ.length:=by
        have:=(List.getElem?_eq_some_iff.mp e).1
        simp at this; omega
      subst hn
      rw [List.getElem?_append_right (Nat.le_refl _),Nat.sub_self] at e
      simp at e; subst e
      exact ⟨o,by rw [e0,AW],by rw [e0]; exact h.ext a⟩
theorem RelH.changed {μ:Mh} (r:RelH K ι μ H) {n:Nat} {o:HO} {m:MO} (hn:n < μ.length) (h:ObjIs K ι μ.length H (ι n) m o) :
    Ext ι μ.length H ι (μ.set n m).length (upd H (ι n) o) /\ RelH K ι (μ.set n m) (upd H (ι n) o):=by
  have ne:∀ i,i < μ.length->i ≠ n->ι i ≠ ι n:=fun i hi hne e=>hne (r.inj i n hi hn e)
  have a:Ext ι μ.length H ι (μ.set n m).length (upd H (ι n) o):=⟨by simp,fun _ _=>rfl,fun i h1 h2=>by simp at h2; omega,fun q u e hq=>by rw [AU (fun z=>hq n hn z.symm)]; exact e,r.muts,fun i hi=>by
    by_cases z:i=n
    . subst z; exact ⟨o,AW,h.mut⟩
    . obtain ⟨u,e,hu⟩:=r.muts i hi
      exact ⟨u,by rw [AU (ne i hi z)]; exact e,hu⟩⟩
  refine ⟨a,fun i j hi hj=>r.inj i j (by simpa using hi) (by simpa using hj),fun i o' e=>?_⟩
  by_cases z:i=n
  . subst z
    rw [List.getElem?_set_self hn] at e
    cases e
    exact ⟨o,AW,h.ext a⟩
  . rw [List.getElem?_set_ne (Ne.symm z)] at e
    have hi:i < μ.length:=(List.getElem?_eq_some_iff.mp e).1
    obtain ⟨u,q,hq⟩:=r.obj i o' e
    exact ⟨u,by rw [AU (ne i hi z)]; exact q,hq.ext a⟩
structure RelS (K:PySem.W.Frag) (ι:Nat->Addr) (k:Nat) (H:Hp) (τ:Sl) (σ:St):Prop where
  len:σ.length=τ.length
  get:∀ (i:Nat) (d:D),τ[i]? = some (some d)->∃ v,σ[i]? = some (some v) /\ Is K ι k H d v
theorem RelS.ext {τ:Sl} {σ:St} (a:Ext ι k H ι' k' H') (r:RelS K ι k H τ σ):RelS K ι' k' H' τ σ:=⟨r.len,fun i d e=>by
  obtain ⟨v,e1,h⟩:=r.get i d e
  exact ⟨v,e1,h.ext a⟩⟩
theorem RelS.set {τ:Sl} {σ:St} (r:RelS K ι k H τ σ) {d:D} {v:V} (i:Nat) (h:Is K ι k H d v):RelS K ι k H (τ.set i (some d)) (σ.set i (some v)):=⟨by simp [r.len],fun j e q=>by
  by_cases z:i=j
  . subst z
    have hi:i < τ.length:=by
      have:=(List.getElem?_eq_some_iff.mp q).1
      simpa using this
    rw [List.getElem?_set_self hi] at q
    cases q
    exact ⟨v,List.getElem?_set_self (by rw [r.len]; exact hi),h⟩
  . rw [List.getElem?_set_ne z] at q
    obtain ⟨u,e1,hu⟩:=r.get j e q
    exact ⟨u,by rw [List.getElem?_set_ne z]; exact e1,hu⟩⟩
end
end Mi
namespace Mi
open PySem L2
inductive Fl where
  | next | brk | cont | rt (d:D)
abbrev Aft (K:PySem.W.Frag) (ι:Nat->Addr) (μ:Mh) (H:Hp) (μ':Mh) (φ:(Nat->Addr)->Hp->Prop):Prop:=
  ∀ ι' H',Ext ι μ.length H ι' μ'.length H'->RelH K ι' μ' H'->φ ι' H'
def tE (K:PySem.W.Frag) (m:Sl->M D):TE:=fun σ H Q=>∃ ι μ τ d μ',RelH K ι μ H /\ RelS K ι μ.length H τ σ /\ m τ μ=some (d,μ') /\
  Aft K ι μ H μ' fun ι' H'=>∀ v,Is K ι' μ'.length H' d v->Q v H'
def tT (K:PySem.W.Frag) (m:Sl->M Bool):TT:=fun σ H Q=>∃ ι μ τ b μ',RelH K ι μ H /\ RelS K ι μ.length H τ σ /\ m τ μ=some (b,μ') /\
  Aft K ι μ H μ' fun _ H'=>Q b H'
def tL (K:PySem.W.Frag) (m:Sl->M (List D)):TA:=fun σ H Q=>∃ ι μ τ ds μ',RelH K ι μ H /\ RelS K ι μ.length H τ σ /\ m τ μ=some (ds,μ') /\
  Aft K ι μ H μ' fun ι' H'=>∀ vs,IsL K ι' μ'.length H' ds vs->Q vs H'
def FlP (K:PySem.W.Frag) (Dn:Ir) (ι':Nat->Addr) (k:Nat) (H':Hp) (τ':Sl) (σ':St):Fl->Prop
  | .next=>Dn.nx σ' H'
  | .brk=>Dn.bk σ' H'
  | .cont=>Dn.ct σ' H'
  | .rt d=>∀ v,Is K ι' k H' d v->Dn.rt v H'
def tSt (K:PySem.W.Frag) (m:Sl->M (Fl × Sl)):TS:=fun Dn σ H=>∃ ι μ τ f τ' μ',RelH K ι μ H /\ RelS K ι μ.length H τ σ /\ m τ μ=some ((f,τ'),μ') /\
  Aft K ι μ H μ' fun ι' H'=>∀ σ',RelS K ι' μ'.length H' τ' σ'->FlP K Dn ι' μ'.length H' τ' σ' f
structure RE (X:Cx) (e:Expr) (m:Sl->M D):Prop where
  pe:PE X e (tE X.K m)
structure RT (X:Cx) (e:Expr) (m:Sl->M Bool):Prop where
  pe:PT X e (tT X.K m)
structure RW (X:Cx) (e:Expr) (m:Sl->M Bool):Prop where
  pe:PW X e (tT X.K m)
structure RA (X:Cx) (es:List Expr) (m:Sl->M (List D)):Prop where
  pe:PA X es (tL X.K m)
structure RS (X:Cx) (st:Stmt) (m:Sl->M (Fl × Sl)):Prop where
  pe:PS X st (tSt X.K m)
structure RSs (X:Cx) (st:List Stmt) (m:Sl->M (Fl × Sl)):Prop where
  pe:PSs X st (tSt X.K m)
section
variable {X:Cx} {e a b c:Expr} {es:List Expr} {pos:Pos}
theorem PE.wk {t t':TE} (h:PE X e t) (w:∀ σ H Q,t' σ H Q->t σ H Q):PE X e t':=fun pins s σ H Q I q=>h pins s σ H Q I (w σ H Q q)
theorem RE.wk {m:Sl->M D} {t:TE} (h:PE X e t) (w:∀ σ H Q,tE X.K m σ H Q->t σ H Q):RE X e m:=⟨PE.wk h w⟩
theorem PT.wk {t t':TT} (h:PT X e t) (w:∀ σ H Q,t' σ H Q->t σ H Q):PT X e t':=fun pins s σ H Q I q=>h pins s σ H Q I (w σ H Q q)
theorem RT.wk {m:Sl->M Bool} {t:TT} (h:PT X e t) (w:∀ σ H Q,tT X.K m σ H Q->t σ H Q):RT X e m:=⟨PT.wk h w⟩
theorem PW.wk {t t':TT} (h:PW X e t) (w:∀ σ H Q,t' σ H Q->t σ H Q):PW X e t':=fun wh pins s σ H Q I q=>h wh pins s σ H Q I (w σ H Q q)
theorem RW.wk {m:Sl->M Bool} {t:TT} (h:PW X e t) (w:∀ σ H Q,tT X.K m σ H Q->t σ H Q):RW X e m:=⟨PW.wk h w⟩
theorem PA.wk {t t':TA} (h:PA X es t) (w:∀ σ H Q,t' σ H Q->t σ H Q):PA X es t':=fun p pins s σ H Q I q=>h p pins s σ H Q I (w σ H Q q)
theorem RA.wk {m:Sl->M (List D)} {t:TA} (h:PA X es t) (w:∀ σ H Q,tL X.K m σ H Q->t σ H Q):RA X es m:=⟨PA.wk h w⟩
theorem PS.wk {st:Stmt} {t t':TS} (h:PS X st t) (w:∀ D σ H,t' D σ H->t D σ H):PS X st t':=fun pins s σ H D I q=>h pins s σ H D I (w D σ H q)
theorem RS.wk {m:Sl->M (Fl × Sl)} {st:Stmt} {t:TS} (h:PS X st t) (w:∀ D σ H,tSt X.K m D σ H->t D σ H):RS X st m:=⟨PS.wk h w⟩
theorem PSs.wk {st:List Stmt} {t t':TS} (h:PSs X st t) (w:∀ D σ H,t' D σ H->t D σ H):PSs X st t':=fun pins s σ H D I q=>h pins s σ H D I (w D σ H q)
theorem RSs.wk {m:Sl->M (Fl × Sl)} {st:List Stmt} {t:TS} (h:PSs X st t) (w:∀ D σ H,tSt X.K m D σ H->t D σ H):RSs X st m:=⟨PSs.wk h w⟩
theorem OpR.wk {f:Value->Value->Sem Value} {r r':R2} (h:OpR X f r) (w:∀ x y H Q,r' x y H Q->r x y H Q):OpR X f r':=fun pins s σ H x y v u Q I rx ry q=>h pins s σ H x y v u Q I rx ry (w x y H Q q)
def Cy:Expr->Bool
  | .Starred _ _=>true
  | _=>false
theorem AR {e:Expr} {es:List Expr} {env:Env} (h:Cy e=false):starEach (e :: es) env=(false,eval e env) :: starEach es env:=by
  cases e <;> first | rfl | cases h
theorem BH {pos:Pos} {env:Env}:∀ {es:List Expr},(es.all fun e=>!Cy e)=true->(backTo pos (starEach es env)).any (·.1)=false
  | [],_=>rfl
  | e :: es,h=>by
    rw [List.all_cons,Bool.and_eq_true] at h
    have h1:Cy e=false:=by simpa using h.1
    have ih:=BH (pos:=pos) (env:=env) h.2
    rw [AR h1]
    unfold backTo at ih ⊢
    simpa using ih
def AB (i:Nat):Sl->M D:=fun τ μ=>match τ[i]? with
  | some (some d)=>some (d,μ)
  | _=>none
def mC (d:D):Sl->M D:=fun _=>ret d
theorem AA (i:Nat) {x:Str} (hN:X.N[i]? = some x:=by rfl) (hv:Vis X.env.scope x:=by first | exact Or.inl rfl | exact Or.inr (Or.inl rfl) | exact Or.inr (Or.inr rfl)) (hd:(x == ("__debug__" : Str))=false:=by decide)
    (hcd:(x == ("__classdict__" : Str))=false:=by decide):RE X (.Name x pos) (AB i):=RE.wk (Pi hN hv hd hcd) fun σ H Q h=>by
  obtain ⟨ι,μ,τ,d,μ',R,S,e,q⟩:=h
  unfold AB at e
  split at e
  . rename_i d' ed
    cases e
    obtain ⟨v,e1,h1⟩:=S.get i _ ed
    exact ⟨v,e1,q ι H R.ext0 R v h1⟩
  . cases e
theorem LZ {t:TE} {d:D} {v:V} (h:PE X e (tC v)) (hd:∀ ι k H,Is X.K ι k H d v):RE X e (mC d):=RE.wk h fun σ H Q h=>by
  obtain ⟨ι,μ,τ,d,μ',R,S,e,q⟩:=h
  cases e
  exact q ι H R.ext0 R v (hd _ _ _)
theorem AF {i j}:RE X (.Constant (.int i) j pos) (mC (.int i)):=LZ (t:=fun _ _ _=>True) Pp fun _ _ _=>by unfold Is; rfl
theorem Dw {i j}:RE X (.Constant (.bool i) j pos) (mC (.bl i)):=LZ (t:=fun _ _ _=>True) RB fun _ _ _=>by unfold Is; rfl
theorem Be {j}:RE X (.Constant .none j pos) (mC .non):=LZ (t:=fun _ _ _=>True) Po fun _ _ _=>by unfold Is; rfl
theorem Ci {i j}:RE X (.Constant (.str i) j pos) (mC (.str i)):=LZ (t:=fun _ _ _=>True) Pk fun _ _ _=>by unfold Is; rfl
def mOp (g:D->D->M D) (ma mb:Sl->M D):Sl->M D:=fun τ=>bnd (ma τ) fun x=>bnd (mb τ) fun y=>g x y
def mUn (g:D->M D) (ma:Sl->M D):Sl->M D:=fun τ=>bnd (ma τ) g
def rM (K:PySem.W.Frag) (g:D->D->M D):R2:=fun x y H Q=>∃ ι μ a b d μ',RelH K ι μ H /\ Is K ι μ.length H a x /\ Is K ι μ.length H b y /\ g a b μ=some (d,μ') /\
  Aft K ι μ H μ' fun ι' H'=>∀ v,Is K ι' μ'.length H' d v->Q v H'
def rM1 (K:PySem.W.Frag) (g:D->M D):V->Hp->VK->Prop:=fun x H Q=>∃ ι μ a d μ',RelH K ι μ H /\ Is K ι μ.length H a x /\ g a μ=some (d,μ') /\
  Aft K ι μ H μ' fun ι' H'=>∀ v,Is K ι' μ'.length H' d v->Q v H'
def rMA (K:PySem.W.Frag) (g:List D->M D):List V->Hp->VK->Prop:=fun xs H Q=>∃ ι μ as d μ',RelH K ι μ H /\ IsL K ι μ.length H as xs /\ g as μ=some (d,μ') /\
  Aft K ι μ H μ' fun ι' H'=>∀ v,Is K ι' μ'.length H' d v->Q v H'
theorem JF {K:PySem.W.Frag} {g:D->D->M D} {ma mb:Sl->M D} {σ:St} {H:Hp} {Q:VK} (h:tE K (mOp g ma mb) σ H Q):tOp (rM K g) (tE K ma) (tE K mb) σ H Q:=by
  obtain ⟨ι,μ,τ,d,μ',R,S,e,q⟩:=h
  obtain ⟨x,μ1,e1,e⟩:=AE e
  obtain ⟨y,μ2,e2,e3⟩:=AE e
  refine ⟨ι,μ,τ,x,μ1,R,S,e1,fun ι1 H1 E1 R1 v1 i1=>?_⟩
  refine ⟨ι1,μ1,τ,y,μ2,R1,S.ext E1,e2,fun ι2 H2 E2 R2 v2 i2=>?_⟩
  exact ⟨ι2,μ2,x,y,d,μ',R2,i1.ext E2,i2,e3,fun ι3 H3 E3 R3 v3 i3=>q ι3 H3 ((E1.trans E2).trans E3) R3 v3 i3⟩
theorem Qp {K:PySem.W.Frag} {g:D->M D} {ma:Sl->M D} {σ:St} {H:Hp} {Q:VK} (h:tE K (mUn g ma) σ H Q):tUn (rM1 K g) (tE K ma) σ H Q:=by
  obtain ⟨ι,μ,τ,d,μ',R,S,e,q⟩:=h
  obtain ⟨x,μ1,e1,e⟩:=AE e
  refine ⟨ι,μ,τ,x,μ1,R,S,e1,fun ι1 H1 E1 R1 v1 i1=>?_⟩
  exact ⟨ι1,μ1,x,d,μ',R1,i1,e,fun ι3 H3 E3 R3 v3 i3=>q ι3 H3 (E1.trans E3) R3 v3 i3⟩
theorem AN {op:Operator} {g:D->D->M D} {ma mb:Sl->M D} (ho:OpR X (binaryOp op) (rM X.K g)) (ha:RE X a ma) (hb:RE X b mb):RE X (.BinOp a op b pos) (mOp g ma mb):=RE.wk (OQ ho ha.pe hb.pe) fun _ _ _ h=>JF h
theorem Qx {op:UnaryOp} {g:D->M D} {ma:Sl->M D} (ho:UnR X (unaryOp op) (rM1 X.K g)) (ha:RE X a ma):RE X (.UnaryOp op a pos) (mUn g ma):=RE.wk (Q7 ho ha.pe) fun _ _ _ h=>Qp h
theorem DF {op:CmpOp} {g:D->D->M D} {ma mb:Sl->M D} (ho:OpR X (compareOp op) (rM X.K g)) (ha:RE X a ma) (hb:RE X b mb) (hm:behindInMarks op b=false:=by first | exact L3 _ | rfl):RE X (.Compare a [op] [b] pos) (mOp g ma mb):=
  RE.wk (Nn ho ha.pe hb.pe hm) fun _ _ _ h=>JF h
theorem A8 {g:D->D->M D} {ma mb:Sl->M D} (ho:IxR X (rM X.K g)) (ha:RE X a ma) (hb:RE X b mb) (hs:Jv b:=by exact fun _ _=>rfl):RE X (.Subscript a b pos) (mOp g ma mb):=RE.wk (Q8 ho ha.pe hb.pe hs) fun _ _ _ h=>JF h
def asB:D->M Bool
  | .bl b=>ret b
  | _=>BL
def AV (m:Sl->M D):Sl->M Bool:=fun τ=>bnd (m τ) asB
theorem JC {K:PySem.W.Frag} {m:Sl->M D} {σ:St} {H:Hp} {Q:Bool->Hp->Prop} (h:tT K (AV m) σ H Q):tE K m σ H fun x H'=>∃ k,x=.bl k /\ Q k H':=by
  obtain ⟨ι,μ,τ,b,μ',R,S,e,q⟩:=h
  obtain ⟨x,μ1,e1,e⟩:=AE e
  refine ⟨ι,μ,τ,x,μ1,R,S,e1,fun ι1 H1 E1 R1 v1 i1=>?_⟩
  cases x with
  | bl k=>
    cases e
    unfold Is at i1
    exact ⟨b,i1,q ι1 H1 E1 R1⟩
  | _=>cases e
theorem Ac {op:CmpOp} {g:D->D->M D} {ma mb:Sl->M D} (ho:OpR X (compareOp op) (rM X.K g)) (ha:RE X a ma) (hb:RE X b mb) (hm:behindInMarks op b=false:=by first | exact L3 _ | rfl):RT X (.Compare a [op] [b] pos) (AV (mOp g ma mb)):=
  RT.wk (Nc ho ha.pe hb.pe hm) fun σ H Q h=>JF (Q:=fun x H'=>∃ k,x=.bl k /\ Q k H') (JC h)
theorem LR {m:Sl->M D} (h:RE X e m) (he:∀ whole,isTrue e X.env whole=(do let v ← whole; standAt e.pos; holding [v] (truthy v)):=by intro _; rfl):RT X e (AV m):=
  RT.wk (Pa h.pe he) fun _ _ _ q=>JC q
def Ke (ma mb:Sl->M Bool):Sl->M Bool:=fun τ=>bnd (ma τ) fun x=>if x=true then mb τ else ret false
def mOr (ma mb:Sl->M Bool):Sl->M Bool:=fun τ=>bnd (ma τ) fun x=>if x=true then ret true else mb τ
def IP (ma:Sl->M Bool):Sl->M Bool:=fun τ=>bnd (ma τ) fun x=>ret (!x)
theorem LS {ma:Sl->M Bool} (ha:RT X a ma):RT X (.UnaryOp .Not a pos) (IP ma):=RT.wk (Pb ha.pe) fun σ H Q h=>by
  obtain ⟨ι,μ,τ,b,μ',R,S,e,q⟩:=h
  obtain ⟨x,μ1,e1,e⟩:=AE e
  cases e
  exact ⟨ι,μ,τ,x,_,R,S,e1,q⟩
theorem GL {ma:Sl->M Bool} (ha:RT X a ma):RW X (.BoolOp .And [a] pos) ma:=⟨Nb ha.pe⟩
theorem IA {ma:Sl->M Bool} (ha:RT X a ma):RW X (.BoolOp .Or [a] pos) ma:=⟨PY ha.pe⟩
theorem IB {rest:List Expr} {ma mb:Sl->M Bool} (ha:RT X a ma) (hb:RW X (.BoolOp .And (b :: rest) pos) mb):RW X (.BoolOp .And (a :: b :: rest) pos) (Ke ma mb):=RW.wk (PZ ha.pe hb.pe) fun σ H Q h=>by
  obtain ⟨ι,μ,τ,z,μ',R,S,e,q⟩:=h
  obtain ⟨x,μ1,e1,e⟩:=AE e
  refine ⟨ι,μ,τ,x,μ1,R,S,e1,fun ι1 H1 E1 R1=>?_⟩
  cases x with
  | true=>exact ⟨ι1,μ1,τ,z,μ',R1,S.ext E1,e,fun ι2 H2 E2 R2=>q ι2 H2 (E1.trans E2) R2⟩
  | false=>cases e; exact q ι1 H1 E1 R1
theorem LQ {rest:List Expr} {ma mb:Sl->M Bool} (ha:RT X a ma) (hb:RW X (.BoolOp .Or (b :: rest) pos) mb):RW X (.BoolOp .Or (a :: b :: rest) pos) (mOr ma mb):=RW.wk (Q5 ha.pe hb.pe) fun σ H Q h=>by
  obtain ⟨ι,μ,τ,z,μ',R,S,e,q⟩:=h
  obtain ⟨x,μ1,e1,e⟩:=AE e
  refine ⟨ι,μ,τ,x,μ1,R,S,e1,fun ι1 H1 E1 R1=>?_⟩
  cases x with
  | true=>cases e; exact q ι1 H1 E1 R1
  | false=>exact ⟨ι1,μ1,τ,z,μ',R1,S.ext E1,e,fun ι2 H2 E2 R2=>q ι2 H2 (E1.trans E2) R2⟩
theorem RW.rt {m:Sl->M Bool} (h:RW X e m):RT X e m:=⟨h.pe.pt⟩
def L6 (ma mb:Sl->M D):Sl->M D:=fun τ=>bnd (ma τ) fun x=>bnd (asB x) fun c=>if c=true then mb τ else ret (.bl false)
theorem Mm {x:D} {μ μ1:Mh} {c:Bool} (h:asB x μ=some (c,μ1)):x=.bl c /\ μ1=μ:=by
  cases x with
  | bl k=>cases h; exact ⟨rfl,rfl⟩
  | _=>cases h
theorem PP {op} {m:Sl->M D} (h:RE X a m):RE X (.BoolOp op [a] pos) m:=⟨Pn h.pe⟩
theorem PQ {rest:List Expr} {ma mb:Sl->M D} (ha:RE X a ma) (hb:RE X (.BoolOp .And (b :: rest) pos) mb):RE X (.BoolOp .And (a :: b :: rest) pos) (L6 ma mb):=RE.wk (Pr ha.pe hb.pe) fun σ H Q h=>by
  obtain ⟨ι,μ,τ,z,μ',R,S,e,q⟩:=h
  obtain ⟨x,μ1,e1,e⟩:=AE e
  obtain ⟨c,μ2,e2,e⟩:=AE e
  obtain ⟨rfl,rfl⟩:=Mm e2
  refine ⟨ι,μ,τ,_,μ2,R,S,e1,fun ι1 H1 E1 R1 v1 i1=>⟨c,by unfold Is at i1; exact i1,?_⟩⟩
  cases c with
  | true=>exact ⟨ι1,μ2,τ,z,μ',R1,S.ext E1,e,fun ι2 H2 E2 R2=>q ι2 H2 (E1.trans E2) R2⟩
  | false=>cases e; exact q ι1 H1 E1 R1 _ (by unfold Is; rfl)
def AO:Sl->M (List D):=fun _=>ret []
def AD (m:Sl->M D) (r:Sl->M (List D)):Sl->M (List D):=fun τ=>bnd (m τ) fun x=>bnd (r τ) fun xs=>ret (x :: xs)
theorem AI:RA X [] AO:=RA.wk Cn fun σ H Q h=>by
  obtain ⟨ι,μ,τ,z,μ',R,S,e,q⟩:=h
  cases e
  exact q ι H R.ext0 R [] .nil
theorem AC {m:Sl->M D} {r:Sl->M (List D)} (h:RE X e m) (hr:RA X es r) (hs:starEach (e :: es) X.env=(false,eval e X.env) :: starEach es X.env:=by exact AR rfl):RA X (e :: es) (AD m r):=RA.wk (B7 h.pe hr.pe hs) fun σ H Q h=>by
  obtain ⟨ι,μ,τ,z,μ',R,S,e,q⟩:=h
  obtain ⟨x,μ1,e1,e⟩:=AE e
  obtain ⟨xs,μ2,e2,e⟩:=AE e
  cases e
  exact ⟨ι,μ,τ,x,μ1,R,S,e1,fun ι1 H1 E1 R1 v1 i1=>⟨ι1,μ1,τ,xs,_,R1,S.ext E1,e2,fun ι2 H2 E2 R2 vs i2=>q ι2 H2 (E1.trans E2) R2 _ (.cons (i1.ext E2) i2)⟩⟩
def lim (n:Nat):M Unit:=fun μ=>if n <= sizeLine then some ((),μ) else none
theorem Bx {n:Nat} {μ μ1:Mh} {u:Unit} (h:lim n μ=some (u,μ1)):n <= sizeLine /\ μ1=μ:=by
  unfold lim at h
  split at h
  . rename_i hn; cases h; exact ⟨hn,rfl⟩
  . cases h
theorem Dm {n:Nat} (h:n <= sizeLine) (μ:Mh):lim n μ=some ((),μ):=if_pos h
def Bn (ds:List D):M D:=bnd (lim ds.length) fun _=>ret (.tup ds)
def BW (ds:List D):M D:=bnd (lim ds.length) fun _=>ret (.lst ds)
def Ek (ds:List D):M D:=bnd (lim ds.length) fun _=>fun μ=>some (.ref μ.length,μ ++ [.lst ds])
def AJ (f:List D->M D) (m:Sl->M (List D)):Sl->M D:=fun τ=>bnd (m τ) f
theorem JW {K:PySem.W.Frag} {ι:Nat->Addr} {μ μ':Mh} {H:Hp} {ds:List D} {vs:List V} {d:D} {Q:VK} (R:RelH K ι μ H) (i:IsL K ι μ.length H ds vs) (e:Bn ds μ=some (d,μ')) (q:Aft K ι μ H μ' fun ι' H'=>∀ v,Is K ι' μ'.length H' d v->Q v H') :
    vs.length <= sizeLine /\ ∀ p,H p=none->Q (.ref p) (upd H p (.tup vs)):=by
  obtain ⟨u,μ1,e1,e2⟩:=AE e
  clear e
  obtain ⟨hl,e3⟩:=Bx e1
  cases e2
  cases e3
  refine ⟨by rw [i.length]; exact hl,fun p hp=>?_⟩
  obtain ⟨E1,R1⟩:=R.laid (.tup vs) hp
  exact q ι _ E1 R1 _ (by unfold Is; exact ⟨p,vs,rfl,SqT.of AW,i.ext E1⟩)
theorem C5 {K:PySem.W.Frag} {ι:Nat->Addr} {μ μ':Mh} {H:Hp} {ds:List D} {vs:List V} {d:D} {Q:VK} (R:RelH K ι μ H) (i:IsL K ι μ.length H ds vs) (e:BW ds μ=some (d,μ')) (q:Aft K ι μ H μ' fun ι' H'=>∀ v,Is K ι' μ'.length H' d v->Q v H') :
    vs.length <= sizeLine /\ ∀ p,H p=none->Q (.ref p) (upd H p (.lst vs)):=by
  obtain ⟨u,μ1,e1,e2⟩:=AE e
  clear e
  obtain ⟨hl,e3⟩:=Bx e1
  cases e2
  cases e3
  refine ⟨by rw [i.length]; exact hl,fun p hp=>?_⟩
  obtain ⟨E1,R1⟩:=R.laid (.lst vs) hp
  have ho:∀ n,n < μ.length->ι n ≠ p:=fun n hn z=>by
    obtain ⟨o,e,_⟩:=R.muts n hn
    rw [z,hp] at e; cases e
  exact q ι _ E1 R1 _ (by unfold Is; exact ⟨p,vs,rfl,AW,ho,i.ext E1⟩)
theorem JX {K:PySem.W.Frag} {ι:Nat->Addr} {μ μ':Mh} {H:Hp} {ds:List D} {vs:List V} {d:D} {Q:VK} (R:RelH K ι μ H) (i:IsL K ι μ.length H ds vs) (e:Ek ds μ=some (d,μ')) (q:Aft K ι μ H μ' fun ι' H'=>∀ v,Is K ι' μ'.length H' d v->Q v H') :
    vs.length <= sizeLine /\ ∀ p,H p=none->Q (.ref p) (upd H p (.lst vs)):=by
  obtain ⟨u,μ1,e1,e2⟩:=AE e
  clear e
  obtain ⟨hl,e3⟩:=Bx e1
  cases e2
  cases e3
  refine ⟨by rw [i.length]; exact hl,fun p hp=>?_⟩
  obtain ⟨ι',E1,R1,e0⟩:=R.grown (m:=.lst ds) hp ⟨vs,rfl,i⟩
  exact q ι' _ E1 R1 _ (by unfold Is; exact ⟨by simp,by rw [e0]⟩)
theorem C4 {K:PySem.W.Frag} {f:List D->M D} {m:Sl->M (List D)} {σ:St} {H:Hp} {Q:VK} {R:List V->Hp->Prop} (h:tE K (AJ f m) σ H Q)
    (hf:∀ ι μ μ' H ds vs d,RelH K ι μ H->IsL K ι μ.length H ds vs->f ds μ=some (d,μ')->(Aft K ι μ H μ' fun ι' H'=>∀ v,Is K ι' μ'.length H' d v->Q v H')->R vs H):tL K m σ H R:=by
  obtain ⟨ι,μ,τ,z,μ',S1,S,e,q⟩:=h
  obtain ⟨ds,μ1,e1,e⟩:=AE e
  exact ⟨ι,μ,τ,ds,μ1,S1,S,e1,fun ι1 H1 E1 R1 vs iv=>hf ι1 μ1 μ' H1 ds vs z R1 iv e fun ι2 H2 E2 R2=>q ι2 H2 (E1.trans E2) R2⟩
theorem Bv {x1} {m:Sl->M (List D)} (h:RA X es m):RE X (.Tuple es x1 pos) (AJ Bn m):=RE.wk (Pj h.pe) fun _ _ _ q=>C4 q fun _ _ _ _ _ _ _ R i e q=>JW R i e q
theorem DE {m:Sl->M (List D)} (h:RA X es m):RE X (.List es pos) (AJ BW m):=RE.wk (Lu h.pe) fun _ _ _ q=>C4 q fun _ _ _ _ _ _ _ R i e q=>C5 R i e q
theorem EE {m:Sl->M (List D)} (h:RA X es m):RE X (.List es pos) (AJ Ek m):=RE.wk (Lu h.pe) fun _ _ _ q=>C4 q fun _ _ _ _ _ _ _ R i e q=>JX R i e q
theorem DR {id:String} {x:Str} {g:List D->M D} {m:Sl->M (List D)} {p:Pos} (hc:A0 X (.builtin id) (rMA X.K g)) (hm:X.mg x=none) (hv:bootBuiltins x=some (.builtin id)) (ha:RA X (e :: es) m) (hg:Gl X x:=by rfl) (hn:x ≠ "__name__" := by decide) (hdb:(x == ("__debug__" : Str))=false:=by decide)
    (he:starEach (e :: es) X.env=(false,eval e X.env) :: starEach es X.env:=by exact AR rfl) (hpl:(backTo pos (starEach es X.env)).any (·.1)=false:=by exact BH rfl):RE X (.Call (.Name x p) (e :: es) [] pos) (AJ g m):=
  RE.wk (Ef hc hg hm hv ha.pe hn hdb he hpl) fun _ _ _ q=>C4 q fun ι μ μ' H ds vs d R i e q=>⟨ι,μ,ds,d,μ',R,i,e,q⟩
theorem A7 {T:String} {x:Str} {g:List D->M D} {m:Sl->M (List D)} {p:Pos} (hc:A0 X (.type T) (rMA X.K g)) (hm:X.mg x=none) (hv:bootBuiltins x=some (.type T)) (ha:RA X (e :: es) m) (hg:Gl X x:=by rfl) (hn:x ≠ "__name__" := by decide) (hdb:(x == ("__debug__" : Str))=false:=by decide)
    (he:starEach (e :: es) X.env=(false,eval e X.env) :: starEach es X.env:=by exact AR rfl) (hpl:(backTo pos (starEach es X.env)).any (·.1)=false:=by exact BH rfl):RE X (.Call (.Name x p) (e :: es) [] pos) (AJ g m):=
  RE.wk (Br hc hg hm hv ha.pe hn hdb he hpl) fun _ _ _ q=>C4 q fun ι μ μ' H ds vs d R i e q=>⟨ι,μ,ds,d,μ',R,i,e,q⟩
def spM (K:PySem.W.Frag) (n:Nat) (φ:List D->M D):Sp:=fun vs H Q _=>vs.length=n /\ rMA K φ vs H Q
theorem NW {n k:Nat} {φ:List D->M D} {f:Addr} {fd:FuncData} {ps:List Str} {x:Str} {m:Sl->M (List D)} {p:Pos} (F:FnOk X.prog X.w X.K X.mg X.base CX0 k f fd ps (spM X.K n φ)) (hr:Room k X.A) (hm:X.mg x=some (.ref f)) (hk:PySem.W.keepIn X.K (.ref f)=true) (hb:Binds X.K fd ps [])
    (hφ:∀ ds μ r,φ ds μ=some r->ds.length=n) (ha:RA X (e :: es) m) (hg:Gl X x:=by rfl) (hdb:(x == ("__debug__" : Str))=false:=by decide) (he:starEach (e :: es) X.env=(false,eval e X.env) :: starEach es X.env:=by exact AR rfl) (hpl:(backTo pos (starEach es X.env)).any (·.1)=false:=by exact BH rfl) :
    RE X (.Call (.Name x p) (e :: es) [] pos) (AJ φ m):=
  RE.wk (No F hr hg hm hk hb .nil RC ha.pe hdb he hpl) fun _ _ _ q=>C4 q fun ι μ μ' H ds vs d R i e q=>by
    rw [List.append_nil]
    exact ⟨by rw [i.length]; exact hφ ds μ _ e,ι,μ,ds,d,μ',R,i,e,q⟩
end
end Mi
namespace Mi
open PySem L2
section
variable {X:Cx} {e a b c tg iter:Expr} {es:List Expr} {pos:Pos} {st:Stmt} {rest body:List Stmt}
def CF:Sl->M (Fl × Sl):=fun τ=>ret (.next,τ)
def AY (m1 m2:Sl->M (Fl × Sl)):Sl->M (Fl × Sl):=fun τ=>bnd (m1 τ) fun r=>match r.1 with
  | .next=>m2 r.2
  | f=>ret (f,r.2)
theorem Ao:RSs X [] CF:=RSs.wk Nf fun Dn σ H h=>by
  obtain ⟨ι,μ,τ,f,τ',μ',R,S,e,q⟩:=h
  cases e
  exact q ι H R.ext0 R σ S
theorem AH {m1 m2:Sl->M (Fl × Sl)} (h1:RS X st m1) (h2:RSs X rest m2):RSs X (st :: rest) (AY m1 m2):=RSs.wk (Ll h1.pe h2.pe) fun Dn σ H h=>by
  obtain ⟨ι,μ,τ,f,τ',μ',R,S,e,q⟩:=h
  obtain ⟨⟨f1,τ1⟩,μ1,e1,e⟩:=AE e
  refine ⟨ι,μ,τ,f1,τ1,μ1,R,S,e1,fun ι1 H1 E1 R1 σ1 S1=>?_⟩
  cases f1 with
  | next=>exact ⟨ι1,μ1,τ1,f,τ',μ',R1,S1,e,fun ι2 H2 E2 R2=>q ι2 H2 (E1.trans E2) R2⟩
  | brk=>cases e; exact q ι1 H1 E1 R1 σ1 S1
  | cont=>cases e; exact q ι1 H1 E1 R1 σ1 S1
  | rt d=>cases e; exact q ι1 H1 E1 R1 σ1 S1
theorem AM {m:Sl->M (Fl × Sl)} (h:RS X st m):RSs X [st] m:=⟨Nd h.pe⟩
def EX (m:Sl->M D):Sl->M (Fl × Sl):=fun τ=>bnd (m τ) fun _=>ret (.next,τ)
theorem DO {m:Sl->M D} (h:RE X e m) (hs:swapsWith e none pos.line X.env=pure false:=by rfl):RS X (.Expr e pos) (EX m):=RS.wk (Ng h.pe hs) fun Dn σ H h=>by
  obtain ⟨ι,μ,τ,f,τ',μ',R,S,e,q⟩:=h
  obtain ⟨x,μ1,e1,e⟩:=AE e
  cases e
  exact ⟨ι,μ,_,x,_,R,S,e1,fun ι1 H1 E1 R1 v i1=>q ι1 H1 E1 R1 σ (S.ext E1)⟩
def BA (m:Sl->M D):Sl->M (Fl × Sl):=fun τ=>bnd (m τ) fun d=>ret (.rt d,τ)
theorem Ae {m:Sl->M D} (h:RE X e m):RS X (.Return (some e) pos) (BA m):=RS.wk (Pe h.pe) fun Dn σ H h=>by
  obtain ⟨ι,μ,τ,f,τ',μ',R,S,e,q⟩:=h
  obtain ⟨x,μ1,e1,e⟩:=AE e
  cases e
  exact ⟨ι,μ,_,x,_,R,S,e1,fun ι1 H1 E1 R1 v i1=>q ι1 H1 E1 R1 σ (S.ext E1) v i1⟩
def sIf (mc:Sl->M Bool) (m1 m2:Sl->M (Fl × Sl)):Sl->M (Fl × Sl):=fun τ=>bnd (mc τ) fun x=>if x=true then m1 τ else m2 τ
theorem BP {mc:Sl->M Bool} {m1 m2:Sl->M (Fl × Sl)} (hc:RT X c mc) (h1:RSs X body m1) (h2:RSs X rest m2):RS X (.If c body rest pos) (sIf mc m1 m2):=RS.wk (Q6 hc.pe h1.pe h2.pe) fun Dn σ H h=>by
  obtain ⟨ι,μ,τ,f,τ',μ',R,S,e,q⟩:=h
  obtain ⟨x,μ1,e1,e⟩:=AE e
  refine ⟨ι,μ,τ,x,μ1,R,S,e1,fun ι1 H1 E1 R1=>?_⟩
  cases x with
  | true=>exact ⟨ι1,μ1,τ,f,τ',μ',R1,S.ext E1,e,fun ι2 H2 E2 R2=>q ι2 H2 (E1.trans E2) R2⟩
  | false=>exact ⟨ι1,μ1,τ,f,τ',μ',R1,S.ext E1,e,fun ι2 H2 E2 R2=>q ι2 H2 (E1.trans E2) R2⟩
def tG (K:PySem.W.Frag) (bf:D->Sl->M Sl):TG:=fun v σ H Q=>∃ ι μ τ d τ' μ',RelH K ι μ H /\ RelS K ι μ.length H τ σ /\ Is K ι μ.length H d v /\ bf d τ μ=some (τ',μ') /\
  Aft K ι μ H μ' fun ι' H'=>∀ σ',RelS K ι' μ'.length H' τ' σ'->Q σ' H'
structure RG (X:Cx) (tg:Expr) (bf:D->Sl->M Sl):Prop where
  pe:PG X tg (tG X.K bf)
theorem PG.wk {t t':TG} (h:PG X tg t) (w:∀ v σ H Q,t' v σ H Q->t v σ H Q):PG X tg t':=fun pins s σ H v u Q I r q=>h pins s σ H v u Q I r (w v σ H Q q)
theorem RG.wk {bf:D->Sl->M Sl} {t:TG} (h:PG X tg t) (w:∀ v σ H Q,tG X.K bf v σ H Q->t v σ H Q):RG X tg bf:=⟨PG.wk h w⟩
def AL (i:Nat):D->Sl->M Sl:=fun d τ=>ret (τ.set i (some d))
theorem JE {K:PySem.W.Frag} {i:Nat} {v:V} {σ:St} {H:Hp} {Q:St->Hp->Prop} (h:tG K (AL i) v σ H Q):C8 i v σ H Q:=by
  obtain ⟨ι,μ,τ,d,τ',μ',R,S,i1,e,q⟩:=h
  cases e
  exact q ι H R.ext0 R _ (S.set i i1)
theorem Bm (i:Nat) {x:Str} (hN:X.N.Nodup) (hi:X.N[i]? = some x:=by rfl) (hx:Loc X.env.scope x:=by first | exact Or.inl rfl | exact Or.inr rfl) (hf:X.fn x=true ∨ X.env.scope.names.lookup x=some .local:=by first | exact .inl rfl | exact .inr rfl | assumption):RG X (.Name x pos) (AL i):=
  RG.wk (BE hN hi hx hf) fun _ _ _ _ h=>JE h
def FK:List Nat->List D->Sl->M Sl
  | [],[],τ=>ret τ
  | i :: is,d :: ds,τ=>bnd (AL i d τ) fun τ1=>FK is ds τ1
  | _,_,_=>BL
def Ik (is:List Nat):D->Sl->M Sl
  | .tup ds,τ=>if ds.length=is.length then FK is ds τ else BL
  | _,_=>BL
def C0:List Nat->TGs
  | []=>Re
  | i :: is=>Ob (C8 i) (C0 is)
theorem Dp {K:PySem.W.Frag}:∀ {is:List Nat} {ds:List D} {vs:List V} {τ τ':Sl} {σ:St} {ι:Nat->Addr} {μ μ':Mh} {H:Hp} {Q:St->Hp->Prop},RelH K ι μ H->RelS K ι μ.length H τ σ->IsL K ι μ.length H ds vs->FK is ds τ μ=some (τ',μ')->
    (μ'=μ->∀ σ',RelS K ι μ.length H τ' σ'->Q σ' H)->C0 is vs σ H Q
  | [],[],_,_,_,_,_,_,_,_,_,R,S,i,e,q=>by
    cases e
    unfold IsL at i; subst i
    exact ⟨rfl,q rfl _ S⟩
  | _ :: is,_ :: ds,_,τ,τ',σ,ι,μ,μ',H,Q,R,S,i,e,q=>by
    unfold IsL at i
    obtain ⟨v,vs',rfl,i1,i2⟩:=i
    exact ⟨v,vs',rfl,Dp (is:=is) (ds:=ds) R (S.set _ i1) i2 e q⟩
  | [],_ :: _,_,_,_,_,_,_,_,_,_,_,_,_,e,_=>by cases e
  | _ :: _,[],_,_,_,_,_,_,_,_,_,_,_,_,e,_=>by cases e
theorem PL {is:List Nat} {k:Nat} (hc:X.calm=true) (h:PGs X es (C0 is)) (hn:(assignEach es X.env).length=is.length:=by rfl) (hst:(assignEach es X.env).findIdx? (·.1)=none:=by rfl):RG X (.Tuple es k pos) (Ik is):=
  RG.wk (Lq hc h hn hst) fun v σ H Q h=>by
    obtain ⟨ι,μ,τ,d,τ',μ',R,S,i1,e,q⟩:=h
    cases d with
    | tup ds=>
      unfold Is at i1
      obtain ⟨p,vs,rfl,h1,h2⟩:=i1
      have e':(if ds.length=is.length then FK is ds τ else BL) μ=some (τ',μ'):=e
      by_cases hl:ds.length=is.length
      . rw [if_pos hl] at e'
        have e:=e'
        refine ⟨p,vs,rfl,h1,by rw [h2.length,hl],Dp R S h2 e fun z σ' S'=>?_⟩
        subst z
        exact q ι H R.ext0 R σ' S'
      . rw [if_neg hl] at e'; cases e'
    | _=>cases e
def Aj (m:Sl->M D) (bf:D->Sl->M Sl):Sl->M (Fl × Sl):=fun τ=>bnd (m τ) fun d=>bnd (bf d τ) fun τ'=>ret (.next,τ')
theorem JD {K:PySem.W.Frag} {m:Sl->M D} {bf:D->Sl->M Sl} {g:TG} {Dn:Ir} {σ:St} {H:Hp} (hg:∀ v H Q,tG K bf v σ H Q->g v σ H Q) (h:tSt K (Aj m bf) Dn σ H):NI (tE K m) g Dn σ H:=by
  obtain ⟨ι,μ,τ,f,τ',μ',R,S,e,q⟩:=h
  obtain ⟨x,μ1,e1,e⟩:=AE e
  obtain ⟨τ1,μ2,e2,e⟩:=AE e
  cases e
  exact ⟨ι,μ,τ,x,μ1,R,S,e1,fun ι1 H1 E1 R1 v i1=>hg _ _ _ ⟨ι1,μ1,τ,x,_,_,R1,S.ext E1,i1,e2,fun ι2 H2 E2 R2 σ' S'=>q ι2 H2 (E1.trans E2) R2 σ' S'⟩⟩
theorem AZ (i:Nat) {x:Str} {m:Sl->M D} {pos':Pos} (hN:X.N.Nodup) (he:RE X e m) (hi:X.N[i]? = some x:=by rfl) (hx:Loc X.env.scope x:=by first | exact Or.inl rfl | exact Or.inr rfl) (hs:swapsWith e (some (.Name x pos')) pos.line X.env=pure false:=by rfl) (hf:X.fn x=true ∨ X.env.scope.names.lookup x=some .local:=by first | exact .inl rfl | exact .inr rfl | assumption) :
    RS X (.Assign [.Name x pos'] e pos) (Aj m (AL i)):=RS.wk (Pd hN hi hx he.pe hs hf) fun _ _ _ h=>JD (fun _ _ _ q=>JE q) h
theorem PH {m:Sl->M D} {bf:D->Sl->M Sl} (he:RE X e m) (hg:RG X tg bf) (hs:swapsWithSole [tg] e pos.line X.env=pure false:=by rfl) (hw:swappedStores [tg] e X.env=pure none:=by rfl)
    (h1:(assignEach [tg] X.env).map (·.2)=[assign tg X.env]:=by rfl):RS X (.Assign [tg] e pos) (Aj m bf):=RS.wk (Pg he.pe hg.pe hs hw h1) fun _ _ _ h=>JD (fun _ _ _ q=>q) h
def ItM (K:PySem.W.Frag) (J:It) (ds:List D) (ι:Nat->Addr) (μ:Mh) (H:Hp):Prop:=∀ ι' (μ':Mh) H',Ext ι μ.length H ι' μ'.length H'->RelH K ι' μ' H'->
  (∀ i,i < ds.length->J.go i H') /\ J.stop ds.length H' /\ ∀ (i:Nat) x H2 d,ds[i]? = some d->J.yld i H' x H2->Ext ι' μ'.length H' ι' μ'.length H2 /\ RelH K ι' μ' H2 /\ Is K ι' μ'.length H2 d x
theorem ItM.ext {K:PySem.W.Frag} {J:It} {ds:List D} {ι ι':Nat->Addr} {μ μ':Mh} {H H':Hp} (h:ItM K J ds ι μ H) (E:Ext ι μ.length H ι' μ'.length H'):ItM K J ds ι' μ' H':=fun ι2 μ2 H2 E2 R2=>h ι2 μ2 H2 (E.trans E2) R2
def tI (K:PySem.W.Frag) (m:Sl->M (List D)):TI:=fun σ H R=>∃ ι μ τ ds μ',RelH K ι μ H /\ RelS K ι μ.length H τ σ /\ m τ μ=some (ds,μ') /\
  Aft K ι μ H μ' fun ι' H'=>∀ J,ItM K J ds ι' μ' H'->R J H'
structure RI (X:Cx) (tg iter:Expr) (m:Sl->M (List D)):Prop where
  pe:PI X tg iter (tI X.K m)
theorem PI.wk {t t':TI} (h:PI X tg iter t) (w:∀ σ H R,t' σ H R->t σ H R):PI X tg iter t':=fun pins s σ H R I q=>h pins s σ H R I (w σ H R q)
theorem RI.wk {m:Sl->M (List D)} {t:TI} (h:PI X tg iter t) (w:∀ σ H R,tI X.K m σ H R->t σ H R):RI X tg iter m:=⟨PI.wk h w⟩
theorem PI.or {t t':TI} (h:PI X tg iter t) (h':PI X tg iter t'):PI X tg iter (fun σ H R=>t σ H R ∨ t' σ H R):=fun pins s σ H R I q=>q.elim (h pins s σ H R I) (h' pins s σ H R I)
def Ju:D->M (List D)
  | .lst ds=>ret ds
  | .tup ds=>ret ds
  | .scr ns=>ret (ns.map D.int)
  | _=>BL
def DV (m:Sl->M D):Sl->M (List D):=fun τ=>bnd (m τ) Ju
theorem HL {K:PySem.W.Frag} {ι:Nat->Addr} {μ:Mh} {H:Hp} {p:Addr} {vs:List V} {ds:List D} (st:∀ ι' (μ':Mh) H',Ext ι μ.length H ι' μ'.length H'->RelH K ι' μ' H'->SqL K H' p vs) (i:IsL K ι μ.length H ds vs):ItM K (Itl K p) ds ι μ H:=by
  intro ι' μ' H' E R
  have h:=st ι' μ' H' E R
  have hl:=i.length
  refine ⟨fun j hj=>⟨vs,vs[j],h,by simp⟩,⟨vs,h,by omega⟩,fun j x H2 d hd y=>?_⟩
  obtain ⟨e,y⟩:=y
  subst e
  obtain ⟨v,ev,iv⟩:=(i.ext E).get hd
  have:=y vs h
  rw [ev] at this; cases this
  exact ⟨R.ext0,R,iv⟩
theorem N5 {K:PySem.W.Frag} {ι:Nat->Addr} {μ:Mh} {H:Hp} {p:Addr} {vs:List V} {ds:List D} (h:SqT K H p vs) (i:IsL K ι μ.length H ds vs):ItM K (Itt K p) ds ι μ H:=by
  intro ι' μ' H' E R
  have h:=ED E h
  have hl:=i.length
  refine ⟨fun j hj=>⟨vs,vs[j],h,by simp⟩,⟨vs,h,by omega⟩,fun j x H2 d hd y=>?_⟩
  obtain ⟨e,y⟩:=y
  subst e
  obtain ⟨v,ev,iv⟩:=(i.ext E).get hd
  have:=y vs h
  rw [ev] at this; cases this
  exact ⟨R.ext0,R,iv⟩
theorem NU {m:Sl->M D} {σ:St} {H:Hp} {R:It->Hp->Prop} {K:PySem.W.Frag} (q:tI K (DV m) σ H R):Oa K (tE K m) σ H R ∨ Rb K (tE K m) σ H R:=by
  obtain ⟨ι,μ,τ,ds,μ',R0,S,e,q⟩:=q
  obtain ⟨x,μ1,e1,e⟩:=AE e
  cases x with
  | lst es=>
    cases e
    refine .inl ⟨ι,μ,τ,_,_,R0,S,e1,fun ι1 H1 E1 R1 v i1=>?_⟩
    unfold Is at i1
    obtain ⟨p,vs,rfl,h1,hn,h2⟩:=i1
    exact ⟨p,rfl,⟨vs,SqL.of h1⟩,q ι1 H1 E1 R1 _ (HL (fun ι' μ' H' E _=>SqL.of (E.keep p _ h1 hn)) h2)⟩
  | tup es=>
    cases e
    refine .inr ⟨ι,μ,τ,_,_,R0,S,e1,fun ι1 H1 E1 R1 v i1=>?_⟩
    unfold Is at i1
    obtain ⟨p,vs,rfl,h1,h2⟩:=i1
    exact ⟨p,rfl,⟨vs,h1⟩,q ι1 H1 E1 R1 _ (N5 h1 h2)⟩
  | scr ns=>
    cases e
    refine .inl ⟨ι,μ,τ,_,_,R0,S,e1,fun ι1 H1 E1 R1 v i1=>?_⟩
    unfold Is at i1
    obtain ⟨p,rfl,h1⟩:=i1
    exact ⟨p,rfl,⟨_,h1.sq⟩,q ι1 H1 E1 R1 _ (HL (fun ι' μ' H' E _=>(JO E h1).sq) (IsL.ofInts ns))⟩
  | non=>cases e
  | bl _=>cases e
  | int _=>cases e
  | str _=>cases e
  | ty _=>cases e
  | ref _=>cases e
theorem DD {m:Sl->M D} (h:RE X e m):RI X tg e (DV m):=RI.wk (PI.or (Nl h.pe) (Ph h.pe)) fun _ _ _ q=>NU q
def G9 (lo hi:Int):List D:=(List.range (hi - lo).toNat).map fun (j:Nat)=>D.int (lo + (j:Int))
def LV:List D->M (List D)
  | [.int j]=>fun μ=>if -(2 ^ 62) <= j /\ j < 2 ^ 62 then some (G9 0 j,μ) else none
  | _=>BL
def Cv (m:Sl->M (List D)):Sl->M (List D):=fun τ=>bnd (m τ) LV
theorem N6 {K:PySem.W.Frag} {ι:Nat->Addr} {μ:Mh} {H:Hp} {lo hi:Int}:ItM K (Itr lo (hi - lo).toNat) (G9 lo hi) ι μ H:=by
  intro ι' μ' H' E R
  have hl:(G9 lo hi).length=(hi - lo).toNat:=by simp [G9]
  rw [hl]
  refine ⟨fun j hj=>hj,Nat.le_refl _,fun j x H2 d hd y=>?_⟩
  obtain ⟨e,y⟩:=y
  subst e
  unfold G9 at hd
  rw [List.getElem?_map] at hd
  cases q:(List.range (hi - lo).toNat)[j]? with
  | none=>rw [q] at hd; cases hd
  | some z=>
    rw [q] at hd
    have hz:z=j:=by
      have:=(List.getElem?_eq_some_iff.mp q).2
      simpa using this.symm
    subst hz
    cases hd
    exact ⟨R.ext0,R,by unfold Is; exact y⟩
theorem BM {a:Expr} {m:Sl->M (List D)} {p:Pos} (hm:X.mg "range" = none) (ha:RA X [a] m) (hg:Gl X "range" := by rfl) (hs:starEach [a] X.env=[(false,eval a X.env)]:=by rfl):RI X tg (.Call (.Name "range" p) [a] [] pos) (Cv m):=
  RI.wk (KP hg hm ha.pe hs) fun σ H R q=>by
    obtain ⟨ι,μ,τ,ds,μ',R0,S,e,q⟩:=q
    obtain ⟨xs,μ1,e1,e⟩:=AE e
    refine ⟨ι,μ,τ,xs,μ1,R0,S,e1,fun ι1 H1 E1 R1 vs i1=>?_⟩
    unfold LV at e
    split at e
    . rename_i j
      split at e
      . rename_i hb
        cases e
        unfold IsL Is at i1
        obtain ⟨v,vs',rfl,rfl,i2⟩:=i1
        unfold IsL at i2
        subst i2
        refine ⟨j,rfl,hb.1,hb.2,q ι1 H1 E1 R1 _ ?_⟩
        have:=N6 (K:=X.K) (ι:=ι1) (μ:=μ') (H:=H1) (lo:=0) (hi:=j)
        rw [Int.sub_zero] at this
        exact this
      . cases e
    . cases e
def Ex (bf:D->Sl->M Sl) (mb:Sl->M (Fl × Sl)):List D->Sl->M (Fl × Sl)
  | [],τ=>ret (.next,τ)
  | x :: xs,τ=>bnd (bf x τ) fun τ1=>bnd (mb τ1) fun r=>match r.1 with
    | .next=>Ex bf mb xs r.2
    | .cont=>Ex bf mb xs r.2
    | .brk=>ret (.next,r.2)
    | .rt d=>ret (.rt d,r.2)
def DC (src:Sl->M (List D)) (bf:D->Sl->M Sl) (mb:Sl->M (Fl × Sl)):Sl->M (Fl × Sl):=fun τ=>bnd (src τ) fun ds=>Ex bf mb ds τ
theorem CU {src:Sl->M (List D)} {bf:D->Sl->M Sl} {mb:Sl->M (Fl × Sl)} (hp:PassesOwn (model X.prog X.w) X.A X.env X.xe) (hc:X.calm=true) (hi:RI X tg iter src) (hg:RG X tg bf) (hb:RSs X body mb)
    (hs:∀ x,foldedSetIterable iter X.env x=pure x:=by intro _; rfl):RS X (.For tg iter body [] pos) (DC src bf mb):=RS.wk (Pf hp hc hi.pe hg.pe hb.pe hs) fun Dn σ H h=>by
  obtain ⟨ι,μ,τ,f,τ',μ',R,S,e,q⟩:=h
  obtain ⟨ds,μ1,e1,e⟩:=AE e
  refine ⟨ι,μ,τ,ds,μ1,R,S,e1,fun ι1 H1 E1 R1 J it=>?_⟩
  let W:Nat->Nat->St->Hp->Prop:=fun i m σ H=>m=ds.length - i /\ i <= ds.length /\ ∃ ι μ τ f τ' μ',RelH X.K ι μ H /\ RelS X.K ι μ.length H τ σ /\ ItM X.K J ds ι μ H /\ Ex bf mb (ds.drop i) τ μ=some ((f,τ'),μ') /\
    Aft X.K ι μ H μ' fun ι' H'=>∀ σ',RelS X.K ι' μ'.length H' τ' σ'->FlP X.K Dn ι' μ'.length H' τ' σ' f
  refine ⟨W,⟨ds.length,by simp,Nat.zero_le _,ι1,μ1,τ,f,τ',μ',R1,S.ext E1,it,e,fun ι2 H2 E2 R2=>q ι2 H2 (E1.trans E2) R2⟩,?_⟩
  rintro i m σ H ⟨hm,hil,ι,μ,τ,f,τ',μ',R,S,it,e,q⟩
  obtain ⟨go,stop,yl⟩:=it ι μ H R.ext0 R
  by_cases hlt:i < ds.length
  . refine .inr ⟨go i hlt,fun σ' H'=>W (i + 1) (ds.length - (i + 1)) σ' H',fun σ' H' z=>⟨_,by omega,z⟩,fun x H2 y=>?_⟩
    have hd:ds[i]? = some ds[i]:=by simp [hlt]
    obtain ⟨E2,R2,ix⟩:=yl i x H2 _ hd y
    rw [List.drop_eq_getElem_cons hlt] at e
    obtain ⟨τ1,μ1,e1,e⟩:=AE e
    obtain ⟨⟨f2,τ2⟩,μ2,e2,e⟩:=AE e
    refine ⟨ι,μ,τ,_,τ1,μ1,R2,S.ext E2,ix,e1,fun ι3 H3 E3 R3 σ3 S3=>?_⟩
    refine ⟨ι3,μ1,τ1,f2,τ2,μ2,R3,S3,e2,fun ι4 H4 E4 R4 σ4 S4=>?_⟩
    have E14:=(E2.trans E3).trans E4
    cases f2 with
    | next=>exact ⟨rfl,hlt,ι4,μ2,τ2,f,τ',μ',R4,S4,it.ext E14,e,fun ι5 H5 E5 R5=>q ι5 H5 (E14.trans E5) R5⟩
    | cont=>exact ⟨rfl,hlt,ι4,μ2,τ2,f,τ',μ',R4,S4,it.ext E14,e,fun ι5 H5 E5 R5=>q ι5 H5 (E14.trans E5) R5⟩
    | brk=>cases e; exact q ι4 H4 E14 R4 σ4 S4
    | rt d=>cases e; exact q ι4 H4 E14 R4 σ4 S4
  . have hi':i=ds.length:=by omega
    subst hi'
    rw [List.drop_length] at e
    cases e
    exact .inl ⟨stop,q ι H R.ext0 R σ S⟩
end
end Mi
namespace Mi
open PySem L2
section
variable {X:Cx} {scope:Scope} {tgs:List Str} {ix:List Nat} {elt tg iter:Expr} {pos:Pos}
def Lp (ix:List Nat) (τ:Sl):Sl:=ix.map fun j=>(τ[j]?).getD none
def Bl (n:Nat) (ix:List Nat) (τ:Sl):Sl:=List.replicate n none ++ Lp ix τ
def BX (bf:D->Sl->M Sl) (mc:Sl->M Bool) (me:Sl->M D) (τ0:Sl):List D->List D->M (List D)
  | [],ys=>ret ys
  | x :: xs,ys=>bnd (bf x τ0) fun τ1=>bnd (mc τ1) fun c=>if c=true then bnd (me τ1) fun y=>BX bf mc me τ0 xs (ys ++ [y]) else BX bf mc me τ0 xs ys
def B9 (n:Nat) (ix:List Nat) (src:Sl->M (List D)) (bf:D->Sl->M Sl) (mc:Sl->M Bool) (me:Sl->M D) (fin:List D->M D):Sl->M D:=fun τ=>bnd (src τ) fun ds=>bnd (lim ds.length) fun _=>bnd (BX bf mc me (Bl n ix τ) ds []) fin
def DU:Sl->M Bool:=fun _=>ret true
theorem RelS.block {K:PySem.W.Frag} {ι:Nat->Addr} {k:Nat} {H:Hp} {τ:Sl} {σ:St} (S:RelS K ι k H τ σ):RelS K ι k H (Bl tgs.length ix τ) (BG tgs ix σ):=by
  refine ⟨by simp [Bl,BG,Lp,Fh],fun i d e=>?_⟩
  unfold Bl at e
  have hk:tgs.length <= i:=by
    rcases Nat.lt_or_ge i tgs.length with z | z
    . rw [List.getElem?_append_left (by simpa using z),List.getElem?_replicate,if_pos z] at e
      cases e
    . exact z
  rw [List.getElem?_append_right (by simpa using hk),List.length_replicate] at e
  unfold Lp at e
  rw [List.getElem?_map] at e
  cases q:ix[i - tgs.length]? with
  | none=>rw [q] at e; cases e
  | some j=>
    rw [q] at e
    have e':(τ[j]?).getD none=some d:=Option.some.inj e
    cases q2:τ[j]? with
    | none=>rw [q2] at e'; cases e'
    | some o=>
      rw [q2] at e'
      have e'':o=some d:=e'
      subst e''
      obtain ⟨v,ev,iv⟩:=S.get j d q2
      refine ⟨v,?_,iv⟩
      unfold BG
      rw [List.getElem?_append_right (by simpa using hk),List.length_replicate]
      unfold Fh
      rw [List.getElem?_map,q,Option.map_some,ev]
      rfl
theorem JG {K:PySem.W.Frag} {n:Nat} {src:Sl->M (List D)} {i:Nat} {mc:Sl->M Bool} {me:Sl->M D} {fin:List D->M D} {σ:St} {H:Hp} {Q:VK} (hn:tgs.length=n) (hf:∀ ι μ μ' H ds vs d (Q:VK),RelH K ι μ H->IsL K ι μ.length H ds vs->fin ds μ=some (d,μ')->(Aft K ι μ H μ' fun ι' H'=>∀ v,Is K ι' μ'.length H' d v->Q v H')->
      vs.length <= sizeLine /\ ∀ p,H p=none->Q (.ref p) (upd H p (.lst vs)))
    (h:tE K (B9 n ix src (AL i) mc me fin) σ H Q):Gx tgs ix (tI K src) (C8 i) (tT K mc) (tE K me) σ H Q:=by
  subst hn
  obtain ⟨ι,μ,τ,d,μ',R,S,e,q⟩:=h
  obtain ⟨ds,μ1,e1,e5⟩:=AE e
  obtain ⟨u,μ2,e2,e6⟩:=AE e5
  obtain ⟨zs,μ3,e3,e7⟩:=AE e6
  obtain ⟨hl,e4⟩:=Bx e2
  clear e e5 e6
  subst e4
  refine ⟨ι,μ,τ,ds,_,R,S,e1,fun ι1 H1 E1 R1 J it=>?_⟩
  refine ⟨fun i' m ys H=>m=ds.length - i' /\ i' <= ds.length /\ ys.length <= i' /\ ∃ (ι:Nat->Addr) (μ:Mh) (as:List D),RelH K ι μ H /\ RelS K ι μ.length H τ σ /\ ItM K J ds ι μ H /\ IsL K ι μ.length H as ys /\ BX (AL i) mc me (Bl tgs.length ix τ) (ds.drop i') as μ=some (zs,μ3) /\
    Aft K ι μ H μ' fun ι' H'=>∀ v,Is K ι' μ'.length H' d v->Q v H',⟨ds.length,by simp,Nat.zero_le _,Nat.le_refl _,ι1,_,[],R1,S.ext E1,it,.nil,e3,fun ι2 H2 E2 R2=>q ι2 H2 (E1.trans E2) R2⟩,?_⟩
  rintro i' m ys H ⟨hm,hil,hyl,ι,μ,as,R,S,it,ia,e3,q⟩
  obtain ⟨go,stop,yl⟩:=it ι μ H R.ext0 R
  by_cases hlt:i' < ds.length
  . refine .inr ⟨go i' hlt,by omega,fun ys' H'=>ys'.length <= i' + 1 /\ ∃ (ι:Nat->Addr) (μ:Mh) (as:List D),RelH K ι μ H' /\ RelS K ι μ.length H' τ σ /\ ItM K J ds ι μ H' /\ IsL K ι μ.length H' as ys' /\ BX (AL i) mc me (Bl tgs.length ix τ) (ds.drop (i' + 1)) as μ=some (zs,μ3) /\
      Aft K ι μ H' μ' fun ι' H'=>∀ v,Is K ι' μ'.length H' d v->Q v H',fun ys' H' z=>⟨_,(by omega:ds.length - (i' + 1) < m),rfl,hlt,z⟩,fun x H2 y=>?_⟩
    have hd:ds[i']? = some ds[i']:=by simp [hlt]
    obtain ⟨E2,R2,ix2⟩:=yl i' x H2 _ hd y
    rw [List.drop_eq_getElem_cons hlt] at e3
    obtain ⟨τ1,μ1,e1,e3⟩:=AE e3
    cases e1
    obtain ⟨cc,μ2,e2,e3⟩:=AE e3
    have S2:=(S.ext E2).block (tgs:=tgs) (ix:=ix)
    show tT K mc _ H2 _
    refine ⟨ι,_,_,cc,μ2,R2,S2.set i ix2,e2,fun ι3 H3 E3 R3=>?_⟩
    have E13:=E2.trans E3
    cases cc with
    | false=>
      exact ⟨by omega,ι3,μ2,as,R3,S.ext E13,it.ext E13,ia.ext E13,e3,fun ι5 H5 E5 R5=>q ι5 H5 (E13.trans E5) R5⟩
    | true=>
      obtain ⟨y',μ4,e4,e3⟩:=AE e3
      refine ⟨ι3,μ2,_,y',μ4,R3,(S2.set i ix2).ext E3,e4,fun ι4 H4 E4 R4 v iv=>?_⟩
      have E14:=E13.trans E4
      exact ⟨by simp; omega,ι4,μ4,as ++ [y'],R4,S.ext E14,it.ext E14,(ia.ext E14).append (.one iv),e3,fun ι5 H5 E5 R5=>q ι5 H5 (E14.trans E5) R5⟩
  . have hi':i'=ds.length:=by omega
    subst hi'
    rw [List.drop_length] at e3
    cases e3
    obtain ⟨z1,z2⟩:=hf ι _ μ' H _ ys d Q R ia e7 q
    exact .inl ⟨stop,z1,z2⟩
theorem DQ {n:Nat} {ifs:List Expr} {src:Sl->M (List D)} {i:Nat} {mc:Sl->M Bool} {me:Sl->M D} (S:BScope X scope tgs ix) (hc:X.calm=true) (hi:RI X tg iter src) (hg:∀ fp C s H,PG (cxB X scope tgs fp C s H) tg (C8 i)) (hif:∀ fp C s H,Gi (cxB X scope tgs fp C s H) ifs (tT X.K mc)) (he:∀ fp C s H,RE (cxB X scope tgs fp C s H) elt me)
    (hin:i < tgs.length:=by decide) (hn:tgs.length=n:=by rfl) (hs:∀ x,foldedSetIterable iter X.env x=pure x:=by intro _; rfl) (ht:∀ o v,letOwnedTupleGo tg o v=pure ():=by intro _ _; rfl):RE X (.ListComp elt [⟨tg,iter,ifs,0⟩] scope pos) (B9 n ix src (AL i) mc me BW):=
  RE.wk (Nm (te:=tE X.K me) S hc hi.pe hg (Jh hin) hif (fun fp C s H=>(he fp C s H).pe) hs ht) fun _ _ _ h=>JG hn (fun _ _ _ _ _ _ _ _ R i e q=>C5 R i e q) h
theorem HA {K:PySem.W.Frag}:Gi X [] (tT K DU):=fun pins s σ H Q I h=>by
  obtain ⟨ι,μ,τ,b,μ',R,S,e,q⟩:=h
  cases e
  exact Ln pins s σ H Q I (q ι H R.ext0 R)
theorem DP {c:Expr} {mc:Sl->M Bool} (h:RT X c mc):Gi X [c] (tT X.K mc):=Lm h.pe
theorem IC (k:Nat) {n:Nat} {y:Str} {py spos:Pos} {ifs:List Expr} {src:Sl->M (List D)} {i:Nat} {mc:Sl->M Bool} {me:Sl->M D} {fin:List D->M D} (hN:X.N.Nodup) (S:BScope X scope tgs ix) (hc:X.calm=true) (hi:RI X tg iter src) (hg:∀ fp C s H,PG (cxB X scope tgs fp C s H) tg (C8 i)) (hif:∀ fp C s H,Gi (cxB X scope tgs fp C s H) ifs (tT X.K mc)) (he:∀ fp C s H,RE (cxB X scope tgs fp C s H) elt me)
    (hfin:∀ ι μ μ' H ds vs d (Q:VK),RelH X.K ι μ H->IsL X.K ι μ.length H ds vs->fin ds μ=some (d,μ')->(Aft X.K ι μ H μ' fun ι' H'=>∀ v,Is X.K ι' μ'.length H' d v->Q v H')->vs.length <= sizeLine /\ ∀ p,H p=none->Q (.ref p) (upd H p (.lst vs)))
    (hiN:X.N[k]? = some y:=by rfl) (hy:X.env.scope.names.lookup y=some .local:=by rfl) (hin:i < tgs.length:=by decide) (hn:tgs.length=n:=by rfl)
    (hsw:swapsWith (.ListComp elt [⟨tg,iter,ifs,0⟩] scope pos) (some (.Name y py)) spos.line X.env=pure true:=by rfl) (hs:∀ x,foldedSetIterable iter X.env x=pure x:=by intro _; rfl) (ht:∀ o v,letOwnedTupleGo tg o v=pure ():=by intro _ _; rfl) :
    RS X (.Assign [.Name y py] (.ListComp elt [⟨tg,iter,ifs,0⟩] scope pos) spos) (Aj (B9 n ix src (AL i) mc me fin) (AL k)):=
  RS.wk (IK (te:=tE X.K me) hN hiN hy S hc hi.pe hg (Jh hin) hif (fun fp C s H=>(he fp C s H).pe) hsw hs ht) fun Dn σ H h=>by
    obtain ⟨ι,μ,τ,f,τ',μ',R,S,e,q⟩:=h
    obtain ⟨x,μ1,e1,e⟩:=AE e
    obtain ⟨τ1,μ2,e2,e⟩:=AE e
    cases e2
    cases e
    refine JG hn hfin ⟨ι,μ,τ,x,_,R,S,e1,fun ι1 H1 E1 R1 v i1=>?_⟩
    exact q ι1 H1 E1 R1 _ ((S.ext E1).set k i1)
mutual
def Cl (k:Nat):D->Prop
  | .tup ds=>ClL k ds
  | .lst ds=>ClL k ds
  | .ref n=>n < k
  | _=>True
def ClL (k:Nat):List D->Prop
  | []=>True
  | d :: ds=>Cl k d /\ ClL k ds
end
def ClO (k:Nat):MO->Prop
  | .lst ds=>ClL k ds
  | .dK l=>ClL k (l.map (·.2))
  | .dC l=>ClL k (l.map (·.2))
section
variable {K:PySem.W.Frag} {ι:Nat->Addr} {k k':Nat} {H:Hp}
mutual
theorem Is.down (hk:k <= k'):∀ {d:D} {v:V},Cl k d->Is K ι k' H d v->Is K ι k H d v
  | .non,_,_,h=>by unfold Is at h ⊢; exact h
  | .bl _,_,_,h=>by unfold Is at h ⊢; exact h
  | .int _,_,_,h=>by unfold Is at h ⊢; exact h
  | .str _,_,_,h=>by unfold Is at h ⊢; exact h
  | .ty _,_,_,h=>by unfold Is at h ⊢; exact h
  | .scr _,_,_,h=>by unfold Is at h ⊢; exact h
  | .tup ds,_,c,h=>by
    unfold Is at h ⊢
    obtain ⟨p,vs,e,h1,h2⟩:=h
    exact ⟨p,vs,e,h1,IsL.down hk (by unfold Cl at c; exact c) h2⟩
  | .lst ds,_,c,h=>by
    unfold Is at h ⊢
    obtain ⟨p,vs,e,h1,hn,h2⟩:=h
    exact ⟨p,vs,e,h1,fun n z=>hn n (Nat.lt_of_lt_of_le z hk),IsL.down hk (by unfold Cl at c; exact c) h2⟩
  | .ref n,_,c,h=>by
    unfold Is at h ⊢
    exact ⟨by unfold Cl at c; exact c,h.2⟩
theorem IsL.down (hk:k <= k'):∀ {ds:List D} {vs:List V},ClL k ds->IsL K ι k' H ds vs->IsL K ι k H ds vs
  | [],_,_,h=>by unfold IsL at h ⊢; exact h
  | _ :: _,_,c,h=>by
    unfold IsL at h ⊢
    unfold ClL at c
    obtain ⟨v,vs',e,h1,h2⟩:=h
    exact ⟨v,vs',e,Is.down hk c.1 h1,IsL.down hk c.2 h2⟩
end
mutual
theorem Is.cl:∀ {d:D} {v:V},Is K ι k H d v->Cl k d
  | .non,_,_=>by unfold Cl; trivial
  | .bl _,_,_=>by unfold Cl; trivial
  | .int _,_,_=>by unfold Cl; trivial
  | .str _,_,_=>by unfold Cl; trivial
  | .ty _,_,_=>by unfold Cl; trivial
  | .scr _,_,_=>by unfold Cl; trivial
  | .tup ds,_,h=>by
    unfold Is at h; unfold Cl
    obtain ⟨p,vs,e,h1,h2⟩:=h
    exact IsL.cl h2
  | .lst ds,_,h=>by
    unfold Is at h; unfold Cl
    obtain ⟨p,vs,e,h1,hn,h2⟩:=h
    exact IsL.cl h2
  | .ref n,_,h=>by
    unfold Is at h; unfold Cl
    exact h.1
theorem IsL.cl:∀ {ds:List D} {vs:List V},IsL K ι k H ds vs->ClL k ds
  | [],_,_=>by unfold ClL; trivial
  | _ :: _,_,h=>by
    unfold IsL at h; unfold ClL
    obtain ⟨v,vs',e,h1,h2⟩:=h
    exact ⟨Is.cl h1,IsL.cl h2⟩
end
theorem KVs.cl:∀ {l:List (Key × D)} {r:List (Key × V)},KVs K ι k H l r->ClL k (l.map (·.2))
  | [],_,_=>by unfold List.map ClL; trivial
  | (_,_) :: _,_,h=>by
    obtain ⟨v,r',e,h1,h2⟩:=h
    rw [List.map_cons]
    unfold ClL
    exact ⟨h1.cl,KVs.cl h2⟩
theorem KVs.down (hk:k <= k'):∀ {l:List (Key × D)} {r:List (Key × V)},ClL k (l.map (·.2))->KVs K ι k' H l r->KVs K ι k H l r
  | [],_,_,h=>h
  | (_,_) :: _,_,c,h=>by
    rw [List.map_cons] at c
    unfold ClL at c
    obtain ⟨v,r',e,h1,h2⟩:=h
    exact ⟨v,r',e,h1.down hk c.1,KVs.down hk c.2 h2⟩
theorem Jo:∀ l:List Int,ClL k (l.map D.int)
  | []=>by unfold List.map ClL; trivial
  | _ :: l=>by unfold List.map ClL; exact ⟨by unfold Cl; trivial,Jo l⟩
theorem Jp (c:Nk.Cs):Cl k (csD c):=by
  unfold csD Cl ClL
  refine ⟨by unfold Cl; trivial,?_⟩
  unfold ClL
  refine ⟨by unfold Cl; trivial,?_⟩
  unfold ClL
  exact ⟨by unfold Cl; exact Jo _,by unfold ClL; trivial⟩
theorem CVs.cl:∀ {l:List (Nk.Cs × D)} {r:List (Nk.Cs × Addr × V)},CVs K ι k H l r->ClL k (l.map (·.2))
  | [],_,_=>by unfold List.map ClL; trivial
  | (_,_) :: _,_,h=>by
    obtain ⟨a,v,r',rfl,_,h1,h2⟩:=h
    rw [List.map_cons]
    unfold ClL
    exact ⟨h1.cl,CVs.cl h2⟩
theorem CVs.down (hk:k <= k'):∀ {l:List (Nk.Cs × D)} {r:List (Nk.Cs × Addr × V)},ClL k (l.map (·.2))->CVs K ι k' H l r->CVs K ι k H l r
  | [],_,_,h=>h
  | (_,_) :: _,_,c,h=>by
    rw [List.map_cons] at c
    unfold ClL at c
    obtain ⟨a,v,r',e,h0,h1,h2⟩:=h
    exact ⟨a,v,r',e,h0.down hk (Jp _),h1.down hk c.1,CVs.down hk c.2 h2⟩
theorem ObjIs.cl {p:Addr} {o:MO} {u:HO} (h:ObjIs K ι k H p o u):ClO k o:=by
  cases o with
  | lst ds=>obtain ⟨vs,_,h⟩:=h; exact h.cl
  | dK l=>obtain ⟨r,_,h⟩:=h; exact h.cl
  | dC l=>obtain ⟨r,_,h⟩:=h; exact h.cl
theorem ObjIs.down (hk:k <= k') {p:Addr} {o:MO} {u:HO} (c:ClO k o) (h:ObjIs K ι k' H p o u):ObjIs K ι k H p o u:=by
  cases o with
  | lst ds=>obtain ⟨vs,e,h⟩:=h; exact ⟨vs,e,h.down hk c⟩
  | dK l=>obtain ⟨r,e,h⟩:=h; exact ⟨r,e,h.down hk c⟩
  | dC l=>obtain ⟨r,e,h⟩:=h; exact ⟨r,e,h.down hk c⟩
end
def SM (μ2 μ':Mh) (d' d:D):Prop:=(d'=d /\ Cl μ'.length d) ∨ ∃ n ds,d'=.ref n /\ μ2[n]? = some (.lst ds) /\ μ'.length <= n /\ d=.lst ds /\ ClL μ'.length ds
structure FN (μ μ2 μ':Mh) (d' d:D):Prop where
  grow:∃ g,μ2=μ' ++ g
  le:μ.length <= μ'.length
  old:∀ (n:Nat) (o:MO),μ'[n]? = some o->μ[n]? = some o ∨ ClO μ'.length o
  conv:SM μ2 μ' d' d
def FQ:Fl->D
  | .rt d=>d
  | _=>.non
theorem LJ {K:PySem.W.Frag} {ι ι2:Nat->Addr} {μ μ2 μ':Mh} {H H2:Hp} {d' d:D} (R:RelH K ι μ H) (E:Ext ι μ.length H ι2 μ2.length H2) (R2:RelH K ι2 μ2 H2) (t:FN μ μ2 μ' d' d) :
    Ext ι μ.length H ι2 μ'.length H2 /\ RelH K ι2 μ' H2 /\ ∀ v,Is K ι2 μ2.length H2 d' v->Is K ι2 μ'.length H2 d v:=by
  obtain ⟨⟨g,hg⟩,le,old,conv⟩:=t
  have hle:μ'.length <= μ2.length:=by rw [hg]; simp
  have hget:∀ (n:Nat) (o:MO),μ'[n]? = some o->μ2[n]? = some o:=fun n o e=>by
    rw [hg,List.getElem?_append_left (List.getElem?_eq_some_iff.mp e).1]; exact e
  refine ⟨⟨le,E.agree,fun n h1 h2=>E.fresh n h1 (Nat.lt_of_lt_of_le h2 hle),E.keep,E.was,E.there⟩,⟨fun i j hi hj=>R2.inj i j (Nat.lt_of_lt_of_le hi hle) (Nat.lt_of_lt_of_le hj hle),fun n o e=>?_⟩,fun v iv=>?_⟩
  . obtain ⟨u,q,hq⟩:=R2.obj n o (hget n o e)
    refine ⟨u,q,hq.down hle ?_⟩
    rcases old n o e with z | z
    . obtain ⟨u0,_,h0⟩:=R.obj n o z
      have c:=h0.cl
      cases o with
      | lst ds=>exact clL_mono le c
      | dK l=>exact clL_mono le c
      | dC l=>exact clL_mono le c
    . exact z
  . rcases conv with ⟨rfl,c⟩ | ⟨n,ds,rfl,hn,hle2,rfl,c⟩
    . exact iv.down hle c
    . obtain ⟨u,q,vs,rfl,il⟩:=R2.obj n _ hn
      have hn2:n < μ2.length:=(List.getElem?_eq_some_iff.mp hn).1
      unfold Is at iv ⊢
      refine ⟨ι2 n,vs,iv.2,q,fun m hm z=>?_,il.down hle c⟩
      have:=R2.inj m n (Nat.lt_of_lt_of_le hm hle) hn2 z
      omega
where
  cl_mono {k k':Nat} (h:k <= k'):∀ {d:D},Cl k d->Cl k' d
    | .non,_=>by unfold Cl; trivial
    | .bl _,_=>by unfold Cl; trivial
    | .int _,_=>by unfold Cl; trivial
    | .str _,_=>by unfold Cl; trivial
    | .ty _,_=>by unfold Cl; trivial
    | .scr _,_=>by unfold Cl; trivial
    | .tup ds,c=>by unfold Cl at c ⊢; exact clL_mono h c
    | .lst ds,c=>by unfold Cl at c ⊢; exact clL_mono h c
    | .ref n,c=>by unfold Cl at c ⊢; exact Nat.lt_of_lt_of_le c h
  clL_mono {k k':Nat} (h:k <= k'):∀ {ds:List D},ClL k ds->ClL k' ds
    | [],_=>by unfold ClL; trivial
    | _ :: _,c=>by unfold ClL at c ⊢; exact ⟨cl_mono h c.1,clL_mono h c.2⟩
def Bc (n:Nat) (ds:List D):Sl:=ds.map some ++ List.replicate (n - ds.length) none
theorem RelS.start {K:PySem.W.Frag} {ι:Nat->Addr} {k:Nat} {H:Hp} {N:List Str} {ds:List D} {vs:List V} (i:IsL K ι k H ds vs):RelS K ι k H (Bc N.length ds) (L2.start N vs):=by
  have hl:=i.length
  refine ⟨by simp [Bc,L2.start,hl],fun j d e=>?_⟩
  unfold Bc at e
  unfold L2.start
  rcases Nat.lt_or_ge j ds.length with z | z
  . rw [List.getElem?_append_left (by simpa using z),List.getElem?_map] at e
    rw [List.getElem?_append_left (by simpa [hl] using z),List.getElem?_map]
    cases q:ds[j]? with
    | none=>rw [q] at e; cases e
    | some d0=>
      rw [q] at e
      cases e
      obtain ⟨v,ev,iv⟩:=i.get q
      exact ⟨v,by rw [ev]; rfl,iv⟩
  . rw [List.getElem?_append_right (by simpa using z),List.getElem?_replicate] at e
    split at e <;> cases e
theorem Fy {P:Program} {w:World} {K:PySem.W.Frag} {mg:Str->Option Value} {base:Heap} {x qual:Str} {st:Stmt} {f:Addr} {fd:FuncData} {N ps:List Str} {k n:Nat} {φ:List D->M D} {mb:Sl->M (Fl × Sl)} (F:Fun K x qual st f fd) (S:Ag N ps (AG st)) (hn:ps.length=n:=by rfl)
    (body:∀ (cdv:Value) (A:Around) (outer:List Env) (s:Shared) (H:Hp) (E:XK),Room k (A.deeper (PyProof.Rows.envOfC qual (AG st) s.heap.objs.size f cdv))->RSs (B5 CX0 P w K mg base N qual (AG st) f cdv A outer s H E).nox (Ab st) mb)
    (run:∀ ds μ d μ',φ ds μ=some (d,μ')->∃ fl τ2 μ2,mb (Bc N.length ds) μ=some ((fl,τ2),μ2) /\ (fl=.next ∨ ∃ d,fl=.rt d) /\ FN μ μ2 μ' (FQ fl) d):FnOk P w K mg base CX0 (k + 1) f fd ps (spM K n φ):=by
  refine F.ok S (fun vs H Q E h=>by rw [hn]; exact h.1) (fun cdv A outer s H vs Q E hr h=>⟨_,(body cdv A outer s H E hr).pe,?_⟩)
  obtain ⟨hl,ι,μ,ds,d,μ',R,i,e,q⟩:=h
  obtain ⟨fl,τ2,μ2,e2,hfl,t⟩:=run ds μ d μ' e
  refine ⟨ι,μ,_,fl,τ2,μ2,R,RelS.start i,e2,fun ι2 H2 E2 R2 σ2 S2=>?_⟩
  obtain ⟨E3,R3,c⟩:=LJ R E2 R2 t
  rcases hfl with rfl | ⟨d0,rfl⟩
  . exact q ι2 H2 E3 R3 _ (c _ (by unfold FQ Is; rfl))
  . exact fun v iv=>q ι2 H2 E3 R3 v (c v iv)
end
end Mi
namespace Mi
open PySem L2
def Ba:D->M (List D)
  | .lst ds=>ret ds
  | .scr ns=>ret (ns.map D.int)
  | .ref n=>fun μ=>match μ[n]? with
    | some (.lst ds)=>some (ds,μ)
    | _=>none
  | _=>BL
section
variable {K:PySem.W.Frag} {ι:Nat->Addr} {μ μ':Mh} {H:Hp} {d a b:D} {v x y:V} {ds:List D}
theorem BZ (R:RelH K ι μ H) (i:Is K ι μ.length H d v) (e:Ba d μ=some (ds,μ')):μ'=μ /\ ∃ p vs,v=.ref p /\ SqL K H p vs /\ IsL K ι μ.length H ds vs:=by
  cases d with
  | lst es=>
    cases e
    unfold Is at i
    obtain ⟨p,vs,rfl,h1,hn,h2⟩:=i
    exact ⟨rfl,p,vs,rfl,SqL.of h1,h2⟩
  | scr ns=>
    cases e
    unfold Is at i
    obtain ⟨p,rfl,h1⟩:=i
    exact ⟨rfl,p,_,rfl,h1.sq,IsL.ofInts ns⟩
  | ref n=>
    unfold Is at i
    obtain ⟨hn,rfl⟩:=i
    have e':(match μ[n]? with | some (.lst ds)=>some (ds,μ) | _=>none)=some (ds,μ'):=e
    split at e'
    . rename_i es hq
      cases e'
      obtain ⟨u,h1,vs,rfl,h2⟩:=R.obj n _ hq
      exact ⟨rfl,_,vs,rfl,SqL.of h1,h2⟩
    . cases e'
  | _=>cases e
theorem BR {i:Int} (h:Is K ι μ.length H (.int i) v):v=.int i:=by unfold Is at h; exact h
theorem DI {i:Str} (h:Is K ι μ.length H (.str i) v):v=.str i:=by unfold Is at h; exact h
theorem OZ {i:Bool} (h:Is K ι μ.length H (.bl i) v):v=.bl i:=by unfold Is at h; exact h
theorem IU (h:Is K ι μ.length H .non v):v=.non:=by unfold Is at h; exact h
theorem RY {n:String} (h:Is K ι μ.length H (.ty n) v):v=.ty n:=by unfold Is at h; exact h
theorem ofI {k:Nat} (i:Int):Is K ι k H (.int i) (.int i):=by unfold Is; rfl
theorem ofS {k:Nat} (i:Str):Is K ι k H (.str i) (.str i):=by unfold Is; rfl
theorem ofB {k:Nat} (i:Bool):Is K ι k H (.bl i) (.bl i):=by unfold Is; rfl
theorem ofN {k:Nat}:Is K ι k H .non .non:=by unfold Is; rfl
theorem Er {d:D} {vs:List V} {k:Nat} (h:IsL K ι k H [d] vs):∃ v,vs=[v] /\ Is K ι k H d v:=by
  unfold IsL at h
  obtain ⟨v,vs',rfl,h1,h2⟩:=h
  unfold IsL at h2
  subst h2
  exact ⟨v,rfl,h1⟩
theorem RZ {d d':D} {vs:List V} {k:Nat} (h:IsL K ι k H [d,d'] vs):∃ v v',vs=[v,v'] /\ Is K ι k H d v /\ Is K ι k H d' v':=by
  unfold IsL at h
  obtain ⟨v,vs',rfl,h1,h2⟩:=h
  obtain ⟨v',rfl,h3⟩:=Er h2
  exact ⟨v,v',rfl,h1,h3⟩
theorem QY {i:Int} {vs:List V} {k:Nat} (h:IsL K ι k H ds vs) (e:atI ds i=some d):∃ v,atI vs i=some v /\ Is K ι k H d v:=by
  unfold atI at e ⊢
  rw [h.length]
  cases q:ixN ds.length i with
  | none=>rw [q] at e; cases e
  | some j=>
    rw [q] at e
    exact h.get e
theorem MV {vs:List V} {k:Nat} {lo hi:Option Int} (h:IsL K ι k H ds vs):IsL K ι k H ((ds.drop (HT.sIx ds.length 0 lo)).take (HT.sIx ds.length ds.length hi - HT.sIx ds.length 0 lo)) (HY vs lo hi):=by
  unfold HY
  rw [h.length]
  exact (h.drop _).take _
end
def HP (C:Int->Int->Prop) [∀ i j,Decidable (C i j)] (g:Int->Int->D):D->D->M D
  | .int i,.int j=>fun μ=>if C i j then some (g i j,μ) else none
  | _,_=>BL
def Eb:D->D->M D:=HP (fun _ _=>True) fun i j=>.int (i - j)
def Af:D->D->M D:=HP (fun _ j=>0 < j /\ j < 1073741824) fun i j=>.int (i / j)
def Ah:D->D->M D:=HP (fun _ j=>0 < j) fun i j=>.int (i % j)
def Lj:D->D->M D:=HP (fun i j=>0 <= j /\ j <= 1000000 /\ i.natAbs < 2 ^ 64) fun i j=>.int (i ^ j.toNat)
def NZ:D->D->M D:=HP (fun _ _=>True) fun i j=>.bl (decide (i < j))
def PV:D->D->M D:=HP (fun _ _=>True) fun i j=>.bl (decide (j < i))
def PX:D->D->M D:=HP (fun _ _=>True) fun i j=>.bl (decide (j <= i))
section
variable {X:Cx}
theorem DG {f:Value->Value->Sem Value} {C:Int->Int->Prop} [∀ i j,Decidable (C i j)] {g:Int->Int->D} {gv:Int->Int->V} (hg:∀ i j ι k H,Is X.K ι k H (g i j) (gv i j)) (ho:OpR X f (rI C gv)):OpR X f (rM X.K (HP C g)):=OpR.wk ho fun x y H Q h=>by
  obtain ⟨ι,μ,a,b,d,μ',R,ia,ib,e,q⟩:=h
  cases a with
  | int i=>
    cases b with
    | int j=>
      have e':(if C i j then some (g i j,μ) else none)=some (d,μ'):=e
      split at e'
      . rename_i hc
        cases e'
        exact ⟨i,j,BR ia,BR ib,hc,q ι H R.ext0 R _ (hg i j _ _ _)⟩
      . cases e'
    | _=>cases e
  | _=>cases e
theorem OpR.ofI0 {f:Value->Value->Sem Value} {gv:Int->Int->V} (ho:OpR X f (rI0 gv)):OpR X f (rI (fun _ _=>True) gv):=OpR.wk ho fun x y H Q h=>by
  obtain ⟨i,j,h1,h2,_,q⟩:=h
  exact ⟨i,j,h1,h2,q⟩
theorem JS:OpR X (binaryOp .Sub) (rM X.K Eb):=DG (fun _ _ _ _ _=>ofI _) (OpR.ofI0 Pu)
theorem A2:OpR X (binaryOp .FloorDiv) (rM X.K Af):=DG (fun _ _ _ _ _=>ofI _) Nt
theorem Az:OpR X (binaryOp .Mod) (rM X.K Ah):=DG (fun _ _ _ _ _=>ofI _) P3
theorem RL:OpR X (binaryOp .Pow) (rM X.K Lj):=DG (fun _ _ _ _ _=>ofI _) Pw
theorem RN:OpR X (compareOp .Lt) (rM X.K NZ):=DG (fun _ _ _ _ _=>ofB _) (OpR.ofI0 RD)
theorem SF:OpR X (compareOp .Gt) (rM X.K PV):=DG (fun _ _ _ _ _=>ofB _) (OpR.ofI0 RF)
theorem SG:OpR X (compareOp .GtE) (rM X.K PX):=DG (fun _ _ _ _ _=>ofB _) (OpR.ofI0 RH)
def OP:D->M D
  | .int i=>ret (.int (-i))
  | _=>BL
theorem RM:UnR X (unaryOp .USub) (rM1 X.K OP):=fun pins s σ H x v Q I r h=>by
  obtain ⟨ι,μ,a,d,μ',R,ia,e,q⟩:=h
  cases a with
  | int i=>
    cases e
    have z:=BR ia
    subst z
    exact O4 pins s σ H _ v Q I r ⟨i,rfl,q ι H R.ext0 R _ (ofI _)⟩
  | _=>cases e
def Lk:D->D->M D
  | .int i,.int j=>ret (.int (i + j))
  | .str i,.str j=>bnd (lim (i.length + j.length)) fun _=>ret (.str (i ++ j))
  | .lst a,.lst b=>BW (a ++ b)
  | .tup [],.tup b=>BL
  | .tup (a :: as),.tup b=>Bn (a :: as ++ b)
  | _,_=>BL
theorem RP:OpR X (binaryOp .Add) (rM X.K Lk):=fun pins s σ H x y v u Q I rx ry h=>by
  obtain ⟨ι,μ,a,b,d,μ',R,ia,ib,e,q⟩:=h
  unfold Lk at e
  split at e
  . cases e
    cases BR ia
    cases BR ib
    exact P7 pins s σ H _ _ v u Q I rx ry ⟨_,_,rfl,rfl,q ι H R.ext0 R _ (ofI _)⟩
  . obtain ⟨_,μ1,e1,e2⟩:=AE e
    obtain ⟨hl,rfl⟩:=Bx e1
    cases e2
    cases DI ia
    cases DI ib
    exact IM pins s σ H _ _ v u Q I rx ry ⟨_,_,rfl,rfl,hl,q ι H R.ext0 R _ (ofS _)⟩
  . unfold Is at ia ib
    obtain ⟨p,vs,rfl,h1,hn,h2⟩:=ia
    obtain ⟨p',vs',rfl,h1',hn',h2'⟩:=ib
    obtain ⟨hl,w⟩:=C5 R (h2.append h2') e q
    exact P6 pins s σ H _ _ v u Q I rx ry ⟨p,p',vs,vs',rfl,rfl,h1,h1',by rw [← List.length_append]; exact hl,w⟩
  . cases e
  . rename_i a as bs
    unfold Is at ia ib
    obtain ⟨p,vs,rfl,h1,h2⟩:=ia
    obtain ⟨p',vs',rfl,h1',h2'⟩:=ib
    obtain ⟨hl,w⟩:=JW R (h2.append h2') e q
    refine Nu pins s σ H _ _ v u Q I rx ry ⟨p,p',vs,vs',rfl,rfl,h1,h1',fun z=>?_,by rw [← List.length_append]; exact hl,fun z=>?_,fun _=>w⟩
    . have:=h2.length
      rw [z] at this; cases this
    . subst z
      have hb:bs=[]:=by
        have:=h2'.length
        cases bs with
        | nil=>rfl
        | cons _ _=>cases this
      subst hb
      obtain ⟨_,μ1,e1,e2⟩:=AE e
      obtain ⟨hl,rfl⟩:=Bx e1
      cases e2
      exact q ι H R.ext0 R _ (by unfold Is; exact ⟨p,vs,rfl,h1,by rw [List.append_nil]; exact h2⟩)
  . cases e
def Dx:D->D->M D
  | .int i,.int j=>fun μ=>if (-(2 ^ 64) < i /\ i < 2 ^ 64) ∨ (-(2 ^ 64) < j /\ j < 2 ^ 64) then some (.int (i * j),μ) else none
  | .lst a,.int j=>fun μ=>if -(2 ^ 63) <= j /\ j < 2 ^ 63 /\ a.length * j.toNat <= sizeLine then BW (List.replicate j.toNat a).flatten μ else none
  | _,_=>BL
theorem IsL.rep {K:PySem.W.Frag} {ι:Nat->Addr} {k:Nat} {H:Hp} {ds:List D} {vs:List V} (h:IsL K ι k H ds vs):∀ n:Nat,IsL K ι k H (List.replicate n ds).flatten (List.replicate n vs).flatten
  | 0=>.nil
  | n + 1=>by
    rw [List.replicate_succ,List.replicate_succ,List.flatten_cons,List.flatten_cons]
    exact h.append (IsL.rep h n)
theorem JT:OpR X (binaryOp .Mult) (rM X.K Dx):=fun pins s σ H x y v u Q I rx ry h=>by
  obtain ⟨ι,μ,a,b,d,μ',R,ia,ib,e,q⟩:=h
  unfold Dx at e
  split at e
  . split at e
    . rename_i hc
      cases e
      cases BR ia
      cases BR ib
      exact Py pins s σ H _ _ v u Q I rx ry ⟨_,_,rfl,rfl,hc,q ι H R.ext0 R _ (ofI _)⟩
    . cases e
  . split at e
    . rename_i hc
      cases BR ib
      unfold Is at ia
      obtain ⟨p,vs,rfl,h1,hn,h2⟩:=ia
      obtain ⟨hl,w⟩:=C5 R (h2.rep _) e q
      exact Pv pins s σ H _ _ v u Q I rx ry ⟨p,_,vs,rfl,rfl,h1,hc.1,hc.2.1,by rw [h2.length]; exact hc.2.2,w⟩
    . cases e
  . cases e
mutual
def toP (μ:Mh):D->Option PyData
  | .non=>some .none
  | .bl b=>some (.bool b)
  | .int i=>some (.int i)
  | .str x=>some (.str x)
  | .ty _=>none
  | .scr ns=>some (.list (ns.map PyData.int))
  | .tup ds=>(DB μ ds).map PyData.tuple
  | .lst ds=>(DB μ ds).map PyData.list
  | .ref _=>none
def DB (μ:Mh):List D->Option (List PyData)
  | []=>some []
  | d :: ds=>(toP μ d).bind fun p=>(DB μ ds).map (p :: ·)
end
def Hv (μ:Mh):D->Option PyData
  | .ref n=>match μ[n]? with
    | some (.lst ds)=>(DB μ ds).map PyData.list
    | _=>none
  | d=>toP μ d
section
variable {K:PySem.W.Frag} {ι:Nat->Addr} {μ:Mh} {H:Hp} {k:Nat}
theorem Jm:∀ (ns:List Int),DatVs K H (ns.map V.int) (ns.map PyData.int)
  | []=>.nil
  | n :: r=>.cons (.int n) (Jm r)
mutual
theorem Is.dat:∀ {d:D} {v:V} {p:PyData},Is K ι k H d v->toP μ d=some p->DatV K H v p
  | .non,_,_,h,e=>by unfold Is at h; unfold toP at e; cases e; subst h; exact .non
  | .bl b,_,_,h,e=>by unfold Is at h; unfold toP at e; cases e; subst h; exact .bl b
  | .int b,_,_,h,e=>by unfold Is at h; unfold toP at e; cases e; subst h; exact .int b
  | .str b,_,_,h,e=>by unfold Is at h; unfold toP at e; cases e; subst h; exact .str b
  | .ty b,_,_,h,e=>by unfold toP at e; cases e
  | .scr ns,_,_,h,e=>by
    unfold Is at h; unfold toP at e; cases e
    obtain ⟨p,rfl,h⟩:=h
    exact .lst h.sq (Jm ns)
  | .tup ds,_,_,h,e=>by
    unfold Is at h; unfold toP at e
    obtain ⟨p,vs,rfl,h1,h2⟩:=h
    cases q:DB μ ds with
    | none=>rw [q] at e; cases e
    | some ps=>rw [q] at e; cases e; exact .tup h1 (IsL.dat h2 q)
  | .lst ds,_,_,h,e=>by
    unfold Is at h; unfold toP at e
    obtain ⟨p,vs,rfl,h1,_,h2⟩:=h
    cases q:DB μ ds with
    | none=>rw [q] at e; cases e
    | some ps=>rw [q] at e; cases e; exact .lst (SqL.of h1) (IsL.dat h2 q)
  | .ref n,_,_,h,e=>by unfold toP at e; cases e
theorem IsL.dat:∀ {ds:List D} {vs:List V} {ps:List PyData},IsL K ι k H ds vs->DB μ ds=some ps->DatVs K H vs ps
  | [],_,_,h,e=>by unfold IsL at h; unfold DB at e; cases e; subst h; exact .nil
  | d :: ds,_,_,h,e=>by
    unfold IsL at h; unfold DB at e
    obtain ⟨v,vs',rfl,h1,h2⟩:=h
    cases q:toP μ d with
    | none=>rw [q] at e; cases e
    | some p=>
      rw [q] at e
      cases q2:DB μ ds with
      | none=>rw [q2] at e; cases e
      | some ps=>rw [q2] at e; cases e; exact .cons (Is.dat h1 q) (IsL.dat h2 q2)
end
theorem OD (R:RelH K ι μ H) {d:D} {v:V} {p:PyData} (h:Is K ι μ.length H d v) (e:Hv μ d=some p):DatV K H v p:=by
  cases d with
  | ref n=>
    unfold Is at h
    obtain ⟨_,rfl⟩:=h
    have e':(match μ[n]? with | some (.lst ds)=>(DB μ ds).map PyData.list | _=>none)=some p:=e
    split at e'
    . rename_i ds hq
      obtain ⟨u,h1,vs,rfl,h2⟩:=R.obj n _ hq
      cases q:DB μ ds with
      | none=>rw [q] at e'; cases e'
      | some ps=>rw [q] at e'; cases e'; exact .lst (SqL.of h1) (IsL.dat h2 q)
    . cases e'
  | _=>exact Is.dat (μ:=μ) h e
end
def Ff (neg:Bool) (a b:D):M D:=fun μ=>match Hv μ a,Hv μ b with
  | some p,some q=>if SeqAt.shaped p=true /\ SeqAt.shaped q=true then some (.bl (if neg then !PyData.eqv p q else PyData.eqv p q),μ) else none
  | _,_=>none
def CV:D->D->M D:=Ff false
def D8:D->D->M D:=Ff true
theorem Ec {neg:Bool} {a b d:D} {μ μ':Mh} (e:Ff neg a b μ=some (d,μ')):∃ p q,Hv μ a=some p /\ Hv μ b=some q /\ SeqAt.shaped p=true /\ SeqAt.shaped q=true /\ d=.bl (if neg then !PyData.eqv p q else PyData.eqv p q) /\ μ'=μ:=by
  unfold Ff at e
  split at e
  . rename_i p q e1 e2
    split at e
    . rename_i h
      cases e
      exact ⟨p,q,e1,e2,h.1,h.2,rfl,rfl⟩
    . cases e
  . cases e
theorem D9 {k:Nat} (hr:Room k X.A):OpR X (compareOp .Eq) (rM X.K CV):=OpR.wk (P5 (LU hr)) fun x y H Q h=>by
  obtain ⟨ι,μ,a,b,d,μ',R,ia,ib,e,q⟩:=h
  obtain ⟨p,p',e1,e2,s1,s2,rfl,rfl⟩:=Ec e
  exact ⟨p,p',OD R ia e1,OD R ib e2,s1,s2,q ι H R.ext0 R _ (ofB _)⟩
theorem KW {k:Nat} (hr:Room k X.A):OpR X (compareOp .NotEq) (rM X.K D8):=OpR.wk (Px (LU hr)) fun x y H Q h=>by
  obtain ⟨ι,μ,a,b,d,μ',R,ia,ib,e,q⟩:=h
  obtain ⟨p,p',e1,e2,s1,s2,rfl,rfl⟩:=Ec e
  exact ⟨p,p',OD R ia e1,OD R ib e2,s1,s2,q ι H R.ext0 R _ (ofB _)⟩
def isN:D->Bool
  | .non=>true
  | _=>false
def DS (neg:Bool):D->D->M D
  | a,.non=>ret (.bl (if neg then !isN a else isN a))
  | _,_=>BL
theorem Jc {K:PySem.W.Frag} {ι:Nat->Addr} {k:Nat} {H:Hp} {a:D} {x:V} (h:Is K ι k H a x):decide (x=V.non)=isN a:=by
  cases a with
  | non=>unfold Is at h; subst h; rfl
  | bl b=>unfold Is at h; subst h; rfl
  | int b=>unfold Is at h; subst h; rfl
  | str b=>unfold Is at h; subst h; rfl
  | ty b=>unfold Is at h; subst h; rfl
  | scr ns=>unfold Is at h; obtain ⟨p,rfl,_⟩:=h; rfl
  | tup ns=>unfold Is at h; obtain ⟨p,o,rfl,_⟩:=h; rfl
  | lst ns=>unfold Is at h; obtain ⟨p,o,rfl,_⟩:=h; rfl
  | ref ns=>unfold Is at h; obtain ⟨_,rfl⟩:=h; rfl
theorem KY:OpR X (compareOp .Is) (rM X.K (DS false)):=OpR.wk P4 fun x y H Q h=>by
  obtain ⟨ι,μ,a,b,d,μ',R,ia,ib,e,q⟩:=h
  cases b with
  | non=>cases e; exact ⟨IU ib,by rw [Jc ia]; exact q ι H R.ext0 R _ (ofB _)⟩
  | _=>cases e
theorem EF:OpR X (compareOp .IsNot) (rM X.K (DS true)):=OpR.wk Nr fun x y H Q h=>by
  obtain ⟨ι,μ,a,b,d,μ',R,ia,ib,e,q⟩:=h
  cases b with
  | non=>cases e; exact ⟨IU ib,by rw [Jc ia]; exact q ι H R.ext0 R _ (ofB _)⟩
  | _=>cases e
def Jj:D->Option V
  | .non=>some .non
  | .bl b=>some (.bl b)
  | .int i=>some (.int i)
  | .str x=>some (.str x)
  | _=>none
def DJ:List D->Option (List V)
  | []=>some []
  | d :: ds=>(Jj d).bind fun v=>(DJ ds).map (v :: ·)
section
variable {K:PySem.W.Frag} {ι:Nat->Addr} {H:Hp} {k:Nat}
theorem HV {d:D} {v x:V} (h:Is K ι k H d x) (e:Jj d=some v):x=v /\ C9 v=true:=by
  cases d with
  | non=>cases e; unfold Is at h; exact ⟨h,rfl⟩
  | bl b=>cases e; unfold Is at h; exact ⟨h,rfl⟩
  | int b=>cases e; unfold Is at h; exact ⟨h,rfl⟩
  | str b=>cases e; unfold Is at h; exact ⟨h,rfl⟩
  | _=>cases e
theorem Fz:∀ {ds:List D} {vs xs:List V},IsL K ι k H ds xs->DJ ds=some vs->xs=vs /\ vs.all C9=true
  | [],_,_,h,e=>by cases e; unfold IsL at h; exact ⟨h,rfl⟩
  | d :: ds,_,_,h,e=>by
    unfold IsL at h
    obtain ⟨v,vs',rfl,h1,h2⟩:=h
    unfold DJ at e
    cases q:Jj d with
    | none=>rw [q] at e; cases e
    | some w=>
      rw [q] at e
      cases q2:DJ ds with
      | none=>rw [q2] at e; cases e
      | some ws=>
        rw [q2] at e; cases e
        obtain ⟨rfl,f1⟩:=HV h1 q
        obtain ⟨rfl,f2⟩:=Fz h2 q2
        exact ⟨rfl,by rw [List.all_cons,f1,f2]; rfl⟩
end
def A6:D->M (List D)
  | .tup ds=>ret ds
  | d=>Ba d
theorem Bs {K:PySem.W.Frag} {ι:Nat->Addr} {μ μ':Mh} {H:Hp} {d:D} {v:V} {ds:List D} (R:RelH K ι μ H) (i:Is K ι μ.length H d v) (e:A6 d μ=some (ds,μ')):μ'=μ /\ ∃ p vs,v=.ref p /\ (SqL K H p vs ∨ SqT K H p vs) /\ IsL K ι μ.length H ds vs:=by
  cases d with
  | tup es=>
    cases e
    unfold Is at i
    obtain ⟨p,vs,rfl,h1,h2⟩:=i
    exact ⟨rfl,p,vs,rfl,.inr h1,h2⟩
  | lst es=>obtain ⟨h,p,vs,a,b,c⟩:=BZ R i e; exact ⟨h,p,vs,a,.inl b,c⟩
  | scr es=>obtain ⟨h,p,vs,a,b,c⟩:=BZ R i e; exact ⟨h,p,vs,a,.inl b,c⟩
  | ref es=>obtain ⟨h,p,vs,a,b,c⟩:=BZ R i e; exact ⟨h,p,vs,a,.inl b,c⟩
  | _=>cases e
def Jf (neg:Bool) (a b:D):M D:=bnd (A6 b) fun ds=>fun μ=>match Jj a,DJ ds with
  | some x,some xs=>some (.bl (if neg then !inV x xs else inV x xs),μ)
  | _,_=>none
def Na (neg:Bool):D->D->M D
  | .str i,.str j=>ret (.bl (if neg then !(!(Builtin.Str.occurrences j i 0 j.length 1).isEmpty) else !(Builtin.Str.occurrences j i 0 j.length 1).isEmpty))
  | a,b=>Jf neg a b
theorem PU {K:PySem.W.Frag} {neg:Bool} {x y:V} {H:Hp} {Q:VK} {ι:Nat->Addr} {μ μ':Mh} {a b d:D} (R:RelH K ι μ H) (ia:Is K ι μ.length H a x) (ib:Is K ι μ.length H b y) (e:Jf neg a b μ=some (d,μ')) (q:Aft K ι μ H μ' fun ι' H'=>∀ v,Is K ι' μ'.length H' d v->Q v H'):rIn K neg x y H Q:=by
  obtain ⟨ds,μ1,e1,e2⟩:=AE e
  obtain ⟨hm,p,vs,rfl,h1,h2⟩:=Bs R ib e1
  subst hm
  split at e2
  . rename_i w ws q1 q2
    cases e2
    obtain ⟨rfl,f1⟩:=HV ia q1
    obtain ⟨rfl,f2⟩:=Fz h2 q2
    exact ⟨p,_,rfl,h1,f1,f2,q ι H R.ext0 R _ (ofB _)⟩
  . cases e2
theorem Nx:OpR X (compareOp .NotIn) (rM X.K (Na true)):=fun pins s σ H x y v u Q I rx ry h=>by
  obtain ⟨ι,μ,a,b,d,μ',R,ia,ib,e,q⟩:=h
  unfold Na at e
  split at e
  . cases e
    cases DI ia
    cases DI ib
    exact GR pins s σ H _ _ v u Q I rx ry ⟨_,_,rfl,rfl,q ι H R.ext0 R _ (ofB _)⟩
  . exact GS pins s σ H _ _ v u Q I rx ry (PU R ia ib e q)
def ixD (ds:List D) (i:Int):M D:=fun μ=>(atI ds i).map fun d=>(d,μ)
def BD:D->D->M D
  | .str z,.int i=>fun μ=>if z.length <= sizeLine then (atI z.cps.toList i).map fun c=>(.str ⟨#[c]⟩,μ) else none
  | a,.int i=>bnd (A6 a) fun ds=>ixD ds i
  | _,_=>BL
theorem B4:IxR X (rM X.K BD):=fun va sl pins s σ H x y v u Q I rx ry h hsl=>by
  obtain ⟨ι,μ,a,b,d,μ',R,ia,ib,e,q⟩:=h
  unfold BD at e
  split at e
  . split at e
    . rename_i z i hl
      cases DI ia
      cases BR ib
      cases qq:atI z.cps.toList i with
      | none=>rw [qq] at e; cases e
      | some c=>
        rw [qq] at e; cases e
        exact IT va sl pins s σ H _ _ v u Q I rx ry (.inr (.inr ⟨z,i,c,rfl,rfl,hl,qq,q ι H R.ext0 R _ (ofS _)⟩)) hsl
    . cases e
  . cases BR ib
    obtain ⟨ds,μ1,e1,e2⟩:=AE e
    obtain ⟨hm,p,vs,rfl,h1,h2⟩:=Bs R ia e1
    subst hm
    rename_i i _
    unfold ixD at e2
    cases qq:atI ds i with
    | none=>rw [qq] at e2; cases e2
    | some c=>
      rw [qq] at e2; cases e2
      obtain ⟨w,ew,iw⟩:=QY h2 qq
      rcases h1 with h1 | h1
      . exact IT va sl pins s σ H _ _ v u Q I rx ry (.inl ⟨p,vs,i,w,rfl,rfl,h1,ew,q ι H R.ext0 R _ iw⟩) hsl
      . exact IT va sl pins s σ H _ _ v u Q I rx ry (.inr (.inl ⟨p,vs,i,w,rfl,rfl,h1,ew,q ι H R.ext0 R _ iw⟩)) hsl
  . cases e
def MA:List D->M D
  | [.str z]=>fun μ=>if z.length <= sizeLine then some (.int z.length,μ) else none
  | [.ref n]=>fun μ=>match μ[n]? with
    | some (.lst ds)=>some (.int ds.length,μ)
    | _=>none
  | [d]=>bnd (A6 d) fun ds=>ret (.int ds.length)
  | _=>BL
theorem Oe:A0 X (.builtin "len") (rMA X.K MA):=fun pins s σ H xs us Q I r h=>by
  obtain ⟨ι,μ,as,d,μ',R,ia,e,q⟩:=h
  refine Mb pins s σ H xs us Q I r ?_
  unfold MA at e
  split at e
  . rename_i z
    obtain ⟨v,rfl,i1⟩:=Er ia
    split at e
    . rename_i hl
      cases e
      cases DI i1
      exact ⟨_,_,rfl,⟨hl,rfl⟩,q ι H R.ext0 R _ (ofI _)⟩
    . cases e
  . rename_i n
    obtain ⟨v,rfl,i1⟩:=Er ia
    unfold Is at i1
    obtain ⟨_,rfl⟩:=i1
    split at e
    . rename_i ds hq
      cases e
      obtain ⟨u,h1,vs,rfl,h2⟩:=R.obj n _ hq
      exact ⟨_,_,rfl,.inl ⟨vs,SqL.of h1,rfl⟩,by rw [h2.length]; exact q ι H R.ext0 R _ (ofI _)⟩
    . cases e
  . obtain ⟨v,rfl,i1⟩:=Er ia
    obtain ⟨ds,μ1,e1,e2⟩:=AE e
    obtain ⟨hm,p,vs,rfl,h1,h2⟩:=Bs R i1 e1
    subst hm
    cases e2
    rw [← h2.length] at q
    rcases h1 with h1 | h1
    . exact ⟨_,_,rfl,.inl ⟨vs,h1,rfl⟩,q ι H R.ext0 R _ (ofI _)⟩
    . exact ⟨_,_,rfl,.inr ⟨vs,h1,rfl⟩,q ι H R.ext0 R _ (ofI _)⟩
  . cases e
def FA (ds:List D) (lo hi:Option Int):List D:=(ds.drop (HT.sIx ds.length 0 lo)).take (HT.sIx ds.length ds.length hi - HT.sIx ds.length 0 lo)
def Q4 (lo hi:Option Int):D->M D
  | .tup ds=>if HT.sIx ds.length 0 lo=0 /\ HT.sIx ds.length ds.length hi=ds.length then BL else ret (.tup (FA ds lo hi))
  | d=>bnd (Ba d) fun ds=>ret (.lst (FA ds lo hi))
def rMS (K:PySem.W.Frag):V->Option Int->Option Int->Hp->VK->Prop:=fun x lo hi H Q=>∃ ι μ a d μ',RelH K ι μ H /\ Is K ι μ.length H a x /\ Q4 lo hi a μ=some (d,μ') /\
  Aft K ι μ H μ' fun ι' H'=>∀ v,Is K ι' μ'.length H' d v->Q v H'
theorem MD {K:PySem.W.Frag} {ι:Nat->Addr} {μ:Mh} {H:Hp} {ds:List D} {vs:List V} {Q:VK} (R:RelH K ι μ H) (i:IsL K ι μ.length H ds vs) (q:Aft K ι μ H μ fun ι' H'=>∀ v,Is K ι' μ.length H' (.lst ds) v->Q v H') (p:Addr) (hp:H p=none):Q (.ref p) (upd H p (.lst vs)):=by
  obtain ⟨E1,R1⟩:=R.laid (.lst vs) hp
  have ho:∀ n,n < μ.length->ι n ≠ p:=fun n hn z=>by
    obtain ⟨o,e,_⟩:=R.muts n hn
    rw [z,hp] at e; cases e
  exact q ι _ E1 R1 _ (by unfold Is; exact ⟨p,vs,rfl,AW,ho,i.ext E1⟩)
theorem MC {K:PySem.W.Frag} {ι:Nat->Addr} {μ:Mh} {H:Hp} {ds:List D} {vs:List V} {Q:VK} (R:RelH K ι μ H) (i:IsL K ι μ.length H ds vs) (q:Aft K ι μ H μ fun ι' H'=>∀ v,Is K ι' μ.length H' (.tup ds) v->Q v H') (p:Addr) (hp:H p=none):Q (.ref p) (upd H p (.tup vs)):=by
  obtain ⟨E1,R1⟩:=R.laid (.tup vs) hp
  exact q ι _ E1 R1 _ (by unfold Is; exact ⟨p,vs,rfl,SqT.of AW,i.ext E1⟩)
theorem SE:SlR X (rMS X.K):=fun pins s σ H x v vl vu lo hi sl Q I rx hs pl pu h=>by
  obtain ⟨ι,μ,a,d,μ',R,ia,e,q⟩:=h
  refine (SlR.or NQ O9) pins s σ H x v vl vu lo hi sl Q I rx hs pl pu ?_
  unfold Q4 at e
  split at e
  . rename_i ds
    unfold Is at ia
    obtain ⟨p,vs,rfl,h1,h2⟩:=ia
    split at e
    . cases e
    . rename_i hc
      cases e
      exact .inr ⟨p,vs,rfl,h1,by rw [h2.length]; exact hc,fun p hp=>MC R (MV h2) q p hp⟩
  . obtain ⟨ds,μ1,e1,e2⟩:=AE e
    obtain ⟨hm,p,vs,rfl,h1,h2⟩:=BZ R ia e1
    subst hm
    cases e2
    exact .inl ⟨p,vs,rfl,h1,fun p hp=>MD R (MV h2) q p hp⟩
def Ej:Sl->M (Option Int):=fun _=>ret none
def asI:D->M (Option Int)
  | .int i=>ret (some i)
  | _=>BL
def HK (m:Sl->M D):Sl->M (Option Int):=fun τ=>bnd (m τ) asI
def tPt (K:PySem.W.Frag) (m:Sl->M (Option Int)):TO:=fun σ H Q=>∃ ι μ τ b μ',RelH K ι μ H /\ RelS K ι μ.length H τ σ /\ m τ μ=some (b,μ') /\ Aft K ι μ H μ' fun _ H'=>Q b H'
structure RO (X:Cx) (e:Option Expr) (m:Sl->M (Option Int)):Prop where
  pe:PO X e (tPt X.K m)
theorem PO.wk {e:Option Expr} {t t':TO} (h:PO X e t) (w:∀ σ H Q,t' σ H Q->t σ H Q):PO X e t':=fun pins s σ H Q I q=>h pins s σ H Q I (w σ H Q q)
theorem RO.wk {e:Option Expr} {m:Sl->M (Option Int)} {t:TO} (h:PO X e t) (w:∀ σ H Q,tPt X.K m σ H Q->t σ H Q):RO X e m:=⟨PO.wk h w⟩
theorem GN:RO X none Ej:=RO.wk Ni fun σ H Q h=>by
  obtain ⟨ι,μ,τ,b,μ',R,S,e,q⟩:=h
  cases e
  exact q ι H R.ext0 R
theorem GM {e:Expr} {m:Sl->M D} (h:RE X e m):RO X (some e) (HK m):=RO.wk (Nh h.pe) fun σ H Q h=>by
  obtain ⟨ι,μ,τ,b,μ',R,S,e,q⟩:=h
  obtain ⟨x,μ1,e1,e⟩:=AE e
  refine ⟨ι,μ,τ,x,μ1,R,S,e1,fun ι1 H1 E1 R1 v i1=>?_⟩
  cases x with
  | int i=>cases e; exact ⟨i,BR i1,q ι1 H1 E1 R1⟩
  | _=>cases e
def tyD (μ:Mh):D->Option String
  | .non=>some "NoneType"
  | .bl _=>some "bool"
  | .int _=>some "int"
  | .str _=>some "str"
  | .tup _=>some "tuple"
  | .lst _=>some "list"
  | .scr _=>none
  | .ref n=>match μ[n]? with
    | some (.lst _)=>some "list"
    | some (.dK _)=>some "dict"
    | some (.dC _)=>none
    | none=>none
  | .ty _=>none
def Fm (t T:String):Option Bool:=
  if t ∈ ["NoneType", "bool", "int", "str", "tuple", "list", "dict"] /\ T ∈ ["bool", "int", "str", "tuple", "list", "dict"] then some (t == T || (t == "bool" && T == "int")) else none
theorem N2 {K:PySem.W.Frag} {t T:String} {b:Bool} (h:Fm t T=some b):PySem.W.kitOne K (.type t) (.type T)=some b:=by
  unfold Fm at h
  split at h
  . rename_i hm
    obtain ⟨h1,h2⟩:=hm
    simp only [List.mem_cons,List.not_mem_nil,or_false] at h1 h2
    rcases h1 with rfl | rfl | rfl | rfl | rfl | rfl | rfl <;> rcases h2 with rfl | rfl | rfl | rfl | rfl | rfl <;> (cases h; kernel_rfl)
  . cases h
def Fq:List D->M D
  | [a,.ty T]=>fun μ=>match tyD μ a with
    | some t=>(Fm t T).map fun b=>(.bl b,μ)
    | none=>none
  | _=>BL
theorem QW:A0 X (.builtin "isinstance") (rMA X.K Fq):=fun pins s σ H xs us Q I r h=>by
  obtain ⟨ι,μ,as,d,μ',R,ia,e,q⟩:=h
  unfold Fq at e
  split at e
  . rename_i a T
    obtain ⟨v,v',rfl,i1,i2⟩:=RZ ia
    cases RY i2
    split at e
    . rename_i t ht
      cases hk:Fm t T with
      | none=>rw [hk] at e; cases e
      | some b=>
        rw [hk] at e; cases e
        have kit:=N2 (K:=X.K) hk
        have fin:=q ι H R.ext0 R _ (ofB b)
        have byTy:Db X.K H v (.type t)->wpAny (model X.prog X.w) X.A (call (.builtin "isinstance") us) (EP X pins σ Q) X.xe s:=fun ty=>
          Hi pins s σ H _ us Q I r ⟨v,T,_,b,rfl,ty,kit,fin⟩
        cases a with
        | non=>cases ht; cases IU i1; exact byTy .non
        | bl x=>cases ht; cases OZ i1; exact byTy (.bl x)
        | int x=>cases ht; cases BR i1; exact byTy (.int x)
        | str x=>cases ht; cases DI i1; exact byTy (.str x)
        | ty n=>cases ht
        | lst ds=>cases ht; unfold Is at i1; obtain ⟨p,vs,rfl,h1,_⟩:=i1; exact byTy (.lst h1)
        | scr ns=>cases ht
        | ref n=>
          unfold Is at i1
          obtain ⟨_,rfl⟩:=i1
          have ht:(match μ[n]? with | some (.lst _)=>some "list" | some (.dK _)=>some "dict" | some (.dC _)=>none | none=>none)=some t:=ht
          split at ht
          . rename_i ds hq; cases ht; obtain ⟨u,h1,vs,rfl,h2⟩:=R.obj n _ hq; exact byTy (.lst h1)
          . rename_i ds hq; cases ht; obtain ⟨u,h1,vs,rfl,h2⟩:=R.obj n _ hq; exact byTy (.dK h1)
          . cases ht
          . cases ht
        | tup ds=>
          cases ht
          unfold Is at i1
          obtain ⟨p,vs,rfl,h1,h2⟩:=i1
          obtain ⟨its,_,⟨o,g1,g2,_⟩,_⟩:=I.tuple h1
          obtain ⟨u1,u2,rfl,r1,r2⟩:=Vals.two r
          cases r1
          cases r2
          exact PySem.W.kia_one PySem.W.kitx_tuple I.kIn ⟨o,g1,g2⟩ kit (fun z=>nomatch z) fun tk=>⟨.bl b,H,I.tok _,rfl,fin⟩
    . cases e
  . cases e
def N9:List D->M D
  | [.int i]=>ret (.int i)
  | [.bl b]=>ret (.int (if b then 1 else 0))
  | _=>BL
theorem Rk:A0 X (.type "int") (rMA X.K N9):=fun pins s σ H xs us Q I r h=>by
  obtain ⟨ι,μ,as,d,μ',R,ia,e,q⟩:=h
  refine Kp pins s σ H xs us Q I r ?_
  unfold N9 at e
  split at e
  . obtain ⟨v,rfl,i1⟩:=Er ia; cases e; cases BR i1; exact .inl ⟨_,rfl,q ι H R.ext0 R _ (ofI _)⟩
  . obtain ⟨v,rfl,i1⟩:=Er ia; cases e; cases OZ i1; exact .inr ⟨_,rfl,q ι H R.ext0 R _ (ofI _)⟩
  . cases e
def BO:List D->M D
  | [.tup ds]=>ret (.tup ds)
  | [d]=>bnd (Ba d) fun ds=>ret (.tup ds)
  | _=>BL
theorem CY:A0 X (.type "tuple") (rMA X.K BO):=fun pins s σ H xs us Q I r h=>by
  obtain ⟨ι,μ,as,d,μ',R,ia,e,q⟩:=h
  unfold BO at e
  split at e
  . obtain ⟨v,rfl,i1⟩:=Er ia
    cases e
    have i2:=i1
    unfold Is at i1
    obtain ⟨p,vs,rfl,h1,h2⟩:=i1
    exact Hf pins s σ H _ us Q I r ⟨p,vs,rfl,h1,q ι H R.ext0 R _ i2⟩
  . obtain ⟨v,rfl,i1⟩:=Er ia
    obtain ⟨ds,μ1,e1,e2⟩:=AE e
    obtain ⟨hm,p,vs,rfl,h1,h2⟩:=BZ R i1 e1
    subst hm
    cases e2
    obtain ⟨u,rfl,ru⟩:=Vals.one r
    cases ru
    obtain ⟨its,rv,pl,hz⟩:=I.list h1
    refine PySem.call_tuple_list pl.isList (fun h' hk=>?_) (by rw [List.size_toArray,← rv.length]; exact hz)
    have I1:Inv X pins σ H { s with heap:=h' }:=I.kept (t':=s.toks) hk
    have I2:Inv X pins σ (upd H h'.objs.size (.tup vs)) { s with heap:=h'.push { cls:=.type "tuple",data:=.seq its.toArray } }:=I1.laid (t':=s.toks) (o:=.tup vs) (fun b ob q=>Heap.get?_push_of_some _ q) (Nat.le_refl _) ⟨hz,its,rv,PyProof.Rows.IsTup.new _ _⟩
    exact ⟨.ref h'.objs.size,_,I2,rfl,MC R h2 q _ (I1.hok.fresh (Nat.le_refl _))⟩
  . cases e
end
end Mi
namespace Mi
open PySem L2
section
variable {X:Cx} {e a b c o i f tg:Expr} {es:List Expr} {pos apos cpos:Pos}
theorem NX {x:Str} {n:String} (hm:X.mg x=none) (hv:bootBuiltins x=some (.type n)) (hg:Gl X x:=by rfl) (hn:x ≠ "__name__" := by decide) (hdb:(x == ("__debug__" : Str))=false:=by decide):RE X (.Name x pos) (mC (.ty n)):=
  LZ (t:=fun _ _ _=>True) (Np (v:=.ty n) hg hm hv rfl hn hdb) fun _ _ _=>by unfold Is; rfl
def Cz (d:D):M Unit:=bnd (Ba d) fun _=>ret ()
def CG (g:D->List D->M D) (mo:Sl->M D) (ma:Sl->M (List D)):Sl->M D:=fun τ=>bnd (mo τ) fun x=>bnd (Cz x) fun _=>bnd (ma τ) fun xs=>g x xs
def rMM (K:PySem.W.Frag) (g:D->List D->M D):V->List V->Hp->VK->Prop:=fun x xs H Q=>∃ ι μ a as d μ',RelH K ι μ H /\ Is K ι μ.length H a x /\ IsL K ι μ.length H as xs /\ g a as μ=some (d,μ') /\
  Aft K ι μ H μ' fun ι' H'=>∀ v,Is K ι' μ'.length H' d v->Q v H'
theorem D3 {K:PySem.W.Frag} {ι:Nat->Addr} {μ μ':Mh} {H:Hp} {d:D} {v:V} {u:Unit} (R:RelH K ι μ H) (i:Is K ι μ.length H d v) (e:Cz d μ=some (u,μ')):μ'=μ /\ tyV K "list" v H:=by
  obtain ⟨ds,μ1,e1,ee1⟩:=AE e
  cases ee1
  obtain ⟨hm,p,vs,rfl,h1,h2⟩:=BZ R i e1
  exact ⟨hm,.inl ⟨rfl,vs,h1⟩⟩
theorem Fs {μ μ':Mh} {d:D} {u:Unit} (e:Cz d μ=some (u,μ')):μ'=μ:=by
  obtain ⟨ds,μ1,e1,ee1⟩:=AE e
  cases ee1
  cases d with
  | lst _=>cases e1; rfl
  | scr _=>cases e1; rfl
  | ref n=>
    have e1:(match μ[n]? with | some (.lst ds)=>some (ds,μ) | _=>none)=some (ds,μ'):=e1
    split at e1
    . cases e1; rfl
    . cases e1
  | _=>cases e1
theorem LK {K:PySem.W.Frag} {g:D->List D->M D} {mo:Sl->M D} {ma:Sl->M (List D)} {σ:St} {H:Hp} {Q:VK} (h:tE K (CG g mo ma) σ H Q):tBM K "list" (rMM K g) (tE K mo) (tL K ma) σ H Q:=by
  obtain ⟨ι,μ,τ,d,μ',R,S,e,q⟩:=h
  obtain ⟨x,μ1,e1,ee1⟩:=AE e
  obtain ⟨u,μ2,e2,ee2⟩:=AE ee1
  obtain ⟨as,μ3,e3,ee3⟩:=AE ee2
  have hm:=Fs e2
  subst hm
  refine ⟨ι,μ,τ,x,_,R,S,e1,fun ι1 H1 E1 R1 v1 i1=>⟨(D3 R1 i1 e2).2,?_⟩⟩
  refine ⟨ι1,_,τ,as,μ3,R1,S.ext E1,e3,fun ι2 H2 E2 R2 vs i2=>?_⟩
  exact ⟨ι2,μ3,x,as,d,μ',R2,i1.ext E2,i2,ee3,fun ι3 H3 E3 R3=>q ι3 H3 ((E1.trans E2).trans E3) R3⟩
theorem Cj {name:Str} {id:String} {g:D->List D->M D} {mo:Sl->M D} {ma:Sl->M (List D)} (slot:Slot "list" name id) (hty:typeOf (.builtin id)=pure (.type "method_descriptor")) (hm:MtR X id (rMM X.K g)) (ho:RE X o mo) (ha:RA X (e :: es) ma)
    (hbase:attributeBase o name X.env (eval o X.env)=eval o X.env:=by rfl)
    (hfew:((backTo cpos (starEach (e :: es) X.env)).all (fun x=>!x.1) && (backToKw cpos (keywordEach [] X.env)).all (fun x=>x.1.isSome)
      && decide ((e :: es).length + ([]:List Keyword).length + (if ([]:List Keyword).isEmpty then 0 else 1) < 30))=true:=by rfl)
    (hline:(apos.endLine == cpos.line)=true:=by rfl) (hs:starEach (e :: es) X.env=(false,eval e X.env) :: starEach es X.env:=by exact AR rfl) (hplain:(backTo cpos (starEach es X.env)).any (·.1)=false:=by exact BH rfl) :
    RE X (.Call (.Attribute o name apos) (e :: es) [] cpos) (CG g mo ma):=RE.wk (Q9 PySem.F.plainAttrs_list slot hty hm ho.pe ha.pe hbase hfew hline hs hplain) fun _ _ _ h=>LK h
def Gq (n:Nat) (k:List D->Option (D × List D)):M D:=fun μ=>match μ[n]? with
  | some (.lst ds)=>(k ds).map fun r=>(r.1,μ.set n (.lst r.2))
  | _=>none
theorem Fa {n:Nat} {k:List D->Option (D × List D)} {μ μ':Mh} {d:D} (e:Gq n k μ=some (d,μ')):∃ ds es,μ[n]? = some (.lst ds) /\ k ds=some (d,es) /\ μ'=μ.set n (.lst es):=by
  unfold Gq at e
  split at e
  . rename_i ds hq
    cases hk:k ds with
    | none=>rw [hk] at e; cases e
    | some r=>rw [hk] at e; cases e; exact ⟨ds,r.2,hq,hk,rfl⟩
  . cases e
theorem JA {K:PySem.W.Frag} {ι:Nat->Addr} {μ:Mh} {H:Hp} {n:Nat} {d:D} {es:List D} {ws:List V} {v:V} {Q:VK} {ds:List D} (R:RelH K ι μ H) (hn:μ[n]? = some (.lst ds)) (iw:IsL K ι μ.length H es ws) (iv:Is K ι μ.length H d v)
    (q:Aft K ι μ H (μ.set n (.lst es)) fun ι' H'=>∀ v,Is K ι' (μ.set n (.lst es)).length H' d v->Q v H'):Q v (upd H (ι n) (.lst ws)):=by
  have hlt:n < μ.length:=(List.getElem?_eq_some_iff.mp hn).1
  obtain ⟨E1,R1⟩:=R.changed (m:=.lst es) (o:=.lst ws) hlt ⟨ws,rfl,iw⟩
  exact q ι _ E1 R1 v (iv.ext E1)
def Gg:D->List D->M D
  | .ref n,[d]=>Gq n fun ds=>if ds.length < sizeLine then some (.non,ds ++ [d]) else none
  | _,_=>BL
theorem Cq:MtR X "list.append" (rMM X.K Gg):=fun pins s σ H x xs v us Q I rx rs h=>by
  obtain ⟨ι,μ,a,as,d,μ',R,ia,ib,e,q⟩:=h
  unfold Gg at e
  split at e
  . rename_i n y
    obtain ⟨ds,es,h1,h2,rfl⟩:=Fa e
    split at h2
    . rename_i hl
      cases h2
      obtain ⟨w,rfl,iw⟩:=Er ib
      unfold Is at ia
      obtain ⟨_,rfl⟩:=ia
      obtain ⟨u,g1,vs,rfl,g2⟩:=R.obj n _ h1
      exact Kc pins s σ H _ _ v us Q I rx rs ⟨_,vs,w,rfl,rfl,g1,by rw [g2.length]; exact hl,JA R h1 (g2.append (.one iw)) ofN q⟩
    . cases h2
  . cases e
section
variable {K:PySem.W.Frag} {ι:Nat->Addr} {k:Nat} {H:Hp}
end
def Ge:List D->Option (List Bool)
  | []=>some []
  | .bl b :: ds=>(Ge ds).map (b :: ·)
  | _=>none
theorem Jr {K:PySem.W.Frag} {ι:Nat->Addr} {k:Nat} {H:Hp}:∀ {ds:List D} {vs:List V} {bs:List Bool},IsL K ι k H ds vs->Ge ds=some bs->vs=bs.map V.bl
  | [],_,_,h,e=>by cases e; unfold IsL at h; exact h
  | .bl b :: ds,_,_,h,e=>by
    unfold IsL at h
    obtain ⟨v,vs',rfl,h1,h2⟩:=h
    unfold Ge at e
    cases q:Ge ds with
    | none=>rw [q] at e; cases e
    | some bs=>
      rw [q] at e; cases e
      unfold Is at h1
      rw [h1,Jr h2 q]; rfl
  | .non :: _,_,_,_,e=>by cases e
  | .int _ :: _,_,_,_,e=>by cases e
  | .str _ :: _,_,_,_,e=>by cases e
  | .ty _ :: _,_,_,_,e=>by cases e
  | .scr _ :: _,_,_,_,e=>by cases e
  | .tup _ :: _,_,_,_,e=>by cases e
  | .lst _ :: _,_,_,_,e=>by cases e
  | .ref _ :: _,_,_,_,e=>by cases e
def OJ:List D->M D
  | [.lst ds]=>fun μ=>(Ge ds).map fun bs=>(.bl (bs.all id),μ)
  | _=>BL
theorem Rl (hc:X.calm=true):A0 X (.builtin "all") (rMA X.K OJ):=fun pins s σ H xs us Q I r h=>by
  obtain ⟨ι,μ,as,d,μ',R,ia,e,q⟩:=h
  refine Kq hc pins s σ H xs us Q I r ?_
  unfold OJ at e
  split at e
  . rename_i ds
    cases hb:Ge ds with
    | none=>rw [hb] at e; cases e
    | some bs=>
      rw [hb] at e; cases e
      obtain ⟨v,rfl,i1⟩:=Er ia
      unfold Is at i1
      obtain ⟨p,vs,rfl,h1,_,h2⟩:=i1
      exact ⟨p,bs,rfl,SqL.of (by rw [← Jr h2 hb]; exact h1),q ι H R.ext0 R _ (ofB _)⟩
  . cases e
end
end Mi
namespace Mi
open PySem L2
theorem FI:bootBuiltins "len" = some (.builtin "len"):=by decide +kernel
theorem EB:bootBuiltins "isinstance" = some (.builtin "isinstance"):=by decide +kernel
theorem Mf:bootBuiltins "all" = some (.builtin "all"):=by decide +kernel
theorem Me:bootBuiltins "int" = some (.type "int"):=by decide +kernel
theorem Ks:bootBuiltins "bool" = some (.type "bool"):=by decide +kernel
theorem A5:bootBuiltins "tuple" = some (.type "tuple"):=by decide +kernel
theorem Kr:bootBuiltins "list" = some (.type "list"):=by decide +kernel
theorem FH:bootBuiltins "set" = some (.type "set"):=by decide +kernel
structure Fn (P:Program) (w:World) (K:PySem.W.Frag) (mg:Str->Option Value) (base:Heap) (x:Str) (ps:List Str) (k:Nat) (φ:List D->M D):Prop where
  len:∀ ds μ r,φ ds μ=some r->ds.length=ps.length
  ex:∃ f fd,FnOk P w K mg base CX0 k f fd ps (spM K ps.length φ) /\ mg x=some (.ref f) /\ PySem.W.keepIn K (.ref f)=true /\ Binds K fd ps []
section
variable {X:Cx} {e:Expr} {es:List Expr} {pos p:Pos}
theorem Bh {x:Str} {ps:List Str} {k j:Nat} {φ:List D->M D} {m:Sl->M (List D)} (F:Fn X.prog X.w X.K X.mg X.base x ps k φ) (hr:Room j X.A) (ha:RA X (e :: es) m) (hkj:k <= j:=by decide) (hg:Gl X x:=by rfl) (hdb:(x == ("__debug__" : Str))=false:=by decide)
    (he:starEach (e :: es) X.env=(false,eval e X.env) :: starEach es X.env:=by exact AR rfl) (hpl:(backTo pos (starEach es X.env)).any (·.1)=false:=by exact BH rfl):RE X (.Call (.Name x p) (e :: es) [] pos) (AJ φ m):=by
  obtain ⟨len,f,fd,F,hm,hk,hb⟩:=F
  exact NW F (hr.mono hkj) hm hk hb len ha hg hdb he hpl
end
theorem QQ {P:Program} {w:World} {K:PySem.W.Frag} {mg:Str->Option Value} {base:Heap} {x qual:Str} {st:Stmt} {f:Addr} {fd:FuncData} {N ps:List Str} {k:Nat} {φ:List D->M D} {mb:Sl->M (Fl × Sl)} (F:Fun K x qual st f fd) (S:Ag N ps (AG st)) (hm:mg x=some (.ref f)) (hb:Binds K fd ps [])
    (body:∀ (cdv:Value) (A:Around) (outer:List Env) (s:Shared) (H:Hp) (E:XK),Room k (A.deeper (PyProof.Rows.envOfC qual (AG st) s.heap.objs.size f cdv))->RSs (B5 CX0 P w K mg base N qual (AG st) f cdv A outer s H E).nox (Ab st) mb)
    (len:∀ ds μ r,φ ds μ=some r->ds.length=ps.length)
    (run:∀ ds μ d μ',φ ds μ=some (d,μ')->∃ fl τ2 μ2,mb (Bc N.length ds) μ=some ((fl,τ2),μ2) /\ (fl=.next ∨ ∃ d,fl=.rt d) /\ FN μ μ2 μ' (FQ fl) d):Fn P w K mg base x ps (k + 1) φ:=
  ⟨len,f,fd,Fy F S rfl body run,hm,F.kp,hb⟩
theorem Hw {μ g:Mh} {d:D} (h:Cl μ.length d):FN μ (μ ++ g) μ d d:=⟨⟨g,rfl⟩,Nat.le_refl _,fun _ _ e=>.inl e,.inl ⟨rfl,h⟩⟩
end Mi
namespace Mi
open PySem L2
section
variable {X:Cx} {e a b c o i:Expr} {es:List Expr} {pos p apos cpos:Pos}
end
end Mi
namespace L2
open PySem PySem.Spec PyProof.Rows Sem
section
variable {prog:Program} {w:World} {A:Around} {E:Value->Shared->Prop} {s:Shared}
theorem BF {M:Model} {A:Around} {α:Type} {c:Prop} [Decidable c] {a b:Sem α} {Q:α->Shared->Prop} {E:Value->Shared->Prop} {s:Shared} (h : ¬ c) (hb:wpAny M A b Q E s):wpAny M A (if c then a else b) Q E s:=by
  rw [if_neg h]; exact hb
theorem Gr {it t:Addr} {i:Nat} {items:Array Value} {Q:Value->Shared->Prop} (hh:A.handled=none) (hit:s.heap.IsTupleIter it t i) (ht:s.heap.IsTuple t items)
    (more:∀ x h',items[i]? = some x->h'.IsTupleIter it t (i + 1)->Heap.SameBut it s.heap h'->Q x { s with heap:=h' })
    (over:items[i]? = none->∀ h' e,Heap.ExtBut it s.heap h'->(∃ o,h'.get? e=some o /\ o.cls=.type "StopIteration")->E (.ref e) { s with heap:=h' }) :
    wpAny (model prog w) A (Builtin.SmallTypes.nextOf (.ref it)) Q E s:=by
  have ty:=hit.typeIs
  obtain ⟨o,at_it,hc,hd⟩:=hit
  obtain ⟨ot,at_t,_,n,hdt⟩:=ht
  have put:∀ (k:Nat) (v:Value),(s.heap.update it (Obj.mapFields (fun fs=>fs.set! k v))).get? it=some (Obj.mapFields (fun fs=>fs.set! k v) o):=fun k v=>Heap.get?_update_self _ at_it (Obj.isFreed_of_fields (Obj.data_mapFields hd _))
  unfold Builtin.SmallTypes.nextOf
  refine wpAny_bind (wpAny_callSpecial?_slot ty F.slot_tuple_iterator_next (wpAny_call_entry F.slot_tuple_iterator_next ty F.entry_tuple_iterator_next ?_ (F.args_tuple_iterator_next_1 _)))
  have notNone : ¬ (Value.ref t == Value.none)=true:=Bool.false_ne_true
  refine wpAny_bind (m:=field (.ref it) 0) (wpAny_field at_it hd (x:=.ref t) rfl ?_)
  refine BF notNone ?_
  refine wpAny_bind (m:=field (.ref it) 1) (wpAny_field at_it hd (x:=.int i 0) rfl (wpAny_bind (m:=seqItems? (.ref t)) (wpAny_seqItems at_t hdt ?_)))
  have ei:((i:Int)).toNat=i:=Int.toNat_natCast i
  cases hx:items[i]? with
  | some x=>
    dsimp only
    rw [ei,hx]
    refine wpAny_bind (wpAny_setField at_it hd (by simp) (wpAny_pure ⟨x,rfl,wpAny_pure (more x _ hx ⟨_,put _ _,?_,?_⟩ (Heap.SameBut.update ..))⟩))
    . exact (Obj.cls_mapFields ..).trans hc
    . rw [Obj.data_mapFields hd]
      rfl
  | none=>
    dsimp only
    rw [ei,hx]
    refine wpAny_bind (wpAny_rule (wpAny_bind (wpAny_setField at_it hd (by simp) ?_)))
    have first:firstArgMember (.type "StopIteration") []=pure Value.none:=by first | rfl | (unfold firstArgMember; rfl)
    unfold Builtin.SmallTypes.stopIteration newExc newTuple
    refine wpAny_bind (wpAny_bind (wpAny_newObj_type (wpAny_bind (wpAny_of_eq first (wpAny_newObj_type (wpAny_raiseNew_none hh ?_) (by size_fits)))) (by size_fits)))
    exact over hx _ _ (((Heap.SameBut.update ..).extBut.push _).push _) ⟨_,Heap.get?_push_size _ rfl,rfl⟩
theorem F0 (hh:A.handled=none) (it t:Addr) (hne:t ≠ it) (items:Array Value) :
    Draws prog w A it [it,t] items.size (fun i v=>items[i]? = some v) (fun i h=>h.IsTupleIter it t i /\ h.IsTuple t items):=by
  refine ⟨fun i h st=>?_,fun i h h' st k=>⟨?_,?_⟩,fun i s Q E hi st q=>?_,fun s Q E st q=>?_⟩
  . obtain ⟨⟨o,e,_⟩,_⟩:=st
    exact ⟨o,e⟩
  . obtain ⟨⟨o,e,r⟩,_⟩:=st
    exact ⟨o,k it (by simp) o e,r⟩
  . obtain ⟨_,⟨o,e,r⟩⟩:=st
    exact ⟨o,k t (by simp) o e,r⟩
  . exact Gr hh st.1 st.2 (fun x h' hx st' sb=>q x h' s.toks hx ⟨st',st.2.extBut sb.extBut hne⟩ sb) fun no=>absurd no (by simp [hi])
  . exact Gr hh st.1 st.2 (fun x h' hx=>absurd hx (by simp)) fun _ h' e eb so=>q h' e eb so
end
end L2
namespace L2
open PySem PySem.Spec PyProof.Rows
section
variable {X:Cx} {es:List Expr} {k0:Nat} {tpos:Pos}
end
end L2
namespace Mi
open PySem L2
section
variable {X:Cx} {a:Expr} {es:List Expr} {pos:Pos}
end
end Mi
namespace L2
open PySem PySem.Spec PyProof.Rows Sem
def TwoAt (h:Heap) (T:Addr) (a b:Value):Prop:=∃ n,h.get? T=some { cls:=.type "tuple",data:=.seq #[a,b] n }
abbrev BU (TI TO:Addr) (f0:Value):Obj:={ cls:=.type "zip",data:=.fields #[f0,.bool false,.bool false,.ref TI,.ref TO] }
theorem TwoAt.keep {h h':Heap} {T:Addr} {a b:Value} (x:TwoAt h T a b) (k:∀ o,h.get? T=some o->h'.get? T=some o):TwoAt h' T a b:=by
  obtain ⟨n,e⟩:=x
  exact ⟨n,k _ e⟩
section
variable {prog:Program} {w:World} {A:Around} {E:Value->Shared->Prop} {s:Shared}
theorem JB {T:Addr} {a b x c d:Value} {k:Nat} {Q:Unit->Shared->Prop} (t:TwoAt s.heap T a b) (sh:(#[a,b]:Array Value).setIfInBounds k x = #[c,d]) (h:∀ h',TwoAt h' T c d->Heap.SameBut T s.heap h'->Q () { s with heap:=h' }) :
    wpAny (model prog w) A (updateSeq T fun xs=>xs.setIfInBounds k x) Q E s:=by
  obtain ⟨n,e⟩:=t
  refine wpAny_updateSeq e rfl (h _ ⟨n,?_⟩ (Heap.SameBut.update ..)) (by simp [sizeLine]) (by simp [sizeLine])
  rw [Heap.get?_update_self _ e rfl]
  show some ({ cls:=.type "tuple",data:=.seq ((#[a,b]:Array Value).setIfInBounds k x) (if (((#[a,b]:Array Value).setIfInBounds k x).size == (#[a,b]:Array Value).size)=true then n else n + 1) }:Obj)=_
  rw [sh]
  rfl
structure FM (z TI TO i1 i2:Addr) (f1 f2:List Addr):Prop where
  zTI:z ≠ TI
  zTO:z ≠ TO
  io:TI ≠ TO
  z1:z ∉ f1
  z2:z ∉ f2
  o1:TO ∉ f1
  o2:TO ∉ f2
  n1:TI ≠ i1
  n2:TI ≠ i2
  m1:i1 ∈ f1
  m2:i2 ∈ f2
  x12:i1 ∉ f2
  x21:i2 ∉ f1
theorem Kw {z TI TO i1 i2:Addr} {n k:Nat} {a b:Value} {P1 P2:Nat->Value->Prop} {S1 S2:Nat->Heap->Prop} {f1 f2:List Addr} {Q:Value->Shared->Prop} (ap:FM z TI TO i1 i2 f1 f2)
    (D1:Draws prog w A.in1 i1 f1 n P1 S1) (D2:Draws prog w A.in1 i2 f2 n P2 S2) (hk:k < n)
    (hz:s.heap.get? z=some (BU TI TO .none)) (hI:TwoAt s.heap TI (.ref i1) (.ref i2)) (hO:TwoAt s.heap TO a b) (s1:S1 k s.heap) (s2:S2 k s.heap)
    (q:∀ x y T h' tk,P1 k x->P2 k y->s.heap.objs.size <= T->h'.IsTuple T #[x,y]->h'.get? z=some (BU TI TO (rawInt T))->TwoAt h' TI (.ref i1) (.ref i2)->TwoAt h' TO x y->S1 (k + 1) h'->S2 (k + 1) h'->(∀ c o,c ≠ z->c ≠ TO->c ≠ i1->c ≠ i2->s.heap.get? c=some o->h'.get? c=some o)->Q (.ref T) { s with heap:=h',toks:=tk }) :
    wpAny (model prog w) A.in1 (Builtin.«zip.__next__» ⟨[.ref z],[]⟩) (fun fin s'=>∃ v,fin=.done (.ret v) /\ Q v s') E s:=by
  obtain ⟨nI,eI⟩:=id hI
  refine wpAny_bind (m:=field (.ref z) 2) (wpAny_field hz rfl (x:=.bool false) rfl ?_)
  refine wpAny_bind (m:=field (.ref z) 3) (wpAny_field hz rfl (x:=.ref TI) rfl ?_)
  refine wpAny_bind (m:=seqItems? (.ref TI)) (wpAny_seqItems eI rfl ?_)
  refine BF (by simp) ?_
  refine wpAny_bind (m:=Builtin.SmallTypes.ownedTupleIsFree (.ref z)) ?_
  unfold Builtin.SmallTypes.ownedTupleIsFree
  refine wpAny_bind (m:=field (.ref z) 0) (wpAny_field hz rfl (x:=.none) rfl (wpAny_pure ?_))
  rw [if_pos rfl]
  refine wpAny_bind (wpAny_rule ?_)
  refine wpAny_bind (m:=field (.ref z) 4) (wpAny_field hz rfl (x:=.ref TO) rfl ?_)
  refine wpAny_bind (wpAny_setField_rec hz (by simp) fun h1 z1 b1=>?_)
  have k1:∀ c o,c ≠ z->s.heap.get? c=some o->h1.get? c=some o:=fun c o hc e=>(b1.2 c hc).trans e
  have z1':h1.get? z=some (BU TI TO .ellipsis):=z1
  have hI1:=hI.keep (h':=h1) fun o e=>k1 TI o ap.zTI.symm e
  have hO1:=hO.keep (h':=h1) fun o e=>k1 TO o ap.zTO.symm e
  have s11:=D1.frame _ _ h1 s1 fun c hc o e=>k1 c o (fun y=>ap.z1 (y ▸ hc)) e
  have s21:=D2.frame _ _ h1 s2 fun c hc o e=>k1 c o (fun y=>ap.z2 (y ▸ hc)) e
  refine wpAny_bind (m:=forIn [(Value.ref i1,0),(Value.ref i2,1)] _ _) ?_
  rw [List.forIn_cons]
  refine wpAny_bind (wpAny_bind (wpAny_onRaise (wpAny_bind (D1.item k { s with heap:=h1 } _ _ hk s11 fun x h2 t2 px s12 b2=>wpAny_pure ?_))))
  have k2:∀ c o,c ≠ i1->h1.get? c=some o->h2.get? c=some o:=fun c o hc e=>(b2.2 c hc).trans e
  have ne1:∀ {c:Addr},c ∉ f1->c ≠ i1:=fun hc y=>hc (y ▸ ap.m1)
  have ne2:∀ {c:Addr},c ∉ f2->c ≠ i2:=fun hc y=>hc (y ▸ ap.m2)
  have hO2:=hO1.keep (h':=h2) fun o e=>k2 TO o (ne1 ap.o1) e
  have hI2:=hI1.keep (h':=h2) fun o e=>k2 TI o ap.n1 e
  have z2:=k2 z _ (ne1 ap.z1) z1'
  have s22:=D2.frame _ _ h2 s21 fun c hc o e=>k2 c o (fun y=>ap.x12 (y ▸ hc)) e
  obtain ⟨nO,eO⟩:=id hO2
  refine wpAny_bind (m:=seqItems? (.ref TO)) (wpAny_seqItems eO rfl ?_)
  refine wpAny_bind (JB (s:={ s with heap:=h2,toks:=t2 }) (c:=x) (d:=b) hO2 rfl fun h3 hO3 b3=>wpAny_bind (wpAny_letGo (wpAny_pure ?_)))
  have k3:∀ c o,c ≠ TO->h2.get? c=some o->h3.get? c=some o:=fun c o hc e=>(b3.2 c hc).trans e
  have hI3:=hI2.keep (h':=h3) fun o e=>k3 TI o ap.io e
  have z3:=k3 z _ ap.zTO z2
  have s13:=D1.frame _ _ h3 s12 fun c hc o e=>k3 c o (fun y=>ap.o1 (y ▸ hc)) e
  have s23:=D2.frame _ _ h3 s22 fun c hc o e=>k3 c o (fun y=>ap.o2 (y ▸ hc)) e
  show wpAny _ _ (forIn [(Value.ref i2,1)] _ _) _ _ _
  rw [List.forIn_cons]
  refine wpAny_bind (wpAny_bind (wpAny_onRaise (wpAny_bind (D2.item k { s with heap:=h3,toks:=t2 } _ _ hk s23 fun y h4 t4 py s24 b4=>wpAny_pure ?_))))
  have k4:∀ c o,c ≠ i2->h3.get? c=some o->h4.get? c=some o:=fun c o hc e=>(b4.2 c hc).trans e
  have hO4:=hO3.keep (h':=h4) fun o e=>k4 TO o (ne2 ap.o2) e
  have hI4:=hI3.keep (h':=h4) fun o e=>k4 TI o ap.n2 e
  have z4:=k4 z _ (ne2 ap.z2) z3
  have s14:=D1.frame _ _ h4 s13 fun c hc o e=>k4 c o (fun y=>ap.x21 (y ▸ hc)) e
  obtain ⟨nO4,eO4⟩:=id hO4
  refine wpAny_bind (m:=seqItems? (.ref TO)) (wpAny_seqItems eO4 rfl ?_)
  refine wpAny_bind (JB (s:={ s with heap:=h4,toks:=t4 }) (c:=x) (d:=y) hO4 rfl fun h5 hO5 b5=>wpAny_bind (wpAny_letGo (wpAny_pure ?_)))
  have k5:∀ c o,c ≠ TO->h4.get? c=some o->h5.get? c=some o:=fun c o hc e=>(b5.2 c hc).trans e
  have hI5:=hI4.keep (h':=h5) fun o e=>k5 TI o ap.io e
  have z5:=k5 z _ ap.zTO z4
  have s15:=D1.frame _ _ h5 s14 fun c hc o e=>k5 c o (fun y=>ap.o1 (y ▸ hc)) e
  have s25:=D2.frame _ _ h5 s24 fun c hc o e=>k5 c o (fun y=>ap.o2 (y ▸ hc)) e
  show wpAny _ _ (forIn [] _ _) _ _ _
  rw [List.forIn_nil]
  refine wpAny_pure ?_
  obtain ⟨nO5,eO5⟩:=id hO5
  refine wpAny_bind (m:=seqItems? (.ref TO)) (wpAny_seqItems eO5 rfl ?_)
  refine wpAny_bind (wpAny_newTuple ?_ (by simp [sizeLine]))
  have kp:∀ c o,h5.get? c=some o->(h5.push { cls:=.type "tuple",data:=.seq #[x,y] }).get? c=some o:=fun c o e=>Heap.get?_push_of_some _ e
  unfold Builtin.SmallTypes.ownedTupleHandOut
  refine wpAny_bind (wpAny_bind (wpAny_setField_rec (s:={ s with heap:=h5.push { cls:=.type "tuple",data:=.seq #[x,y] },toks:=t4 }) (kp z _ z5) (by simp) fun h6 z6 b6=>wpAny_setField_rec (s:={ s with heap:=h6,toks:=t4 }) z6 (by simp) fun h7 z7 b7=>wpAny_pure ⟨_,rfl,?_⟩))
  have sz:h5.objs.size=s.heap.objs.size:=by rw [b5.1,b4.1,b3.1,b2.1,b1.1]
  have zlt:z < h5.objs.size:=Heap.lt_size z5
  have k7:∀ c o,c ≠ z->h5.get? c=some o->h7.get? c=some o:=fun c o hc e=>(b7.2 c hc).trans ((b6.2 c hc).trans (kp c o e))
  refine q x y h5.objs.size h7 t4 px py (by rw [sz]; exact Nat.le_refl _) ?_ z7 (hI5.keep fun o e=>k7 TI o ap.zTI.symm e) (hO5.keep fun o e=>k7 TO o ap.zTO.symm e) (D1.frame _ _ h7 s15 fun c hc o e=>k7 c o (fun y=>ap.z1 (y ▸ hc)) e) (D2.frame _ _ h7 s25 fun c hc o e=>k7 c o (fun y=>ap.z2 (y ▸ hc)) e) ?_
  . refine ⟨{ cls:=.type "tuple",data:=.seq #[x,y] },?_,rfl,0,rfl⟩
    have ne:h5.objs.size ≠ z:=Nat.ne_of_gt zlt
    exact (b7.2 _ ne).trans ((b6.2 _ ne).trans (Heap.get?_push_size _ rfl))
  . intro c o c1 c2 c3 c4 e
    exact k7 c o c1 (k5 c o c2 (k4 c o c4 (k3 c o c2 (k2 c o c3 (k1 c o c1 e)))))
theorem Kv {z TI TO i1 i2:Addr} {n:Nat} {a b:Value} {P1:Nat->Value->Prop} {S1:Nat->Heap->Prop} {f1 f2:List Addr} {Q:PySem.Fin->Shared->Prop} (ap:FM z TI TO i1 i2 f1 f2) (D1:Draws prog w A.in1 i1 f1 n P1 S1)
    (hz:s.heap.get? z=some (BU TI TO .none)) (hI:TwoAt s.heap TI (.ref i1) (.ref i2)) (hO:TwoAt s.heap TO a b) (s1:S1 n s.heap)
    (q:∀ h' e,(∀ c o,c ≠ z->c ≠ i1->s.heap.get? c=some o->h'.get? c=some o)->(∃ o,h'.get? e=some o /\ o.cls=.type "StopIteration")->E (.ref e) { s with heap:=h' }) :
    wpAny (model prog w) A.in1 (Builtin.«zip.__next__» ⟨[.ref z],[]⟩) Q E s:=by
  obtain ⟨nI,eI⟩:=id hI
  refine wpAny_bind (m:=field (.ref z) 2) (wpAny_field hz rfl (x:=.bool false) rfl (wpAny_bind (m:=field (.ref z) 3) (wpAny_field hz rfl (x:=.ref TI) rfl (wpAny_bind (m:=seqItems? (.ref TI)) (wpAny_seqItems eI rfl ?_)))))
  refine BF (by simp) (wpAny_bind (m:=Builtin.SmallTypes.ownedTupleIsFree (.ref z)) ?_)
  unfold Builtin.SmallTypes.ownedTupleIsFree
  refine wpAny_bind (m:=field (.ref z) 0) (wpAny_field hz rfl (x:=.none) rfl (wpAny_pure ?_))
  rw [if_pos rfl]
  refine wpAny_bind (wpAny_rule (wpAny_bind (m:=field (.ref z) 4) (wpAny_field hz rfl (x:=.ref TO) rfl (wpAny_bind (wpAny_setField_rec hz (by simp) fun h1 z1 b1=>?_)))))
  have s11:=D1.frame _ _ h1 s1 fun c hc o e=>(b1.2 c (fun y=>ap.z1 (y ▸ hc))).trans e
  refine wpAny_bind (m:=forIn [(Value.ref i1,0),(Value.ref i2,1)] _ _) ?_
  rw [List.forIn_cons]
  refine wpAny_bind (wpAny_bind (wpAny_onRaise (wpAny_bind (D1.done { s with heap:=h1 } _ _ s11 fun h2 e eb so=>?_))))
  have zne:z ≠ i1:=fun y=>ap.z1 (y ▸ ap.m1)
  have z2:h2.get? z=some (BU TI TO .ellipsis):=eb z _ zne z1
  obtain ⟨oe,he,hce⟩:=so
  refine wpAny_setField_rec (s:={ s with heap:=h2 }) z2 (by simp) fun h3 z3 b3=>q h3 e (fun c o c1 c2 x=>(b3.2 c c1).trans (eb c o c2 ((b1.2 c c1).trans x))) ⟨oe,?_,hce⟩
  have ez:e ≠ z:=fun y=>by
    rw [y,z2] at he
    cases he
    exact absurd (Value.type.inj (show Value.type "zip" = Value.type "StopIteration" from hce)) (by decide)
  exact (b3.2 e ez).trans he
theorem EM {z TI TO:Addr} {f0:Value} {Q:Value->Shared->Prop} (hz:s.heap.get? z=some (BU TI TO f0)) (h:Q (.ref z) s):wpAny (model prog w) A (pyIter (.ref z)) Q E s:=wpAny_pyIter_zip hz h
theorem J4 (hh:A.handled=none) {z TI TO i1 i2:Addr} {n:Nat} {P1 P2:Nat->Value->Prop} {S1 S2:Nat->Heap->Prop} {f1 f2:List Addr} (ap:FM z TI TO i1 i2 f1 f2)
    (D1:Draws prog w A.in1 i1 f1 n P1 S1) (D2:Draws prog w A.in1 i2 f2 n P2 S2) :
    WalksT prog w A z (z :: TI :: TO :: (f1 ++ f2)) [z,TI,TO,i1,i2] n (fun k vals=>∃ x y,P1 k x /\ P2 k y /\ vals = #[x,y])
      (fun k h=>h.get? z=some (BU TI TO .none) /\ TwoAt h TI (.ref i1) (.ref i2) /\ (∃ a b,TwoAt h TO a b) /\ S1 k h /\ S2 k h)
      (fun k T h=>h.get? z=some (BU TI TO (rawInt T)) /\ TwoAt h TI (.ref i1) (.ref i2) /\ (∃ a b,TwoAt h TO a b) /\ S1 (k + 1) h /\ S2 (k + 1) h /\ T ≠ z /\ T ≠ TI /\ T ≠ TO /\ T ≠ i1 /\ T ≠ i2) where
  sub:=fun c hc=>by
    have hc':c=z ∨ c=TI ∨ c=TO ∨ c=i1 ∨ c=i2:=by simpa using hc
    rcases hc' with e | e | e | e | e <;> subst e
    . simp
    . simp
    . simp
    . simp [ap.m1]
    . simp [ap.m2]
  frame:=fun k h h' st kp=>by
    obtain ⟨a1,a2,⟨a,b,a3⟩,a4,a5⟩:=st
    exact ⟨kp z (by simp) _ a1,a2.keep fun o e=>kp TI (by simp) o e,⟨a,b,a3.keep fun o e=>kp TO (by simp) o e⟩,D1.frame _ _ _ a4 fun c hc o e=>kp c (by simp [hc]) o e,D2.frame _ _ _ a5 fun c hc o e=>kp c (by simp [hc]) o e⟩
  item:=fun k s Q E hk st q=>by
    obtain ⟨a1,a2,⟨a,b,a3⟩,a4,a5⟩:=st
    have ty:s.TypeIs (.ref z) "zip" := ⟨_,a1,rfl⟩
    unfold pyNext
    refine wpAny_bind (wpAny_attempt (wpAny_callSpecial?_slot (name:=Str.ofString "__next__") ty F.slot_zip_next (wpAny_call_entry F.slot_zip_next ty F.entry_zip_next (Kw ap D1 D2 hk a1 a2 a3 a4 a5 fun x y T h' tk px py hT tup b1 b2 b3 b4 b5 kp=>?_) (F.args_zip_next_1 _))))
    have lt:∀ {c:Addr} {o:Obj},s.heap.get? c=some o->T ≠ c:=fun e=>Nat.ne_of_gt (Nat.lt_of_lt_of_le (Heap.lt_size e) hT)
    obtain ⟨o1,e1⟩:=D1.live _ _ a4
    obtain ⟨o2,e2⟩:=D2.live _ _ a5
    obtain ⟨n3,e3⟩:=a3
    obtain ⟨n4,e4⟩:=id a2
    refine wpAny_pure (q T #[x,y] h' tk ⟨x,y,px,py,rfl⟩ hT tup ⟨b1,b2,⟨x,y,b3⟩,b4,b5,lt a1,lt e4,lt e3,lt e1,lt e2⟩ fun c o hc e=>?_)
    exact kp c o (fun z=>hc (by simp [z])) (fun z=>hc (by simp [z])) (fun z=>hc (by simp [z])) (fun z=>hc (by simp [z])) e
  go:=fun es k0 pos k T s Q E st q=>by
    obtain ⟨a1,a2,a3,a4,a5,t1,t5,t2,t3,t4⟩:=st
    refine wpAny_letOwnedTupleGo_zip a1 fun h' hz' sb=>?_
    have kp:∀ c o,c ≠ z->s.heap.get? c=some o->h'.get? c=some o:=fun c o hc e=>(sb.2 c hc).trans e
    obtain ⟨a,b,a3⟩:=a3
    refine q h' ⟨hz',a2.keep fun o e=>kp TI o ap.zTI.symm e,⟨a,b,a3.keep fun o e=>kp TO o ap.zTO.symm e⟩,D1.frame _ _ _ a4 fun c hc o e=>kp c o (fun y=>ap.z1 (y ▸ hc)) e,D2.frame _ _ _ a5 fun c hc o e=>kp c o (fun y=>ap.z2 (y ▸ hc)) e⟩ fun c o hc e=>kp c o (fun y=>hc (by simp [y])) e
  apart:=fun k T h st hT=>by
    obtain ⟨_,_,_,_,_,t1,t5,t2,t3,t4⟩:=st
    have hT':T=z ∨ T=TI ∨ T=TO ∨ T=i1 ∨ T=i2:=by simpa using hT
    rcases hT' with e | e | e | e | e
    . exact t1 e
    . exact t5 e
    . exact t2 e
    . exact t3 e
    . exact t4 e
  done:=fun s Q E st q=>by
    obtain ⟨a1,a2,⟨a,b,a3⟩,a4,a5⟩:=st
    have ty:s.TypeIs (.ref z) "zip" := ⟨_,a1,rfl⟩
    unfold pyNext
    refine wpAny_bind (wpAny_attempt (wpAny_callSpecial?_slot (name:=Str.ofString "__next__") ty F.slot_zip_next (wpAny_call_entry F.slot_zip_next ty F.entry_zip_next (Kv ap D1 a1 a2 a3 a4 fun h' e kp so=>?_) (F.args_zip_next_1 _))))
    obtain ⟨o,ho,hc⟩:=so
    refine wpAny_bind (wpAny_isInstance (T := "StopIteration") (b:=true) ⟨o,ho,hc⟩ isSubtype_stop (wpAny_pure (q h' s.toks fun c o hc e=>?_)))
    exact kp c o (fun y=>hc (by simp [y])) (fun y=>hc (by simp [y])) e
  self:=fun k s Q E st h=>EM st.1 h
end
end L2
namespace L2
open PySem PySem.Spec PyProof.Rows
abbrev Dg (a b:Value):Obj:={ cls:=.type "tuple",data:=.seq #[a,b] }
abbrev zh2 (h:Heap) (o1 o2:Obj):Heap:=(h.push o1).push o2
abbrev zh4 (h:Heap) (o1 o2:Obj):Heap:=((zh2 h o1 o2).push (Dg (.ref h.objs.size) (.ref (h.push o1).objs.size))).push (Dg .none .none)
abbrev zh5 (h:Heap) (o1 o2:Obj):Heap:=(zh4 h o1 o2).push (BU (zh2 h o1 o2).objs.size ((zh2 h o1 o2).push (Dg (.ref h.objs.size) (.ref (h.push o1).objs.size))).objs.size .none)
theorem Mq (v1 v2:Value) (o1 o2:Obj) (g1 g2:Heap->Prop) (g2p:∀ h,g2 h->g2 (h.push o1))
    (w1:∀ (prog:Program) (w:World) (A:Around) (E:Value->Shared->Prop) (s:Shared) (Q:Value->Shared->Prop),g1 s.heap->Q (.ref s.heap.objs.size) { s with heap:=s.heap.push o1 }->wpAny (model prog w) A (pyIter v1) Q E s)
    (w2:∀ (prog:Program) (w:World) (A:Around) (E:Value->Shared->Prop) (s:Shared) (Q:Value->Shared->Prop),g2 s.heap->Q (.ref s.heap.objs.size) { s with heap:=s.heap.push o2 }->wpAny (model prog w) A (pyIter v2) Q E s) :
    Meets (Builtin.«zip.__new__» ⟨[.type "zip",v1,v2],[]⟩) (fun _ R s=>g1 s.heap /\ g2 s.heap /\ R (.ok (.ret (.ref (zh4 s.heap o1 o2).objs.size))) { s with heap:=zh5 s.heap o1 o2 }):=by
  refine .of_wp fun prog w A R s ⟨x1,x2,q⟩=>?_
  have own:=sub_zip
  have walk1:∀ (A:Around) (E:Value->Shared->Prop) (Q:Value->Shared->Prop),Q (.ref s.heap.objs.size) { s with heap:=s.heap.push o1 }->wpAny (model prog w) A (pyIter v1) Q E s:=fun A E Q z=>w1 prog w A E s Q x1 z
  have walk2:∀ (A:Around) (E:Value->Shared->Prop) (Q:Value->Shared->Prop),Q (.ref (s.heap.push o1).objs.size) { s with heap:=zh2 s.heap o1 o2 }->wpAny (model prog w) A (pyIter v2) Q E { s with heap:=s.heap.push o1 }:=fun A E Q z=>w2 prog w A E { s with heap:=s.heap.push o1 } Q (g2p _ x2) z
  obtain ⟨hp,gs,dr,tk,os⟩:=s
  wp_walk using walk1,walk2
  exact ⟨_,rfl,q⟩
def GF (xs ys:List V) (i:Nat):List V:=[xs.getD i .non,ys.getD i .non]
theorem Jw {xs ys:List V} {its jts:List Value} (r:Vals xs its) (r2:Vals ys jts) {i:Nat} {vals:Array Value} (h:∃ x y,its.toArray[i]? = some x /\ jts.toArray[i]? = some y /\ vals = #[x,y]):Vals (GF xs ys i) vals.toList:=by
  obtain ⟨x,y,hx,hy,rfl⟩:=h
  have one:∀ {zs:List V} {us:List Value} {u:Value},Vals zs us->us.toArray[i]? = some u->RelV (zs.getD i .non) u:=fun {zs us u} rz hu=>by
    have hu':us[i]? = some u:=by simpa using hu
    have hl:=rz.length
    have lt:i < zs.length:=by have:=(List.getElem?_eq_some_iff.mp hu').1; omega
    obtain ⟨u',e1,e2⟩:=rz.get (show zs[i]? = some zs[i] by simp [lt])
    rw [hu'] at e1; cases e1
    simpa [List.getD,lt] using e2
  exact .cons (one r hx) (.cons (one r2 hy) .nil)
theorem J6 {P:Program} {w:World} {K:PySem.W.Frag} {es:List Expr} {k0:Nat} {pos:Pos} (a b z TI TO i1 i2:Addr) (xs ys:List V) (hl:ys.length=xs.length) (ap:FM z TI TO i1 i2 [i1,a] [i2,b]) (h1:a ≠ i1) (h2:b ≠ i2) :
    Hn P w K (.Tuple es k0 pos) (ItP K xs.length (GF xs ys) fun K H=>SqT K H a xs /\ SqT K H b ys) [z,TI,TO,i1,i2] z (fun i h=>h.get? z=some (BU TI TO .none) /\ TwoAt h TI (.ref i1) (.ref i2) /\ (∃ c d,TwoAt h TO c d) /\ h.IsTupleIter i1 a i /\ h.IsTupleIter i2 b i):=by
  refine Hr (ι:=List Value × List Value) (good:=fun p=>Vals xs p.1 /\ Vals ys p.2) (Pt:=fun p i vals=>∃ x y,p.1.toArray[i]? = some x /\ p.2.toArray[i]? = some y /\ vals = #[x,y])
    (Sw:=fun p i h=>h.get? z=some (BU TI TO .none) /\ TwoAt h TI (.ref i1) (.ref i2) /\ (∃ c d,TwoAt h TO c d) /\ (h.IsTupleIter i1 a i /\ h.IsTuple a p.1.toArray) /\ (h.IsTupleIter i2 b i /\ h.IsTuple b p.2.toArray))
    (Mid:=fun p i T h=>h.get? z=some (BU TI TO (rawInt T)) /\ TwoAt h TI (.ref i1) (.ref i2) /\ (∃ c d,TwoAt h TO c d) /\ (h.IsTupleIter i1 a (i + 1) /\ h.IsTuple a p.1.toArray) /\ (h.IsTupleIter i2 b (i + 1) /\ h.IsTuple b p.2.toArray) /\ T ≠ z /\ T ≠ TI /\ T ≠ TO /\ T ≠ i1 /\ T ≠ i2)
    (fp:=z :: TI :: TO :: ([i1,a] ++ [i2,b]))
    (fun A hA p r=>?walk) List.mem_cons_self (fun p i vals r h=>Jw r.1 r.2 h) (fun i=>(by show 2 <= sizeLine; decide)) (fun i h st=>?obj) (fun i h h' st k=>?keep) (fun X pins σ H s i hP hw hK I hc st=>?into) (fun p i h st=>⟨st.1,st.2.1,st.2.2.1,st.2.2.2.1.1,st.2.2.2.2.1⟩) (fun A i s Q E st h=>EM st.1 h)
  case walk=>
    have l1:p.1.toArray.size=xs.length:=by rw [List.size_toArray]; exact r.1.length.symm
    have l2:p.2.toArray.size=xs.length:=by rw [List.size_toArray,← hl]; exact r.2.length.symm
    have D1:=F0 (prog:=P) (w:=w) (A:=A.in1) hA i1 a h1 p.1.toArray
    have D2:=F0 (prog:=P) (w:=w) (A:=A.in1) hA i2 b h2 p.2.toArray
    rw [l1] at D1
    rw [l2] at D2
    exact J4 hA ap D1 D2
  case obj=>
    intro c hc
    obtain ⟨a1,⟨n1,a2⟩,⟨c0,d0,n2,a3⟩,⟨o4,a4,_,d4⟩,⟨o5,a5,_,d5⟩⟩:=st
    have hc':c=z ∨ c=TI ∨ c=TO ∨ c=i1 ∨ c=i2:=by simpa using hc
    rcases hc' with e | e | e | e | e <;> subst e
    . exact ⟨_,a1,fun v q=>by cases q⟩
    . exact ⟨_,a2,fun v q=>by cases q⟩
    . exact ⟨_,a3,fun v q=>by cases q⟩
    . exact ⟨_,a4,fun v q=>by rw [d4] at q; cases q⟩
    . exact ⟨_,a5,fun v q=>by rw [d5] at q; cases q⟩
  case keep=>
    obtain ⟨a1,a2,⟨c0,d0,a3⟩,⟨o4,a4,r4⟩,⟨o5,a5,r5⟩⟩:=st
    exact ⟨k z (by simp) _ a1,a2.keep fun o e=>k TI (by simp) o e,⟨c0,d0,a3.keep fun o e=>k TO (by simp) o e⟩,⟨o4,k i1 (by simp) o4 a4,r4⟩,⟨o5,k i2 (by simp) o5 a5,r5⟩⟩
  case into=>
    subst hK
    obtain ⟨c1,c2⟩:=hc
    obtain ⟨a1,a2,a3,a4,a5⟩:=st
    obtain ⟨its,r,p,_⟩:=I.tuple c1
    obtain ⟨jts,r2,p2,_⟩:=I.tuple c2
    exact ⟨(its,jts),⟨r,r2⟩,a1,a2,a3,⟨a4,p⟩,⟨a5,p2⟩⟩
section
variable {X:Cx} {es:List Expr} {k0:Nat} {tpos:Pos}
theorem Md:bootBuiltins "zip" = some (.type "zip"):=by decide +kernel
def Ra (K:PySem.W.Frag) (ta:TA):TI:=fun σ H R=>ta σ H fun vs H1=>∃ a b xs ys,vs=[.ref a,.ref b] /\ SqT K H1 a xs /\ SqT K H1 b ys /\ ys.length=xs.length /\ R (ItP K xs.length (GF xs ys) fun K H=>SqT K H a xs /\ SqT K H b ys) H1
end
end L2
namespace L2
open PySem PySem.Spec PyProof.Rows
section
variable {X:Cx} {es:List Expr} {k0:Nat} {tpos:Pos}
theorem nin {n l c:Nat} (h1:c ≠ n) (h2:c ≠ l):c ∉ ([n,l]:List Nat):=fun h=>by
  have h':c=n ∨ c=l:=by simpa using h
  exact h'.elim h1 h2
theorem zap (n l m:Nat) (hl:l < n) (hm:m < n):FM (n + 4) (n + 2) (n + 3) n (n + 1) [n,l] [n + 1,m] where
  zTI:=(by omega : ¬ (n + 4:Nat)=n + 2)
  zTO:=(by omega : ¬ (n + 4:Nat)=n + 3)
  io:=(by omega : ¬ (n + 2:Nat)=n + 3)
  z1:=nin (by omega) (by omega)
  z2:=nin (by omega) (by omega)
  o1:=nin (by omega) (by omega)
  o2:=nin (by omega) (by omega)
  n1:=(by omega : ¬ (n + 2:Nat)=n)
  n2:=(by omega : ¬ (n + 2:Nat)=n + 1)
  m1:=List.mem_cons_self
  m2:=List.mem_cons_self
  x12:=nin (by omega) (by omega)
  x21:=nin (by omega) (by omega)
theorem OC {pins:List (Addr × Obj)} {σ:St} {H:Hp} {s:Shared} (I:Inv X pins σ H s) (c:Addr) (hc:s.heap.objs.size <= c):C3 X pins H c:=I.fpOk hc (I.hok.fresh hc)
theorem Nj {a b:Expr} {ta:TA} {p pos:Pos} (hg:Gl X "zip") (hm:X.mg "zip" = none) (ha:PA X [a,b] ta) (hs:starEach [a,b] X.env=(false,eval a X.env) :: starEach [b] X.env) (hpl:(backTo pos (starEach [b] X.env)).any (·.1)=false) :
    PI X (.Tuple es k0 tpos) (.Call (.Name "zip" p) [a,b] [] pos) (Ra X.K ta):=by
  intro pins s σ H R I h
  refine Call_ (Ep I hg hm Md (PyProof.Rows.callWith_type1 (thn (ha pos pins s σ H _ I h) fun us s1 ⟨vs,H1,I1,r1,q1⟩=>?_) hs hpl))
  obtain ⟨l,m,xs,ys,ev,hx,hy,hl,q⟩:=q1
  subst ev
  obtain ⟨u1,u2,eu,ru1,ru2⟩:=Vals.two r1
  subst eu
  cases ru1
  cases ru2
  obtain ⟨its,rx,px,_⟩:=I1.tuple hx
  obtain ⟨jts,ry,py,_⟩:=I1.tuple hy
  have ltl:l < s1.heap.objs.size:=by obtain ⟨o,e,_⟩:=px; exact Heap.lt_size e
  have ltm:m < s1.heap.objs.size:=by obtain ⟨o,e,_⟩:=py; exact Heap.lt_size e
  have new:=Mq (.ref l) (.ref m) { cls:=.type "tuple_iterator",data:=.fields #[.ref l,.int 0 0] } { cls:=.type "tuple_iterator",data:=.fields #[.ref m,.int 0 0] } (fun h=>h.IsTuple l its.toArray) (fun h=>h.IsTuple m jts.toArray) (fun h x=>x.push _) (fun _ _ _ _ _ _ g z=>wpAny_pyIter_tuple g z) (fun _ _ _ _ _ _ g z=>wpAny_pyIter_tuple g z)
  refine callType_new F.called_zip (by decide) (F.typeCall_zip_2 _ _) (F.newCall_zip_2 _ _) (fun obj=>F.args_object_init_3 obj _ _) F.entry_zip_new new ⟨px,py,?_⟩
  generalize ho1:({ cls:=.type "tuple_iterator",data:=.fields #[.ref l,.int 0 0] }:Obj)=o1
  generalize ho2:({ cls:=.type "tuple_iterator",data:=.fields #[.ref m,.int 0 0] }:Obj)=o2
  have n1:(s1.heap.push o1).objs.size=s1.heap.objs.size + 1:=Heap.size_push ..
  have n2:(zh2 s1.heap o1 o2).objs.size=s1.heap.objs.size + 2:=by rw [Heap.size_push,n1]
  have n3:((zh2 s1.heap o1 o2).push (Dg (.ref s1.heap.objs.size) (.ref (s1.heap.push o1).objs.size))).objs.size=s1.heap.objs.size + 3:=by rw [Heap.size_push,n2]
  have n4:(zh4 s1.heap o1 o2).objs.size=s1.heap.objs.size + 4:=by rw [Heap.size_push,n3]
  have kp:∀ c o,s1.heap.get? c=some o->(zh5 s1.heap o1 o2).get? c=some o:=fun c o e=>Heap.get?_push_of_some _ (Heap.get?_push_of_some _ (Heap.get?_push_of_some _ (Heap.get?_push_of_some _ (Heap.get?_push_of_some _ e))))
  have f1:o1.isFreed=false:=by rw [← ho1]; rfl
  have f2:o2.isFreed=false:=by rw [← ho2]; rfl
  have a1:(zh5 s1.heap o1 o2).get? s1.heap.objs.size=some o1:=Heap.get?_push_of_some _ (Heap.get?_push_of_some _ (Heap.get?_push_of_some _ (Heap.get?_push_of_some _ (Heap.get?_push_size _ f1))))
  have a2:(zh5 s1.heap o1 o2).get? (s1.heap.objs.size + 1)=some o2:=by rw [← n1]; exact Heap.get?_push_of_some _ (Heap.get?_push_of_some _ (Heap.get?_push_of_some _ (Heap.get?_push_size _ f2)))
  have a3:(zh5 s1.heap o1 o2).get? (s1.heap.objs.size + 2)=some (Dg (.ref s1.heap.objs.size) (.ref (s1.heap.objs.size + 1))):=by
    rw [← n1,← n2]
    exact Heap.get?_push_of_some _ (Heap.get?_push_of_some _ (Heap.get?_push_size _ rfl))
  have a4:(zh5 s1.heap o1 o2).get? (s1.heap.objs.size + 3)=some (Dg .none .none):=by
    rw [← n3]
    exact Heap.get?_push_of_some _ (Heap.get?_push_size _ rfl)
  have a5:(zh5 s1.heap o1 o2).get? (s1.heap.objs.size + 4)=some (BU (s1.heap.objs.size + 2) (s1.heap.objs.size + 3) .none):=by
    rw [← n4,← n2,← n3]
    exact Heap.get?_push_size _ rfl
  show _ /\ _
  rw [n4]
  refine ⟨⟨_,a5,rfl⟩,EM a5 ?_⟩
  refine ⟨s1.heap.objs.size + 4,[s1.heap.objs.size + 4,s1.heap.objs.size + 2,s1.heap.objs.size + 3,s1.heap.objs.size,s1.heap.objs.size + 1],_,_,H1,rfl,I1.kept (t':=s1.toks) kp,
    J6 l m (s1.heap.objs.size + 4) (s1.heap.objs.size + 2) (s1.heap.objs.size + 3) s1.heap.objs.size (s1.heap.objs.size + 1) xs ys hl (zap _ l m ltl ltm) (Nat.ne_of_lt ltl) (Nat.ne_of_lt (Nat.lt_succ_of_lt ltm)),⟨a5,⟨_,a3⟩,⟨_,_,_,a4⟩,⟨o1,a1,by rw [← ho1],by rw [← ho1]; rfl⟩,⟨o2,a2,by rw [← ho2],by rw [← ho2]; rfl⟩⟩,fun c hc=>OC I1 c ?_,q⟩
  have hc':c=s1.heap.objs.size + 4 ∨ c=s1.heap.objs.size + 2 ∨ c=s1.heap.objs.size + 3 ∨ c=s1.heap.objs.size ∨ c=s1.heap.objs.size + 1:=by simpa using hc
  rcases hc' with e | e | e | e | e <;> subst e <;> first | exact Nat.le_refl _ | exact Nat.le_add_right _ _
end
end L2
namespace Mi
open PySem L2
section
variable {X:Cx} {a b:Expr} {es:List Expr} {pos:Pos}
def Dc:List D->List D->List D
  | x :: xs,y :: ys=>.tup [x,y] :: Dc xs ys
  | _,_=>[]
def Iu:List D->M (List D)
  | [.tup xs,.tup ys]=>fun μ=>if ys.length=xs.length then some (Dc xs ys,μ) else none
  | _=>BL
def QA (m:Sl->M (List D)):Sl->M (List D):=fun τ=>bnd (m τ) Iu
theorem EO:∀ {xs ys:List D},ys.length=xs.length->(Dc xs ys).length=xs.length
  | [],[],_=>rfl
  | x :: xs,y :: ys,h=>by unfold Dc; simp at h ⊢; exact EO h
  | [],_ :: _,h=>by simp at h
  | _ :: _,[],h=>by simp at h
theorem Gk:∀ {xs ys:List D} {j:Nat} {d:D},(Dc xs ys)[j]? = some d->∃ x y,xs[j]? = some x /\ ys[j]? = some y /\ d=.tup [x,y]
  | [],_,j,d,h=>by simp [Dc] at h
  | _ :: _,[],j,d,h=>by simp [Dc] at h
  | x :: xs,y :: ys,0,d,h=>by simp [Dc] at h; exact ⟨x,y,rfl,rfl,h.symm⟩
  | x :: xs,y :: ys,j + 1,d,h=>by
    obtain ⟨x',y',h1,h2,h3⟩:=Gk (xs:=xs) (ys:=ys) (j:=j) (d:=d) (by simpa [Dc] using h)
    exact ⟨x',y',by simpa using h1,by simpa using h2,h3⟩
theorem N4 {K:PySem.W.Frag} {ι:Nat->Addr} {μ:Mh} {H:Hp} {vs ws:List V} {ds es:List D} {Cond:PySem.W.Frag->Hp->Prop} (st:∀ ι' (μ':Mh) H',Ext ι μ.length H ι' μ'.length H'->RelH K ι' μ' H'->Cond K H') (i:IsL K ι μ.length H ds vs) (j:IsL K ι μ.length H es ws) (hl:es.length=ds.length) :
    ItM K (ItP K vs.length (GF vs ws) Cond) (Dc ds es) ι μ H:=by
  intro ι' μ' H' E R
  have h:=st ι' μ' H' E R
  rw [EO hl,← i.length]
  refine ⟨fun j hj=>⟨hj,h⟩,⟨rfl,h⟩,fun k x H2 d hd y=>?_⟩
  obtain ⟨T,hT,rfl,rfl⟩:=y
  obtain ⟨E2,R2⟩:=R.laid (.tup (GF vs ws k)) hT
  refine ⟨E2,R2,?_⟩
  obtain ⟨x,y,h1,h2,rfl⟩:=Gk hd
  obtain ⟨v,ev,iv⟩:=(i.ext E).get h1
  obtain ⟨u,eu,iu⟩:=(j.ext E).get h2
  have es':GF vs ws k=[v,u]:=by unfold GF; simp [List.getD,ev,eu]
  have key:IsL K ι' (List.length μ') (upd H' T (.tup (GF vs ws k))) [x,y] [v,u]:=.cons (iv.ext E2) (.one (iu.ext E2))
  unfold Is
  exact ⟨T,_,rfl,SqT.of AW,(congrArg (IsL K ι' (List.length μ') (upd H' T (.tup (GF vs ws k))) [x,y]) es').mpr key⟩
theorem NT {p tpos:Pos} {k0:Nat} {m:Sl->M (List D)} (hm:X.mg "zip" = none) (ha:RA X [a,b] m) (hg:Gl X "zip" := by rfl) (hs:starEach [a,b] X.env=(false,eval a X.env) :: starEach [b] X.env:=by exact AR rfl) (hpl:(backTo pos (starEach [b] X.env)).any (·.1)=false:=by exact BH rfl) :
    RI X (.Tuple es k0 tpos) (.Call (.Name "zip" p) [a,b] [] pos) (QA m):=
  RI.wk (Nj hg hm ha.pe hs hpl) fun σ H R q=>by
    obtain ⟨ι,μ,τ,ds,μ',R0,S,e,q⟩:=q
    obtain ⟨xs,μ1,e1,e2⟩:=AE e
    refine ⟨ι,μ,τ,xs,μ1,R0,S,e1,fun ι1 H1 E1 R1 vs i1=>?_⟩
    unfold Iu at e2
    split at e2
    . rename_i xs ys
      split at e2
      . rename_i hl
        cases e2
        obtain ⟨v,u,rfl,i2,i3⟩:=RZ i1
        unfold Is at i2 i3
        obtain ⟨p,ws,rfl,h1,h2⟩:=i2
        obtain ⟨p',ws',rfl,h1',h2'⟩:=i3
        exact ⟨p,p',ws,ws',rfl,h1,h1',by rw [h2.length,h2'.length]; exact hl,q ι1 H1 E1 R1 _ (N4 (fun ι' μ' H' E _=>⟨ED E h1,ED E h1'⟩) h2 h2' hl)⟩
      . cases e2
    . cases e2
end
end Mi
namespace L2
open PySem PySem.Spec PyProof.Rows Sem
section
variable {prog:Program} {w:World} {A:Around} {E:Value->Shared->Prop} {s:Shared}
end
end L2
namespace L2
open PySem PySem.Spec PyProof.Rows Sem
section
variable {prog:Program} {w:World} {A:Around} {E:Value->Shared->Prop} {s:Shared}
set_option maxHeartbeats 2000000 in
theorem Ja {T nid iid:String} {args:List Value} {Q Q₁:Value->Shared->Prop} (ft:TypeCalled T nid iid) (ok:checkTypeCall T ⟨args,[]⟩=pure ())
    (new:codeAny (model prog w) A.in1 (.call (.builtin nid) ⟨.type T :: args,[]⟩) (wants Q₁ E) s)
    (init:∀ x s₁,Q₁ x s₁->s₁.TypeIs x T /\ codeAny (model prog w) A.in1 (.call (.builtin iid) ⟨x :: args,[]⟩) (wants (fun r s₂=>r=.none /\ Q x s₂) E) s₁) :
    wpAny (model prog w) A (call (.type T) args) Q E s:=by
  have a1:=ft.notType
  have a2:=ft.canCreate
  have a3:=ft.made
  have a4:=ft.sub
  obtain ⟨c,tl,a5⟩:=ft.mro
  have step:codeAny (model prog w) A (.builtin "type.__call__" ⟨.type T :: args,[]⟩) (wants Q E) s:=by
    refine codeAny_builtin F.entry_type_call ?_
    rw [Around.under_plain (weight_type_call_type T args []) rfl]
    unfold Builtin.«type.__call__»
    iterate 3 (any_goals (first | assumption | wp_step))
    first | refine wpAny_of_eq ok ?_ | refine wpAny_bind (wpAny_of_eq ok ?_)
    repeat (any_goals (first | assumption | wp_step))
    refine codeAny_mono new fun r s₁ hr=>?_
    match r,hr with
    | .error e,hr=>exact hr
    | .ok (.ret x),hr=>
      obtain ⟨ty,run⟩:=init x s₁ hr
      have b1:=ft.init.lookup
      have b2:=ft.init.bind x
      repeat (any_goals (first | assumption | wp_step))
      refine codeAny_mono run fun r₂ s₂ hr₂=>?_
      match r₂,hr₂ with
      | .error e,hr₂=>exact hr₂
      | .ok (.ret y),hr₂=>
        obtain ⟨ey,hq⟩:=hr₂
        subst ey
        repeat (any_goals (first | assumption | wp_step))
  exact wpAny_call (codeAny_of_tree (wpAny_pure ⟨Code.quiet_builtin _ (by decide +kernel),step⟩))
abbrev AK (led:Bool):Obj:={ cls:=.type "set",data:=.set #[] 0 (.fresh 0 0 led) }
end
section
variable {X:Cx}
end
end L2
namespace Mi
open PySem L2
section
variable {X:Cx} {e:Expr} {pos p p2 pos2:Pos}
end
end Mi
namespace Mi
open PySem L2
inductive How where
  | all | drop | frz
def Nq (μ2:Mh):How->D->D
  | .frz,.ref n=>match μ2[n]? with
    | some (.lst ds)=>.lst ds
    | _=>.ref n
  | _,d=>d
def KR (μ μ2:Mh):How->Mh
  | .all=>μ2
  | _=>μ2.take μ.length
open Classical in
noncomputable def A9 (hw:How) (n ps:Nat) (mb:Sl->M (Fl × Sl)):List D->M D:=fun ds μ=>match mb (Bc n ds) μ with
  | some ((fl,_),μ2)=>if ds.length=ps /\ (fl=.next ∨ ∃ d,fl=.rt d) /\ FN μ μ2 (KR μ μ2 hw) (FQ fl) (Nq μ2 hw (FQ fl)) then some (Nq μ2 hw (FQ fl),KR μ μ2 hw) else none
  | none=>none
theorem DK {hw:How} {n ps:Nat} {mb:Sl->M (Fl × Sl)} {ds:List D} {μ μ':Mh} {d:D} (h:A9 hw n ps mb ds μ=some (d,μ')) :
    ds.length=ps /\ ∃ fl τ2 μ2,mb (Bc n ds) μ=some ((fl,τ2),μ2) /\ (fl=.next ∨ ∃ d,fl=.rt d) /\ FN μ μ2 μ' (FQ fl) d:=by
  unfold A9 at h
  split at h
  . rename_i fl τ2 μ2 e
    split at h
    . rename_i c
      cases h
      exact ⟨c.1,fl,τ2,μ2,e,c.2.1,c.2.2⟩
    . cases h
  . cases h
theorem FG {hw:How} {n ps:Nat} {mb:Sl->M (Fl × Sl)} {ds:List D} {μ μ2:Mh} {fl:Fl} {τ2:Sl} (e:mb (Bc n ds) μ=some ((fl,τ2),μ2)) (hl:ds.length=ps) (hf:fl=.next ∨ ∃ d,fl=.rt d) (t:FN μ μ2 (KR μ μ2 hw) (FQ fl) (Nq μ2 hw (FQ fl))) :
    A9 hw n ps mb ds μ=some (Nq μ2 hw (FQ fl),KR μ μ2 hw):=by
  unfold A9
  rw [e]
  exact if_pos ⟨hl,hf,t⟩
theorem Ig {n ps:Nat} {mb:Sl->M (Fl × Sl)} {ds:List D} {μ g:Mh} {d:D} {τ2:Sl} (e:mb (Bc n ds) μ=some ((.rt d,τ2),μ ++ g)) (hl:ds.length=ps) (c:Cl μ.length d):A9 .drop n ps mb ds μ=some (d,μ):=by
  have t:KR μ (μ ++ g) .drop=μ:=by show (μ ++ g).take μ.length=μ; rw [List.take_left]
  have h:=FG (hw:=.drop) e hl (.inr ⟨d,rfl⟩) (by rw [t]; exact Hw c)
  rw [t] at h
  exact h
theorem BS (hw:How) {P:Program} {w:World} {K:PySem.W.Frag} {mg:Str->Option Value} {base:Heap} {x qual:Str} {st:Stmt} {f:Addr} {fd:FuncData} {N ps:List Str} {k:Nat} {mb:Sl->M (Fl × Sl)} (F:Fun K x qual st f fd) (S:Ag N ps (AG st)) (hm:mg x=some (.ref f)) (hb:Binds K fd ps [])
    (body:∀ (cdv:Value) (A:Around) (outer:List Env) (s:Shared) (H:Hp) (E:XK),Room k (A.deeper (PyProof.Rows.envOfC qual (AG st) s.heap.objs.size f cdv))->RSs (B5 CX0 P w K mg base N qual (AG st) f cdv A outer s H E).nox (Ab st) mb) :
    Fn P w K mg base x ps (k + 1) (A9 hw N.length ps.length mb):=
  QQ F S hm hb body (fun ds μ r h=>(DK (d:=r.1) (μ':=r.2) h).1) (fun ds μ d μ' h=>(DK h).2)
end Mi
namespace Mi
open PySem L2
section
variable {P:Program} {w:World} {K:PySem.W.Frag} {mg:Str->Option Value} {base h:Heap} {x:Str}
structure Df (K:PySem.W.Frag) (x:Str) (st:Stmt) (f:Addr) (fd:FuncData):Prop where
  a:PySem.W.nsIn K mainGlobals x=some (some (.ref f))
  F:Fun K x x st f fd
theorem Rh {st:Stmt} {f:Addr} {oc:Value} {od an:Option Addr} {osl:Array (Option Value)} {kV doc pm cdv ct:Value} (a:PySem.W.nsIn K mainGlobals x=some (some (.ref f))) (l:K.lookup f=some ⟨oc,od,.func (PySem.W.fnOf x x (Da st) (Ab st) (AG st) .none kV doc pm an cdv ct),osl⟩)
    (c:PySem.W.codeIn K cdv x=true) (k:PySem.W.keepIn K (.ref f)=true):∃ f fd,Df K x st f fd:=⟨f,_,a,QP l c k⟩
theorem MK (hw:How) {qual:Str} {st:Stmt} {f:Addr} {fd:FuncData} {N ps:List Str} {k:Nat} {mb:Sl->M (Fl × Sl)} (F:Fun K x qual st f fd) (S:Ag N ps (AG st))
    (body:∀ (cdv:Value) (A:Around) (outer:List Env) (s:Shared) (H:Hp) (E:XK),Room k (A.deeper (PyProof.Rows.envOfC qual (AG st) s.heap.objs.size f cdv))->RSs (B5 CX0 P w K mg base N qual (AG st) f cdv A outer s H E).nox (Ab st) mb) :
    FnOk P w K mg base CX0 (k + 1) f fd ps (spM K ps.length (A9 hw N.length ps.length mb)):=
  Fy F S rfl body (fun ds μ d μ' h=>(DK h).2)
def JI (K:PySem.W.Frag):Sp:=fun vs H Q _=>∃ (a:Addr) (ns:List Int),vs=[.ref a] /\ ScrAt K H a (ns.map V.int) /\ ns.length <= 63 /\ ∀ H',Q (.bl true) H'
theorem O6 {k:Nat} {f:Addr} {fd:FuncData} {φ:List D->M D} (F:FnOk P w K mg base CX0 k f fd ["_law_script"] (spM K 1 φ)) (hφ:∀ ns:List Int,ns.length <= 63->∃ μ',φ [.scr ns] []=some (.bl true,μ')):FnOk P w K mg base CX0 k f fd ["_law_script"] (JI K):=
  F.imp fun vs H Q E q=>by
    obtain ⟨a,ns,rfl,s,hl,q⟩:=q
    obtain ⟨μ',e⟩:=hφ ns hl
    refine ⟨rfl,fun _=>a,[],[.scr ns],.bl true,μ',⟨fun i j h=>absurd h (Nat.not_lt_zero _),fun n o e=>by simp at e⟩,.one (by unfold Is; exact ⟨a,rfl,s⟩),e,fun ι2 H2 E2 R2 v i=>?_⟩
    unfold Is at i
    rw [i]
    exact q H2
theorem G5 {H:Hp} {a:Addr} {xs:List V} (o:OL H) (s:SqL K H a xs):ScrAt K H a xs:=by
  rcases s with z | z
  . rcases z with z | ⟨p,z⟩
    . rcases o a with q | ⟨p,ys,q⟩
      . rw [q] at z; cases z
      . rw [q] at z; cases z
    . exact .inl ⟨p,z⟩
  . exact .inr z
end
theorem Qj {l:PySem.W.OpenLaw} {q:Program} {loose:List Str} {XP:(Str->Option Value)->Heap->Prop} {YP:World->Heap->Prop} {d:DefRec} {K:Params->PySem.W.Frag} {k:Nat} (hn:l.most=some 63) (hdf:d.params.defaults=[]) (hk:k <= 60)
    (hY:∀ (w:World) (h:Heap),YP w h->(K w.params).In h)
    (F:∀ (w:World) (mg:Str->Option Value) (fa:Addr) (h:Heap),(K w.params).In h->h.Ns mainGlobals mg->mg d.name=some (.ref fa)->
      ∃ fd:FuncData,(∀ (s:Shared) (u:Value),BindsTo s fd ⟨[u],[]⟩ [("_law_script",u)]) /\ ∀ base:Heap,(K w.params).In base->base.Ns mainGlobals mg->FnOk l.prog w (K w.params) mg base CX0 k fa fd ["_law_script"] (JI (K w.params))) :
    PySem.W.WalkO q loose XP YP l.row.toRowW d [] (fun f vs=>PySem.call f vs):=
  L2.NG (n:=63) (k:=k) (x := "_law_script") (CX:=fun _=>CX0) (sp:=fun w=>JI (K w.params)) hn (by decide) hdf (Room.mono (j:=k) (k:=60) ⟨rfl,by decide,by decide⟩ hk) hY F (fun _ _ a ns hl o hS=>⟨a,ns,rfl,G5 o hS,hl,fun _=>rfl⟩) fun _ _ _ _ _ z=>z
end Mi
namespace Mi
open PySem L2
section
variable {X:Cx} {scope:Scope} {tgs:List Str} {ix:List Nat} {e elt tg iter:Expr} {pos:Pos}
end
end Mi
namespace Mi
open PySem L2 PyProof.Rows
section
variable {X:Cx} {e a b c o:Expr} {es:List Expr} {pos apos cpos:Pos}
theorem Lx:OpR X (binaryOp .Add) (fun x y H Q=>∃ a b ys,x=.ref a /\ y=.ref b /\ SqT X.K H a [] /\ SqT X.K H b ys /\ Q (.ref b) H):=by
  intro pins s σ H x y v u Q I rx ry h
  obtain ⟨a,b,ys,rfl,rfl,ha,hb,q⟩:=h
  cases rx
  cases ry
  obtain ⟨its,r1,p1,_⟩:=I.tuple ha
  obtain ⟨its2,r2,p2,_⟩:=I.tuple hb
  cases r1
  obtain ⟨⟨cls,dd,data,sl⟩,ho,hc,n,hd⟩:=p1
  obtain ⟨⟨cls2,dd2,data2,sl2⟩,ho2,hc2,n2,hd2⟩:=p2
  simp only at hc hd hc2 hd2
  subst hc hd hc2 hd2
  exact concat_meets ⟨_,ho,rfl⟩ ⟨_,ho2,rfl⟩ noFill_tuple_add seq_tuple_add PySem.F.slot_tuple_add PySem.F.entry_tuple_add (PySem.F.args_tuple_add_2 _ _) (tuple_addW0 a b _ _ n n2 dd dd2 sl sl2 rfl) ⟨ho,ho2,⟨.ref b,H,I,rfl,q⟩⟩
def Ai (a b:D):M D:=match a,b with
  | .tup [],.tup ds=>ret (.tup ds)
  | a,b=>Lk a b
theorem BB:OpR X (binaryOp .Add) (rM X.K Ai):=fun pins s σ H x y v u Q I rx ry h=>by
  obtain ⟨ι,μ,a,b,d,μ',R,ia,ib,e,q⟩:=h
  unfold Ai at e
  split at e
  . rename_i ds
    cases e
    unfold Is at ia
    obtain ⟨p,vs,rfl,h1,h2⟩:=ia
    unfold IsL at h2
    subst h2
    have ib2:=ib
    unfold Is at ib
    obtain ⟨p',vs',rfl,h1',h2'⟩:=ib
    exact Lx pins s σ H _ _ v u Q I rx ry ⟨p,p',vs',rfl,rfl,h1,h1',q ι H R.ext0 R _ ib2⟩
  . exact RP pins s σ H x y v u Q I rx ry ⟨ι,μ,_,_,d,μ',R,ia,ib,e,q⟩
theorem FV {prog:Program} {w:World} {A:Around} {E:Value->Shared->Prop} {s:Shared} {t sl:Addr} {items:Array Value} {vl vu:Value} {lo hi:Option Int} {Q:Value->Shared->Prop} (ht:IsTup s.heap t items) (hs:s.heap.IsSliceOf sl vl vu .none) (pl:IsPart vl lo) (pu:IsPart vu hi)
    (h1:HT.sIx items.size 0 lo=0) (h2:HT.sIx items.size items.size hi=items.size) (h:Q (.ref t) s):wpAny (model prog w) A (getItem (.ref t) (.ref sl)) Q E s:=by
  obtain ⟨os,hos,hcs,hds⟩:=id hs
  have hTs:s.TypeIs (.ref sl) "slice" := ⟨os,hos,hcs⟩
  unfold getItem
  try with_reducible refine wpAny_holding ?_
  first | refine wpAny_bind (wpAny_pure ?_) | skip
  refine wpAny_bind (wpAny_sequenceKey ht.typeIs (by decide) ?_)
  refine wpAny_bind (wpAny_callSpecial?_slot (name:=Str.ofString "__getitem__") ht.typeIs PyProof.Rows.slot_tuple_getitem
    (wpAny_call_entry PyProof.Rows.slot_tuple_getitem ht.typeIs entry_tuple_getitem ?_ (args_tuple_getitem _ _)))
  show wpAny _ _ (Builtin.Tuple.tupleItemsOf (.ref t) >>= _) _ _ s
  refine wpAny_bind (tupleItemsOf_ ht ?_)
  refine wpAny_bind (wpAny_typeOf hTs ?_)
  rw [if_pos (by decide)]
  refine wpAny_bind (HT.CJ hs pl pu ?_)
  have hyes:((((HT.sIx items.size 0 lo:Nat):Int) == 0 && (1:Int) == 1 && (HT.sIx items.size items.size hi - HT.sIx items.size 0 lo) == items.size)=true):=by rw [h1,h2]; simp
  show wpAny _ _ (if (((HT.sIx items.size 0 lo:Nat):Int) == 0 && (1:Int) == 1 && (HT.sIx items.size items.size hi - HT.sIx items.size 0 lo) == items.size)=true then _ else _) _ _ s
  rw [if_pos hyes]
  refine wpAny_bind (m:=Builtin.Tuple.tupleIsExact (.ref t)) ?_
  unfold Builtin.Tuple.tupleIsExact
  refine wpAny_bind (wpAny_typeOf ht.typeIs (wpAny_pure ?_))
  rw [if_pos (by decide)]
  refine wpAny_bind (wpAny_rule ?_)
  exact wpAny_pure ⟨_,rfl,wpAny_pure h⟩
theorem NP:SlR X (fun x lo hi H Q=>∃ a xs,x=.ref a /\ SqT X.K H a xs /\ HT.sIx xs.length 0 lo=0 /\ HT.sIx xs.length xs.length hi=xs.length /\ Q (.ref a) H):=by
  intro pins s σ H x v vl vu lo hi sl Q I rx hs pl pu h
  obtain ⟨a,xs,rfl,hx,h1,h2,q⟩:=h
  cases rx
  obtain ⟨its,r,ht,hz⟩:=I.tuple hx
  have hlen:its.toArray.size=xs.length:=by rw [List.size_toArray]; exact r.length.symm
  refine ⟨"tuple",_,PyProof.Rows.slot_tuple_getitem.lookup,ht.typeIs,?_⟩
  exact FV ht hs pl pu (by rw [hlen]; exact h1) (by rw [hlen]; exact h2) ⟨.ref a,H,I,rfl,q⟩
theorem MX {ds:List D} {lo hi:Option Int} (h1:HT.sIx ds.length 0 lo=0) (h2:HT.sIx ds.length ds.length hi=ds.length):FA ds lo hi=ds:=by
  unfold FA
  rw [h1,h2]; simp
def Li (lo hi:Option Int):D->M D
  | .tup ds=>ret (.tup (FA ds lo hi))
  | d=>bnd (Ba d) fun ds=>ret (.lst (FA ds lo hi))
def SB (K:PySem.W.Frag):V->Option Int->Option Int->Hp->VK->Prop:=fun x lo hi H Q=>∃ ι μ a d μ',RelH K ι μ H /\ Is K ι μ.length H a x /\ Li lo hi a μ=some (d,μ') /\
  Aft K ι μ H μ' fun ι' H'=>∀ v,Is K ι' μ'.length H' d v->Q v H'
theorem RK:SlR X (SB X.K):=fun pins s σ H x v vl vu lo hi sl Q I rx hs pl pu h=>by
  obtain ⟨ι,μ,a,d,μ',R,ia,e,q⟩:=h
  by_cases c:∃ ds,a=.tup ds /\ HT.sIx ds.length 0 lo=0 /\ HT.sIx ds.length ds.length hi=ds.length
  . obtain ⟨ds,rfl,h1,h2⟩:=c
    have e:some (D.tup (FA ds lo hi),μ)=some (d,μ'):=e
    rw [MX h1 h2] at e
    cases e
    have ia2:=ia
    unfold Is at ia
    obtain ⟨p,vs,rfl,g1,g2⟩:=ia
    exact NP pins s σ H _ v vl vu lo hi sl Q I rx hs pl pu ⟨p,vs,rfl,g1,by rw [g2.length]; exact h1,by rw [g2.length]; exact h2,q ι H R.ext0 R _ ia2⟩
  . refine SE pins s σ H x v vl vu lo hi sl Q I rx hs pl pu ⟨ι,μ,a,d,μ',R,ia,?_,q⟩
    cases a with
    | tup ds=>
      show (if HT.sIx ds.length 0 lo=0 /\ HT.sIx ds.length ds.length hi=ds.length then (BL:M D) else ret (D.tup (FA ds lo hi))) μ=_
      rw [if_neg (fun z=>c ⟨ds,rfl,z.1,z.2⟩)]; exact e
    | _=>exact e
def L5 (me:Sl->M D) (ml mh:Sl->M (Option Int)):Sl->M D:=fun τ=>bnd (me τ) fun x=>bnd (ml τ) fun l=>bnd (mh τ) fun h=>Li l h x
theorem IF {e:Expr} {lo hi:Option Expr} {me:Sl->M D} {ml mh:Sl->M (Option Int)} {pos p2:Pos} (he:RE X e me) (hl:RO X lo ml) (hh:RO X hi mh):RE X (.Subscript e (.Slice lo hi none p2) pos) (L5 me ml mh):=RE.wk (Ls RK he.pe hl.pe hh.pe) fun σ H Q h=>by
  obtain ⟨ι,μ,τ,z,μ',R,S,e,q⟩:=h
  obtain ⟨x,μ1,e1,e⟩:=AE e
  obtain ⟨l,μ2,e2,e⟩:=AE e
  obtain ⟨u,μ3,e3,e⟩:=AE e
  refine ⟨ι,μ,τ,x,μ1,R,S,e1,fun ι1 H1 E1 R1 v i1=>⟨ι1,μ1,τ,l,μ2,R1,S.ext E1,e2,fun ι2 H2 E2 R2=>⟨ι2,μ2,τ,u,μ3,R2,S.ext (E1.trans E2),e3,fun ι3 H3 E3 R3=>?_⟩⟩⟩
  have E23:=E2.trans E3
  exact ⟨ι3,μ3,x,z,μ',R3,i1.ext E23,e,fun ι4 H4 E4 R4=>q ι4 H4 ((E1.trans E23).trans E4) R4⟩
end
end Mi
namespace Mi
open PySem L2
open PyProof.Rows hiding St
section
variable {X:Cx} {e a b c o tg iter elt:Expr} {es:List Expr} {pos apos cpos:Pos} {scope:Scope} {tgs:List Str} {ix:List Nat}
def AX (g:D->List D->M D) (mo:Sl->M D):Sl->M D:=fun τ=>bnd (mo τ) fun x=>bnd (Cz x) fun _=>g x []
theorem J8 {K:PySem.W.Frag} {g:D->List D->M D} {mo:Sl->M D} {σ:St} {H:Hp} {Q:VK} (h:tE K (AX g mo) σ H Q):Qt K "list" (rMM K g) (tE K mo) σ H Q:=by
  obtain ⟨ι,μ,τ,d,μ',R,S,e,q⟩:=h
  obtain ⟨x,μ1,e1,ee1⟩:=AE e
  obtain ⟨u,μ2,e2,ee2⟩:=AE ee1
  have hm:=Fs e2
  subst hm
  refine ⟨ι,μ,τ,x,_,R,S,e1,fun ι1 H1 E1 R1 v1 i1=>⟨(D3 R1 i1 e2).2,?_⟩⟩
  exact ⟨ι1,_,x,[],d,μ',R1,i1,IsL.nil,ee2,fun ι3 H3 E3 R3=>q ι3 H3 (E1.trans E3) R3⟩
theorem Ad {name:Str} {id:String} {g:D->List D->M D} {mo:Sl->M D} (slot:Slot "list" name id) (hty:typeOf (.builtin id)=pure (.type "method_descriptor")) (hm:MtR X id (rMM X.K g)) (ho:RE X o mo)
    (hbase:attributeBase o name X.env (eval o X.env)=eval o X.env:=by rfl) (hline:(apos.endLine == cpos.line)=true:=by rfl) :
    RE X (.Call (.Attribute o name apos) [] [] cpos) (AX g mo):=RE.wk (Pq PySem.F.plainAttrs_list slot hty hm ho.pe hbase hline) fun _ _ _ h=>J8 h
end
end Mi
namespace Mi
open PySem L2
open PyProof.Rows hiding St
section
variable {X:Cx} {e a b c o:Expr} {es:List Expr} {pos apos cpos:Pos}
def DW:List D->Option (List Int)
  | []=>some []
  | .int i :: ds=>(DW ds).map (i :: ·)
  | _=>none
theorem Et {K:PySem.W.Frag} {ι:Nat->Addr} {k:Nat} {H:Hp}:∀ {ds:List D} {vs:List V} {ns:List Int},IsL K ι k H ds vs->DW ds=some ns->vs=ns.map V.int
  | [],_,_,h,e=>by cases e; unfold IsL at h; exact h
  | .int b :: ds,_,_,h,e=>by
    unfold IsL at h
    obtain ⟨v,vs',rfl,h1,h2⟩:=h
    unfold DW at e
    cases q:DW ds with
    | none=>rw [q] at e; cases e
    | some bs=>
      rw [q] at e; cases e
      unfold Is at h1
      rw [h1,Et h2 q]; rfl
  | .non :: _,_,_,_,e=>by cases e
  | .bl _ :: _,_,_,_,e=>by cases e
  | .str _ :: _,_,_,_,e=>by cases e
  | .ty _ :: _,_,_,_,e=>by cases e
  | .scr _ :: _,_,_,_,e=>by cases e
  | .tup _ :: _,_,_,_,e=>by cases e
  | .lst _ :: _,_,_,_,e=>by cases e
  | .ref _ :: _,_,_,_,e=>by cases e
end
end Mi
namespace Mi
open PySem L2
open PyProof.Rows hiding St
section
variable {X:Cx} {e a b c o:Expr} {es:List Expr} {pos apos cpos:Pos}
end
end Mi
namespace Mi
open PySem L2
end Mi
local macro_rules | `(tactic| wtm_at "own qpu")=>`(tactic| repeat first | exact Mi.pu_slot | exact Mi.pu_c | exact Mi.pu_true | exact Mi.pu_ix | exact Mi.pu_eqB | exact Mi.pu_nil | exact Mi.pu_inst | exact Mi.pu_len | apply Mi.pu_test | apply Mi.pu_op | apply Mi.pu_cons | apply Mi.pu_disp | apply Mi.pu_or | apply Mi.pu_and | apply Mi.pu_not)
namespace Ht
open PySem PySem.SetTable
abbrev Ris (l:List Nat):Prop:=l.Pairwise (· < ·)
theorem ID {xs:Array Nat} (r:Ris xs.toList) {i k:Nat} (hk:k < xs.size) (h:i < k):xs[i]'(Nat.lt_trans h hk) < xs[k]:=by
  have:=List.pairwise_iff_getElem.mp r i k (by simpa using Nat.lt_trans h hk) (by simpa using hk) h
  simpa using this
theorem LW {xs:Array Nat} (r:Ris xs.toList) {i k:Nat} (hk:k < xs.size) (h:i <= k):xs[i]'(Nat.lt_of_le_of_lt h hk) <= xs[k]:=by
  rcases Nat.lt_or_eq_of_le h with z | z
  . exact Nat.le_of_lt (ID r hk z)
  . subst z; exact Nat.le_refl _
structure Bel (xs:Array Nat) (j b:Nat):Prop where
  le:b <= xs.size
  lo:∀ i (h:i < xs.size),i < b->xs[i] < j
  hi:∀ i (h:i < xs.size),b <= i->j <= xs[i]
theorem FJ {xs:Array Nat} {j:Nat} (r:Ris xs.toList):∀ fuel lo hi,lo <= hi->hi <= xs.size->hi - lo <= fuel->(∀ i (h:i < xs.size),i < lo->xs[i] < j)->(∀ i (h:i < xs.size),hi <= i->j <= xs[i])->Bel xs j (below.go xs j fuel lo hi)
  | 0,lo,hi,h1,h2,h3,h4,h5=>by
    have:lo=hi:=by omega
    subst this
    exact ⟨h2,h4,h5⟩
  | fuel + 1,lo,hi,h1,h2,h3,h4,h5=>by
    unfold below.go
    by_cases z:lo < hi
    . rw [if_pos z]
      have hm:(lo + hi) / 2 < hi:=by omega
      have hm2:lo <= (lo + hi) / 2:=by omega
      have hs:(lo + hi) / 2 < xs.size:=by omega
      have e:xs.getD ((lo + hi) / 2) j=xs[(lo + hi) / 2]:=by simp [Array.getD,hs]
      dsimp only
      rw [e]
      by_cases q:xs[(lo + hi) / 2] < j
      . rw [if_pos q]
        exact FJ r fuel _ hi (by omega) h2 (by omega) (fun i h hi'=>Nat.lt_of_le_of_lt (LW r hs (by omega)) q) h5
      . rw [if_neg q]
        exact FJ r fuel lo _ hm2 (by omega) (by omega) h4 (fun i h hi'=>Nat.le_trans (Nat.le_of_not_lt q) (LW r h hi'))
    . rw [if_neg z]
      have:lo=hi:=by omega
      subst this
      exact ⟨h2,h4,h5⟩
theorem CZ {xs:Array Nat} (r:Ris xs.toList) (j:Nat):Bel xs j (below xs j):=
  FJ r _ 0 _ (Nat.zero_le _) (Nat.le_refl _) (by omega) (fun i _ h=>absurd h (by omega)) (fun i h h2=>absurd h2 (by omega))
theorem Mj {xs:Array Nat} (r:Ris xs.toList) {k:Nat} (hk:k < xs.size):below xs xs[k]=k:=by
  have b:=CZ r xs[k]
  rcases Nat.lt_trichotomy (below xs xs[k]) k with z | z | z
  . have h1:=b.hi _ (Nat.lt_trans z hk) (Nat.le_refl _)
    have h2:=ID r hk z
    omega
  . exact z
  . have:=b.lo k hk z
    omega
theorem Ij {xs:Array Nat} (r:Ris xs.toList) {k:Nat} (hk:k < xs.size):below xs (xs[k] + 1)=k + 1:=by
  have b:=CZ r (xs[k] + 1)
  rcases Nat.lt_trichotomy (below xs (xs[k] + 1)) (k + 1) with z | z | z
  . have h1:=b.hi k hk (by omega)
    omega
  . exact z
  . have h1:=b.lo (k + 1) (by have:=b.le; omega) z
    have h2:=ID r (k:=k + 1) (i:=k) (by have:=b.le; omega) (by omega)
    omega
theorem Ii {xs:Array Nat} (r:Ris xs.toList):below xs 0=0:=by
  have b:=CZ r 0
  rcases Nat.eq_zero_or_pos (below xs 0) with z | z
  . exact z
  . have:=b.lo 0 (by have:=b.le; omega) z
    omega
theorem EU {t:SetTable} (r:Ris t.place.toList) {j:Nat} (h:j ∈ t.place.toList):∃ i,t.slot j=.live i:=by
  obtain ⟨k,hk,e⟩:=List.getElem_of_mem h
  have hk':k < t.place.size:=by simpa using hk
  have e':t.place[k]=j:=by simpa using e
  refine ⟨k,?_⟩
  unfold slot
  have b:below t.place j=k:=by rw [← e']; exact Mj r hk'
  dsimp only
  rw [b,if_pos (by simp [hk',e'])]
theorem BI {t:SetTable} (d:t.dummies = #[]) (j:Nat):t.slot j ≠ .dummy:=by
  unfold slot
  dsimp only
  split
  . exact fun h=>by cases h
  . rw [d]
    have:has (#[]:Array Nat) j=false:=by unfold has; simp
    rw [this]
    exact fun h=>by cases h
theorem Fc {t:SetTable} {i j:Nat} (h:t.slot j=.live i):j ∈ t.place.toList:=by
  unfold slot at h
  dsimp only at h
  split at h
  . rename_i e
    have e':t.place[below t.place j]? = some j:=by simpa using e
    obtain ⟨hk,e2⟩:=Array.getElem?_eq_some_iff.mp e'
    rw [← e2]
    simp
  . split at h <;> cases h
theorem GO {xs:Array Nat} (r:Ris xs.toList) {j:Nat} (h:j ∉ xs.toList):Ris (insertAt xs (below xs j) j).toList:=by
  have b:=CZ r j
  rw [toList_insertAt]
  refine List.pairwise_append.mpr ⟨List.Pairwise.sublist (List.take_sublist _ _) r,List.pairwise_cons.mpr ⟨fun y hy=>?_,List.Pairwise.sublist (List.drop_sublist _ _) r⟩,fun x hx y hy=>?_⟩
  . obtain ⟨i,hi,e⟩:=List.getElem_of_mem hy
    rw [List.getElem_drop] at e
    have hs:below xs j + i < xs.size:=by simp at hi; omega
    have:=b.hi _ hs (Nat.le_add_right _ _)
    have e2:xs[below xs j + i]=y:=by simpa using e
    have hne:y ≠ j:=fun z=>h (by rw [← z]; exact List.mem_of_mem_drop hy)
    omega
  . have hxj:x < j:=by
      obtain ⟨i,hi,e⟩:=List.getElem_of_mem hx
      rw [List.getElem_take] at e
      have hi2:i < below xs j /\ i < xs.size:=by
        have:i < min (below xs j) xs.size:=by simpa using hi
        omega
      have e2:xs[i]'hi2.2=x:=by simpa using e
      have:=b.lo _ hi2.2 hi2.1
      omega
    rcases List.mem_cons.mp hy with z | z
    . rw [z]; exact hxj
    . obtain ⟨i,hi,e⟩:=List.getElem_of_mem z
      rw [List.getElem_drop] at e
      have hs:below xs j + i < xs.size:=by simp at hi; omega
      have:=b.hi _ hs (Nat.le_add_right _ _)
      have e2:xs[below xs j + i]=y:=by simpa using e
      omega
def lp (mask:Nat):Nat->Nat × Nat->Nat × Nat
  | 0,x=>x
  | n + 1,x=>lp mask n (leap mask x.1 x.2)
theorem L8 (mask:Nat):∀ (a b:Nat) (x:Nat × Nat),lp mask (a + b) x=lp mask b (lp mask a x)
  | 0,b,x=>by rw [Nat.zero_add]; rfl
  | a + 1,b,x=>by
    rw [show a + 1 + b=(a + b) + 1 from by omega]
    exact L8 mask a b _
theorem L7 (mask:Nat):∀ (n:Nat) (x:Nat × Nat),(lp mask n x).2=x.2 / 32 ^ n
  | 0,x=>by simp [lp]
  | n + 1,x=>by
    show (lp mask n (leap mask x.1 x.2)).2=_
    rw [L7 mask n]
    show x.2 / 32 / 32 ^ n=_
    rw [Nat.div_div_eq_div_mul,Nat.pow_succ,Nat.mul_comm]
theorem OT (mask:Nat):∀ (n:Nat) (x:Nat × Nat),x.1 < mask + 1->(lp mask n x).1 < mask + 1
  | 0,x,h=>h
  | n + 1,x,h=>OT mask n _ (Nat.mod_lt _ (by omega))
theorem PK:∀ i,i < 8->∀ j,j < 8->∃ n,n < 8 /\ (lp 7 n (i,0)).1=j:=by decide +kernel
theorem NS:∀ i,i < 16->∀ j,j < 16->∃ n,n < 16 /\ (lp 15 n (i,0)).1=j:=by decide +kernel
theorem NR:∀ i,i < 32->∀ j,j < 32->∃ n,n < 32 /\ (lp 31 n (i,0)).1=j:=by decide +kernel
abbrev Sm (mask:Nat):Prop:=mask=7 ∨ mask=15 ∨ mask=31
theorem Oc {mask:Nat} (hm:Sm mask) {i p:Nat} (hi:i < mask + 1) (hp:p < 2 ^ 64) {j:Nat} (hj:j < mask + 1):∃ n,n < turns mask /\ (lp mask n (i,p)).1=j:=by
  have h0:(lp mask 13 (i,p)).2=0:=by
    rw [L7]
    exact Nat.div_eq_of_lt (Nat.lt_trans hp (by decide))
  have h1:=OT mask 13 (i,p) hi
  have e:lp mask 13 (i,p)=((lp mask 13 (i,p)).1,0):=by rw [← h0]
  have:∃ n,n < mask + 1 /\ (lp mask n ((lp mask 13 (i,p)).1,0)).1=j:=by
    rcases hm with z | z | z <;> subst z
    . exact PK _ h1 j hj
    . exact NS _ h1 j hj
    . exact NR _ h1 j hj
  obtain ⟨n,h2,h3⟩:=this
  refine ⟨13 + n,by unfold turns; omega,?_⟩
  rw [L8,e]
  exact h3
theorem Js (h:Int):bits h < 2 ^ 64:=by
  unfold bits
  have h1:=Int.emod_nonneg h (show (2 ^ 64:Int) ≠ 0 by decide)
  have h2:=Int.emod_lt_of_pos h (show (0:Int) < 2 ^ 64 by decide)
  omega
abbrev start (t:SetTable) (i pt:Nat):Probe:={ j:=i,more:=runEnd t.mask i - i,i:=i,perturb:=pt,dummy:=none }
theorem Fg {t:SetTable} (d:t.dummies = #[]) {f:Nat->Int} {h:Int} (hf:∀ i,f i ≠ h):∀ (fuel:Nat) (p:Probe) (m:Met),p.dummy=none->probe.go t f h fuel p=some m->∃ j,m=.empty j none /\ t.slot j=.empty
  | 0,p,m,hp,e=>by cases e
  | fuel + 1,p,m,hp,e=>by
    unfold probe.go at e
    have hadv:(t.advance p).dummy=none:=by
      unfold advance
      split
      . exact hp
      . exact hp
    split at e
    . rename_i q
      cases e
      exact ⟨p.j,by rw [hp],q⟩
    . rename_i q
      exact absurd q (BI d _)
    . rename_i i q
      rw [if_neg (by simpa using hf i)] at e
      exact Fg d hf fuel _ m hadv e
theorem G7 {t:SetTable} (d:t.dummies = #[]) {f:Nat->Int} {h:Int} (hf:∀ i,f i ≠ h):∀ (more fuel j i pt:Nat),probe.go t f h (fuel + more + 1) { j:=j,more:=more,i:=i,perturb:=pt,dummy:=none }=none->
    t.slot j ≠ .empty /\ probe.go t f h fuel (start t (leap t.mask i pt).1 (leap t.mask i pt).2)=none
  | 0,fuel,j,i,pt,e=>by
    unfold probe.go at e
    split at e
    . cases e
    . rename_i q
      exact absurd q (BI d _)
    . rename_i k q
      rw [if_neg (by simpa using hf k)] at e
      have q':t.slot j=.live k:=q
      refine ⟨by rw [q']; exact fun z=>(by cases z),?_⟩
      have:t.advance { j:=j,more:=0,i:=i,perturb:=pt,dummy:=none }=start t (leap t.mask i pt).1 (leap t.mask i pt).2:=rfl
      rw [this] at e
      exact e
  | more + 1,fuel,j,i,pt,e=>by
    rw [show fuel + (more + 1) + 1=(fuel + more + 1) + 1 from by omega] at e
    unfold probe.go at e
    split at e
    . cases e
    . rename_i q
      exact absurd q (BI d _)
    . rename_i k q
      rw [if_neg (by simpa using hf k)] at e
      have q':t.slot j=.live k:=q
      refine ⟨by rw [q']; exact fun z=>(by cases z),?_⟩
      have:t.advance { j:=j,more:=more + 1,i:=i,perturb:=pt,dummy:=none }={ j:=j + 1,more:=more,i:=i,perturb:=pt,dummy:=none }:=by
        unfold advance
        rw [if_pos (by simp)]
        rfl
      rw [this] at e
      exact (G7 d hf more fuel (j + 1) i pt e).2
theorem Fe {t:SetTable} (d:t.dummies = #[]) {f:Nat->Int} {h:Int} (hf:∀ i,f i ≠ h):∀ (m fuel i pt:Nat),10 * m <= fuel->probe.go t f h fuel (start t i pt)=none->∀ n,n < m->t.slot (lp t.mask n (i,pt)).1 ≠ .empty
  | 0,_,_,_,_,_,n,hn=>absurd hn (by omega)
  | m + 1,fuel,i,pt,hl,e,n,hn=>by
    have hr:runEnd t.mask i - i <= 9:=by unfold runEnd; split <;> omega
    have ef:fuel=(fuel - (runEnd t.mask i - i) - 1) + (runEnd t.mask i - i) + 1:=by omega
    rw [ef] at e
    obtain ⟨h1,h2⟩:=G7 d hf _ _ _ _ _ e
    cases n with
    | zero=>exact h1
    | succ n=>exact Fe d hf m _ _ _ (by omega) h2 n (by omega)
theorem DT {α:Type} [DecidableEq α]:∀ {l r:List α},l.Nodup->(∀ x ∈ l,x ∈ r)->l.length <= r.length
  | [],_,_,_=>Nat.zero_le _
  | a :: l,r,hn,hs=>by
    obtain ⟨h1,h2⟩:=List.nodup_cons.mp hn
    have ha:=hs a (List.mem_cons_self ..)
    have:=DT (r:=r.erase a) h2 fun x hx=>(List.mem_erase_of_ne (fun z=>h1 (by rw [← z]; exact hx))).mpr (hs x (List.mem_cons_of_mem _ hx))
    rw [List.length_erase_of_mem ha] at this
    have hp:=List.length_pos_of_mem ha
    simp only [List.length_cons]
    omega
theorem KH {l:List Nat} (r:Ris l):l.Nodup:=r.imp fun h=>Nat.ne_of_lt h
theorem Ji {t:SetTable} (d:t.dummies = #[]) (hm:Sm t.mask) (r:Ris t.place.toList) (hs:t.place.size <= t.mask) (h:Int):∃ j,t.freeSlot h=some (j,false) /\ t.slot j=.empty:=by
  have hf:∀ i:Nat,(fun _:Nat=>h + 1) i ≠ h:=fun i=>by show h + 1 ≠ h; omega
  unfold freeSlot
  cases e:t.probe (fun _=>h + 1) h (t.probeStart h) with
  | some m=>
    obtain ⟨j,rfl,q⟩:=Fg d hf _ _ m rfl e
    exact ⟨j,rfl,q⟩
  | none=>
    exfalso
    have e':probe.go t (fun _=>h + 1) h (10 * turns t.mask) (start t (bits h % (t.mask + 1)) (bits h))=none:=e
    have hv:=Fe d hf (turns t.mask) _ _ _ (Nat.le_refl _) e'
    have all:∀ j ∈ List.range (t.mask + 1),j ∈ t.place.toList:=fun j hj=>by
      obtain ⟨n,h1,h2⟩:=Oc hm (i:=bits h % (t.mask + 1)) (p:=bits h) (Nat.mod_lt _ (by omega)) (Js h) (List.mem_range.mp hj)
      have h3:=hv n h1
      rw [h2] at h3
      cases q:t.slot j with
      | empty=>exact absurd q h3
      | dummy=>exact absurd q (BI d _)
      | live i=>exact Fc q
    have:=DT List.nodup_range all
    simp at this
    omega
end Ht
namespace Ht
open PySem PySem.SetTable
theorem Ey {α β:Type} {f g:α->Option β}:∀ {l:List α},(∀ x ∈ l,f x=g x)->l.filterMap f=l.filterMap g
  | [],_=>rfl
  | a :: l,h=>by
    have h1:=h a (List.mem_cons_self ..)
    have h2:=Ey (l:=l) fun x hx=>h x (List.mem_cons_of_mem _ hx)
    cases q:g a with
    | none=>rw [List.filterMap_cons_none (h1.trans q),List.filterMap_cons_none q,h2]
    | some b=>rw [List.filterMap_cons_some (h1.trans q),List.filterMap_cons_some q,h2]
theorem ML {β:Type} {f g:Nat->Option β} {j:Nat} {b:β} (hj:f j=none) (hg:g j=some b) (ho:∀ i,i ≠ j->g i=f i):∀ {l:List Nat},l.Nodup->j ∈ l->(l.filterMap g).Perm (b :: l.filterMap f)
  | [],_,h=>by cases h
  | a :: l,hn,h=>by
    obtain ⟨h1,h2⟩:=List.nodup_cons.mp hn
    by_cases e:a=j
    . subst e
      have same:l.filterMap g=l.filterMap f:=Ey fun i hi=>ho i fun z=>h1 (by rw [← z]; exact hi)
      rw [List.filterMap_cons_some hg,List.filterMap_cons_none hj,same]
    . have hl:j ∈ l:=(List.mem_cons.mp h).resolve_left fun z=>e z.symm
      have ih:=ML hj hg ho h2 hl
      cases q:f a with
      | none=>rw [List.filterMap_cons_none ((ho a e).trans q),List.filterMap_cons_none q]; exact ih
      | some c=>
        rw [List.filterMap_cons_some ((ho a e).trans q),List.filterMap_cons_some q]
        exact (ih.cons c).trans (List.Perm.swap b c _)
theorem Ew {mask:Nat} {owner:Array (Option Nat)}:∀ (fuel i pt j:Nat),layClean.free mask owner fuel i pt=some j->owner.getD j (some 0)=none
  | 0,_,_,_,e=>by cases e
  | fuel + 1,i,pt,j,e=>by
    unfold layClean.free at e
    split at e
    . rename_i k q
      cases e
      have:=List.find?_some q
      simpa using this
    . exact Ew fuel _ _ j e
theorem Fw {mask:Nat} {owner:Array (Option Nat)}:∀ (m i pt:Nat),layClean.free mask owner m i pt=none->∀ n,n < m->owner.getD (lp mask n (i,pt)).1 (some 0) ≠ none
  | 0,_,_,_,n,hn=>absurd hn (by omega)
  | m + 1,i,pt,e,n,hn=>by
    unfold layClean.free at e
    split at e
    . cases e
    . rename_i q
      cases n with
      | zero=>
        have hr:i <= runEnd mask i:=by unfold runEnd; split <;> omega
        have:=List.find?_eq_none.mp q 0 (List.mem_range.mpr (by omega))
        intro z
        apply this
        show (owner.getD (i + 0) (some 0)).isNone=true
        rw [Nat.add_zero]
        have z':owner.getD i (some 0)=none:=z
        rw [z']; rfl
      | succ n=>exact Fw m _ _ e n (by omega)
abbrev own (mask:Nat) (owner:Array (Option Nat)):List Nat:=(List.range (mask + 1)).filterMap fun j=>owner.getD j none
theorem Ft {owner:Array (Option Nat)} {j:Nat} (h:owner.getD j (some 0)=none):j < owner.size /\ owner.getD j none=none:=by
  unfold Array.getD at h ⊢
  split at h
  . rename_i q
    exact ⟨q,by rw [dif_pos q]; exact h⟩
  . cases h
theorem Fu {owner:Array (Option Nat)} {j:Nat} (hj:j < owner.size) (h:owner.getD j (some 0) ≠ none):∃ k,owner.getD j none=some k:=by
  unfold Array.getD at h ⊢
  rw [dif_pos hj] at h ⊢
  cases e:owner[j] with
  | none=>exact absurd e h
  | some k=>exact ⟨k,e⟩
theorem OB {mask:Nat} (hm:Sm mask) {owner:Array (Option Nat)} (hs:owner.size=mask + 1) {k:Nat} (hp:(own mask owner).Perm (List.range k)) (hk:k <= mask) (h:Int) :
    ∃ j,layClean.free mask owner (turns mask) (bits h % (mask + 1)) (bits h)=some j:=by
  cases e:layClean.free mask owner (turns mask) (bits h % (mask + 1)) (bits h) with
  | some j=>exact ⟨j,rfl⟩
  | none=>
    exfalso
    have hv:=Fw _ _ _ e
    have len:∀ l:List Nat,(∀ j ∈ l,j < mask + 1)->(l.filterMap fun j=>owner.getD j none).length=l.length:=by
      intro l
      induction l with
      | nil=>intro _; rfl
      | cons a l ih=>
        intro ha
        obtain ⟨n,h1,h2⟩:=Oc hm (i:=bits h % (mask + 1)) (p:=bits h) (Nat.mod_lt _ (by omega)) (Js h) (ha a (List.mem_cons_self ..))
        have h3:=hv n h1
        rw [h2] at h3
        obtain ⟨c,hc⟩:=Fu (by rw [hs]; exact ha a (List.mem_cons_self ..)) h3
        rw [List.filterMap_cons_some (f:=fun j=>owner.getD j none) hc,List.length_cons,ih fun j hj=>ha j (List.mem_cons_of_mem _ hj),List.length_cons]
    have h1:=len (List.range (mask + 1)) fun j hj=>List.mem_range.mp hj
    have h2:=hp.length_eq
    simp only [List.length_range] at h1 h2
    have h3:(own mask owner).length=mask + 1:=h1
    omega
def B0 (mask:Nat) (acc:Option (Array (Option Nat) × Nat)) (h:Int):Option (Array (Option Nat) × Nat):=do
  let (owner,k) ← acc
  let j ← layClean.free mask owner (turns mask) (bits h % (mask + 1)) (bits h)
  pure (owner.setIfInBounds j (some k),k + 1)
theorem Hc {mask:Nat} (hm:Sm mask):∀ (l:List Int) (owner:Array (Option Nat)) (k:Nat),owner.size=mask + 1->(own mask owner).Perm (List.range k)->k + l.length <= mask->
    ∃ owner',l.foldl (B0 mask) (some (owner,k))=some (owner',k + l.length) /\ owner'.size=mask + 1 /\ (own mask owner').Perm (List.range (k + l.length))
  | [],owner,k,hs,hp,_=>⟨owner,rfl,hs,hp⟩
  | h :: l,owner,k,hs,hp,hk=>by
    obtain ⟨j,e⟩:=OB hm hs hp (by omega) h
    obtain ⟨hj,hn⟩:=Ft (Ew _ _ _ _ e)
    have st:B0 mask (some (owner,k)) h=some (owner.setIfInBounds j (some k),k + 1):=by
      show ((layClean.free mask owner (turns mask) (bits h % (mask + 1)) (bits h)).bind fun j=>some (owner.setIfInBounds j (some k),k + 1))=_
      rw [e]; rfl
    have hp':(own mask (owner.setIfInBounds j (some k))).Perm (List.range (k + 1)):=by
      have:=ML (f:=fun j=>owner.getD j none) (g:=fun i=>(owner.setIfInBounds j (some k)).getD i none) (b:=k) hn (by simp [Array.getD,hj]) (fun i hi=>by
        simp only [Array.getD,Array.size_setIfInBounds]
        split
        . rename_i hi2
          show (owner.setIfInBounds j (some k))[i]'(by rw [Array.size_setIfInBounds]; exact hi2)=owner[i]
          rw [Array.getElem_setIfInBounds_ne]; exact hi.symm
        . rfl) (List.nodup_range (n:=mask + 1)) (List.mem_range.mpr (by omega))
      refine this.trans ((hp.cons k).trans ?_)
      rw [List.range_succ]
      exact (List.perm_append_singleton k (List.range k)).symm
    obtain ⟨owner',e1,e2,e3⟩:=Hc hm l (owner.setIfInBounds j (some k)) (k + 1) (by rw [Array.size_setIfInBounds]; exact hs) hp' (by simp at hk; omega)
    refine ⟨owner',?_,e2,?_⟩
    . rw [List.foldl_cons,st,e1]
      simp only [List.length_cons]
      rw [show k + 1 + l.length=k + (l.length + 1) from by omega]
    . rw [show k + (h :: l).length=k + 1 + l.length from by simp only [List.length_cons]; omega]
      exact e3
theorem MZ {mask:Nat} (hm:Sm mask) (hashes:Array Int) (hk:hashes.size <= mask):∃ owner,layClean mask hashes=some owner /\ owner.size=mask + 1 /\ (own mask owner).Perm (List.range hashes.size):=by
  have h0:(own mask (Array.replicate (mask + 1) none)).Perm (List.range 0):=by
    have:own mask (Array.replicate (mask + 1) none)=[]:=by
      unfold own
      rw [List.filterMap_eq_nil_iff]
      intro j hj
      have:=List.mem_range.mp hj
      simp [Array.getD,this]
    rw [this]
    exact List.Perm.refl _
  obtain ⟨owner,e1,e2,e3⟩:=Hc hm hashes.toList (Array.replicate (mask + 1) none) 0 (by simp) h0 (by simpa using hk)
  simp only [Nat.zero_add,Array.length_toList] at e1 e3
  refine ⟨owner,?_,e2,e3⟩
  have:layClean mask hashes=(hashes.foldl (B0 mask) (some (Array.replicate (mask + 1) none,0))).map (·.1):=rfl
  rw [this,← Array.foldl_toList,e1]
  rfl
theorem GY {mask:Nat} (hm:Sm mask) (hashes:Array Int) (hk:hashes.size <= mask) (finger moves:Nat) (led plain:Bool) :
    ∃ place order,laid mask finger moves led plain hashes=some ({ mask,place,dummies:=#[],finger,led,moves,plain },order) /\ Ris place.toList /\ place.size=hashes.size /\ order.toList.Perm (List.range hashes.size):=by
  obtain ⟨owner,e1,e2,e3⟩:=MZ hm hashes hk
  unfold laid
  rw [e1]
  refine ⟨_,_,rfl,?_,?_,?_⟩
  . simp only []
    rw [List.map_filterMap]
    have:(List.range (mask + 1)).filterMap (fun x=>Option.map (fun x=>x.1) (Option.map (fun x_1=>(x,x_1)) (owner.getD x none)))=(List.range (mask + 1)).filter fun x=>(owner.getD x none).isSome:=by
      induction List.range (mask + 1) with
      | nil=>rfl
      | cons a l ih=>
        cases q:owner.getD a none with
        | none=>rw [List.filterMap_cons_none (by rw [q]; rfl),List.filter_cons_of_neg (by rw [q]; simp),ih]
        | some c=>rw [List.filterMap_cons_some (b:=a) (by rw [q]; rfl),List.filter_cons_of_pos (by rw [q]; rfl),ih]
    rw [this]
    exact List.Pairwise.sublist List.filter_sublist List.pairwise_lt_range
  . have:=e3.length_eq
    rw [List.length_range] at this
    rw [← this]
    simp only [List.size_toArray,List.length_map]
    unfold own
    induction List.range (mask + 1) with
    | nil=>rfl
    | cons a l ih=>
      cases q:owner.getD a none with
      | none=>rw [List.filterMap_cons_none (by rw [q]; rfl),List.filterMap_cons_none (f:=fun j=>owner.getD j none) q,ih]
      | some c=>rw [List.filterMap_cons_some (b:=(a,c)) (by rw [q]; rfl),List.filterMap_cons_some (f:=fun j=>owner.getD j none) q,List.length_cons,List.length_cons,ih]
  . simp only []
    rw [List.map_filterMap]
    have:(List.range (mask + 1)).filterMap (fun x=>Option.map (fun x=>x.2) (Option.map (fun x_1=>(x,x_1)) (owner.getD x none)))=own mask owner:=by
      unfold own
      refine Ey fun i _=>?_
      cases owner.getD i none <;> rfl
    rw [this]
    exact e3
structure Tab (t:SetTable) (n:Nat):Prop where
  ris:Ris t.place.toList
  sz:t.place.size=n
  dm:t.dummies = #[]
  mks:(t.mask=7 /\ n <= 4) ∨ (t.mask=31 /\ n <= 18)
  pl:t.plain=true
theorem Tab.sm {t:SetTable} {n:Nat} (h:Tab t n):Sm t.mask:=h.mks.elim (fun z=>.inl z.1) fun z=>.inr (.inr z.1)
theorem Dh (led:Bool):Tab (.fresh 0 0 led) 0:=⟨List.Pairwise.nil,rfl,rfl,.inl ⟨rfl,by omega⟩,rfl⟩
theorem Tab.fits {t:SetTable} {n:Nat} (h:Tab t n):t.fits n=true:=by
  unfold SetTable.fits fill
  rw [h.sz,h.dm]
  rcases h.mks with ⟨a,b⟩ | ⟨a,b⟩ <;> simp [a] <;> omega
theorem QC {t:SetTable} {es:Array (Int × Value)} (T:Tab t es.size) (hn:es.size + 1 <= 18) (h:Int) (x:Value) :
    ∃ t1 es1,layNew t es h x=(es1,t1,false,false) /\ Ris t1.place.toList /\ t1.place.size=es.size + 1 /\ t1.dummies = #[] /\ t1.mask=t.mask /\ t1.plain=true /\ t1.led=t.led /\ t1.moves=t.moves /\ t1.finger=t.finger /\ es1.toList.Perm (es.toList ++ [(h,x)]):=by
  have hsz:=T.sz
  obtain ⟨j,e,q⟩:=Ji T.dm T.sm T.ris (by rcases T.mks with ⟨a,b⟩ | ⟨a,b⟩ <;> omega) h
  have hj:j ∉ t.place.toList:=fun z=>by
    obtain ⟨i,hi⟩:=EU T.ris z
    rw [q] at hi; cases hi
  have hperm:=layNew_perm t es h x
  have hz:(insertAt t.place (below t.place j) j).size=es.size + 1:=by
    have:=(insertAt_perm t.place (below t.place j) j).length_eq
    simp at this
    omega
  have hd:(if has t.dummies j=true then eraseAt t.dummies (below t.dummies j) else t.dummies) = #[]:=by
    rw [T.dm]
    have:has (#[]:Array Nat) j=false:=by unfold has; simp
    rw [this]; rfl
  have hes:(insertAt es (below t.place j) (h,x)).size=es.size + 1:=by
    have:=(insertAt_perm es (below t.place j) (h,x)).length_eq
    simpa using this
  have hfit:(t.put j).1.fits (es.size + 1)=true:=by
    unfold SetTable.fits fill put
    simp only [hd,hz]
    rcases T.mks with ⟨a,b⟩ | ⟨a,b⟩ <;> simp [a] <;> omega
  have hl:layNew t es h x=(insertAt es (below t.place j) (h,x),(t.put j).1,false,false):=by
    unfold layNew
    rw [e]
    show (insertAt es (below t.place j) (h,x),(t.put j).1.orStandIn (insertAt es (below t.place j) (h,x)).size,false,!(t.put j).1.fits (insertAt es (below t.place j) (h,x)).size)=_
    rw [hes,hfit]
    unfold orStandIn
    rw [hfit]
    rfl
  rw [hl] at hperm
  refine ⟨_,_,hl,GO T.ris hj,hz,hd,rfl,T.pl,rfl,rfl,rfl,?_⟩
  rw [Array.toList_push] at hperm
  exact hperm
theorem HB {t:SetTable} {es:Array (Int × Value)} {wanted:Nat} (hw:sizeAbove wanted=32) (hn:es.size <= 18) (hp:t.plain=true) :
    ∃ t1 es1,relayAll t es wanted=(es1,t1,false) /\ Tab t1 es1.size /\ t1.led=t.led /\ es1.toList.Perm es.toList:=by
  have hperm:=relayAll_perm t es wanted
  obtain ⟨place,order,e,r,hs,ho⟩:=GY (mask:=31) (.inr (.inr rfl)) (es.map (·.1)) (by simp; omega) t.finger (t.movedTo 31) t.led t.plain
  simp only [Array.size_map] at hs ho
  have hsz:(order.filterMap (es[·]?)).size=es.size:=by
    have h1:((order.filterMap (es[·]?)).toList).Perm es.toList:=by
      rw [Array.toList_filterMap]
      exact (ho.filterMap _).trans (by rw [filterMap_getElem?_range])
    have:=h1.length_eq
    rwa [Array.length_toList,Array.length_toList] at this
  have hl:relayAll t es wanted=(order.filterMap (es[·]?),{ mask:=31,place,dummies:=#[],finger:=t.finger,led:=t.led,moves:=t.movedTo 31,plain:=t.plain },false):=by
    unfold relayAll relaid
    rw [hw]
    simp only []
    rw [e]
    simp only []
    have c1:coversAll order es.size=true:=by
      unfold coversAll
      exact List.isPerm_iff.mpr ho
    have c2:SetTable.fits { mask:=31,place,dummies:=#[],finger:=t.finger,led:=t.led,moves:=t.movedTo 31,plain:=t.plain } (order.filterMap (es[·]?)).size=true:=by
      unfold SetTable.fits fill
      rw [hsz]
      simp [hs]
      omega
    rw [c1,c2]
    rfl
  rw [hl] at hperm
  exact ⟨_,_,hl,⟨r,by rw [hsz]; exact hs,rfl,.inr ⟨rfl,by rw [hsz]; exact hn⟩,hp⟩,rfl,hperm⟩
end Ht
namespace Ht
open PySem PySem.SetTable
def Aa (xs:List Int):List Int:=xs.foldl (fun ys x=>if x ∈ ys then ys else ys ++ [x]) []
theorem Dj (xs:List Int) (x:Int):Aa (xs ++ [x])=if x ∈ Aa xs then Aa xs else Aa xs ++ [x]:=by
  unfold Aa
  rw [List.foldl_append]
  rfl
theorem JU:∀ (xs ys:List Int),∃ zs,xs.foldl (fun ys x=>if x ∈ ys then ys else ys ++ [x]) ys=ys ++ zs
  | [],ys=>⟨[],by simp⟩
  | x :: xs,ys=>by
    rw [List.foldl_cons]
    obtain ⟨zs,e⟩:=JU xs (if x ∈ ys then ys else ys ++ [x])
    rw [e]
    split
    . exact ⟨zs,rfl⟩
    . exact ⟨x :: zs,by simp⟩
theorem Ly (xs ys:List Int):∃ zs,Aa (xs ++ ys)=Aa xs ++ zs:=by
  unfold Aa
  rw [List.foldl_append]
  exact JU _ _
theorem KZ (xs:List Int) (i:Nat):(Aa (xs.take i)).length <= (Aa xs).length:=by
  obtain ⟨zs,e⟩:=Ly (xs.take i) (xs.drop i)
  rw [List.take_append_drop] at e
  rw [e,List.length_append]
  omega
theorem G1 {p:List Int->Prop} (h0:p []) (h1:∀ xs x,p xs->p (xs ++ [x])) (xs:List Int):p xs:=by
  rw [← List.reverse_reverse xs]
  induction xs.reverse with
  | nil=>exact h0
  | cons a l ih=>rw [List.reverse_cons]; exact h1 _ _ ih
theorem Co (xs:List Int) (k:Int):k ∈ Aa xs ↔ k ∈ xs:=by
  refine G1 (p:=fun xs=>k ∈ Aa xs ↔ k ∈ xs) (by simp [Aa]) (fun xs x ih=>?_) xs
  rw [Dj]
  split
  . rename_i h
    simp only [List.mem_append,List.mem_singleton,← ih]
    exact ⟨.inl,fun z=>z.elim id fun e=>e ▸ h⟩
  . simp only [List.mem_append,List.mem_singleton,ih]
theorem Eg (xs:List Int):(Aa xs).Nodup:=by
  refine G1 (p:=fun xs=>(Aa xs).Nodup) (by simp [Aa]) (fun xs x ih=>?_) xs
  rw [Dj]
  split
  . exact ih
  . rename_i h
    rw [List.nodup_append]
    refine ⟨ih,by simp,fun a ha b hb=>?_⟩
    simp at hb
    subst hb
    exact fun e=>h (e ▸ ha)
open PyProof.Rows
abbrev EN (l:List (Int × Value)) (ks:List Int):Prop:=IntsAre (l.map (·.2)) ks
theorem Fo:∀ {vs ws:List Value} (_:vs.Perm ws) {ks:List Int},IntsAre ws ks->∃ ms,IntsAre vs ms /\ ms.Perm ks:=by
  intro vs ws p
  induction p with
  | nil=>intro ks h; cases h; exact ⟨[],.nil,.refl _⟩
  | cons x _ ih=>
    intro ks h
    cases h with
    | cons n t h=>
      obtain ⟨ms,h1,h2⟩:=ih h
      exact ⟨n :: ms,.cons n t h1,h2.cons n⟩
  | swap x y l=>
    intro ks h
    cases h with
    | cons n t h=>
      cases h with
      | cons m u h=>exact ⟨m :: n :: _,.cons m u (.cons n t h),.swap n m _⟩
  | trans _ _ ih1 ih2=>
    intro ks h
    obtain ⟨ms,h1,h2⟩:=ih2 h
    obtain ⟨ls,h3,h4⟩:=ih1 h1
    exact ⟨ls,h3,h4.trans h2⟩
theorem Ia:∀ {l:List (Int × Value)} {ks:List Int},EN l ks->∀ (k:Int),(∃ e ∈ l,Value.isInt k e.2=true) ↔ k ∈ ks
  | [],_,h,k=>by
    have h:IntsAre [] _:=h
    cases h
    simp
  | e :: l,_,h,k=>by
    obtain ⟨a,v⟩:=e
    have h:IntsAre (v :: l.map (·.2)) _:=h
    cases h with
    | cons n t h1=>
      have ih:=Ia (l:=l) h1 k
      constructor
      . rintro ⟨e,he,q⟩
        rcases List.mem_cons.mp he with rfl | he
        . have:Value.isInt k (.int n t)=true:=q
          simp [Value.isInt] at this
          subst this
          exact List.mem_cons_self ..
        . exact List.mem_cons_of_mem _ (ih.mp ⟨e,he,q⟩)
      . intro hk
        rcases List.mem_cons.mp hk with rfl | hk
        . exact ⟨_,List.mem_cons_self ..,by simp [Value.isInt]⟩
        . obtain ⟨e,he,q⟩:=ih.mpr hk
          exact ⟨e,List.mem_cons_of_mem _ he,q⟩
def SetI (prog:Program) (w:World) (h:Heap) (a:Addr) (ks:List Int):Prop:=
  ∃ o es ep t,h.get? a=some o /\ o.ExactSet /\ o.data=.set es ep t /\ ElemsOf (intKind prog w) es.toList /\ (∃ ns,EN es.toList ns /\ ns.Perm ks) /\ Tab t es.size /\ t.led = !(w.params.followText "set-order")
theorem SetI.at {prog:Program} {w:World} {h h':Heap} {a:Addr} {ks:List Int} (z:SetI prog w h a ks) (k:∀ o,h.get? a=some o->h'.get? a=some o):SetI prog w h' a ks:=by
  obtain ⟨o,es,ep,t,e,rest⟩:=z
  exact ⟨o,es,ep,t,k o e,rest⟩
theorem Jk {l:Array (Int × Value)} {ns ks:List Int} (h:EN l.toList ns) (p:ns.Perm ks):l.size=ks.length:=by
  have h1:=congrArg List.length h.nums
  rw [List.length_map,List.length_map,Array.length_toList] at h1
  rw [h1,p.length_eq]
section
variable {prog:Program} {w:World} {A:Around} {E:Value->Shared->Prop} {s:Shared}
theorem CA {h:Heap} {a:Addr} {o:Obj} {es:Array (Int × Value)} {ep:Nat} {t:SetTable} (ho:h.get? a=some o) (hd:o.data=.set es ep t) (es':Array (Int × Value)) (t':SetTable) :
    (h.update a (Obj.putSet es' t')).get? a=some { o with data:=.set es' (ep + 1) t' }:=by
  have:=Heap.get?_update_self (Obj.putSet es' t') ho (by rw [putSet_of es' t' hd]; rfl)
  rw [putSet_of es' t' hd] at this
  exact this
theorem LO {a:Addr} {ks:List Int} {n:Int} {tk:Tok} {Q:Bool->Shared->Prop} (hS:SetI prog w s.heap a ks) (room:(if n ∈ ks then ks else ks ++ [n]).length <= 18)
    (q:∀ b h' tk,Heap.SameBut a s.heap h'->SetI prog w h' a (if n ∈ ks then ks else ks ++ [n])->Q b { s with heap:=h',toks:=tk }) :
    wpAny (model prog w) A (setAdd a (.int n tk)) Q E s:=by
  obtain ⟨o,es,ep,t,ho,hex,hd,hel,⟨ns,hen,hp⟩,T,hled⟩:=hS
  have hsz:=Jk hen hp
  have hb:es.size < scanBound:=by rcases T.mks with ⟨_,b⟩ | ⟨_,b⟩ <;> (unfold scanBound; omega)
  unfold setAdd
  refine wpAny_holding (wpAny_bind ((intKind prog w).pyHash (intKind_is prog w n tk) ?_))
  unfold setAddHashed setAddHashedIn
  refine wpAny_holding (wpAny_bind (wpAny_setState_of (s:={ s with toks:=s.toks + 1 }) ho hd T.fits ?_))
  dsimp only
  rw [byScan_of (knd:=intKind prog w) rfl hb hel]
  simp only [↓reduceIte]
  unfold setAddByScan
  refine wpAny_bind ?_
  refine wpAny_bind (wpAny_rule ?_)
  refine wpAny_bind (wpAny_setScan_of (knd:=intKind prog w) (s:={ s with toks:=s.toks + 1 }) (intKind_is prog w n tk) ho hd T.fits hel ?_)
  have mem:=Ia hen n
  rw [hp.mem_iff] at mem
  cases hr:List.findIdx? (fun e=>(intKind prog w).is n e.2) es.toList with
  | some j=>
    dsimp only
    obtain ⟨hj,hpj,_⟩:=List.findIdx?_eq_some_iff_getElem.mp hr
    have hm:n ∈ ks:=mem.mp ⟨es.toList[j],List.getElem_mem hj,hpj⟩
    refine wpAny_pure (wpAny_pure ?_)
    rw [if_pos hm] at q
    exact q _ s.heap _ (Heap.SameBut.refl a s.heap) ⟨o,es,ep,t,ho,hex,hd,hel,⟨ns,hen,hp⟩,T,hled⟩
  | none=>
    dsimp only
    have hm:n ∉ ks:=fun z=>by
      obtain ⟨e,he,hq⟩:=mem.mpr z
      have:=List.findIdx?_eq_none_iff.mp hr e he
      have hq':(intKind prog w).is n e.2=true:=hq
      rw [hq'] at this
      exact Bool.noConfusion this
    rw [if_neg hm,List.length_append,List.length_singleton] at room
    rw [if_neg hm] at q
    obtain ⟨t1,es1,e1,r1,z1,d1,m1,p1,l1,_,_,q1⟩:=QC T (by omega) ((intKind prog w).hash n) (.int n tk)
    rw [e1]
    dsimp only
    have s1:es1.size=es.size + 1:=by
      have:=q1.length_eq
      simpa using this
    have hel1:ElemsOf (intKind prog w) es1.toList:=(hel.push (intKind_is prog w n tk) rfl).perm q1
    have hen0:EN (es.toList ++ [((intKind prog w).hash n,Value.int n tk)]) (ns ++ [n]):=by
      unfold EN
      rw [List.map_append]
      exact IntsAre.append hen (.cons n tk .nil)
    obtain ⟨ms,hen1,hp1⟩:=Fo (q1.map (·.2)) hen0
    have hp2:ms.Perm (ks ++ [n]):=hp1.trans (hp.append_right [n])
    refine wpAny_bind (wpAny_pure ?_)
    rw [p1]
    simp only [↓reduceIte]
    refine wpAny_bind ?_
    rw [hashByValue_scannable 8 (x:=.int n tk) rfl]
    refine wpAny_pure ?_
    simp only [plainKind,↓reduceIte]
    refine wpAny_bind (wpAny_storeSet_of (s:={ s with toks:=s.toks + 1 }) ho hd ?_ (by rw [sizeLine_eq]; omega))
    have ho1:=CA ho hd es1 t1
    have sb1:=Heap.SameBut.update s.heap a (Obj.putSet es1 t1)
    simp only [Bool.not_false,Bool.true_and]
    by_cases hf:t1.tooFull=true
    . rw [if_pos hf]
      have small:es1.size=5:=by
        unfold SetTable.tooFull SetTable.fill at hf
        rw [z1,d1,m1] at hf
        simp at hf
        rcases T.mks with ⟨a,b⟩ | ⟨a,b⟩ <;> rw [a] at hf <;> omega
      obtain ⟨t2,es2,e2,T2,l2,q2⟩:=HB (t:=t1) (es:=es1) (wanted:=grown es1.size) (by rw [small]; decide +kernel) (by omega) p1
      rw [e2]
      dsimp only
      refine wpAny_bind (wpAny_pure ?_)
      have s2:es2.size=es1.size:=by
        have:=q2.length_eq
        simpa using this
      refine wpAny_bind (wpAny_storeSet_of (s:={ s with heap:=s.heap.update a (Obj.putSet es1 t1),toks:=s.toks + 1 }) ho1 rfl ?_ (by rw [sizeLine_eq]; omega))
      obtain ⟨ls,hen2,hp3⟩:=Fo (q2.map (·.2)) hen1
      refine wpAny_pure (wpAny_pure (q _ _ _ (sb1.trans (Heap.SameBut.update _ a _)) ?_))
      exact ⟨_,es2,_,t2,CA ho1 rfl es2 t2,hex,rfl,hel1.perm q2,⟨ls,hen2,hp3.trans hp2⟩,T2,by rw [l2,l1]; exact hled⟩
    . rw [if_neg hf]
      refine wpAny_pure (wpAny_pure (q _ _ _ sb1 ⟨_,es1,_,t1,ho1,hex,rfl,hel1,⟨ms,hen1,hp2⟩,⟨r1,by omega,d1,?_,p1⟩,by rw [l1]; exact hled⟩))
      rw [m1]
      unfold SetTable.tooFull SetTable.fill at hf
      rw [z1,d1,m1] at hf
      simp at hf
      rcases T.mks with ⟨a,b⟩ | ⟨a,b⟩
      . rw [a] at hf
        exact .inl ⟨a,by omega⟩
      . exact .inr ⟨a,by omega⟩
end
end Ht
namespace Ht
open PySem PySem.Spec PyProof.Rows Sem L2
section
variable {prog:Program} {w:World} {A:Around} {E:Value->Shared->Prop} {s:Shared}
theorem KD {I S:Addr} {ns:List Int} {fp:List Addr} {P:Nat->Value->Prop} {St:Nat->Heap->Prop} (W:Walks prog w A.in1 I fp [I] ns.length P St) (hP:∀ i v,P i v->∃ t,v=.int (ns.getD i 0) t)
    (hSI:S ≠ I) (hSf:S ∉ fp) (room:(Aa ns).length <= 18) {R:Result->Shared->Prop} :
    ∀ (m i:Nat) (s:Shared),ns.length - i=m->i <= ns.length->St i s.heap->SetI prog w s.heap S (Aa (ns.take i))->
      (∀ h' tk,(∀ c o,c ≠ S->c ≠ I->s.heap.get? c=some o->h'.get? c=some o)->SetI prog w h' S (Aa ns)->R (.ok (.ret .none)) { s with heap:=h',toks:=tk })->
      codeAny (model prog w) A (.builtin "set.update.loop" ⟨[.ref S,.ref I],[]⟩) R s:=by
  intro m
  induction m with
  | zero=>
    intro i s hm hi hst hS q
    have ei:i=ns.length:=by omega
    subst ei
    refine codeAny_builtin PyProof.Rows.F.entry_set_update_loop ?_
    rw [Around.under_plainId PyProof.Rows.F.plain_set_update_loop _]
    refine wpAny_bind (m:=pyNext (.ref I)) (W.done s _ _ hst fun h' tk kp=>wpAny_pure ?_)
    rw [List.take_length] at hS
    exact q h' tk (fun c o _ c2 e=>kp c o (by simpa using c2) e) (hS.at fun o e=>kp S o (by simpa using hSI) e)
  | succ m ih=>
    intro i s hm hi hst hS q
    have lt:i < ns.length:=by omega
    refine codeAny_builtin PyProof.Rows.F.entry_set_update_loop ?_
    rw [Around.under_plainId PyProof.Rows.F.plain_set_update_loop _]
    refine wpAny_bind (m:=pyNext (.ref I)) (W.item i s _ _ lt hst fun v h' tk hv st kp=>?_)
    obtain ⟨t,rfl⟩:=hP i v hv
    have eg:ns.getD i 0=ns[i]:=by simp [lt]
    rw [eg]
    have tk1:ns.take i ++ [ns[i]]=ns.take (i + 1):=by rw [List.take_succ,List.getElem?_eq_getElem lt]; rfl
    have nb:(if ns[i] ∈ Aa (ns.take i) then Aa (ns.take i) else Aa (ns.take i) ++ [ns[i]])=Aa (ns.take (i + 1)):=by rw [← tk1,Dj]
    have hS1:SetI prog w h' S (Aa (ns.take i)):=hS.at fun o e=>kp S o (by simpa using hSI) e
    refine wpAny_bind (wpAny_holding (LO (s:={ s with heap:=h',toks:=tk }) hS1 (by rw [nb]; exact Nat.le_trans (KZ _ _) room) fun b h2 t2 sb hS2=>?_))
    rw [nb] at hS2
    have k2:∀ c o,c ≠ S->h'.get? c=some o->h2.get? c=some o:=fun c o hc e=>(sb.2 c hc).trans e
    refine wpAny_pure ⟨plainId_quiet PyProof.Rows.F.plain_set_update_loop _,ih (i + 1) _ (by omega) lt (W.frame _ _ _ st fun b hb o e=>k2 b o (fun z=>hSf (z ▸ hb)) e) hS2 fun h3 t3 kp3 hS3=>?_⟩
    exact q h3 t3 (fun c o c1 c2 e=>kp3 c o c1 c2 (k2 c o c1 (kp c o (by simpa using c2) e))) hS3
theorem JM (a:Value) {Q:Value->Shared->Prop} (h:Q (.ref s.heap.objs.size) { s with heap:=s.heap.push (AK !(w.params.followText "set-order")) }) :
    codeAny (model prog w) A (.call (.builtin "set.__new__") ⟨[.type "set",a],[]⟩) (wants Q E) s:=by
  refine codeAny_call_builtin (b:=Builtin.«set.__new__») PySem.F.plain_set_new PySem.F.entry_set_new (wpAny_of_eq (PySem.F.newCall_set_1 a) ?_)
  unfold Builtin.«set.__new__» Builtin.Frozenset.newClass
  have z:=sub_set_self
  wp_walk
  refine wpAny_askSetting (wpAny_pure ?_)
  have e:∀ {Q:Value->Shared->Prop} {E:Value->Shared->Prop} (t:SetTable),Q (.ref s.heap.objs.size) { s with heap:=s.heap.push { cls:=.type "set",data:=.set #[] 0 t } }->wpAny (model prog w) A.in1 (newObj (.type "set") (.set #[] 0 t)) Q E s:=fun t z=>by
    unfold newObj
    wp_walk
    first | exact z | exact wpAny_bind (wpAny_alloc (wpAny_pure z)) | trace_state
  exact e _ (wpAny_pure h)
set_option maxHeartbeats 2000000 in
theorem F6 {T:String} {l:Addr} {ns:List Int} {Q:Value->Shared->Prop} {fp:Addr->List Addr} {P:Nat->Value->Prop} {St:Addr->Nat->Heap->Prop} {itO:Obj}
    (c1:isSubtype (.type T) (.type "set")=Pure.pure false) (c2:isSubtype (.type T) (.type "frozenset")=Pure.pure false) (c3:(Value.type T == Value.type "dict")=false)
    (tyl:∀ {s':Shared},(∀ o,s.heap.get? l=some o->s'.heap.get? l=some o)->s'.TypeIs (.ref l) T)
    (walk:∀ {s':Shared} {A':Around} {E' Q':Value->Shared->Prop},(∀ o,s.heap.get? l=some o->s'.heap.get? l=some o)->Q' (.ref s'.heap.objs.size) { s' with heap:=s'.heap.push itO }->wpAny (model prog w) A' (pyIter (.ref l)) Q' E' s')
    (W:∀ I,l ≠ I->Walks prog w A.in1.in1.in1 I (fp I) [I] ns.length P (St I)) (hP:∀ i v,P i v->∃ t,v=.int (ns.getD i 0) t) (hfp:∀ I,∀ b ∈ fp I,b=I ∨ b=l) (hl:∃ o,s.heap.get? l=some o)
    (hfr:itO.isFreed=false) (st0:∀ {h:Heap} (I:Addr),h.get? I=some itO->(∀ o,s.heap.get? l=some o->h.get? l=some o)->St I 0 h) (room:(Aa ns).length <= 18)
    (q:∀ h' tk,(∀ c o,s.heap.get? c=some o->h'.get? c=some o)->SetI prog w h' s.heap.objs.size (Aa ns)->Q (.ref s.heap.objs.size) { s with heap:=h',toks:=tk }) :
    wpAny (model prog w) A (call (.type "set") [.ref l]) Q E s:=by
  refine Ja PySem.F.called_set (PySem.F.typeCall_set_1 _) (JM (.ref l) (Q:=fun x s₁=>x=.ref s.heap.objs.size /\ s₁={ s with heap:=s.heap.push (AK !(w.params.followText "set-order")) }) ⟨rfl,rfl⟩) ?_
  rintro x s₁ ⟨rfl,rfl⟩
  generalize hled:(!(w.params.followText "set-order"))=led
  have at_S:(s.heap.push (AK led)).get? s.heap.objs.size=some (AK led):=Heap.get?_push_size _ rfl
  have ty:Shared.TypeIs { s with heap:=s.heap.push (AK led) } (.ref s.heap.objs.size) "set" := ⟨_,at_S,rfl⟩
  have lt:l < s.heap.objs.size:=by obtain ⟨o,e⟩:=hl; exact Heap.lt_size e
  have kl:∀ o,s.heap.get? l=some o->(s.heap.push (AK led)).get? l=some o:=fun o e=>Heap.get?_push_of_some _ e
  have tyl:=tyl (s':={ s with heap:=s.heap.push (AK led) }) kl
  refine ⟨ty,codeAny_call_builtin PySem.F.called_set.init.plain PySem.F.entry_set_init (check_set_init_1 ty ?_)⟩
  unfold Builtin.«set.__init__» noKeywords Builtin.Frozenset.updateFrom
  have walk':∀ (A:Around) (E:Value->Shared->Prop) (Q:Value->Shared->Prop),Q (.ref (s.heap.push (AK led)).objs.size) { s with heap:=(s.heap.push (AK led)).push itO }->wpAny (model prog w) A (pyIter (.ref l)) Q E { s with heap:=s.heap.push (AK led) }:=fun A E Q z=>walk (s':={ s with heap:=s.heap.push (AK led) }) kl z
  wp_walk using walk'
  have sz:(s.heap.push (AK led)).objs.size=s.heap.objs.size + 1:=Heap.size_push ..
  have ne1:l ≠ (s.heap.push (AK led)).objs.size:=by rw [sz]; exact Nat.ne_of_lt (Nat.lt_succ_of_lt lt)
  have ne2:s.heap.objs.size ≠ (s.heap.push (AK led)).objs.size:=by rw [sz]; exact Nat.ne_of_lt (Nat.lt_succ_self _)
  have hSf:s.heap.objs.size ∉ fp (s.heap.push (AK led)).objs.size:=fun z=>(hfp _ _ z).elim ne2 (Nat.ne_of_gt lt)
  refine KD (A:=A.in1.in1) (W _ ne1) hP ne2 hSf room ns.length 0 _ (Nat.sub_zero _) (Nat.zero_le _) (st0 _ (Heap.get?_push_size _ hfr) fun o e=>Heap.get?_push_of_some _ (kl o e)) ?start fun h' tk kp hS=>?fin
  case start=>
    refine ⟨_,#[],0,_,Heap.get?_push_of_some _ at_S,⟨rfl,rfl,rfl⟩,rfl,?_,⟨[],.nil,.refl _⟩,Dh led,hled.symm⟩
    intro e he
    cases he
  case fin=>
    have ltS:∀ {c:Addr} {o:Obj},s.heap.get? c=some o->c < s.heap.objs.size:=fun e=>Heap.lt_size e
    exact wpAny_pure (wpAny_pure ⟨rfl,q h' tk (fun c o e=>kp c o (Nat.ne_of_lt (ltS e)) (by rw [sz]; exact Nat.ne_of_lt (Nat.lt_succ_of_lt (ltS e))) (Heap.get?_push_of_some _ (Heap.get?_push_of_some _ e))) hS⟩)
theorem Dt:isSubtype (.type "tuple") (.type "set")=Pure.pure false:=by rw [isSubtype_type]; kernel_rfl
theorem Du:isSubtype (.type "tuple") (.type "frozenset")=Pure.pure false:=by rw [isSubtype_type]; kernel_rfl
theorem H9 {l:Addr} {its:List Value} {ns:List Int} {Q:Value->Shared->Prop} (hh:A.handled=none) (hl:s.heap.IsList l its.toArray) (rv:IntsAre its ns) (room:(Aa ns).length <= 18)
    (q:∀ h' tk,(∀ c o,s.heap.get? c=some o->h'.get? c=some o)->SetI prog w h' s.heap.objs.size (Aa ns)->Q (.ref s.heap.objs.size) { s with heap:=h',toks:=tk }) :
    wpAny (model prog w) A (call (.type "set") [.ref l]) Q E s:=by
  have len:its.toArray.size=ns.length:=by have:=congrArg List.length rv.nums; rw [List.length_map] at this; simpa using this
  refine F6 (T := "list") (l:=l) (ns:=ns) (fp:=fun I=>[I,l]) (P:=fun i v=>its.toArray[i]? = some v) (St:=fun I i h=>h.IsListIter I l i /\ h.IsList l its.toArray) (itO:={ cls:=.type "list_iterator",data:=.fields #[.ref l,.int 0 0] }) PySem.F.sub_list_set PySem.F.sub_list_frozenset (by decide +kernel) (fun k=>(hl.at k).typeIs) (fun k z=>wpAny_pyIter_list (hl.at k) z) (fun I hI=>len ▸ Walks.list (by simp [hh]) I l hI its.toArray) (fun i v e=>?_) (fun I b hb=>by simpa using hb) (by obtain ⟨o,e,_⟩:=hl; exact ⟨o,e⟩) rfl (fun I e k=>⟨⟨_,e,rfl,rfl⟩,hl.at k⟩) room q
  have e':its[i]? = some v:=by simpa using e
  exact rv.int_at i v e'
theorem KB {l:Addr} {its:List Value} {ns:List Int} {Q:Value->Shared->Prop} (hh:A.handled=none) (hl:s.heap.IsTuple l its.toArray) (rv:IntsAre its ns) (room:(Aa ns).length <= 18)
    (q:∀ h' tk,(∀ c o,s.heap.get? c=some o->h'.get? c=some o)->SetI prog w h' s.heap.objs.size (Aa ns)->Q (.ref s.heap.objs.size) { s with heap:=h',toks:=tk }) :
    wpAny (model prog w) A (call (.type "set") [.ref l]) Q E s:=by
  have len:its.toArray.size=ns.length:=by have:=congrArg List.length rv.nums; rw [List.length_map] at this; simpa using this
  refine F6 (T := "tuple") (l:=l) (ns:=ns) (fp:=fun I=>[I,l]) (P:=fun i v=>its.toArray[i]? = some v) (St:=fun I i h=>h.IsTupleIter I l i /\ h.IsTuple l its.toArray) (itO:={ cls:=.type "tuple_iterator",data:=.fields #[.ref l,.int 0 0] }) Dt Du (by decide +kernel) (fun k=>(hl.at k).typeIs) (fun k z=>wpAny_pyIter_tuple (hl.at k) z) (fun I hI=>len ▸ Walks.tuple (by simp [hh]) I l hI its.toArray) (fun i v e=>?_) (fun I b hb=>by simpa using hb) (by obtain ⟨o,e,_⟩:=hl; exact ⟨o,e⟩) rfl (fun I e k=>⟨⟨_,e,rfl,rfl⟩,hl.at k⟩) room q
  have e':its[i]? = some v:=by simpa using e
  exact rv.int_at i v e'
end
end Ht
namespace Ht
open PySem PySem.Spec PyProof.Rows Sem L2 PySem.SetTable
theorem E7 {α:Type}:∀ (l:List α) (i:Nat) (x:α),l[i]? = some x->(x :: l.eraseIdx i).Perm l
  | [],_,_,e=>by cases e
  | a :: l,0,x,e=>by
    simp at e
    subst e
    exact .refl _
  | a :: l,i + 1,x,e=>by
    have e':l[i]? = some x:=by simpa using e
    exact (List.Perm.swap a x _).trans ((E7 l i x e').cons a)
theorem JP {α:Type} (f:Nat->Nat):∀ (fuel k:Nat) (left:List α) (out:Array α),left.length <= fuel->(pickOrder.go f fuel k left out).toList.Perm (out.toList ++ left)
  | 0,k,left,out,h=>by
    have:left=[]:=List.length_eq_zero_iff.mp (by omega)
    subst this
    unfold pickOrder.go
    rw [List.append_nil]
  | fuel + 1,k,left,out,h=>by
    unfold pickOrder.go
    cases e:left[f k % left.length]? with
    | none=>
      simp only []
      have:left=[]:=by
        cases left with
        | nil=>rfl
        | cons a l=>
          exfalso
          have:=List.getElem?_eq_none_iff.mp e
          have:=Nat.mod_lt (f k) (show 0 < (a :: l).length by simp)
          omega
      rw [this,List.append_nil]
    | some x=>
      simp only []
      have hp:=E7 left _ x e
      have hl:=hp.length_eq
      rw [List.length_cons] at hl
      refine (JP f fuel (k + 1) _ (out.push x) (by omega)).trans ?_
      rw [Array.toList_push,List.append_assoc]
      exact hp.append_left _
theorem KO {α:Type} (f:Nat->Nat) (xs:Array α):(pickOrder f xs).toList.Perm xs.toList:=by
  have:=JP f xs.size 0 xs.toList #[] (by simp)
  simpa [pickOrder] using this
def wv (w:World) (S:Addr) (ep:Nat) (es:Array (Int × Value)):Array (Int × Value):=if w.params.followText "set-order" = true then pickOrder (w.params.setOrder S ep) es else es
theorem DM (w:World) (S:Addr) (ep:Nat) (es:Array (Int × Value)):(wv w S ep es).toList.Perm es.toList:=by
  unfold wv
  split
  . exact KO _ _
  . exact .refl _
theorem EC (w:World) (S:Addr) (ep:Nat) (es:Array (Int × Value)):(wv w S ep es).size=es.size:=by
  have:=(DM w S ep es).length_eq
  simpa using this
section
variable {prog:Program} {w:World} {A:Around} {E:Value->Shared->Prop} {s:Shared}
theorem G3 {S:Addr} {sl i ep:Nat} {es:Array (Int × Value)} {t:SetTable} {o:Obj} {Q:Option (Value × Nat)->Shared->Prop} (ho:s.heap.get? S=some o) (hd:o.data=.set es ep t) (T:Tab t es.size) (hled:t.led = !(w.params.followText "set-order"))
    (hsl:w.params.followText "set-order" = false->below t.place sl=i)
    (h1:∀ e sl',(wv w S ep es)[i]? = some e->(w.params.followText "set-order" = false->below t.place sl'=i + 1)->Q (some (e.2,sl')) s)
    (h2:(wv w S ep es)[i]? = none->Q none s):wpAny (model prog w) A (setNext S sl i ep) Q E s:=by
  unfold setNext
  refine wpAny_bind (wpAny_setState_of ho hd T.fits ?_)
  dsimp only
  unfold setsByText
  refine wpAny_bind (wpAny_bind (wpAny_askSetting (wpAny_pure ?_)))
  dsimp only [model]
  by_cases hb:w.params.followText "set-order" = true
  . rw [if_pos hb]
    have e0:(ep != ep)=false:=by simp
    rw [e0,if_neg Bool.false_ne_true]
    unfold setWalk setsByText
    refine wpAny_bind (wpAny_bind (wpAny_setState_of ho hd T.fits ?_))
    dsimp only
    refine wpAny_bind (wpAny_bind (wpAny_askSetting (wpAny_pure ?_)))
    dsimp only [model]
    rw [if_pos hb]
    refine wpAny_bind (wpAny_askSetting (wpAny_pure (wpAny_pure ?_)))
    dsimp only
    have ew:wv w S ep es=pickOrder (w.params.setOrder S ep) es:=by unfold wv; rw [if_pos hb]
    rw [ew] at h1 h2
    cases q:(pickOrder (w.params.setOrder S ep) es)[i]? with
    | none=>exact h2 q
    | some e=>exact h1 e sl q fun z=>by rw [hb] at z; cases z
  . have hb':w.params.followText "set-order" = false:=by simpa using hb
    rw [if_neg hb]
    have hl:t.led=true:=by rw [hled,hb']; rfl
    have ew:wv w S ep es=es:=by unfold wv; rw [if_neg hb]
    rw [ew] at h1 h2
    have hs:=hsl hb'
    split
    . rename_i z
      have z':(!t.plain && decide (es.size > 1))=true:=z
      rw [T.pl] at z'
      cases z'
    . refine wpAny_bind ?_
      show wpAny _ _ (if (!t.led && !es.isEmpty)=true then PySem.unsupported "set:maker-not-led" else Pure.pure ()) _ _ _
      rw [hl]
      rw [if_neg (by simp)]
      refine wpAny_pure ?_
      refine wpAny_pure ?_
      rw [hs]
      have hsz:=T.sz
      by_cases hi:i < es.size
      . have e1:es[i]? = some es[i]:=by simp [hi]
        have e2:t.place[i]? = some (t.place[i]'(by omega)):=by simp [hsz,hi]
        rw [e1,e2]
        exact h1 es[i] _ e1 fun _=>Ij T.ris (by omega)
      . have e1:es[i]? = none:=by simp; omega
        rw [e1]
        exact h2 e1
end
end Ht
namespace Ht
open PySem PySem.Spec PyProof.Rows Sem L2 PySem.SetTable
theorem si_next:Slot "set_iterator" "__next__" "set_iterator.__next__" :=
  Slot.of (owner := "set_iterator") (n := "__next__") (by rw [typeLookup_type,builtinLookup_eq_fast]; kernel_rfl) (by decide +kernel) (by decide +kernel) (by decide +kernel) (.inl (by decide +kernel)) (by rw [isSubtype_type]; kernel_rfl)
theorem JL:Slot "set_iterator" "__iter__" "set_iterator.__iter__" :=
  Slot.of (owner := "set_iterator") (n := "__iter__") (by rw [typeLookup_type,builtinLookup_eq_fast]; kernel_rfl) (by decide +kernel) (by decide +kernel) (by decide +kernel) (.inl (by decide +kernel)) (by rw [isSubtype_type]; kernel_rfl)
theorem HX:entryFor table "set_iterator.__next__" = some Builtin.«set_iterator.__next__»:=entryFor_of_tree (by kernel_rfl)
theorem MS:entryFor table "set_iterator.__iter__" = some Builtin.«dict_keyiterator.__iter__»:=entryFor_alias (id' := "dict_keyiterator.__iter__") (by kernel_rfl) rfl (by decide +kernel) (by kernel_rfl)
theorem MT:entryFor table "set.__iter__" = some Builtin.«frozenset.__iter__»:=entryFor_alias (id' := "frozenset.__iter__") (by kernel_rfl) rfl (by decide +kernel) (by kernel_rfl)
theorem Hm (a:Value):argsOk "set_iterator.__next__" ⟨[a],[]⟩:=by unfold argsOk; kernel_rfl
theorem Mn (a:Value):argsOk "set_iterator.__iter__" ⟨[a],[]⟩:=by unfold argsOk; kernel_rfl
def itO (S:Addr) (sl i n ep:Nat):Obj:={ cls:=.type "set_iterator",data:=.fields #[.int sl 0,.int i 0,.ref S,.int n 0,.int ep 0] }
section
variable {prog:Program} {w:World} {A:Around} {E:Value->Shared->Prop} {s:Shared}
theorem II {α:Type} {Q:α->Shared->Prop} (hh:A.handled=none) (h:∀ a h',(∀ b o,s.heap.get? b=some o->h'.get? b=some o)->Shared.TypeIs { s with heap:=h' } (.ref a) "StopIteration" -> E (.ref a) { s with heap:=h' }) :
    wpAny (model prog w) A (newExc (.type "StopIteration") [] >>= fun e=>(raiseNew e:Sem α)) Q E s:=by
  unfold newExc newTuple
  refine wpAny_bind (wpAny_bind (wpAny_newObj_type ?_ (by size_fits)))
  refine wpAny_bind (m:=firstArgMember _ _) (wpAny_of_eq (a:=Value.none) (by kernel_rfl) ?_)
  refine wpAny_newObj_type ?_ (by size_fits)
  unfold raiseNew
  refine wpAny_bind (wpAny_handled ?_)
  rw [hh]
  refine wpAny_bind (wpAny_pure (wpAny_throw (h _ _ (fun b o e=>Heap.get?_push_of_some _ (Heap.get?_push_of_some _ e)) ⟨_,Heap.get?_push_size _ rfl,rfl⟩)))
theorem N8 {I S:Addr} {sl i ep:Nat} {es:Array (Int × Value)} {t:SetTable} {o:Obj} {Q:Option Value->Shared->Prop} {x:Int × Value} (hne:S ≠ I) (hI:s.heap.get? I=some (itO S sl i es.size ep)) (ho:s.heap.get? S=some o) (hd:o.data=.set es ep t) (T:Tab t es.size) (hled:t.led = !(w.params.followText "set-order"))
    (hsl:w.params.followText "set-order" = false->below t.place sl=i) (hx:(wv w S ep es)[i]? = some x)
    (q:∀ h' sl',h'.get? I=some (itO S sl' (i + 1) es.size ep)->(w.params.followText "set-order" = false->below t.place sl'=i + 1)->Heap.SameBut I s.heap h'->Q (some x.2) { s with heap:=h' }) :
    wpAny (model prog w) A (pyNext (.ref I)) Q E s:=by
  have hT:s.TypeIs (.ref I) "set_iterator" := ⟨_,hI,rfl⟩
  unfold pyNext
  refine wpAny_bind (wpAny_attempt (wpAny_callSpecial?_slot (name:=Str.ofString "__next__") hT si_next (wpAny_call_entry si_next hT HX ?_ (Hm _))))
  unfold Builtin.«set_iterator.__next__»
  refine wpAny_bind (wpAny_of_eq (a:=(Value.ref I,[])) rfl ?_)
  refine wpAny_bind (wpAny_fieldsOf hI rfl ?_)
  dsimp only
  unfold setEntries
  refine wpAny_bind (wpAny_bind (wpAny_setState_of ho hd T.fits (wpAny_pure ?_)))
  dsimp only
  have e0:((es.size:Int) != (es.size:Int))=false:=by simp
  rw [e0,if_neg Bool.false_ne_true]
  simp only [Int.toNat_natCast]
  refine wpAny_bind (G3 ho hd T hled hsl (fun e sl' h1 h2=>?_) fun z=>by rw [hx] at z; cases z)
  rw [hx] at h1
  cases h1
  dsimp only
  refine wpAny_bind (wpAny_setField_rec hI (by simp) fun h1 g1 s1=>?_)
  refine wpAny_bind (wpAny_setField_rec g1 (by simp) fun h2' g2 s2=>?_)
  refine wpAny_pure ⟨_,rfl,wpAny_pure (q h2' sl' ?_ h2 (s1.trans s2))⟩
  rw [g2]
  simp [itO,rawInt]
theorem QK {I S:Addr} {sl i ep:Nat} {es:Array (Int × Value)} {t:SetTable} {o:Obj} {Q:Option Value->Shared->Prop} (hh:A.handled=none) (hI:s.heap.get? I=some (itO S sl i es.size ep)) (ho:s.heap.get? S=some o) (hd:o.data=.set es ep t) (T:Tab t es.size) (hled:t.led = !(w.params.followText "set-order"))
    (hsl:w.params.followText "set-order" = false->below t.place sl=i) (hx:(wv w S ep es)[i]? = none)
    (q:∀ h',(∀ b o,b ≠ I->s.heap.get? b=some o->h'.get? b=some o)->Q none { s with heap:=h' }) :
    wpAny (model prog w) A (pyNext (.ref I)) Q E s:=by
  have hT:s.TypeIs (.ref I) "set_iterator" := ⟨_,hI,rfl⟩
  unfold pyNext
  refine wpAny_bind (wpAny_attempt (wpAny_callSpecial?_slot (name:=Str.ofString "__next__") hT si_next (wpAny_call_entry si_next hT HX ?_ (Hm _))))
  unfold Builtin.«set_iterator.__next__»
  refine wpAny_bind (wpAny_of_eq (a:=(Value.ref I,[])) rfl ?_)
  refine wpAny_bind (wpAny_fieldsOf hI rfl ?_)
  dsimp only
  unfold setEntries
  refine wpAny_bind (wpAny_bind (wpAny_setState_of ho hd T.fits (wpAny_pure ?_)))
  dsimp only
  have e0:((es.size:Int) != (es.size:Int))=false:=by simp
  rw [e0,if_neg Bool.false_ne_true]
  simp only [Int.toNat_natCast]
  refine wpAny_bind (G3 ho hd T hled hsl (fun e sl' h1 h2=>by rw [hx] at h1; cases h1) fun _=>?_)
  dsimp only
  refine wpAny_bind (wpAny_setField_rec hI (by simp) fun h1 g1 s1=>?_)
  refine II (A:=A.in1) (s:={ s with heap:=h1 }) hh fun a h' k ty=>?_
  refine wpAny_bind (wpAny_isInstance (T := "StopIteration") (b:=true) ty isSubtype_stop ?_)
  exact wpAny_pure (q h' fun b o hb e=>k b o (s1.extBut b o hb e))
theorem N7 {I S:Addr} {sl i n ep:Nat} {Q:Value->Shared->Prop} (hI:s.heap.get? I=some (itO S sl i n ep)) (h:Q (.ref I) s):wpAny (model prog w) A (pyIter (.ref I)) Q E s:=by
  have hT:s.TypeIs (.ref I) "set_iterator" := ⟨_,hI,rfl⟩
  refine wpAny_pyIter_slot hT JL (wpAny_call_entry JL hT MS ?_ (Mn _))
  exact wpAny_pure ⟨_,rfl, "set_iterator",_,hT,si_next.lookup,h⟩
theorem QJ {S:Addr} {ep:Nat} {es:Array (Int × Value)} {t:SetTable} {o:Obj} {Q:Value->Shared->Prop} (ho:s.heap.get? S=some o) (hex:o.ExactSet) (hd:o.data=.set es ep t) (T:Tab t es.size)
    (h:Q (.ref s.heap.objs.size) { s with heap:=s.heap.push (itO S 0 0 es.size ep) }):wpAny (model prog w) A (pyIter (.ref S)) Q E s:=by
  have hT:s.TypeIs (.ref S) "set" := ⟨_,ho,hex.1⟩
  refine wpAny_pyIter_slot hT PySem.F.slot_set_iter (wpAny_call_entry PySem.F.slot_set_iter hT MT ?_ (PySem.F.args_set_iter_1 _))
  unfold Builtin.«frozenset.__iter__» Builtin.Frozenset.slot0 Builtin.Frozenset.sizeOf setEntries setDrawn setsByText
  refine wpAny_bind (wpAny_bind (wpAny_of_eq (a:=(Value.ref S,[])) rfl (wpAny_pure ?_)))
  refine wpAny_bind (wpAny_bind (wpAny_bind (wpAny_setState_of ho hd T.fits (wpAny_pure (wpAny_pure ?_)))))
  refine wpAny_bind (wpAny_bind (wpAny_setState_of ho hd T.fits ?_))
  dsimp only
  refine wpAny_bind (wpAny_bind (wpAny_askSetting (wpAny_pure (wpAny_pure ?_))))
  dsimp only
  have e0:∀ b:Bool,(!b && (!t.plain && decide (es.size > 1)))=false:=fun b=>by rw [T.pl]; simp
  split
  . rename_i z
    have z':=(e0 _).symm.trans z
    cases z'
  . refine wpAny_bind (wpAny_pure ?_)
    refine wpAny_bind (wpAny_setEpoch_of ho hd T.fits ?_)
    unfold newFields
    exact wpAny_bind (wpAny_newObj_type (wpAny_pure ⟨_,rfl, "set_iterator",_,⟨_,Heap.get?_push_size _ rfl,rfl⟩,si_next.lookup,h⟩))
end
end Ht
namespace Ht
open PySem PySem.Spec PyProof.Rows Sem L2 PySem.SetTable
section
variable {prog:Program} {w:World} {A:Around} {E:Value->Shared->Prop} {s:Shared}
theorem O8:splitId "set.__len__" = some ("set", "__len__"):=by decide +kernel
theorem LN {S:Addr} {Q:Bool->Shared->Prop} (hT:s.TypeIs (.ref S) "set") (h:Q false s):wpAny (model prog w) A (Builtin.List.listLengthHint (.ref S)) Q E s:=by
  obtain ⟨id,hid⟩:∃ id,id = "set.__len__" := ⟨_,rfl⟩
  have l:=PySem.F.slot_set_len.lookup
  have z:=sub_set_self
  have sp:=O8
  rw [← hid] at l sp
  unfold Builtin.List.listLengthHint
  wp_walk
  rw [sp]
  wp_walk
  split
  . wp_walk
    exact h
  . rename_i no
    exact absurd (by rw [hid]; decide +kernel) no
theorem J5 {I S:Addr} {ep:Nat} {es:Array (Int × Value)} {t:SetTable} {o:Obj} (hh:A.handled=none) (hne:S ≠ I) (hd:o.data=.set es ep t) (T:Tab t es.size) (hled:t.led = !(w.params.followText "set-order")) :
    Walks prog w A I [I,S] [I] es.size (fun i v=>∃ e,(wv w S ep es)[i]? = some e /\ v=e.2)
      (fun i h=>(∃ sl:Nat,h.get? I=some (itO S sl i es.size ep) /\ (w.params.followText "set-order" = false->below t.place sl=i)) /\ h.get? S=some o) where
  sub:=fun b hb=>by simp at hb; simp [hb]
  frame:=fun i h h' st k=>by
    obtain ⟨⟨sl,h1,h2⟩,h3⟩:=st
    exact ⟨⟨sl,k I (by simp) _ h1,h2⟩,k S (by simp) _ h3⟩
  item:=fun i s Q E hi st q=>by
    obtain ⟨⟨sl,h1,h2⟩,h3⟩:=st
    obtain ⟨x,hx⟩:∃ x,(wv w S ep es)[i]? = some x:=⟨(wv w S ep es)[i]'(by rw [EC]; exact hi),by simp [EC,hi]⟩
    refine N8 hne h1 h3 hd T hled h2 hx fun h' sl' g1 g2 sb=>?_
    exact q x.2 h' s.toks ⟨x,hx,rfl⟩ ⟨⟨sl',g1,g2⟩,(sb.2 S hne).trans h3⟩ fun b o hb e=>(sb.2 b (by simpa using hb)).trans e
  done:=fun s Q E st q=>by
    obtain ⟨⟨sl,h1,h2⟩,h3⟩:=st
    refine QK hh h1 h3 hd T hled h2 (by simp [EC]) fun h' k=>?_
    exact q h' s.toks fun b o hb e=>k b o (by simpa using hb) e
  self:=fun i s Q E st h=>by
    obtain ⟨⟨sl,h1,h2⟩,h3⟩:=st
    exact N7 h1 h
theorem NL {S:Addr} {ep:Nat} {es:Array (Int × Value)} {t:SetTable} {o:Obj} (hex:o.ExactSet) (hd:o.data=.set es ep t) (T:Tab t es.size) (hled:t.led = !(w.params.followText "set-order")) :
    PySem.W.KdlSrc prog w "set" S S es.size (fun i v=>∃ e,(wv w S ep es)[i]? = some e /\ v=e.2) (fun h=>h.get? S=some o) where
  type:=fun s h=>⟨_,h,hex.1⟩
  there:=fun h e=>⟨Heap.lt_size e,Heap.lt_size e⟩
  keep:=fun h h' e k=>k S (.inl rfl) _ e
  notList:=by decide
  notTuple:=by decide
  hint:=fun A E s Q e h=>LN ⟨_,e,hex.1⟩ h
  iter:=fun A s hh e=>⟨itO S 0 0 es.size ep,_,fun E Q h=>QJ e hex hd T h,J5 hh (Nat.ne_of_lt (Heap.lt_size e)) hd T hled,⟨0,Heap.get?_push_size _ rfl,fun _=>Ii T.ris⟩,Heap.get?_push_of_some _ e⟩
end
end Ht
namespace Ht
end Ht
namespace L2
open PySem PySem.Spec PyProof.Rows Sem Ht
def G4 (P:Program) (w:World) (p:Addr) (ks:List Int):HO:=.ext fun h=>SetI P w h p ks
section
variable {X:Cx}
theorem Km (hc:X.calm=true):A0 X (.type "set") (fun xs H Q=>∃ a ns,xs=[.ref a] /\ (SqL X.K H a (ns.map V.int) ∨ SqT X.K H a (ns.map V.int)) /\ (Aa ns).length <= 18 /\ ∀ p,H p=none->Q (.ref p) (upd H p (G4 X.prog X.w p (Aa ns)))):=by
  intro pins s σ H xs us Q I r h
  obtain ⟨a,ns,rfl,ha,room,q⟩:=h
  obtain ⟨u,rfl,ru⟩:=Vals.one r
  cases ru
  have fin:∀ h' tk,(∀ c o,s.heap.get? c=some o->h'.get? c=some o)->SetI X.prog X.w h' s.heap.objs.size (Aa ns)->EP X pins σ Q (.ref s.heap.objs.size) { s with heap:=h',toks:=tk }:=fun h' tk kp hS=>by
    refine ⟨.ref s.heap.objs.size,_,I.laid (o:=G4 X.prog X.w s.heap.objs.size (Aa ns)) kp (Nat.le_refl _) ?_,rfl,q _ (I.hok.fresh (Nat.le_refl _))⟩
    obtain ⟨o,es,ep,t,e,rest⟩:=id hS
    exact ⟨hS,⟨o,e⟩,fun h1 h2 z k=>z.at k⟩
  rcases ha with ha | ha
  . obtain ⟨its,rv,pl,hz⟩:=I.list ha
    exact H9 (I.ok.hd hc) pl.isList (Eu rv) room fin
  . obtain ⟨its,rv,pl,hz⟩:=I.tuple ha
    exact KB (I.ok.hd hc) pl (Eu rv) room fin
end
end L2
namespace Mi
open PySem L2 Ht
theorem HM {K:PySem.W.Frag} {ι:Nat->Addr} {k:Nat} {H:Hp}:∀ ns:List Int,IsL K ι k H (ns.map D.int) (ns.map V.int)
  | []=>IsL.nil
  | n :: r=>by
    rw [List.map_cons,List.map_cons]
    unfold IsL
    exact ⟨_,_,rfl,ofI _,HM r⟩
section
variable {X:Cx} {e:Expr} {pos p p2 pos2:Pos}
end
end Mi
namespace L2
open PySem PySem.Spec PyProof.Rows Sem Ht
section
variable {prog:Program} {w:World} {A:Around} {E:Value->Shared->Prop} {s:Shared}
theorem LM {n:Nat}:Builtin.Range.rangeSize 0 n 1=(n:Int):=by rw [rangeSize_one]; split <;> omega
theorem KA {n:Nat} (h:n <= 1000):Builtin.Range.small 0 n 1=true:=small_one (by omega) (by omega) (by omega) (by omega)
theorem Hb {r:Addr} {n:Nat} {t u v:Tok} {Q:List Value->Shared->Prop} (hh:A.handled=none) (hr:IsRange s.heap r 0 n 1 t u v) (hn:n <= 1000)
    (q:∀ h' tk (acc:List Value),(∀ b o,s.heap.get? b=some o->h'.get? b=some o)->IntsAre acc ((List.range n).map Int.ofNat)->Q acc { s with heap:=h',toks:=tk }) :
    wpAny (model prog w) A (collect (.ref r)) Q E s:=by
  unfold collect
  refine wpAny_bind (wpAny_runValue (codeAny_builtin entry_proto_collect' ?_))
  rw [Around.under_plainId PySem.F.plain_proto_collect _]
  unfold Builtin.«proto.collect»
  refine wpAny_bind (wpAny_newList ?_)
  refine wpAny_pure ⟨plainId_quiet PySem.F.plain_list_iadd _,codeAny_builtin entry_list_iadd' ?_⟩
  rw [Around.under_plainId PySem.F.plain_list_iadd _]
  have got:∀ (acc:Array Value) (c:Nat) (h':Heap) (tk:Nat),(∀ b o,s.heap.get? b=some o->h'.get? b=some o)->h'.get? s.heap.objs.size=some { cls:=.type "list",dict:=none,data:=.seq acc c,slots:=#[] }->ItemsOf (fun i v=>∃ t,v=.int (0 + (i:Int) * 1) t) acc n->
      wpAny (model prog w) A (load s.heap.objs.size >>= fun o=>match o.data with | .seq xs _=>Pure.pure xs.toList | _=>PySem.unsupported "internal:collect") Q E { s with heap:=h',toks:=tk }:=fun acc c h' tk k e it=>by
    refine wpAny_bind (wpAny_load e (wpAny_pure (q h' tk acc.toList k ?_)))
    have im:=intsAre_map acc.toList fun v hv=>by
      obtain ⟨i,hi,rfl⟩:=List.getElem_of_mem hv
      obtain ⟨t,e⟩:=it.2 i _ (Array.getElem?_eq_getElem (by simpa using hi))
      exact ⟨_,t,by simpa using e⟩
    have en:acc.toList.map numOf=(List.range n).map Int.ofNat:=by
      refine List.ext_getElem? fun i=>?_
      rw [List.getElem?_map,List.getElem?_map]
      by_cases hi:i < n
      . have hi':i < acc.size:=by rw [it.1]; exact hi
        obtain ⟨t,e⟩:=it.2 i _ (Array.getElem?_eq_getElem hi')
        rw [Array.getElem?_toList,Array.getElem?_eq_getElem hi',e,List.getElem?_range hi]
        simp [numOf]
      . rw [List.getElem?_eq_none (by rw [Array.length_toList,it.1]; omega),List.getElem?_eq_none (by simp; omega)]
        rfl
    rwa [en] at im
  have key:=wpAny_extend_range (prog:=prog) (w:=w) (A:=A) (s:={ s with heap:=s.heap.push { cls:=.type "list",data:=.seq ([]:List Value).toArray } })
    (R:=fun (z:Result) (s':Shared)=>∃ (h':Heap) (tk:Nat) (acc:Array Value) (c:Nat),z=.ok (.ret (.ref s.heap.objs.size)) /\ s'={ s with heap:=h',toks:=tk } /\
      (∀ b o,s.heap.get? b=some o->h'.get? b=some o) /\ h'.get? s.heap.objs.size=some { cls:=.type "list",dict:=none,data:=.seq acc c,slots:=#[] } /\ ItemsOf (fun i v=>∃ t,v=.int (0 + (i:Int) * 1) t) acc n)
    (n:=n) hh (Heap.get?_push_of_some _ hr) (KA hn) LM (by omega) s.heap.objs.size (.ref s.heap.objs.size) 0 (Heap.get?_push_size _ rfl)
    (fun h' tk acc c k e it=>⟨h',tk,acc,c,rfl,rfl,fun b o z=>k b o (Nat.ne_of_lt (Heap.lt_size z)) (Heap.get?_push_of_some _ z),e,it⟩)
  refine wpAny_mono key (fun fin s' z=>?_) fun e s' z=>by obtain ⟨_,_,_,_,y,_⟩:=z; cases y
  cases fin with
  | done f=>
    obtain ⟨h',tk,acc,c,y,rfl,k,e,it⟩:=z
    cases y
    exact got acc c h' tk k e it
  | again c=>
    refine ⟨z.1,codeAny_mono z.2 fun f s2 y=>?_⟩
    obtain ⟨h',tk,acc,c,rfl,rfl,k,e,it⟩:=y
    exact got acc c h' tk k e it
end
section
variable {X:Cx}
theorem Kn:A0 X (.type "range") (fun xs H Q=>∃ n:Nat,xs=[.int n] /\ ∀ p,H p=none->Q (.ref p) (upd H p (.rng 0 n))):=by
  intro pins s σ H xs us Q I r h
  obtain ⟨n,rfl,q⟩:=h
  obtain ⟨u,rfl,t,rfl⟩:=Vals.one r
  refine call_range_1 ⟨.ref s.heap.objs.size,_,I.laid (o:=.rng 0 n) (fun b o e=>Heap.get?_push_of_some _ e) (Nat.le_refl _) ⟨_,_,_,Heap.get?_push_size _ rfl⟩,rfl,q _ (I.hok.fresh (Nat.le_refl _))⟩
abbrev JY (n:Nat):List V:=((List.range n).map Int.ofNat).map V.int
theorem Kb (n:Nat):(JY n).length=n:=by simp
theorem Hg (hc:X.calm=true):A0 X (.type "tuple") (fun xs H Q=>∃ p n,xs=[.ref p] /\ H p=some (.rng 0 (n:Nat)) /\ n <= 1000 /\ ∀ l,H l=none->Q (.ref l) (upd H l (.tup (JY n)))):=by
  intro pins s σ H xs us Q I r h
  obtain ⟨p,n,rfl,hp,hn,q⟩:=h
  obtain ⟨u,rfl,ru⟩:=Vals.one r
  cases ru
  obtain ⟨t,u,v,e⟩:=I.hok p _ hp
  refine callType_codes PySem.F.called_tuple (PySem.F.typeCall_tuple_1 (.ref p)) PySem.F.entry_object_init (Q₁:=fun x s₁=>s₁.TypeIs x "tuple" /\ EP X pins σ Q x s₁) ?_ (fun x s₁ z=>And.intro z.1 (And.intro (PySem.F.args_object_init_2 x (.ref p)) ?_))
  . refine codeAny_call_builtin PySem.F.plain_tuple_new PySem.F.entry_tuple_new (wpAny_of_eq (PySem.F.newCall_tuple_1 _) ?_)
    have a1:=sub_tuple_self
    have a2:=init_tuple_lookup
    have a3:=madeHere_tuple
    have a4:s.TypeIs (.ref p) "range" := ⟨_,e,rfl⟩
    unfold Builtin.«tuple.__new__»
    have go:∀ (A:Around) (Q:List Value->Shared->Prop) (E:Value->Shared->Prop),A.handled=none->(∀ h' tk (acc:List Value),(∀ b o,s.heap.get? b=some o->h'.get? b=some o)->IntsAre acc ((List.range n).map Int.ofNat)->Q acc { s with heap:=h',toks:=tk })->wpAny (model X.prog X.w) A (collect (.ref p)) Q E s:=fun A Q E hh z=>Hb hh e hn z
    wp_walk using go
    . exact I.ok.hd hc
    . intro h' tk acc k im
      have hl:acc.length=n:=by
        have:=congrArg List.length im.nums
        simpa using this
      refine wpAny_bind (wpAny_pure ?_)
      unfold Builtin.Tuple.tupleExact
      refine wpAny_bind (wpAny_newObj_type ?_ (by show acc.toArray.size <= sizeLine; rw [sizeLine_eq]; simp; omega))
      have I1:=I.kept (t':=tk) k
      refine wpAny_pure ⟨⟨_,Heap.get?_push_size _ rfl,rfl⟩,.ref h'.objs.size,_,I1.laid (t':=tk) (o:=.tup (JY n)) (fun b o z=>Heap.get?_push_of_some _ z) (Nat.le_refl _) ⟨by rw [Kb,sizeLine_eq]; omega,acc,De im,IsTup.new _ _⟩,rfl,q _ (I1.hok.fresh (Nat.le_refl _))⟩
  . exact object_init_meets PySem.F.called_tuple.init.lookup PySem.F.called_tuple.made (by decide) X.prog X.w X.A.in1 (wants (fun r s₂=>r=.none /\ EP X pins σ Q x s₂) X.xe) s₁ (And.intro z.1 (And.intro rfl z.2))
end
end L2
namespace Mi
open PySem L2 Ht
def L4 (n:Nat):List D:=((List.range n).map Int.ofNat).map D.int
def G8 (how:List D->D) (d:D):M D:=match d with
  | .int j=>fun μ=>if 0 <= j /\ j <= 1000 then some (how (L4 j.toNat),μ) else none
  | _=>BL
section
variable {X:Cx} {e:Expr} {pos p p2 pos2:Pos}
theorem NV {T:String} {f:List D->D} {how:List V->HO} {m:Sl->M D} (call:X.calm=true->A0 X (.type T) (fun xs H Q=>∃ p n,xs=[.ref p] /\ H p=some (.rng 0 (n:Nat)) /\ n <= 1000 /\ ∀ l,H l=none->Q (.ref l) (upd H l (how (JY n)))))
    (fin:∀ {ι:Nat->Addr} {μ:Mh} {H:Hp} {Q:VK} {ds:List D} {vs:List V},RelH X.K ι μ H->IsL X.K ι μ.length H ds vs->(Aft X.K ι μ H μ fun ι' H'=>∀ v,Is X.K ι' μ.length H' (f ds) v->Q v H')->∀ l,H l=none->Q (.ref l) (upd H l (how vs)))
    (yl:X.mg T=none) (ys:X.mg "range" = none) (bt:bootBuiltins T=some (.type T)) (he:RE X e m) (hc:X.calm=true:=by rfl) (hgl:Gl X T:=by rfl) (hgs:Gl X "range" := by rfl) (hst:Cy e=false:=by rfl) (n1:(T:Str) ≠ "__name__" := by decide) (n2:((T:Str) == ("__debug__" : Str))=false:=by decide) :
    RE X (.Call (.Name T p) [.Call (.Name "range" p2) [e] [] pos2] [] pos) (mUn (G8 f) m):=by
  have hs:PE X (.Call (.Name "range" p2) [e] [] pos2) _:=Br Kn hgs ys PyProof.Rows.boot_range (B7 he.pe Cn (AR hst)) (by decide) (by decide) (AR hst) rfl
  refine RE.wk (Br (call hc) hgl yl bt (B7 hs Cn (AR rfl)) n1 n2 (AR rfl) rfl) fun σ H Q h=>?_
  obtain ⟨ι,μ,τ,d,μ',R,S,ev,q⟩:=h
  obtain ⟨x,μ1,e1,e2⟩:=AE ev
  refine ⟨ι,μ,τ,x,μ1,R,S,e1,fun ι1 H1 E1 R1 v1 i1=>?_⟩
  cases x with
  | int j=>
    have e3:(if 0 <= j /\ j <= 1000 then some (f (L4 j.toNat),μ1) else none)=some (d,μ'):=e2
    split at e3
    . rename_i hj
      cases e3
      have z:=BR i1
      subst z
      have ej:j=((j.toNat:Nat):Int):=by omega
      refine ⟨j.toNat,by rw [← ej],fun p hp=>?_⟩
      obtain ⟨E2,R2⟩:=R1.laid (.rng 0 (j.toNat:Nat)) hp
      exact ⟨p,j.toNat,rfl,AW,by omega,fun l hl=>fin R2 (HM _) (fun ι' H' E' R'=>q ι' H' ((E1.trans E2).trans E') R') l hl⟩
    . cases e3
  | _=>cases e2
theorem KJ {m:Sl->M D} (yl:X.mg "tuple" = none) (ys:X.mg "range" = none) (he:RE X e m) (hc:X.calm=true:=by rfl) (hgl:Gl X "tuple" := by rfl) (hgs:Gl X "range" := by rfl) (hst:Cy e=false:=by rfl) :
    RE X (.Call (.Name "tuple" p) [.Call (.Name "range" p2) [e] [] pos2] [] pos) (mUn (G8 D.tup) m):=NV (T := "tuple") (how:=HO.tup) Hg MC yl ys Mi.A5 he hc hgl hgs hst
def IR:List D->M D
  | [d]=>bnd (A6 d) fun ds=>ret (.lst ds)
  | _=>BL
theorem OF:A0 X (.type "list") (rMA X.K IR):=fun pins s σ H xs us Q I r h=>by
  obtain ⟨ι,μ,as,d,μ',R,ia,e,q⟩:=h
  unfold IR at e
  split at e
  . rename_i y
    obtain ⟨ds,μ1,e1,e2⟩:=AE e
    obtain ⟨v,rfl,i1⟩:=Er ia
    obtain ⟨hm,p,vs,rfl,h1,h2⟩:=Bs R i1 e1
    subst hm
    cases e2
    exact Gd pins s σ H _ us Q I r ⟨p,vs,rfl,h1,MD R h2 q⟩
  . cases e
end
end Mi
namespace L2
open PySem PySem.Spec PyProof.Rows Sem Ht
section
variable {prog:Program} {w:World} {A:Around} {E:Value->Shared->Prop} {s:Shared}
end
section
variable {X:Cx}
end
end L2
namespace Mi
open PySem L2 Ht
section
variable {X:Cx}
end
end Mi
namespace Mi
open PySem L2 Ht
section
variable {X:Cx} {e:Expr} {pos pos':Pos}
end
end Mi
namespace L2
open PySem PySem.Spec PyProof.Rows
section
variable {X:Cx} {scope:Scope} {tgs:List Str} {ix:List Nat}
def Gs (P:Program) (w:World) (A:Around):Option Expr->Env->(Bool->Shared->Prop)->(Value->Shared->Prop)->Shared->Prop
  | none,_,Q,_,s=>Q true s
  | some c,env,Q,E,s=>wpAny (model P w) A (isTrue c env (eval c env)) Q E s
theorem LI {P:Program} {w:World} {A:Around} {env:Env} {Q Q':Bool->Shared->Prop} {E:Value->Shared->Prop} {s:Shared}:∀ {co:Option Expr},Gs P w A co env Q (fun _ _=>False) s->(∀ b s,Q b s->Q' b s)->Gs P w A co env Q' E s
  | none,h,k=>k _ _ h
  | some _,h,k=>Dr h k
def O5 (P:Program) (w:World) (A:Around) (tg elt:Expr) (co:Option Expr) (it acc:Value) (env:Env) (R:Result->Shared->Prop) (G:Shared->Prop) (r:Option Value) (s1:Shared):Prop:=match r with
  | none=>R (.ok .next) s1
  | some v=>wpAny (model P w) A (letOwnedTupleGo tg it v) (fun _ s0=>wpAny (model P w) A (assign tg env v) (fun _ s2=>
      Gs P w A co env (fun ok s3=>if ok=true then wpAny (model P w) A (eval elt env) (fun x s4=>wpAny (model P w) A (call (.builtin "list.append") [acc,x]) (fun _ s5=>G s5) (notedBy (model P w) A env fun e s'=>R (.error e) s') s4) (notedBy (model P w) A env fun e s'=>R (.error e) s') s3 else G s3)
        (notedBy (model P w) A env fun e s'=>R (.error e) s') s2) (notedBy (model P w) A env fun e s'=>R (.error e) s') s0) (notedBy (model P w) A env fun e s'=>R (.error e) s') s1
theorem L9 {P:Program} {w:World} {A:Around} {tg elt iter:Expr} {pos:Pos} {it acc:Value} {env:Env} {R:Result->Shared->Prop} {s:Shared} (I:Nat->Shared->Prop):∀ (co:Option Expr),
    (∀ n s,I n s->wpAny (model P w) A (pyNext it) (O5 P w A tg elt co it acc env R fun s5=>∃ m,m < n /\ I m s5) (notedBy (model P w) A env fun e s'=>R (.error e) s') s)->∀ n,I n s->
    codeAny (model P w) A (.compLoop (.ListComp elt [⟨tg,iter,co.toList,0⟩] scope pos) 0 it acc env) R s
  | none,turn,n,h=>PySem.W.kcp_loop I (fun n s hI=>wpAny_mono (turn n s hI) (fun r s1 q=>match r,q with
      | none,q=>q
      | some v,q=>wpAny_mono q (fun _ _ q=>wpAny_mono q (fun _ _ q=>by
          have q':=q
          dsimp only [Gs] at q'
          rw [if_pos rfl] at q'
          exact q') fun _ _ x=>x) fun _ _ x=>x) fun _ _ x=>x) n h
  | some c,turn,n,h=>PySem.W.kct_loop I (fun n s hI=>wpAny_mono (turn n s hI) (fun r s1 q=>match r,q with
      | none,q=>q
      | some v,q=>q) fun _ _ x=>x) n h
def OK (X:Cx) (co:Option Expr) (tc:TT):Prop:=
  ∀ (pins:List (Addr × Obj)) (s:Shared) (σ:St) (H:Hp) (Q:Bool->Hp->Prop),Inv X pins σ H s->tc σ H Q->Gs X.prog X.w X.A co X.env (TP X pins σ Q) X.xe s
theorem HQ {n:Nat}:∀ {is:List Nat},(∀ i ∈ is,i < n)->∀ vs σ H (Q:St->Hp->Prop),Mi.C0 is vs σ H Q->Mi.C0 is vs σ H fun σ2 H2=>Q σ2 H2 /\ σ2.length=σ.length /\ σ2.drop n=σ.drop n
  | [],_,vs,σ,H,Q,h=>⟨h.1,h.2,rfl,rfl⟩
  | i :: is,hi,vs,σ,H,Q,h=>by
    obtain ⟨v,vr,rfl,h⟩:=h
    refine ⟨v,vr,rfl,?_⟩
    have z:=HQ (is:=is) (fun j hj=>hi j (List.mem_cons_of_mem _ hj)) vr _ H Q h
    have e1:(σ.set i (some v)).length=σ.length:=by simp
    have e2:(σ.set i (some v)).drop n=σ.drop n:=by rw [List.drop_set_of_lt (hi i (by simp))]
    rw [e1,e2] at z
    exact z
theorem QM {n k:Nat} {is:List Nat} {K:PySem.W.Frag} (h:∀ i ∈ is,i < n):GK n (QN K k (Mi.C0 is)):=fun x σ H Q q=>by
  obtain ⟨a,xs,e,h1,h2,h3⟩:=q
  exact ⟨a,xs,e,h1,h2,HQ h _ _ _ _ h3⟩
theorem Ha {elt tg iter:Expr} {co:Option Expr} {pos:Pos} {g:TG} {tc:TT} {te:TE} {pins:List (Addr × Obj)} {σ:St} {H2:Hp} {s2:Shared} {it:Addr} {fp:List Addr} {tn:Nat->Heap->Prop} {J:It} {Q:VK}
    (S:BScope X scope tgs ix) (hc:X.calm=true) (hg:∀ fp C s H,PG (cxB X scope tgs fp C s H) tg g) (hgk:GK tgs.length g) (hi:∀ fp C s H,OK (cxB X scope tgs fp C s H) co tc) (he:∀ fp C s H,PE (cxB X scope tgs fp C s H) elt te)
    (I2:Inv X pins σ H2 s2) (T:Hn X.prog X.w X.K tg J fp it tn) (t0:tn 0 s2.heap) (hf:∀ b ∈ fp,C3 X pins H2 b)
    (W:Nat->Nat->List V->Hp->Prop) (w0:∃ m,W 0 m [] H2)
    (turn:∀ i m ys H,W i m ys H->(J.stop i H /\ ys.length <= sizeLine /\ ∀ p,H p=none->Q (.ref p) (upd H p (.lst ys))) ∨
      (J.go i H /\ ys.length < sizeLine /\ ∃ N:List V->Hp->Prop,(∀ ys' H',N ys' H'->∃ m',m' < m /\ W (i + 1) m' ys' H') /\ ∀ x H',J.yld i H x H'->g x (BG tgs ix σ) H' fun σ2 H2=>tc σ2 H2 fun b H3=>
        if b=true then te σ2 H3 fun v H4=>N (ys ++ [v]) H4 else N ys H3))
    {RR:Value->Addr->Result->Shared->Prop}
    (fin:∀ (D C:Addr) (s':Shared) (H':Hp) (m:Str->Option Value),Inv X pins σ H' s'->Q (.ref D) H'->s'.heap.Ns C m->C3 X pins H' C->RR (.ref D) C (.ok .next) s') :
    wpAny (model X.prog X.w) X.A (newList []) (fun acc s₃=>wpAny (model X.prog X.w) X.A (newFunctionEnv scope X.env.globals (CI X.env scope.names []) [] X.env.qual none .none (some X.env)) (fun cenv s₄=>
      codeAny (model X.prog X.w) X.A (.compStart (.ListComp elt [⟨tg,iter,co.toList,0⟩] scope pos) 0 (.ref it) acc { cenv with scope:=relabel scope X.env }) (RR acc cenv.locals) s₄) X.xe s₃) X.xe s2:=by
  refine wpAny_newObj_type (wpAny_newFunctionEnv S.nocell (by intro y hy; simp at hy) (fun h₁ hns₁ hsb₁=>?_) S.kind)
  dsimp only at hns₁ hsb₁ ⊢
  generalize hH2:s2.heap.push { cls:=.type "list",dict:=none,data:=.seq ([]:List Value).toArray }=G2 at hns₁ hsb₁ ⊢
  have hC:G2.objs.size=s2.heap.objs.size + 1:=by rw [← hH2,Heap.size_push]
  have hCle:s2.heap.objs.size <= G2.objs.size:=by rw [hC]; exact Nat.le_succ _
  have hDC:s2.heap.objs.size ≠ G2.objs.size:=by rw [hC]; exact Nat.ne_of_lt (Nat.lt_succ_self _)
  have below:∀ b,b < s2.heap.objs.size->b ≠ G2.objs.size /\ b ≠ s2.heap.objs.size:=fun b hb=>⟨by rw [hC]; exact Nat.ne_of_lt (Nat.lt_succ_of_lt hb),Nat.ne_of_lt hb⟩
  have old:∀ b o,s2.heap.get? b=some o->h₁.get? b=some o:=fun b o e=>hsb₁.extBut b o (below b (Heap.lt_size e)).1 (Heap.get?_push_of_some _ (hH2 ▸ Heap.get?_push_of_some _ e))
  have hacc:h₁.get? s2.heap.objs.size=some (Ca [] 0):=hsb₁.extBut _ _ hDC (Heap.get?_push_of_some _ (hH2 ▸ Heap.get?_push_size _ rfl))
  have hfo:∀ b ∈ fp,b < s2.heap.objs.size:=fun b hb=>let ⟨o,e,_⟩:=T.obj 0 _ t0 b hb; Heap.lt_size e
  have ok:=Ib (tgs:=tgs) (ix:=ix) (C:=G2.objs.size) S I2 hf hfo hCle
  have sub:∀ x c,(CI X.env scope.names []).lookup x=some c->X.env.cells.lookup x=some c:=CP scope.names [] (fun _ _ z=>by simp at z)
  have nDfs:s2.heap.objs.size ∉ frs X.stack:=fun hz=>by
    rcases List.mem_cons.mp (I2.stkSub _ hz) with z | z
    . exact absurd I2.lt (by rw [← z]; exact Nat.lt_irrefl _)
    . exact I2.nofs (Nat.le_refl _) z
  have nDcell:∀ x c,(CI X.env scope.names []).lookup x=some c->c ≠ s2.heap.objs.size:=fun x c e=>Nat.ne_of_lt (I2.cellLt (sub x c e))
  have ncell:∀ (its:List Value) (k:Nat) (v:Option Value),(Ca its k).data ≠ .cell v:=fun its k v z=>by cases z
  have stat:∀ {Hx:Hp} {o:Obj},(∀ b ∈ fp,Hx b=none)->∀ b ∈ fp,C3 (cxB X scope tgs fp G2.objs.size s2 H2) [(s2.heap.objs.size,o)] Hx b:=fun {Hx o} hn b hb=>
    ⟨hn b hb,(ok.exf b hb).1,ok.exfs b hb,.inl hb,(ok.exf b hb).2,fun p hp z=>by
      have e:p=(s2.heap.objs.size,o):=by simpa [cxB] using hp
      subst e
      exact absurd (hfo b hb) (by rw [← z]; exact Nat.lt_irrefl _)⟩
  have loop:∀ s₃:Shared,s₃={ s2 with heap:=h₁,toks:=s2.toks + ([]:List (Str × Value)).length }->
      codeAny (model X.prog X.w) X.A (.compLoop (.ListComp elt [⟨tg,iter,co.toList,0⟩] scope pos) 0 (.ref it) (.ref s2.heap.objs.size) (compEnvC scope (CI X.env scope.names []) G2.objs.size X.env)) (RR (.ref s2.heap.objs.size) G2.objs.size) s₃:=by
    rintro s₃ rfl
    obtain ⟨m0,w0⟩:=w0
    refine L9 (fun n s=>∃ i ys its k H,Inv (cxB X scope tgs fp G2.objs.size s2 H2) [(s2.heap.objs.size,Ca its k)] (BG tgs ix σ) H s /\ tn i s.heap /\ (∀ b ∈ fp,H b=none) /\ Vals ys its /\ W i n ys H) co ?_ m0
      ⟨0,[],[],0,H2,Es S I2 hf hfo hCle (Nat.le_refl _) hDC hns₁ old rfl rfl hacc (ncell _ _),T.keep 0 _ _ t0 fun b _ o e=>old b o e,fun b hb=>(hf b hb).1,.nil,w0⟩
    rintro n s ⟨i,ys,its,k,H,I,st,fr,rv,w⟩
    rcases turn i n ys H w with ⟨stop,hz,q⟩ | ⟨go,hz8,N,hN,step⟩
    . refine thn (T.done (cxB X scope tgs fp G2.objs.size s2 H2) rfl rfl rfl hc i _ s _ H _ I (stat fr) st stop) fun r s1 ⟨hr,I1⟩=>?_
      subst hr
      obtain ⟨pe,pn,_⟩:=I1.pin (s2.heap.objs.size,Ca its k) (List.mem_append_right _ (by simp))
      have J0:Inv X pins σ H s1:=I2.call' I1.os I1.base I1.hok I1.bare fun b hb=>⟨(hf b hb).2.2.2.1,(hf b hb).2.1,(hf b hb).2.2.2.2.1,(hf b hb).2.2.2.2.2⟩
      have J1:Inv X pins σ (upd H s2.heap.objs.size (.lst ys)) s1:=J0.track (I2.fpOk (Nat.le_refl _) pn) ⟨hz,its,k,rv,pe⟩
      obtain ⟨m,hn,_⟩:=I1.loc
      exact fin _ _ s1 _ m J1 (q _ pn) hn (I2.fpOk hCle (by rw [AU (Ne.symm hDC)]; exact I1.free))
    . refine thn (T.item (cxB X scope tgs fp G2.objs.size s2 H2) rfl rfl rfl hc i _ s _ H _ I (stat fr) st go) fun r s1 ⟨u,hr,h1⟩=>?_
      subst hr
      refine thn h1 fun _ s5 ⟨x,H5,I5,r5,y5,st5,fr5⟩=>?_
      have I5':=I5.pinned (stat fr5) (T.obj _ _ st5)
      refine Dr (hg fp G2.objs.size s2 H2 _ s5 _ H5 x u _ I5' r5 (hgk _ _ _ _ (step x H5 y5))) fun _ s6 ⟨σ6,H6,I6,q6,l6,d6⟩=>?_
      refine LI (hi fp G2.objs.size s2 H2 _ s6 σ6 H6 _ I6 q6) fun okb s7 ⟨H7,I7,q7⟩=>?_
      cases okb with
      | false=>
        rw [if_neg Bool.false_ne_true] at q7 ⊢
        obtain ⟨m',hm,w7⟩:=hN _ _ q7
        refine ⟨m',hm,i + 1,ys,its,k,H7,Iy I7.unpinned l6 d6,T.keep _ _ _ st5 fun b hb o e=>(I7.pin (b,o) (List.mem_append_right _ (List.mem_append_right _ (An hb e)))).1,fun b hb=>?_,rv,w7⟩
        obtain ⟨o,e,_⟩:=T.obj _ _ st5 b hb
        exact (I7.pin (b,o) (List.mem_append_right _ (List.mem_append_right _ (An hb e)))).2.1
      | true=>
        rw [if_pos rfl] at q7 ⊢
        refine Dr (he fp G2.objs.size s2 H2 _ s7 σ6 H7 _ I7 q7) fun xv s8 ⟨v,H8,I8,rv8,q8⟩=>?_
        obtain ⟨m',hm,w8⟩:=hN _ _ q8
        obtain ⟨pe,pn,_⟩:=I8.pin (s2.heap.objs.size,Ca its k) (List.mem_append_right _ (List.mem_append_left _ (by simp)))
        have hlen:=rv.length
        refine call_meets PySem.F.slot_list_append ⟨_,pe,rfl⟩ PySem.F.entry_list_append (PySem.F.args_list_append_2 _ _) (PySem.list_append s2.heap.objs.size its.toArray k xv (by rw [List.size_toArray]; omega)) ⟨pe,?_⟩
        have hp:its.toArray.push xv=(its ++ [xv]).toArray:=by simp
        have q':∃ k',(s8.heap.update s2.heap.objs.size (Obj.mapSeq (fun a=>a.push xv))).get? s2.heap.objs.size=some (Ca (its ++ [xv]) k'):=⟨_,by
          unfold Ca
          rw [← hp]
          exact PySem.IsL.update pe (fun a=>a.push xv)⟩
        obtain ⟨k',q'⟩:=q'
        have I9:Inv (cxB X scope tgs fp G2.objs.size s2 H2) [] σ6 H8 { s8 with heap:=s8.heap.update s2.heap.objs.size (Obj.mapSeq (fun a=>a.push xv)) }:=
          (I8.pins_of (pins':=[]) (fun p hp=>absurd hp (by simp))).turned (t':=s8.toks) (fun b o hb e=>(Heap.get?_update_other s8.heap (Obj.mapSeq (fun a=>a.push xv)) (Ne.symm hb)).trans e) pn hDC (.inr (Nat.le_refl _)) nDcell (fun p hp=>absurd hp (by simp [cxB]))
        have I10:Inv (cxB X scope tgs fp G2.objs.size s2 H2) [(s2.heap.objs.size,Ca (its ++ [xv]) k')] σ6 H8 { s8 with heap:=s8.heap.update s2.heap.objs.size (Obj.mapSeq (fun a=>a.push xv)) }:=
          I9.pins_of fun p hp=>by
            have e:p=(s2.heap.objs.size,Ca (its ++ [xv]) k'):=by simpa using hp
            subst e
            exact ⟨q',pn,hDC,nDfs,ncell _ _⟩
        refine ⟨m',hm,i + 1,ys ++ [v],its ++ [xv],k',H8,Iy I10 l6 d6,T.keep _ _ _ st5 fun b hb o e=>?_,fun b hb=>?_,rv.append (.cons rv8 .nil),w8⟩
        . exact (Heap.get?_update_other s8.heap (Obj.mapSeq (fun a=>a.push xv)) (Ne.symm (below b (hfo b hb)).2)).trans (I8.pin (b,o) (List.mem_append_right _ (List.mem_append_right _ (An hb e)))).1
        . obtain ⟨o,e,_⟩:=T.obj _ _ st5 b hb
          exact (I8.pin (b,o) (List.mem_append_right _ (List.mem_append_right _ (An hb e)))).2.1
  exact codeAny_compStart_list (loop _ rfl) (T.self _ 0 _ _ _ (T.keep 0 _ _ t0 fun b _ o e=>old b o e) (loop _ rfl))
theorem Lv {elt tg iter:Expr} (co:Option Expr) {pos:Pos} {wi:TI} {g:TG} {tc:TT} {te:TE} (S:BScope X scope tgs ix) (hc:X.calm=true) (hi:PI X tg iter wi) (hg:∀ fp C s H,PG (cxB X scope tgs fp C s H) tg g) (hgk:GK tgs.length g)
    (hif:∀ fp C s H,OK (cxB X scope tgs fp C s H) co tc) (he:∀ fp C s H,PE (cxB X scope tgs fp C s H) elt te) (hs:∀ x,foldedSetIterable iter X.env x=pure x:=by intro _; rfl) :
    PE X (.ListComp elt [⟨tg,iter,co.toList,0⟩] scope pos) (Gx tgs ix wi g tc te):=by
  intro pins s σ H Q I h
  rw [eval_ListComp]
  refine wpAny_comprehension_free (use:=none) rfl hs (BY (S.cells I.ok)) S.kind S.loc ?_
  show wpAny _ _ (eval iter X.env) _ _ s
  refine thn (hi pins s σ H _ I h) fun v s1 h1=>thn h1 fun itv s2 h2=>?_
  obtain ⟨it,fp,tn,J,H2,e,I2,T,t0,f2,W,w0,turn⟩:=h2
  subst e
  refine Ha (RR:=fun acc C=>compPost (model X.prog X.w) X.A X.xe none (EP X pins σ Q) acc C) S hc hg hgk hif he I2 T t0 f2 W w0 turn ?_
  intro D C s' H' m J1 q hn fC
  obtain ⟨f0,f1,f2,f3,f4,f5⟩:=fC
  exact ⟨m,hn,fun h' sb=>⟨.ref D,H',J1.turned (t':=s'.toks) (fun b o hb e=>(sb.2 b hb).trans e) f0 f1 f3 f4 f5,rfl,q⟩⟩
end
end L2
namespace Mi
open PySem L2
section
variable {X:Cx} {scope:Scope} {tgs:List Str} {ix:List Nat} {elt tg iter:Expr} {pos:Pos}
theorem KM {K:PySem.W.Frag}:OK X none (tT K DU):=fun pins s σ H Q I h=>by
  obtain ⟨ι,μ,τ,b,μ',R,S,e,q⟩:=h
  cases e
  exact ⟨H,I,q ι H R.ext0 R⟩
theorem LL {K:PySem.W.Frag} {n:Nat} {src:Sl->M (List D)} {bf:D->Sl->M Sl} {g:TG} {mc:Sl->M Bool} {me:Sl->M D} {fin:List D->M D} {σ:St} {H:Hp} {Q:VK} (hn:tgs.length=n) (hg:∀ v σ H Q,tG K bf v σ H Q->g v σ H Q) (hf:∀ ι μ μ' H ds vs d (Q:VK),RelH K ι μ H->IsL K ι μ.length H ds vs->fin ds μ=some (d,μ')->(Aft K ι μ H μ' fun ι' H'=>∀ v,Is K ι' μ'.length H' d v->Q v H')->
      vs.length <= sizeLine /\ ∀ p,H p=none->Q (.ref p) (upd H p (.lst vs)))
    (h:tE K (B9 n ix src bf mc me fin) σ H Q):Gx tgs ix (tI K src) g (tT K mc) (tE K me) σ H Q:=by
  subst hn
  obtain ⟨ι,μ,τ,d,μ',R,S,e,q⟩:=h
  obtain ⟨ds,μ1,e1,e5⟩:=AE e
  obtain ⟨u,μ2,e2,e6⟩:=AE e5
  obtain ⟨zs,μ3,e3,e7⟩:=AE e6
  obtain ⟨hl,e4⟩:=Bx e2
  clear e e5 e6
  subst e4
  refine ⟨ι,μ,τ,ds,_,R,S,e1,fun ι1 H1 E1 R1 J it=>?_⟩
  refine ⟨fun i' m ys H=>m=ds.length - i' /\ i' <= ds.length /\ ys.length <= i' /\ ∃ (ι:Nat->Addr) (μ:Mh) (as:List D),RelH K ι μ H /\ RelS K ι μ.length H τ σ /\ ItM K J ds ι μ H /\ IsL K ι μ.length H as ys /\ BX bf mc me (Bl tgs.length ix τ) (ds.drop i') as μ=some (zs,μ3) /\
    Aft K ι μ H μ' fun ι' H'=>∀ v,Is K ι' μ'.length H' d v->Q v H',⟨ds.length,by simp,Nat.zero_le _,Nat.le_refl _,ι1,_,[],R1,S.ext E1,it,.nil,e3,fun ι2 H2 E2 R2=>q ι2 H2 (E1.trans E2) R2⟩,?_⟩
  rintro i' m ys H ⟨hm,hil,hyl,ι,μ,as,R,S,it,ia,e3,q⟩
  obtain ⟨go,stop,yl⟩:=it ι μ H R.ext0 R
  by_cases hlt:i' < ds.length
  . refine .inr ⟨go i' hlt,by omega,fun ys' H'=>ys'.length <= i' + 1 /\ ∃ (ι:Nat->Addr) (μ:Mh) (as:List D),RelH K ι μ H' /\ RelS K ι μ.length H' τ σ /\ ItM K J ds ι μ H' /\ IsL K ι μ.length H' as ys' /\ BX bf mc me (Bl tgs.length ix τ) (ds.drop (i' + 1)) as μ=some (zs,μ3) /\
      Aft K ι μ H' μ' fun ι' H'=>∀ v,Is K ι' μ'.length H' d v->Q v H',fun ys' H' z=>⟨_,(by omega:ds.length - (i' + 1) < m),rfl,hlt,z⟩,fun x H2 y=>?_⟩
    have hd:ds[i']? = some ds[i']:=by simp [hlt]
    obtain ⟨E2,R2,ix2⟩:=yl i' x H2 _ hd y
    rw [List.drop_eq_getElem_cons hlt] at e3
    obtain ⟨τ1,μ1,e1,e5⟩:=AE e3
    clear e3
    obtain ⟨cc,μ2,e2,e6⟩:=AE e5
    clear e5
    have S2:=(S.ext E2).block (tgs:=tgs) (ix:=ix)
    refine hg _ _ _ _ ⟨ι,_,_,_,τ1,μ1,R2,S2,ix2,e1,fun ι0 H0 E0 R0 σ0 S0=>?_⟩
    have E20:=E2.trans E0
    refine ⟨ι0,_,_,cc,μ2,R0,S0,e2,fun ι3 H3 E3 R3=>?_⟩
    have E13:=E20.trans E3
    cases cc with
    | false=>
      exact ⟨by omega,ι3,μ2,as,R3,S.ext E13,it.ext E13,ia.ext E13,e6,fun ι5 H5 E5 R5=>q ι5 H5 (E13.trans E5) R5⟩
    | true=>
      obtain ⟨y',μ4,e4,e8⟩:=AE e6
      refine ⟨ι3,μ2,_,y',μ4,R3,S0.ext E3,e4,fun ι4 H4 E4 R4 v iv=>?_⟩
      have E14:=E13.trans E4
      exact ⟨by simp; omega,ι4,μ4,as ++ [y'],R4,S.ext E14,it.ext E14,(ia.ext E14).append (.one iv),e8,fun ι5 H5 E5 R5=>q ι5 H5 (E14.trans E5) R5⟩
  . have hi':i'=ds.length:=by omega
    subst hi'
    rw [List.drop_length] at e3
    cases e3
    obtain ⟨z1,z2⟩:=hf ι _ μ' H _ ys d Q R ia e7 q
    exact .inl ⟨stop,z1,z2⟩
theorem O7 {K:PySem.W.Frag} {is:List Nat} {v:V} {σ:St} {H:Hp} {Q:St->Hp->Prop} (h:tG K (Ik is) v σ H Q):QN K is.length (C0 is) v σ H Q:=by
  obtain ⟨ι,μ,τ,d,τ',μ',R,S,i1,e,q⟩:=h
  cases d with
  | tup ds=>
    unfold Is at i1
    obtain ⟨p,vs,rfl,h1,h2⟩:=i1
    have e':(if ds.length=is.length then FK is ds τ else BL) μ=some (τ',μ'):=e
    by_cases hl:ds.length=is.length
    . rw [if_pos hl] at e'
      refine ⟨p,vs,rfl,h1,by rw [h2.length,hl],Dp R S h2 e' fun z σ' S'=>?_⟩
      subst z
      exact q ι H R.ext0 R σ' S'
    . rw [if_neg hl] at e'; cases e'
  | _=>cases e
theorem LY (co:Option Expr) {n:Nat} {es:List Expr} {kk:Nat} {tp:Pos} {is:List Nat} {src:Sl->M (List D)} {mc:Sl->M Bool} {me:Sl->M D} (S:BScope X scope tgs ix) (hc:X.calm=true) (hi:RI X (.Tuple es kk tp) iter src) (hg:∀ fp C s H,PGs (cxB X scope tgs fp C s H) es (C0 is)) (hif:∀ fp C s H,OK (cxB X scope tgs fp C s H) co (tT X.K mc)) (he:∀ fp C s H,RE (cxB X scope tgs fp C s H) elt me)
    (hlen:∀ fp C s H,(assignEach es (cxB X scope tgs fp C s H).env).length=is.length:=by intro _ _ _ _; rfl) (hst:∀ fp C s H,(assignEach es (cxB X scope tgs fp C s H).env).findIdx? (·.1)=none:=by intro _ _ _ _; rfl)
    (hin:∀ i ∈ is,i < tgs.length:=by decide) (hn:tgs.length=n:=by rfl) (hs:∀ x,foldedSetIterable iter X.env x=pure x:=by intro _; rfl):RE X (.ListComp elt [⟨.Tuple es kk tp,iter,co.toList,0⟩] scope pos) (B9 n ix src (Ik is) mc me BW):=
  RE.wk (Lv co (te:=tE X.K me) S hc hi.pe (fun fp C s H=>Lq (X:=cxB X scope tgs fp C s H) hc (hg fp C s H) (hlen fp C s H) (hst fp C s H)) (QM hin) hif (fun fp C s H=>(he fp C s H).pe) hs) fun _ _ _ h=>LL hn (fun _ _ _ _ h=>O7 h) (fun _ _ _ _ _ _ _ _ R i e q=>C5 R i e q) h
end
end Mi
namespace L2
open PySem PySem.Spec PyProof.Rows
section
variable {X:Cx}
end
end L2
namespace Mi
open PySem L2 Ht
section
variable {X:Cx} {e tg iter:Expr} {body:List Stmt} {pos:Pos}
end
end Mi
namespace Sq
open PySem PySem.W PyProof.Rows
def run {α:Type} (lt:Nat->Nat->Bool):KasT α->α
  | .ret a=>a
  | .ask i j k=>run lt (k (lt i j))
theorem CL {α β:Type} {lt:Nat->Nat->Bool} {f:α->KasT β}:∀ t:KasT α,run lt (t.bind f)=run lt (f (run lt t))
  | .ret _=>rfl
  | .ask i j k=>CL (k (lt i j))
structure Ord (N:Nat) (lt:Nat->Nat->Bool):Prop where
  tot:∀ i j,i < N->j < N->i ≠ j->lt i j=true ∨ lt j i=true
  tr:∀ i j k,lt i j=true->lt j k=true->lt i k=true
  irr:∀ i,lt i i=false
abbrev Pm (N:Nat) (p:Array Nat):Prop:=p.toList.Perm (List.range N)
section
variable {N:Nat} {lt:Nat->Nat->Bool} {p:Array Nat}
theorem Pm.size (h:Pm N p):p.size=N:=by
  have:=h.length_eq
  simpa using this
theorem Pm.bd (h:Pm N p) {i:Nat} (hi:i < N):p.getD i 0 < N:=by
  have hs:=h.size
  have:p.getD i 0 ∈ p.toList:=by
    have e:p.getD i 0=p[i]'(by omega):=by simp [Array.getD,hs,hi]
    rw [e]
    exact Array.mem_toList_iff.mpr (Array.getElem_mem _)
  exact List.mem_range.mp (h.mem_iff.mp this)
theorem Pm.inj (h:Pm N p) {i j:Nat} (hi:i < N) (hj:j < N) (e:p.getD i 0=p.getD j 0):i=j:=by
  have hs:=h.size
  have nd:p.toList.Nodup:=h.nodup_iff.mpr List.nodup_range
  have e1:p.getD i 0=p.toList[i]'(by simp [hs,hi]):=by simp [Array.getD,hs,hi]
  have e2:p.getD j 0=p.toList[j]'(by simp [hs,hj]):=by simp [Array.getD,hs,hj]
  rw [e1,e2] at e
  exact (List.getElem_inj nd).mp e
theorem Pm.tot (h:Pm N p) (o:Ord N lt) {i j:Nat} (hi:i < N) (hj:j < N) (hne:i ≠ j):lt (p.getD i 0) (p.getD j 0)=true ∨ lt (p.getD j 0) (p.getD i 0)=true:=o.tot _ _ (Pm.bd h hi) (Pm.bd h hj) fun e=>hne (h.inj hi hj e)
theorem Pm.not (h:Pm N p) (o:Ord N lt) {i j:Nat} (hi:i < N) (hj:j < N) (hne:i ≠ j) (e:lt (p.getD i 0) (p.getD j 0)=false):lt (p.getD j 0) (p.getD i 0)=true:=(h.tot o hi hj hne).elim (fun z=>by rw [e] at z; cases z) id
def Up (lt:Nat->Nat->Bool) (p:Array Nat) (n:Nat):Prop:=∀ i j,i < j->j < n->lt (p.getD i 0) (p.getD j 0)=true
theorem Up.more (o:Ord N lt) {n:Nat} (h:Up lt p n) (hn:1 <= n) (e:lt (p.getD (n - 1) 0) (p.getD n 0)=true):Up lt p (n + 1):=fun i j hij hj=>by
  rcases Nat.lt_or_ge j n with z | z
  . exact h i j hij z
  . have:j=n:=by omega
    subst this
    rcases Nat.lt_or_ge i (j - 1) with y | y
    . exact o.tr _ _ _ (h i (j - 1) y (by omega)) e
    . have:i=j - 1:=by omega
      subst this; exact e
theorem EK (o:Ord N lt) (P:Pm N p):∀ (f n:Nat),1 <= n->n + f <= N->Up lt p n->n <= run lt (kas_asc p f n) /\ run lt (kas_asc p f n) <= n + f /\ Up lt p (run lt (kas_asc p f n)) /\ (run lt (kas_asc p f n) < n + f->lt (p.getD (run lt (kas_asc p f n)) 0) (p.getD (run lt (kas_asc p f n) - 1) 0)=true)
  | 0,n,h1,h2,u=>⟨Nat.le_refl _,Nat.le_refl _,u,fun z=>absurd z (Nat.lt_irrefl _)⟩
  | f + 1,n,h1,h2,u=>by
    unfold kas_asc
    show n <= run lt (if lt (p.getD n 0) (p.getD (n - 1) 0)=true then .ret n else kas_asc p f (n + 1)) /\ _
    cases e:lt (p.getD n 0) (p.getD (n - 1) 0) with
    | true=>
      rw [show run lt (KasT.ask (p.getD n 0) (p.getD (n - 1) 0) fun c=>if c=true then .ret n else kas_asc p f (n + 1))=n from by show run lt (if lt (p.getD n 0) (p.getD (n - 1) 0)=true then KasT.ret n else kas_asc p f (n + 1))=n; rw [e]; rfl]
      exact ⟨Nat.le_refl _,by omega,u,fun _=>e⟩
    | false=>
      rw [show run lt (KasT.ask (p.getD n 0) (p.getD (n - 1) 0) fun c=>if c=true then .ret n else kas_asc p f (n + 1))=run lt (kas_asc p f (n + 1)) from by show run lt (if lt (p.getD n 0) (p.getD (n - 1) 0)=true then KasT.ret n else kas_asc p f (n + 1))=_; rw [e]; rfl]
      rw [if_neg (by decide)]
      obtain ⟨a,b,c,d⟩:=EK o P f (n + 1) (by omega) (by omega) (u.more o h1 (P.not o (by omega) (by omega) (by omega) e))
      exact ⟨by omega,by omega,c,fun z=>d (by omega)⟩
def Dn (lt:Nat->Nat->Bool) (p:Array Nat) (n:Nat):Prop:=∀ i j,i < j->j < n->lt (p.getD j 0) (p.getD i 0)=true
theorem E9 (o:Ord N lt) (P:Pm N p):∀ (f n:Nat),1 <= n->n + f <= N->Dn lt p n->∃ m,run lt (kas_desc f p n 0)=(p,m,0) /\ n <= m /\ m <= n + f /\ Dn lt p m
  | 0,n,h1,h2,u=>⟨n,rfl,Nat.le_refl _,Nat.le_refl _,u⟩
  | f + 1,n,h1,h2,u=>by
    cases e:lt (p.getD n 0) (p.getD (n - 1) 0) with
    | true=>
      have u':Dn lt p (n + 1):=fun i j hij hj=>by
        rcases Nat.lt_or_ge j n with z | z
        . exact u i j hij z
        . have:j=n:=by omega
          subst this
          rcases Nat.lt_or_ge i (j - 1) with y | y
          . exact o.tr _ _ _ e (u i (j - 1) y (by omega))
          . have:i=j - 1:=by omega
            subst this; exact e
      obtain ⟨m,a,b,c,d⟩:=E9 o P f (n + 1) (by omega) (by omega) u'
      refine ⟨m,?_,by omega,by omega,d⟩
      unfold kas_desc
      show run lt (if lt (p.getD n 0) (p.getD (n - 1) 0)=true then _ else _)=_
      rw [e,if_pos rfl,if_neg (by omega)]
      exact a
    | false=>
      have e2:=P.not o (i:=n) (j:=n - 1) (by omega) (by omega) (by omega) e
      refine ⟨n,?_,Nat.le_refl _,by omega,u⟩
      unfold kas_desc
      show run lt (if lt (p.getD n 0) (p.getD (n - 1) 0)=true then _ else KasT.ask (p.getD (n - 1) 0) (p.getD n 0) _)=_
      rw [e,if_neg (by decide)]
      show run lt (if lt (p.getD (n - 1) 0) (p.getD n 0)=true then _ else _)=_
      rw [e2]; rfl
theorem EH {xs ys:Array Nat} {i j:Nat} (h:xs[i]? = ys[j]?):xs.getD i 0=ys.getD j 0:=by
  rw [Array.getD_eq_getD_getElem?,Array.getD_eq_getD_getElem?,h]
theorem EZ (P:Pm N p) (i j:Nat):Pm N (kas_rev p i j):=(mirror_perm p i j _).toList.trans P
theorem PM (P:Pm N p) {m:Nat} (hm:m <= N) (d:Dn lt p m):Up lt (kas_rev p 0 m) m:=fun i j hij hj=>by
  have hs:=P.size
  have g:∀ k,k < m->(kas_rev p 0 m).getD k 0=p.getD (m - 1 - k) 0:=fun k hk=>EH (by
    unfold kas_rev
    rw [getElem?_mirror_all (by omega) k,if_pos ⟨Nat.zero_le _,hk⟩]
    congr 1; omega)
  rw [g i (by omega),g j hj]
  exact d (m - 1 - j) (m - 1 - i) (by omega) (by omega)
theorem F3 (o:Ord N lt) (P:Pm N p) (hN:2 <= N):∃ n p',run lt (kas_count N p)=(n,p') /\ 1 <= n /\ n <= N /\ Pm N p' /\ Up lt p' n:=by
  have u1:Up lt p 1:=fun i j hij hj=>by omega
  obtain ⟨a,b,c,d⟩:=EK o P (N - 1) 1 (Nat.le_refl _) (by omega) u1
  generalize hm:run lt (kas_asc p (N - 1) 1)=m at a b c d
  unfold kas_count
  rw [CL,hm]
  by_cases e:m=N
  . rw [if_pos (by simp [e])]
    exact ⟨m,p,rfl,a,by omega,P,c⟩
  . rw [if_neg (by simp [e])]
    by_cases h1:m > 1
    . rw [if_pos h1]
      have z:lt (p.getD 0 0) (p.getD (m - 1) 0)=true:=c 0 (m - 1) (by omega) (by omega)
      refine ⟨m,p,?_,a,by omega,P,c⟩
      show run lt (if lt (p.getD 0 0) (p.getD (m - 1) 0)=true then _ else _)=_
      rw [z]; rfl
    . rw [if_neg h1]
      have m1:m=1:=by omega
      subst m1
      have dd:=d (by omega)
      have dn:Dn lt p 2:=fun i j hij hj=>by
        have:i=0 /\ j=1:=by omega
        obtain ⟨rfl,rfl⟩:=this
        exact dd
      obtain ⟨m,r,b1,b2,d2⟩:=E9 o P (N - 2) 2 (by omega) (by omega) dn
      have P':=EZ P 0 m
      have u':=PM P (m:=m) (by omega) d2
      obtain ⟨a3,b3,c3,_⟩:=EK o P' (N - m) m (by omega) (by omega) u'
      refine ⟨run lt (kas_asc (kas_rev p 0 m) (N - m) m),kas_rev p 0 m,?_,by omega,by omega,P',c3⟩
      unfold kas_descPart
      rw [CL,show N - (1 + 1)=N - 2 from rfl,show 1 + 1=2 from rfl,r]
      show run lt (if (0:Nat) > 0 then _ else kas_tail3 m N p)=_
      rw [if_neg (by omega)]
      unfold kas_tail3
      rw [CL]
      rfl
theorem Di (o:Ord N lt) (P:Pm N p) {k:Nat} (hk:k < N) (u:Up lt p k):∀ (f l r:Nat),l <= r->r <= k->r - l <= f->(∀ i,i < l->lt (p.getD i 0) (p.getD k 0)=true)->(∀ i,r <= i->i < k->lt (p.getD k 0) (p.getD i 0)=true)->
    ∃ m,run lt (kas_place p k f l r)=m /\ m <= k /\ (∀ i,i < m->lt (p.getD i 0) (p.getD k 0)=true) /\ (∀ i,m <= i->i < k->lt (p.getD k 0) (p.getD i 0)=true)
  | 0,l,r,h1,h2,h3,a,b=>⟨l,rfl,by omega,a,fun i hi=>b i (by omega)⟩
  | f + 1,l,r,h1,h2,h3,a,b=>by
    unfold kas_place
    by_cases e:l ≥ r
    . rw [if_pos e]
      exact ⟨l,rfl,by omega,a,fun i hi=>b i (by omega)⟩
    . rw [if_neg e]
      have hmid:l <= (l + r) / 2 /\ (l + r) / 2 < r:=by omega
      show ∃ m,run lt (if lt (p.getD k 0) (p.getD ((l + r) / 2) 0)=true then _ else _)=m /\ _
      cases c:lt (p.getD k 0) (p.getD ((l + r) / 2) 0) with
      | true=>
        rw [if_pos rfl]
        refine Di o P hk u f l ((l + r) / 2) (by omega) (by omega) (by omega) a fun i hi hik=>?_
        rcases Nat.lt_or_ge ((l + r) / 2) i with z | z
        . exact o.tr _ _ _ c (u _ _ z hik)
        . have:i=(l + r) / 2:=by omega
          subst this; exact c
      | false=>
        rw [if_neg (by decide)]
        have c':=P.not o hk (show (l + r) / 2 < N by omega) (by omega) c
        refine Di o P hk u f ((l + r) / 2 + 1) r (by omega) (by omega) (by omega) (fun i hi=>?_) b
        rcases Nat.lt_or_ge i ((l + r) / 2) with z | z
        . exact o.tr _ _ _ (u _ _ z (by omega)) c'
        . have:i=(l + r) / 2:=by omega
          subst this; exact c'
theorem Jt (o:Ord N lt):∀ (f k:Nat) (p:Array Nat),Pm N p->1 <= k->k + f=N->Up lt p k->Pm N (run lt (kas_bin f p k)) /\ Up lt (run lt (kas_bin f p k)) N
  | 0,k,p,P,h1,h2,u=>⟨P,(show k=N by omega) ▸ u⟩
  | f + 1,k,p,P,h1,h2,u=>by
    unfold kas_bin
    rw [CL]
    obtain ⟨m,e,hm,a,b⟩:=Di o P (k:=k) (by omega) u k 0 k (Nat.zero_le _) (Nat.le_refl _) (by omega) (fun i hi=>by omega) (fun i h1 h2=>by omega)
    rw [e]
    have hs:=P.size
    have g:∀ j,(bubble p k (k - m)).getD j 0=if j=m then p.getD k 0 else if m < j /\ j <= k then p.getD (j - 1) 0 else p.getD j 0:=fun j=>by
      have:=getElem?_bubble (xs:=p) (src:=k) (by omega) (k - m) (by omega) j
      rw [show k - (k - m)=m by omega] at this
      by_cases z:j=m
      . rw [if_pos z] at this ⊢; exact EH this
      . rw [if_neg z] at this ⊢
        by_cases y:m < j /\ j <= k
        . rw [if_pos y] at this ⊢; exact EH this
        . rw [if_neg y] at this ⊢; exact EH this
    refine Jt o f (k + 1) _ ((bubble_perm p k _).toList.trans P) (by omega) (by omega) fun i j hij hj=>?_
    by_cases ji:j=m
    . have gi:(bubble p k (k - m)).getD i 0=p.getD i 0:=by rw [g i,if_neg (by omega),if_neg (by omega)]
      have gj:(bubble p k (k - m)).getD j 0=p.getD k 0:=by rw [g j,if_pos ji]
      rw [gi,gj]
      exact a i (by omega)
    . by_cases jj:m < j
      . have gj:(bubble p k (k - m)).getD j 0=p.getD (j - 1) 0:=by rw [g j,if_neg ji,if_pos ⟨jj,by omega⟩]
        rw [gj]
        by_cases ii:i=m
        . have gi:(bubble p k (k - m)).getD i 0=p.getD k 0:=by rw [g i,if_pos ii]
          rw [gi]
          exact b (j - 1) (by omega) (by omega)
        . by_cases i2:m < i
          . have gi:(bubble p k (k - m)).getD i 0=p.getD (i - 1) 0:=by rw [g i,if_neg ii,if_pos ⟨i2,by omega⟩]
            rw [gi]
            exact u (i - 1) (j - 1) (by omega) (by omega)
          . have gi:(bubble p k (k - m)).getD i 0=p.getD i 0:=by rw [g i,if_neg ii,if_neg (by omega)]
            rw [gi]
            exact u i (j - 1) (by omega) (by omega)
      . have gi:(bubble p k (k - m)).getD i 0=p.getD i 0:=by rw [g i,if_neg (by omega),if_neg (by omega)]
        have gj:(bubble p k (k - m)).getD j 0=p.getD j 0:=by rw [g j,if_neg ji,if_neg (by omega)]
        rw [gi,gj]
        exact u i j hij (by omega)
theorem sort_run (o:Ord N lt) (hN:2 <= N):Pm N (run lt (kas_sort N)) /\ Up lt (run lt (kas_sort N)) N:=by
  unfold kas_sort
  rw [CL]
  obtain ⟨n,p',e,h1,h2,P,u⟩:=F3 (p:=List.toArray (List.range N)) o (List.Perm.refl _) hN
  rw [e]
  by_cases z:n < N
  . rw [if_pos z]
    rw [show max n 1=n by omega]
    exact Jt o (N - n) n p' P h1 (by omega) u
  . rw [if_neg z]
    have:n=N:=by omega
    subst this
    exact ⟨P,u⟩
end
end Sq
namespace Sq
open PySem PySem.W PyProof.Rows
def Bd {α:Type} (N:Nat) (lt:Nat->Nat->Bool):KasT α->Prop
  | .ret _=>True
  | .ask i j k=>i < N /\ j < N /\ Bd N lt (k (lt i j))
theorem wp_of {α:Type} {N:Nat} {lt:Nat->Nat->Bool} {cmp:Nat->Nat->(Bool->Shared->Prop)->Shared->Prop} {s:Shared} (hc:∀ i j (C:Bool->Shared->Prop),i < N->j < N->C (lt i j) s->cmp i j C s) {Q:α->Shared->Prop}:∀ t:KasT α,Bd N lt t->Q (run lt t) s->t.kasWp cmp Q s
  | .ret _,_,h=>h
  | .ask i j k,b,h=>hc i j _ b.1 b.2.1 (wp_of hc (k (lt i j)) b.2.2 h)
theorem C7 {α β:Type} {N:Nat} {lt:Nat->Nat->Bool} {f:α->KasT β}:∀ t:KasT α,Bd N lt t->Bd N lt (f (run lt t))->Bd N lt (t.bind f)
  | .ret _,_,h=>h
  | .ask i j k,b,h=>⟨b.1,b.2.1,C7 (k (lt i j)) b.2.2 h⟩
section
variable {N:Nat} {lt:Nat->Nat->Bool} {p:Array Nat}
theorem Im (P:Pm N p):∀ (f n:Nat),1 <= n->n + f <= N->Bd N lt (kas_asc p f n)
  | 0,n,h1,h2=>trivial
  | f + 1,n,h1,h2=>by
    refine ⟨Pm.bd P (by omega),Pm.bd P (by omega),?_⟩
    dsimp only
    split
    . trivial
    . exact Im P f (n + 1) (by omega) (by omega)
theorem EJ:∀ (f n q:Nat) {p:Array Nat},Pm N p->1 <= n->n + f <= N->Bd N lt (kas_desc f p n q)
  | 0,n,q,p,P,h1,h2=>trivial
  | f + 1,n,q,p,P,h1,h2=>by
    refine ⟨Pm.bd P (by omega),Pm.bd P (by omega),?_⟩
    dsimp only
    split
    . split
      . exact EJ f (n + 1) 0 (EZ P _ _) (by omega) (by omega)
      . exact EJ f (n + 1) 0 P (by omega) (by omega)
    . refine ⟨Pm.bd P (by omega),Pm.bd P (by omega),?_⟩
      dsimp only
      split
      . trivial
      . exact EJ f (n + 1) (q + 1) P (by omega) (by omega)
theorem MY (o:Ord N lt) (P:Pm N p) (hN:2 <= N):Bd N lt (kas_count N p):=by
  have u1:Up lt p 1:=fun i j hij hj=>by omega
  obtain ⟨a,b,c,d⟩:=EK o P (N - 1) 1 (Nat.le_refl _) (by omega) u1
  unfold kas_count
  refine C7 _ (Im P (N - 1) 1 (Nat.le_refl _) (by omega)) ?_
  generalize hm:run lt (kas_asc p (N - 1) 1)=m at a b c d
  by_cases e:m=N
  . rw [if_pos (by simp [e])]; trivial
  . rw [if_neg (by simp [e])]
    by_cases h1:m > 1
    . rw [if_pos h1]
      have z:lt (p.getD 0 0) (p.getD (m - 1) 0)=true:=c 0 (m - 1) (by omega) (by omega)
      refine ⟨Pm.bd P (by omega),Pm.bd P (by omega),?_⟩
      rw [z]; trivial
    . rw [if_neg h1]
      have m1:m=1:=by omega
      subst m1
      have dd:=d (by omega)
      have dn:Dn lt p 2:=fun i j hij hj=>by
        have:i=0 /\ j=1:=by omega
        obtain ⟨rfl,rfl⟩:=this
        exact dd
      obtain ⟨m,r,b1,b2,d2⟩:=E9 o P (N - 2) 2 (by omega) (by omega) dn
      unfold kas_descPart
      refine C7 _ (EJ (N - (1 + 1)) (1 + 1) 0 P (by omega) (by omega)) ?_
      rw [show N - (1 + 1)=N - 2 from rfl,show 1 + 1=2 from rfl,r]
      show Bd N lt (if (0:Nat) > 0 then _ else kas_tail3 m N p)
      rw [if_neg (by omega)]
      unfold kas_tail3
      exact C7 _ (Im (EZ P 0 m) (N - m) m (by omega) (by omega)) trivial
theorem Ed (P:Pm N p) {k:Nat} (hk:k < N):∀ (f l r:Nat),r <= k->Bd N lt (kas_place p k f l r)
  | 0,l,r,h=>trivial
  | f + 1,l,r,h=>by
    unfold kas_place
    by_cases e:l ≥ r
    . rw [if_pos e]; trivial
    . rw [if_neg e]
      refine ⟨Pm.bd P hk,Pm.bd P (by omega),?_⟩
      dsimp only
      split
      . exact Ed P hk f l ((l + r) / 2) (by omega)
      . exact Ed P hk f ((l + r) / 2 + 1) r h
theorem Mg:∀ (f k:Nat) (p:Array Nat),Pm N p->k + f=N->Bd N lt (kas_bin f p k)
  | 0,k,p,P,h=>trivial
  | f + 1,k,p,P,h=>by
    unfold kas_bin
    exact C7 _ (Ed P (by omega) k 0 k (Nat.le_refl _)) (Mg f (k + 1) _ ((bubble_perm p k _).toList.trans P) (by omega))
theorem sort_bd (o:Ord N lt) (hN:2 <= N):Bd N lt (kas_sort N):=by
  have P0:Pm N (List.toArray (List.range N)):=List.Perm.refl _
  unfold kas_sort
  refine C7 _ (MY o P0 hN) ?_
  obtain ⟨n,p',e,h1,h2,P,u⟩:=F3 (p:=List.toArray (List.range N)) o P0 hN
  rw [e]
  by_cases z:n < N
  . rw [if_pos z]
    exact Mg _ _ p' P (by omega)
  . rw [if_neg z]; trivial
end
end Sq
namespace Nk
open PySem PySem.Spec PyProof.Rows HT
def Kl (c:Cs):List Int:=c.1 :: c.2.1 :: c.2.2
def cLt (a b:Cs):Bool:=BQ (Kl a) (Kl b)
theorem HU {a b:Cs} (h:Kl a=Kl b):a=b:=by
  obtain ⟨a1,a2,a3⟩:=a
  obtain ⟨b1,b2,b3⟩:=b
  simp only [Kl,List.cons.injEq] at h
  rw [h.1,h.2.1,h.2.2]
theorem Bo {a b:Cs} (h:csK a=csK b):a=b:=by
  obtain ⟨a1,a2,a3⟩:=a
  obtain ⟨b1,b2,b3⟩:=b
  unfold csK at h
  simp only [NK.tup.injEq,List.cons.injEq,NK.int.injEq,and_true] at h
  obtain ⟨h1,h2,h3⟩:=h
  have:a3=b3:=by
    have inj:∀ (x y:List Int),x.map NK.int=y.map NK.int->x=y:=by
      intro x
      induction x with
      | nil=>intro y h; cases y with
        | nil=>rfl
        | cons _ _=>cases h
      | cons u x ih=>intro y h; cases y with
        | nil=>cases h
        | cons v y=>
          rw [List.map_cons,List.map_cons,List.cons.injEq,NK.int.injEq] at h
          rw [h.1,ih y h.2]
    exact inj a3 b3 h3
  rw [h1,h2,this]
theorem EG:∀ a:List Int,BQ a a=false
  | []=>rfl
  | x :: a=>by rw [Aq,if_pos rfl]; exact EG a
theorem GX:∀ {a b:List Int},a ≠ b->BQ a b=true ∨ BQ b a=true
  | [],[],h=>absurd rfl h
  | [],_ :: _,_=>.inl rfl
  | _ :: _,[],_=>.inr rfl
  | x :: a,y :: b,h=>by
    by_cases e:x=y
    . subst e
      rw [Aq,Aq,if_pos rfl,if_pos rfl]
      exact GX fun z=>h (by rw [z])
    . rw [Aq,Aq,if_neg e,if_neg (Ne.symm e)]
      rcases Int.lt_or_gt_of_ne e with z | z
      . exact .inl (decide_eq_true z)
      . exact .inr (decide_eq_true z)
theorem IS:∀ {a b c:List Int},BQ a b=true->BQ b c=true->BQ a c=true
  | [],[],_,h,_=>by cases h
  | [],_ :: _,[],_,h=>by cases h
  | [],_ :: _,_ :: _,_,_=>rfl
  | _ :: _,[],_,h,_=>by cases h
  | _ :: _,_ :: _,[],_,h=>by cases h
  | x :: a,y :: b,z :: c,h,g=>by
    rw [Aq] at h g ⊢
    by_cases e:x=y
    . subst e
      rw [if_pos rfl] at h
      by_cases e2:x=z
      . subst e2
        rw [if_pos rfl] at g ⊢
        exact IS h g
      . rw [if_neg e2] at g ⊢; exact g
    . rw [if_neg e] at h
      have h':=of_decide_eq_true h
      by_cases e2:y=z
      . subst e2
        rw [if_neg e]; exact h
      . rw [if_neg e2] at g
        have g':=of_decide_eq_true g
        rw [if_neg (by omega)]
        exact decide_eq_true (by omega)
theorem Ga {h:Heap}:∀ {l:List Int} {vs:List Value},Ats h (l.map NK.int) vs->IntsAre vs l
  | [],_,a=>by unfold List.map Ats at a; subst a; exact .nil
  | i :: l,_,a=>by
    unfold List.map Ats at a
    obtain ⟨v,vs',rfl,a1,a2⟩:=a
    unfold At at a1
    obtain ⟨t,rfl⟩:=a1
    exact .cons i t (Ga a2)
theorem FB {h:Heap} {c:Cs} {v:Value} (x:At h (csK c) v):∃ a o items n t u q,v=.ref a /\ h.get? a=some o /\ o.cls=.type "tuple" /\ o.data=.seq items n /\ items.toList=[.int c.1 t,.int c.2.1 u,q] /\ At h (.tup (c.2.2.map NK.int)) q:=by
  unfold csK At at x
  obtain ⟨a,o,items,n,rfl,h1,h2,h3,h4⟩:=x
  unfold Ats at h4
  obtain ⟨v1,r1,e1,a1,h4⟩:=h4
  unfold Ats at h4
  obtain ⟨v2,r2,e2,a2,h4⟩:=h4
  unfold Ats at h4
  obtain ⟨v3,r3,e3,a3,h4⟩:=h4
  unfold Ats at h4
  unfold At at a1 a2
  obtain ⟨t,rfl⟩:=a1
  obtain ⟨u,rfl⟩:=a2
  subst h4 e3 e2
  exact ⟨a,o,items,n,t,u,v3,rfl,h1,h2,h3,e1,a3⟩
theorem F2:∀ l:List Int,NK.deeps (l.map NK.int)=0
  | []=>rfl
  | i :: l=>by show max 0 (NK.deeps (l.map NK.int))=0; rw [F2 l]; rfl
section
variable {prog:Program} {w:World} {A:Around} {E:Value->Shared->Prop} {s:Shared}
theorem Ri {a b:Cs} {x y:Value} {Q:Bool->Shared->Prop} (hu:A.units + 8 < cLine) (hx:At s.heap (csK a) x) (hy:At s.heap (csK b) y) (q:Q (cLt a b) s):wpAny (model prog w) A (keyLt' (tuples' true) x y) Q E s:=by
  obtain ⟨x,ox,xs,n,t,u,p,rfl,h1,h2,h3,h4,h5⟩:=FB hx
  obtain ⟨y,oy,ys,n',t',u',p',rfl,g1,g2,g3,g4,g5⟩:=FB hy
  refine PySem.W.kat_lt h1 h3 g1 g3 ?_
  rw [h4,g4]
  unfold cLt Kl at q
  rw [Aq] at q
  refine PySem.W.kat_cons (SeqAt.EqAt.int_int a.1 t b.1 t' prog w _ _ ?_)
  by_cases e1:a.1=b.1
  . rw [beq_iff_eq.mpr e1]
    rw [if_pos e1,Aq] at q
    refine PySem.W.kat_yes (PySem.W.kat_cons (SeqAt.EqAt.int_int a.2.1 u b.2.1 u' prog w _ _ ?_))
    by_cases e2:a.2.1=b.2.1
    . rw [beq_iff_eq.mpr e2]
      rw [if_pos e2] at q
      refine PySem.W.kat_yes (PySem.W.kat_cons (At.eq (by show A.units + (NK.deeps (a.2.2.map NK.int) + 1) < cLine; rw [F2]; omega) h5 g5 prog w _ _ ?_))
      by_cases e3:a.2.2=b.2.2
      . have hd:decide (NK.tup (a.2.2.map NK.int)=NK.tup (b.2.2.map NK.int))=true:=decide_eq_true (by rw [e3])
        rw [hd]
        refine PySem.W.kat_yes (PySem.W.kat_nil ?_)
        rw [e3,EG] at q
        have z1:xs.size=3:=by rw [← Array.length_toList,h4]; rfl
        have z2:ys.size=3:=by rw [← Array.length_toList,g4]; rfl
        rw [z1,z2]
        exact q
      . have hne : ¬ (NK.tup (a.2.2.map NK.int)=NK.tup (b.2.2.map NK.int)):=fun z=>e3 (by
          have:=Bo (a:=(0,0,a.2.2)) (b:=(0,0,b.2.2)) (by unfold csK; rw [z])
          exact (Prod.mk.inj (Prod.mk.inj this).2).2)
        rw [decide_eq_false hne]
        refine PySem.W.kat_no ?_
        show wpAny _ _ (oneLt' false p p') Q _ s
        unfold At at h5 g5
        obtain ⟨z,o1,i1,m1,rfl,k1,k2,k3,k4⟩:=h5
        obtain ⟨z',o2,i2,m2,rfl,k1',k2',k3',k4'⟩:=g5
        exact PySem.W.kat_one _ _ (IQ ⟨o1,k1,k2,m1,k3⟩ ⟨o2,k1',k2',m2,k3'⟩ (Ga k4) (Ga k4') (by omega) q)
    . rw [beq_eq_false_iff_ne.mpr e2]
      rw [if_neg e2] at q
      refine PySem.W.kat_no ?_
      exact PySem.W.kat_one _ _ (lt_int q)
  . rw [beq_eq_false_iff_ne.mpr e1]
    rw [if_neg e1] at q
    refine PySem.W.kat_no ?_
    exact oneLt_int q
end
end Nk
namespace Nk
open PySem PySem.Spec PyProof.Rows HT
theorem Ats.get {h:Heap}:∀ {ks:List NK} {vs:List Value},Ats h ks vs->∀ (i:Nat) (k:NK),ks[i]? = some k->∃ v,vs[i]? = some v /\ At h k v
  | [],_,_,i,k,e=>by simp at e
  | k0 :: ks,_,a,i,k,e=>by
    unfold Ats at a
    obtain ⟨v,vs',rfl,a1,a2⟩:=a
    cases i with
    | zero=>simp at e; subst e; exact ⟨v,rfl,a1⟩
    | succ i=>
      obtain ⟨u,e1,e2⟩:=Ats.get a2 i k (by simpa using e)
      exact ⟨u,by simpa using e1,e2⟩
theorem Ats.of_get {h:Heap}:∀ {ks:List NK} {vs:List Value},vs.length=ks.length->(∀ (i:Nat) (k:NK) (v:Value),ks[i]? = some k->vs[i]? = some v->At h k v)->Ats h ks vs
  | [],[],_,_=>by unfold Ats; rfl
  | [],_ :: _,e,_=>by simp at e
  | _ :: _,[],e,_=>by simp at e
  | k :: ks,v :: vs,e,f=>by
    unfold Ats
    exact ⟨v,vs,rfl,f 0 k v rfl rfl,Ats.of_get (by simpa using e) fun i k' v' h1 h2=>f (i + 1) k' v' (by simpa using h1) (by simpa using h2)⟩
abbrev Dq:Cs:=(0,0,[])
def FS (ks:List Cs) (i j:Nat):Bool:=cLt (ks.getD i Dq) (ks.getD j Dq)
theorem Ps {ks:List Cs} (nd:ks.Nodup):Sq.Ord ks.length (FS ks) where
  tot:=fun i j hi hj hne=>GX fun z=>hne (by
    have e:=HU z
    have e1:ks.getD i Dq=ks[i]:=by simp [hi]
    have e2:ks.getD j Dq=ks[j]:=by simp [hj]
    rw [e1,e2] at e
    exact (List.getElem_inj nd).mp e)
  tr:=fun i j k h g=>IS h g
  irr:=fun i=>EG _
theorem J9 {ks:List Cs} {p:Array Nat} (P:Sq.Pm ks.length p) (u:Sq.Up (FS ks) p ks.length):(p.toList.map fun i=>ks.getD i Dq).Perm ks /\ (p.toList.map fun i=>ks.getD i Dq).Pairwise fun x y=>cLt x y=true:=by
  constructor
  . have h1:=P.map fun i=>ks.getD i Dq
    have h2:(List.range ks.length).map (fun i=>ks.getD i Dq)=ks:=by
      apply List.ext_getElem
      . simp
      . intro i h1 h2
        simp at h1
        simp [h1]
    rw [h2] at h1
    exact h1
  . have hs:=P.size
    rw [List.pairwise_map,List.pairwise_iff_getElem]
    intro i j hi hj hij
    have hi':i < p.size:=by simpa using hi
    have hj':j < p.size:=by simpa using hj
    have:=u i j hij (by omega)
    have e1:p.getD i 0=p.toList[i]:=by simp [Array.getD,hi']
    have e2:p.getD j 0=p.toList[j]:=by simp [Array.getD,hj']
    rw [e1,e2] at this
    exact this
section
variable {prog:Program} {w:World} {A:Around} {E:Value->Shared->Prop} {s:Shared}
theorem MM:∀ {ks:List Cs} {vs:List Value},Ats s.heap (ks.map csK) vs->∃ fs:List Value,fs.length=vs.length /\ PySem.W.KatTups s.heap vs fs /\ ∀ v ∈ fs,∃ i t,v=.int i t
  | [],_,a=>by
    unfold List.map Ats at a
    subst a
    exact ⟨[],rfl,trivial,fun v h=>by cases h⟩
  | k :: ks,_,a=>by
    unfold List.map Ats at a
    obtain ⟨v,vs',rfl,a1,a2⟩:=a
    obtain ⟨fs,e,t,f⟩:=MM a2
    obtain ⟨x,o,items,n,t1,u,q,rfl,h1,h2,h3,h4,_⟩:=FB a1
    refine ⟨.int k.1 t1 :: fs,by simp [e],PySem.W.KatTups.cons h1 h2 h3 ?_ t,fun w hw=>(List.mem_cons.mp hw).elim (fun z=>⟨_,_,z⟩) (f w)⟩
    rw [← Array.getElem?_toList,h4]
    rfl
theorem NM {a:Addr} {vs:List Value} {n:Nat} {ks:List Cs} {P:PySem.Fin->Shared->Prop} (hu:A.units + 8 < cLine) (ho:s.heap.get? a=some (seqObj "list" vs.toArray n)) (hk:Ats s.heap (ks.map csK) vs) (nd:ks.Nodup) (h64:vs.length < 64)
    (h:∀ (out:List Value) (ks':List Cs),Ats s.heap (ks'.map csK) out->ks'.Perm ks->ks'.Pairwise (fun x y=>cLt x y=true)->(∀ v ∈ out,v ∈ vs)->P (.done (.ret .none)) { s with heap:=sortedHeap s.heap a vs out.toArray }) :
    wpAny (model prog w) A (Builtin.«list.sort» ⟨[.ref a],[]⟩) P E s:=by
  have hlen:vs.length=ks.length:=by have:=hk.len; simpa using this
  have ha:a < s.heap.objs.size:=Heap.lt_size ho
  have ho1:=get?_update_seq ho (fun _=>(#[]:Array Value))
  rw [list_sort_plain]
  refine wpAny_bind (listItems_at ho rfl (wpAny_bind (listUpdate_at ho rfl ?_ (by rw [List.size_toArray,sizeLine_eq]; omega) (Nat.zero_le _))))
  refine wpAny_bind (seqEpoch_at ho1 rfl (wpAny_bind (wpAny_newTuple ?_ (by show vs.length <= _; rw [sizeLine_eq]; omega))))
  refine wpAny_bind (wpAny_newList ?_ (Nat.zero_le _))
  refine wpAny_holding ?_
  show wpAny (model prog w) A _ P E { s with heap:=((s.heap.update a (Obj.mapSeq fun _=>(#[]:Array Value))).push (seqObj "tuple" vs.toArray 0)).push (seqObj "list" #[] 0) }
  generalize hG:((s.heap.update a (Obj.mapSeq fun _=>(#[]:Array Value))).push (seqObj "tuple" vs.toArray 0)).push (seqObj "list" #[] 0)=G
  have ho6:G.get? a=(s.heap.update a (Obj.mapSeq fun _=>(#[]:Array Value))).get? a:=by
    rw [← hG,Heap.get?_push_ne _ _ _ (by rw [size_push',Heap.size_update]; exact Nat.ne_of_lt (Nat.lt_succ_of_lt ha)),Heap.get?_push_ne _ _ _ (by rw [Heap.size_update]; exact Nat.ne_of_lt ha)]
  rw [ho1] at ho6
  have kp:∀ b o items m,s.heap.get? b=some o->o.cls=.type "tuple" -> o.data=.seq items m->G.get? b=some o:=fun b o items m e c _=>by
    have hb:b < s.heap.objs.size:=Heap.lt_size e
    have hne:b ≠ a:=fun z=>by
      subst z
      rw [ho] at e
      cases e
      exact absurd (show (Value.type "list")=.type "tuple" from c) (by decide)
    rw [← hG,Heap.get?_push_ne _ _ _ (by rw [size_push',Heap.size_update]; exact Nat.ne_of_lt (Nat.lt_succ_of_lt hb)),Heap.get?_push_ne _ _ _ (by rw [Heap.size_update]; exact Nat.ne_of_lt hb),Heap.get?_update_ne _ _ _ _ hne]
    exact e
  have hkG:Ats G (ks.map csK) vs:=hk.kept kp
  have fin:∀ out:List Value,out.length=vs.length->(∀ ks':List Cs,Ats s.heap (ks'.map csK) out->True)->sortedHeap s.heap a vs out.toArray=G.update a (Obj.mapSeq fun _=>out.toArray):=fun out _ _=>by rw [← hG]; rfl
  dsimp only
  by_cases h2:vs.toArray.size < 2
  . rw [if_pos h2,if_pos h2]
    have h2':vs.length < 2:=by simpa using h2
    refine wpAny_bind (wpAny_pure ?_)
    rw [StateT.run_pure]
    refine wpAny_bind (wpAny_pure ?_)
    dsimp only
    have ex:(arrOf (SortSt.mk' general' (vs.toArray.zip vs.toArray) #[] 7 none)).map (·.2)=vs.toArray:=by
      show (vs.toArray.zip vs.toArray).map (·.2)=vs.toArray
      apply Array.toList_inj.mp
      rw [Array.toList_map,Array.toList_zip]
      exact List.map_snd_zip (by simp)
    refine wpAny_bind (seqEpoch_at ho6 rfl (wpAny_bind (listUpdate_at ho6 rfl ?_ (Nat.zero_le _) (by rw [ex,List.size_toArray,sizeLine_eq]; omega))))
    simp only [bne_self_eq_false,Bool.false_eq_true,if_false]
    have:=h vs ks hk (List.Perm.refl _) (by
      match ks,hlen with
      | [],_=>exact List.Pairwise.nil
      | [x],_=>exact List.pairwise_singleton _ _
      | _ :: _ :: _,e=>simp at e; omega) (fun _ z=>z)
    rw [fin vs rfl fun _ _=>trivial] at this
    refine wpAny_pure ?_
    rw [ex]
    exact this
  . rw [if_neg h2,if_neg h2]
    have h2':2 <= vs.length:=by simpa using h2
    obtain ⟨fs,fl,ft,fi⟩:=MM (s:={ s with heap:=G }) hkG
    refine wpAny_bind (PySem.W.kat_kind (T:=.type "int") ft (by omega) (fun v hv=>by
      obtain ⟨i,t,rfl⟩:=fi v hv
      exact PySem.W.Looks.of_pure rfl) rfl ?_)
    have ord:=Ps nd
    have hN:2 <= ks.length:=by omega
    obtain ⟨pm,up⟩:=Sq.sort_run ord hN
    have ask:(PySem.W.kas_sort vs.length).kasWp (PySem.W.kas_ask prog w A (tuples' (Value.type "int" != Value.type "tuple")) vs) (fun p s''=>p=Sq.run (FS ks) (PySem.W.kas_sort ks.length) /\ s''={ s with heap:=G }) { s with heap:=G }:=by
      rw [hlen]
      refine Sq.wp_of (N:=ks.length) (lt:=FS ks) (fun i j C hi hj hC=>?_) _ (Sq.sort_bd ord hN) ⟨rfl,rfl⟩
      obtain ⟨v,e1,a1⟩:=hkG.get i (csK ks[i]) (by simp [hi])
      obtain ⟨v',e2,a2⟩:=hkG.get j (csK ks[j]) (by simp [hj])
      unfold PySem.W.kas_ask
      have g1:vs.getD i Value.none=v:=by rw [List.getD_eq_getElem?_getD,e1]; rfl
      have g2:vs.getD j Value.none=v':=by rw [List.getD_eq_getElem?_getD,e2]; rfl
      rw [g1,g2]
      refine Ri (s:={ s with heap:=G }) hu a1 a2 ?_
      unfold FS at hC
      have k1:ks.getD i Dq=ks[i]:=by simp [hi]
      have k2:ks.getD j Dq=ks[j]:=by simp [hj]
      rw [k1,k2] at hC
      exact hC
    refine wpAny_bind (wpAny_mono (PySem.W.kat_run (ks:=vs) (Q:=fun st' s'=>(arrOf st').map (·.2)=List.toArray ((Sq.run (FS ks) (PySem.W.kas_sort ks.length)).toList.map fun i=>vs.getD i Value.none) /\ failedOf st'=none /\ s'={ s with heap:=G }) rfl h2' h64 (fun p' st' s' b1 b2 b3 b4=>⟨by rw [PySem.W.kat_snds rfl b2,b4.1],b3,b4.2⟩) ask) ?_ fun _ _ e=>e)
    rintro ⟨⟨⟩,st'⟩ s' ⟨har,hf,rfl⟩
    dsimp only
    have hsz:((arrOf st').map (·.2)).size=vs.length:=by rw [har,List.size_toArray,List.length_map,Array.length_toList,pm.size,hlen]
    refine wpAny_bind (seqEpoch_at ho6 rfl (wpAny_bind (listUpdate_at ho6 rfl ?_ (Nat.zero_le _) (by rw [hsz,sizeLine_eq]; omega))))
    rw [hf]
    simp only [bne_self_eq_false,Bool.false_eq_true,if_false]
    obtain ⟨s1,s2⟩:=J9 pm up
    have oa:Ats s.heap ((((Sq.run (FS ks) (PySem.W.kas_sort ks.length)).toList.map fun i=>ks.getD i Dq)).map csK) ((Sq.run (FS ks) (PySem.W.kas_sort ks.length)).toList.map fun i=>vs.getD i Value.none):=by
      refine Ats.of_get (by simp) fun i k v e1 e2=>?_
      rw [List.getElem?_map,List.getElem?_map] at e1
      rw [List.getElem?_map] at e2
      cases e:(Sq.run (FS ks) (PySem.W.kas_sort ks.length)).toList[i]? with
      | none=>rw [e] at e2; cases e2
      | some j=>
        rw [e] at e1 e2
        cases e1
        cases e2
        have hj:j < ks.length:=List.mem_range.mp (pm.mem_iff.mp (List.mem_of_getElem? e))
        obtain ⟨v,g1,g2⟩:=hk.get j (csK ks[j]) (by simp [hj])
        show At s.heap (csK (ks.getD j Dq)) (vs.getD j Value.none)
        rw [show ks.getD j Dq=ks[j] by simp [hj],List.getD_eq_getElem?_getD,g1]
        exact g2
    have sub:∀ v ∈ (Sq.run (FS ks) (PySem.W.kas_sort ks.length)).toList.map (fun i=>vs.getD i Value.none),v ∈ vs:=fun v hv=>by
      obtain ⟨j,hj,rfl⟩:=List.mem_map.mp hv
      have hj:j < vs.length:=by rw [hlen]; exact List.mem_range.mp (pm.mem_iff.mp hj)
      rw [List.getD_eq_getElem?_getD,List.getElem?_eq_getElem hj]
      exact List.getElem_mem hj
    have:=h _ _ oa s1 s2 sub
    rw [fin _ (by rw [List.length_map,Array.length_toList,pm.size,hlen]) fun _ _=>trivial,← har] at this
    exact wpAny_pure this
end
end Nk
namespace Hs
open PySem PySem.SetTable
def nth (t:SetTable):Nat->Probe->Probe
  | 0,p=>p
  | n + 1,p=>nth t n (t.advance p)
theorem HH (t:SetTable):∀ (n:Nat) (p:Probe),nth t (n + 1) p=t.advance (nth t n p)
  | 0,_=>rfl
  | n + 1,p=>HH t n (t.advance p)
theorem GU (t:SetTable):∀ (a b:Nat) (p:Probe),nth t (a + b) p=nth t b (nth t a p)
  | 0,b,p=>by rw [Nat.zero_add]; rfl
  | a + 1,b,p=>by
    rw [show a + 1 + b=(a + b) + 1 by omega]
    exact GU t a b (t.advance p)
theorem Mo {t u:SetTable} (h:t.mask=u.mask) (p:Probe):t.advance p=u.advance p:=by
  unfold SetTable.advance
  rw [h]
theorem Eh {t u:SetTable} (h:t.mask=u.mask):∀ (n:Nat) (p:Probe),nth t n p=nth u n p
  | 0,_=>rfl
  | n + 1,p=>by
    show nth t n (t.advance p)=nth u n (u.advance p)
    rw [Mo h,Eh h n]
theorem GD (t:SetTable) (p:Probe):(t.advance p).dummy=p.dummy:=by
  unfold SetTable.advance
  split <;> rfl
def Oth (t:SetTable) (f:Nat->Int) (h:Int) (j:Nat):Prop:=∃ i,t.slot j=.live i /\ f i ≠ h
theorem IW {t:SetTable} (nd:∀ j,t.slot j ≠ .dummy) {f:Nat->Int} {h:Int}:∀ (fuel:Nat) (p:Probe),p.dummy=none->
    (∃ n,n < fuel /\ t.slot (nth t n p).j=.empty /\ probe.go t f h fuel p=some (.empty (nth t n p).j none) /\ ∀ k,k < n->Oth t f h (nth t k p).j) ∨
    (∃ n i,n < fuel /\ t.slot (nth t n p).j=.live i /\ f i=h /\ probe.go t f h fuel p=some (.candidate (nth t n p).j i (nth t (n + 1) p)) /\ ∀ k,k < n->Oth t f h (nth t k p).j) ∨
    (probe.go t f h fuel p=none /\ ∀ k,k < fuel->Oth t f h (nth t k p).j)
  | 0,p,_=>.inr (.inr ⟨rfl,fun k hk=>absurd hk (Nat.not_lt_zero k)⟩)
  | fuel + 1,p,hd=>by
    cases e:t.slot p.j with
    | empty=>
      refine .inl ⟨0,Nat.succ_pos _,e,?_,fun k hk=>absurd hk (Nat.not_lt_zero k)⟩
      unfold probe.go
      rw [e,hd]
      rfl
    | dummy=>exact absurd e (nd _)
    | live i=>
      by_cases hf:f i=h
      . refine .inr (.inl ⟨0,i,Nat.succ_pos _,e,hf,?_,fun k hk=>absurd hk (Nat.not_lt_zero k)⟩)
        unfold probe.go
        rw [e]
        show (if (f i == h)=true then _ else _)=_
        rw [if_pos (by rw [hf]; exact beq_self_eq_true h)]
        rfl
      . have eg:probe.go t f h (fuel + 1) p=probe.go t f h fuel (t.advance p):=by
          rw [probe.go,e]
          show (if (f i == h)=true then _ else _)=_
          rw [if_neg (by rw [beq_iff_eq]; exact hf)]
        have o0:Oth t f h p.j:=⟨i,e,hf⟩
        have lift:∀ {n:Nat},(∀ k,k < n->Oth t f h (nth t k (t.advance p)).j)->∀ k,k < n + 1->Oth t f h (nth t k p).j:=fun hk k h2=>by
          cases k with
          | zero=>exact o0
          | succ k=>exact hk k (by omega)
        rcases IW nd fuel (t.advance p) ((GD t p).trans hd) with ⟨n,h1,h2,h3,h4⟩ | ⟨n,i',h1,h2,h3,h4,h5⟩ | ⟨h1,h2⟩
        . exact .inl ⟨n + 1,by omega,h2,eg.trans h3,lift h4⟩
        . exact .inr (.inl ⟨n + 1,i',by omega,h2,h3,eg.trans h4,lift h5⟩)
        . exact .inr (.inr ⟨eg.trans h1,lift h2⟩)
def Met1 (t:SetTable) (h:Int) (j:Nat):Prop:=∃ n,n < 10 * turns t.mask /\ (nth t n (t.probeStart h)).j=j /\ ∀ k,k < n->t.slot (nth t k (t.probeStart h)).j ≠ .empty
end Hs
namespace Hs
open PySem PySem.SetTable Ht
theorem Ev {α:Type} (xs:Array α) (p:Nat) (x:α):(insertAt xs p x).toList=xs.toList.take p ++ x :: xs.toList.drop p:=by
  unfold insertAt
  have e:(xs.toList.take (xs.size))=xs.toList:=List.take_of_length_le (by simp)
  have e2:List.take (xs.size - p) (List.drop p xs.toList)=List.drop p xs.toList:=List.take_of_length_le (by simp)
  simp [Array.toList_append,e,e2]
def prs (t:SetTable) (es:Array (Int × Value)):List (Nat × Int × Value):=t.place.toList.zip es.toList
def Good (t:SetTable) (es:Array (Int × Value)):Prop:=∀ q ∈ prs t es,Met1 t q.2.1 q.1
theorem Gw {t:SetTable} (r:Ris t.place.toList) (d:t.dummies = #[]) {j:Nat}:t.slot j ≠ .empty ↔ j ∈ t.place.toList:=by
  constructor
  . intro h
    cases e:t.slot j with
    | empty=>exact absurd e h
    | dummy=>exact absurd e (BI d j)
    | live i=>exact Fc e
  . intro h e
    obtain ⟨i,hi⟩:=EU r h
    rw [e] at hi
    cases hi
theorem Mp {α β:Type} (xs:Array α) (ys:Array β) (h:xs.size=ys.size) (p:Nat) (x:α) (y:β) {q:α × β}:q ∈ (insertAt xs p x).toList.zip (insertAt ys p y).toList ↔ q=(x,y) ∨ q ∈ xs.toList.zip ys.toList:=by
  have hl:(xs.toList.take p).length=(ys.toList.take p).length:=by simp [h]
  have hz:xs.toList.zip ys.toList=(xs.toList.take p).zip (ys.toList.take p) ++ (xs.toList.drop p).zip (ys.toList.drop p):=by
    rw [← List.zip_append hl,List.take_append_drop,List.take_append_drop]
  rw [Ev,Ev,List.zip_append hl,List.zip_cons_cons,hz]
  simp only [List.mem_append,List.mem_cons]
  constructor
  . rintro (a | a | a)
    . exact .inr (.inl a)
    . exact .inl a
    . exact .inr (.inr a)
  . rintro (a | a | a)
    . exact .inr (.inl a)
    . exact .inl a
    . exact .inr (.inr a)
theorem Met1.mono {t u:SetTable} (hm:t.mask=u.mask) {h:Int} {j:Nat} (m:Met1 t h j) (k:∀ x,t.slot x ≠ .empty->u.slot x ≠ .empty):Met1 u h j:=by
  obtain ⟨n,h1,h2,h3⟩:=m
  have ep:t.probeStart h=u.probeStart h:=by unfold SetTable.probeStart; rw [hm]
  refine ⟨n,by rw [← hm]; exact h1,by rw [← ep,← Eh hm]; exact h2,fun x hx=>?_⟩
  rw [← ep,← Eh hm]
  exact k _ (h3 x hx)
theorem HS {t:SetTable} (r:Ris t.place.toList) (d:t.dummies = #[]) {h:Int} {j:Nat} {b:Bool} (e:t.freeSlot h=some (j,b)):Met1 t h j /\ t.slot j=.empty:=by
  have nd:∀ j,t.slot j ≠ .dummy:=BI d
  unfold SetTable.freeSlot at e
  rcases IW (t:=t) nd (f:=fun _=>h + 1) (h:=h) (10 * turns t.mask) (t.probeStart h) rfl with ⟨n,h1,h2,h3,h4⟩ | ⟨n,i,h1,h2,h3,h4,h5⟩ | ⟨h1,h2⟩
  . have e':t.probe (fun _=>h + 1) h (t.probeStart h)=some (.empty (nth t n (t.probeStart h)).j none):=h3
    rw [e'] at e
    have:(nth t n (t.probeStart h)).j=j:=by
      have:=congrArg (fun o=>o.map Prod.fst) e
      simpa using this
    rw [this] at h2
    refine ⟨⟨n,h1,this,fun k hk=>?_⟩,h2⟩
    obtain ⟨i,hi,_⟩:=h4 k hk
    rw [hi]
    intro z
    cases z
  . exact absurd h3 (show ¬ (h + 1=h) by omega)
  . have e':t.probe (fun _=>h + 1) h (t.probeStart h)=none:=h1
    rw [e'] at e
    cases e
theorem Good.put {t:SetTable} {es:Array (Int × Value)} (g:Good t es) (r:Ris t.place.toList) (d:t.dummies = #[]) (hs:t.place.size=es.size) {h:Int} {x:Value} {j:Nat} {b:Bool} (e:t.freeSlot h=some (j,b)):Good (t.put j).1 (insertAt es (below t.place j) (h,x)):=by
  obtain ⟨m,em⟩:=HS r d e
  have hj:j ∉ t.place.toList:=fun z=>(Gw r d).mpr z em
  have r':Ris (t.put j).1.place.toList:=GO r hj
  have d':(t.put j).1.dummies = #[]:=by
    show (if has t.dummies j=true then eraseAt t.dummies (below t.dummies j) else t.dummies) = #[]
    rw [d]
    have:has (#[]:Array Nat) j=false:=by unfold has; simp
    rw [this]
    rfl
  have kp:∀ y,t.slot y ≠ .empty->(t.put j).1.slot y ≠ .empty:=fun y hy=>by
    rw [Gw r d] at hy
    rw [Gw r' d']
    show y ∈ (insertAt t.place (below t.place j) j).toList
    rw [(insertAt_perm t.place (below t.place j) j).mem_iff]
    simp only [Array.toList_push,List.mem_append]
    first | exact .inl hy | exact .inr hy
  intro q hq
  have hq':q ∈ (insertAt t.place (below t.place j) j).toList.zip (insertAt es (below t.place j) (h,x)).toList:=hq
  rcases (Mp t.place es hs _ _ _).mp hq' with rfl | hq'
  . exact Met1.mono (t:=t) (u:=(t.put j).1) rfl m kp
  . exact Met1.mono (t:=t) (u:=(t.put j).1) rfl (g q hq') kp
end Hs
namespace Hs
open PySem PySem.SetTable Ht
def CD (mask i pt:Nat):Probe:={ j:=i,more:=runEnd mask i - i,i,perturb:=pt,dummy:=none }
theorem GT (t:SetTable):∀ (k:Nat) (p:Probe),k <= p.more->nth t k p={ p with j:=p.j + k,more:=p.more - k }
  | 0,p,_=>rfl
  | k + 1,p,h=>by
    have e:t.advance p={ p with j:=p.j + 1,more:=p.more - 1 }:=by
      unfold SetTable.advance
      rw [if_pos (by omega)]
    show nth t k (t.advance p)=_
    rw [e,GT t k _ (by show k <= p.more - 1; omega)]
    show ({ p with j:=p.j + 1 + k,more:=p.more - 1 - k }:Probe)={ p with j:=p.j + (k + 1),more:=p.more - (k + 1) }
    rw [show p.j + 1 + k=p.j + (k + 1) by omega,show p.more - 1 - k=p.more - (k + 1) by omega]
theorem Lz {t:SetTable} {mask:Nat} (hm:t.mask=mask) (i pt:Nat):nth t (runEnd mask i - i + 1) (CD mask i pt)=CD mask (leap mask i pt).1 (leap mask i pt).2:=by
  rw [HH,GT t _ _ (by show _ <= runEnd mask i - i; omega)]
  unfold SetTable.advance
  rw [if_neg (by show ¬ (runEnd mask i - i - (runEnd mask i - i) > 0); omega),hm]
  rfl
theorem PD (mask i:Nat):i <= runEnd mask i /\ runEnd mask i - i <= 9:=by
  unfold runEnd
  split <;> omega
theorem IX {p:Nat->Bool} {n k:Nat} (h:(List.range n).find? p=some k):k < n /\ p k=true /\ ∀ x,x < k->p x=false:=by
  refine ⟨List.mem_range.mp (List.mem_of_find?_eq_some h),List.find?_some h,fun x hx=>?_⟩
  have hk:k < n:=List.mem_range.mp (List.mem_of_find?_eq_some h)
  obtain ⟨_,as,bs,e,ha⟩:=List.find?_eq_some_iff_append.mp h
  have hlen:as.length=k:=by
    have h1:(List.range n)[as.length]? = some k:=by rw [e]; simp
    have h2:=(List.getElem?_eq_some_iff.mp h1).1
    have h3:=(List.getElem?_eq_some_iff.mp h1).2
    simpa using h3
  have hx2:x ∈ as:=by
    have h1:(List.range n)[x]? = some x:=by
      have hxn:x < n:=by omega
      simp [hxn]
    rw [e,List.getElem?_append_left (by omega)] at h1
    exact List.mem_of_getElem? h1
  have:=ha x hx2
  simpa using this
theorem HR {t:SetTable} {mask:Nat} (hm:t.mask=mask) {owner:Array (Option Nat)}:∀ (fuel i pt j:Nat),layClean.free mask owner fuel i pt=some j->
    ∃ n,n < 10 * fuel /\ (nth t n (CD mask i pt)).j=j /\ ∀ k,k < n->owner.getD (nth t k (CD mask i pt)).j (some 0) ≠ none
  | 0,i,pt,j,e=>by cases e
  | fuel + 1,i,pt,j,e=>by
    obtain ⟨r1,r2⟩:=PD mask i
    have at':∀ k,k <= runEnd mask i - i->(nth t k (CD mask i pt)).j=i + k:=fun k hk=>by rw [GT t k _ hk]; rfl
    unfold layClean.free at e
    split at e
    . rename_i k hk
      cases e
      obtain ⟨k1,k2,k3⟩:=IX hk
      refine ⟨k,by omega,at' k (by omega),fun x hx=>?_⟩
      rw [at' x (by omega)]
      have:=k3 x hx
      intro z
      rw [z] at this
      cases this
    . rename_i hk
      obtain ⟨n,n1,n2,n3⟩:=HR hm fuel _ _ j e
      have hall:∀ x,x <= runEnd mask i - i->owner.getD (i + x) (some 0) ≠ none:=fun x hx z=>by
        have:=List.find?_eq_none.mp hk x (List.mem_range.mpr (by omega))
        rw [z] at this
        exact this rfl
      have en:∀ x,nth t (runEnd mask i - i + 1 + x) (CD mask i pt)=nth t x (CD mask (leap mask i pt).1 (leap mask i pt).2):=fun x=>by rw [GU,Lz hm]
      refine ⟨runEnd mask i - i + 1 + n,by omega,by rw [en]; exact n2,fun x hx=>?_⟩
      by_cases h:x <= runEnd mask i - i
      . rw [at' x h]
        exact hall x h
      . have:owner.getD (nth t (x - (runEnd mask i - i + 1)) (CD mask (leap mask i pt).1 (leap mask i pt).2)).j (some 0) ≠ none:=n3 (x - (runEnd mask i - i + 1)) (by omega)
        rw [← en,show runEnd mask i - i + 1 + (x - (runEnd mask i - i + 1))=x by omega] at this
        exact this
end Hs
namespace Hs
open PySem PySem.SetTable Ht
def Okp (mask:Nat) (p:Probe):Prop:=p.j + p.more <= mask
theorem Fi {mask i pt:Nat} (h:i <= mask):Okp mask (CD mask i pt):=by
  show i + (runEnd mask i - i) <= mask
  unfold runEnd
  split <;> omega
theorem Nv {t:SetTable} {mask:Nat} (hm:t.mask=mask) {p:Probe} (h:Okp mask p):Okp mask (t.advance p):=by
  unfold SetTable.advance
  split
  . show p.j + 1 + (p.more - 1) <= mask
    have:p.j + p.more <= mask:=h
    omega
  . rw [hm]
    exact Fi (pt:=(leap mask p.i p.perturb).2) (by show (p.i * 5 + 1 + p.perturb / 32) % (mask + 1) <= mask; have:=Nat.mod_lt (p.i * 5 + 1 + p.perturb / 32) (show 0 < mask + 1 by omega); omega)
theorem JR {t:SetTable} {mask:Nat} (hm:t.mask=mask):∀ (n:Nat) {p:Probe},Okp mask p->Okp mask (nth t n p)
  | 0,_,h=>h
  | n + 1,_,h=>JR hm n (Nv hm h)
abbrev KG (mask:Nat) (h:Int):Probe:=CD mask (bits h % (mask + 1)) (bits h)
theorem PJ {t:SetTable} {mask:Nat} (hm:t.mask=mask) (h:Int) (n:Nat):(nth t n (KG mask h)).j <= mask:=by
  have a:Okp mask (nth t n (KG mask h)):=JR hm n (Fi (by have:=Nat.mod_lt (bits h) (show 0 < mask + 1 by omega); omega))
  have a':(nth t n (KG mask h)).j + (nth t n (KG mask h)).more <= mask:=a
  omega
def OM (t:SetTable) (mask:Nat) (owner:Array (Option Nat)) (hs:List Int):Prop:=∀ (j c:Nat),owner.getD j none=some c->∃ h,hs[c]? = some h /\ ∃ n,n < 10 * turns mask /\ (nth t n (KG mask h)).j=j /\ ∀ k,k < n->owner.getD (nth t k (KG mask h)).j (some 0) ≠ none
theorem JN {owner:Array (Option Nat)} {j x:Nat} {v:Option Nat} {d:Option Nat}:(owner.setIfInBounds j v).getD x d=if x=j /\ j < owner.size then v else owner.getD x d:=by
  unfold Array.getD
  simp only [Array.size_setIfInBounds]
  by_cases hx:x < owner.size
  . rw [dif_pos hx,dif_pos hx]
    by_cases e:x=j
    . subst e
      rw [if_pos ⟨rfl,hx⟩]
      simp
    . rw [if_neg (fun z=>e z.1)]
      show (owner.setIfInBounds j v)[x]'(by rw [Array.size_setIfInBounds]; exact hx)=owner[x]
      rw [Array.getElem_setIfInBounds_ne]
      exact fun z=>e z.symm
  . rw [dif_neg hx,dif_neg hx,if_neg]
    rintro ⟨rfl,z⟩
    exact hx z
theorem Jb {t:SetTable} {mask:Nat} (hm:t.mask=mask):∀ (l don:List Int) (owner owner':Array (Option Nat)) (k':Nat),l.foldl (B0 mask) (some (owner,don.length))=some (owner',k')->OM t mask owner don->OM t mask owner' (don ++ l)
  | [],don,owner,owner',k',e,L=>by
    rw [List.foldl_nil] at e
    cases e
    rw [List.append_nil]
    exact L
  | h :: l,don,owner,owner',k',e,L=>by
    rw [List.foldl_cons] at e
    cases f:layClean.free mask owner (turns mask) (bits h % (mask + 1)) (bits h) with
    | none=>
      have st:B0 mask (some (owner,don.length)) h=none:=by
        show ((layClean.free mask owner (turns mask) (bits h % (mask + 1)) (bits h)).bind fun j=>some (owner.setIfInBounds j (some don.length),don.length + 1))=_
        rw [f]
        rfl
      rw [st] at e
      have no:∀ l:List Int,l.foldl (B0 mask) none=none:=fun l=>by
        induction l with
        | nil=>rfl
        | cons a l ih=>exact ih
      rw [no] at e
      cases e
    | some j=>
      have st:B0 mask (some (owner,don.length)) h=some (owner.setIfInBounds j (some don.length),(don ++ [h]).length):=by
        show ((layClean.free mask owner (turns mask) (bits h % (mask + 1)) (bits h)).bind fun j=>some (owner.setIfInBounds j (some don.length),don.length + 1))=_
        rw [f,List.length_append]
        rfl
      rw [st] at e
      obtain ⟨hj,hn⟩:=Ft (Ew _ _ _ _ f)
      have kp:∀ x,owner.getD x (some 0) ≠ none->(owner.setIfInBounds j (some don.length)).getD x (some 0) ≠ none:=fun x hx=>by
        rw [JN]
        split
        . intro z; cases z
        . exact hx
      have L':OM t mask (owner.setIfInBounds j (some don.length)) (don ++ [h]):=fun x c hx=>by
        rw [JN] at hx
        split at hx
        . rename_i q
          cases hx
          obtain ⟨n,n1,n2,n3⟩:=HR (t:=t) hm _ _ _ _ f
          exact ⟨h,by simp,n,n1,by rw [q.1]; exact n2,fun k hk=>kp _ (n3 k hk)⟩
        . obtain ⟨h',e1,n,n1,n2,n3⟩:=L x c hx
          have hc:c < don.length:=(List.getElem?_eq_some_iff.mp e1).1
          exact ⟨h',by rw [List.getElem?_append_left hc]; exact e1,n,n1,n2,fun k hk=>kp _ (n3 k hk)⟩
      have:=Jb hm l (don ++ [h]) _ owner' k' e L'
      simpa using this
end Hs
namespace Hs
open PySem PySem.SetTable Ht
theorem JK {mask:Nat}:∀ (l:List Int) (owner owner':Array (Option Nat)) (k k':Nat),l.foldl (B0 mask) (some (owner,k))=some (owner',k')->owner'.size=owner.size
  | [],owner,owner',k,k',e=>by
    rw [List.foldl_nil] at e
    cases e
    rfl
  | h :: l,owner,owner',k,k',e=>by
    rw [List.foldl_cons] at e
    have st:B0 mask (some (owner,k)) h=((layClean.free mask owner (turns mask) (bits h % (mask + 1)) (bits h)).bind fun j=>some (owner.setIfInBounds j (some k),k + 1)):=rfl
    cases f:layClean.free mask owner (turns mask) (bits h % (mask + 1)) (bits h) with
    | none=>
      rw [st,f] at e
      have no:∀ l:List Int,l.foldl (B0 mask) none=none:=fun l=>by
        induction l with
        | nil=>rfl
        | cons a l ih=>exact ih
      have e2:l.foldl (B0 mask) none=some (owner',k'):=e
      rw [no] at e2
      cases e2
    | some j=>
      rw [st,f] at e
      have:=JK l (owner.setIfInBounds j (some k)) owner' (k + 1) k' e
      rw [this,Array.size_setIfInBounds]
theorem Ic {mask:Nat} {hashes:Array Int} {owner:Array (Option Nat)} (e:layClean mask hashes=some owner):owner.size=mask + 1:=by
  have h0:layClean mask hashes=(hashes.foldl (B0 mask) (some (Array.replicate (mask + 1) none,0))).map (·.1):=rfl
  rw [h0,← Array.foldl_toList] at e
  cases f:hashes.toList.foldl (B0 mask) (some (Array.replicate (mask + 1) none,0)) with
  | none=>rw [f] at e; cases e
  | some r=>
    obtain ⟨o',k'⟩:=r
    rw [f] at e
    cases e
    rw [JK _ _ _ _ _ f,Array.size_replicate]
theorem Ie {t:SetTable} {mask:Nat} (hm:t.mask=mask) {hashes:Array Int} {owner:Array (Option Nat)} (e:layClean mask hashes=some owner):OM t mask owner hashes.toList:=by
  have h0:layClean mask hashes=(hashes.foldl (B0 mask) (some (Array.replicate (mask + 1) none,0))).map (·.1):=rfl
  rw [h0,← Array.foldl_toList] at e
  cases f:hashes.toList.foldl (B0 mask) (some (Array.replicate (mask + 1) none,0)) with
  | none=>rw [f] at e; cases e
  | some r=>
    obtain ⟨o',k'⟩:=r
    rw [f] at e
    cases e
    have:=Jb hm hashes.toList [] (Array.replicate (mask + 1) none) o' k' f (fun j c h=>by
      unfold Array.getD at h
      split at h
      . rename_i q
        have h':(Array.replicate (mask + 1) (none:Option Nat))[j]'q=some c:=h
        rw [Array.getElem_replicate] at h'
        cases h'
      . cases h)
    simpa using this
abbrev CH (mask:Nat) (owner:Array (Option Nat)):List (Nat × Nat):=(List.range (mask + 1)).filterMap fun j=>(owner.getD j none).map (j,·)
theorem mem_live {mask:Nat} {owner:Array (Option Nat)} {j c:Nat}:(j,c) ∈ CH mask owner ↔ j <= mask /\ owner.getD j none=some c:=by
  rw [List.mem_filterMap]
  constructor
  . rintro ⟨x,hx,e⟩
    cases h:owner.getD x none with
    | none=>rw [h] at e; cases e
    | some y=>
      rw [h] at e
      cases e
      exact ⟨by have:=List.mem_range.mp hx; omega,h⟩
  . rintro ⟨h1,h2⟩
    exact ⟨j,List.mem_range.mpr (by omega),by rw [h2]; rfl⟩
theorem Kx {α β:Type} {f:α->Option β}:∀ {js:List Nat} {cs:List α},(∀ c ∈ cs,∃ y,f c=some y)->∀ {q:Nat × β},q ∈ js.zip (cs.filterMap f)->∃ c,(q.1,c) ∈ js.zip cs /\ f c=some q.2
  | [],_,_,q,h=>by cases h
  | _ :: _,[],_,q,h=>by cases h
  | j :: js,c :: cs,hf,q,h=>by
    obtain ⟨y,hy⟩:=hf c List.mem_cons_self
    rw [List.filterMap_cons_some hy,List.zip_cons_cons] at h
    rcases List.mem_cons.mp h with rfl | h
    . exact ⟨c,List.mem_cons_self,hy⟩
    . obtain ⟨c',h1,h2⟩:=Kx (fun x hx=>hf x (List.mem_cons_of_mem _ hx)) h
      exact ⟨c',List.mem_cons_of_mem _ h1,h2⟩
theorem zip_live {l:List (Nat × Nat)} {q:Nat × Nat}:q ∈ (l.map (·.1)).zip (l.map (·.2)) ↔ q ∈ l:=by
  have:(l.map (·.1)).zip (l.map (·.2))=l:=by
    induction l with
    | nil=>rfl
    | cons a l ih=>rw [List.map_cons,List.map_cons,List.zip_cons_cons,ih]
  rw [this]
theorem IE {t t1:SetTable} {es es1:Array (Int × Value)} {wanted:Nat} (h:relayAll t es wanted=(es1,t1,false)) (r:Ris t1.place.toList):Good t1 es1:=by
  unfold relayAll at h
  split at h
  . rename_i t' order e
    dsimp only at h
    split at h
    . rename_i cv
      cases h
      unfold relaid laid at e
      cases f:layClean (sizeAbove wanted - 1) (es.map (·.1)) with
      | none=>rw [f] at e; cases e
      | some owner=>
        rw [f] at e
        have e':some (({ mask:=sizeAbove wanted - 1,place:=((CH (sizeAbove wanted - 1) owner).map (·.1)).toArray,dummies:=#[],finger:=t.finger,led:=t.led,moves:=t.movedTo (sizeAbove wanted - 1),plain:=t.plain }:SetTable),((CH (sizeAbove wanted - 1) owner).map (·.2)).toArray)=some (t1,order):=e
        generalize hmask:sizeAbove wanted - 1=mask at e' f
        cases e'
        intro q hq
        have hq':q ∈ ((CH mask owner).map (·.1)).zip (((CH mask owner).map (·.2)).filterMap fun i=>es[i]?):=by
          have:q ∈ ((CH mask owner).map (·.1)).toArray.toList.zip (Array.filterMap (fun x=>es[x]?) ((CH mask owner).map (·.2)).toArray).toList:=hq
          rw [Array.toList_filterMap] at this
          exact this
        have L:=Ie (t:={ mask:=mask,place:=((CH mask owner).map (·.1)).toArray,dummies:=#[],finger:=t.finger,led:=t.led,moves:=t.movedTo mask,plain:=t.plain }) rfl f
        have hc:∀ c ∈ (CH mask owner).map (·.2),∃ y,es[c]? = some y:=fun c hc=>by
          obtain ⟨p,hp,rfl⟩:=List.mem_map.mp hc
          obtain ⟨_,h2⟩:=mem_live (j:=p.1) (c:=p.2) |>.mp hp
          obtain ⟨h,e1,_⟩:=L _ _ h2
          have:p.2 < es.size:=by
            have:=(List.getElem?_eq_some_iff.mp e1).1
            simpa using this
          exact ⟨es[p.2],by simp [this]⟩
        obtain ⟨c,h1,h2⟩:=Kx hc hq'
        obtain ⟨_,h3⟩:=mem_live.mp (zip_live.mp h1)
        obtain ⟨h,e1,n,n1,n2,n3⟩:=L _ _ h3
        have eh:h=q.2.1:=by
          have hc2:=(Array.getElem?_eq_some_iff.mp h2)
          simp [Array.getElem?_map,h2] at e1
          exact e1.symm
        subst eh
        refine ⟨n,n1,n2,fun k hk=>?_⟩
        have hk':=n3 k hk
        have hlt:=PJ (t:={ mask:=mask,place:=((CH mask owner).map (·.1)).toArray,dummies:=#[],finger:=t.finger,led:=t.led,moves:=t.movedTo mask,plain:=t.plain }) (mask:=mask) rfl q.2.1 k
        refine (Gw r rfl).mpr ?_
        obtain ⟨c',hc'⟩:=Fu (Nat.lt_of_le_of_lt hlt (by rw [Ic f]; exact Nat.lt_succ_self _)) hk'
        exact List.mem_map.mpr ⟨(_,c'),mem_live.mpr ⟨hlt,hc'⟩,rfl⟩
    . cases h
  . cases h
end Hs
set_option maxHeartbeats 4000000
namespace Hs
open PySem PySem.Spec PyProof.Rows Nk
section
variable {prog:Program} {w:World} {A:Around} {E:Value->Shared->Prop} {s:Shared}
theorem Ei:∀ (d:Nat) {k:NK} {v:Value} {A:Around} {E:Value->Shared->Prop} {s:Shared} {Q:Bool->Shared->Prop},k.deep <= d->At s.heap k v->Q false s->wpAny (model prog w) A (ofAClassStatement d v) Q E s
  | d,.int i,v,A,E,s,Q,hd,a,q=>by
    unfold At at a
    obtain ⟨t,rfl⟩:=a
    unfold ofAClassStatement
    exact wpAny_pure q
  | 0,.tup ks,v,A,E,s,Q,hd,a,q=>by
    have hd':NK.deeps ks + 1 <= 0:=hd
    omega
  | d' + 1,.tup ks,v,A,E,s,Q,hd,a,q=>by
    have hd':NK.deeps ks + 1 <= d' + 1:=hd
    unfold At at a
    obtain ⟨x,o,items,n,rfl,h1,h2,h3,h4⟩:=a
    have hT:s.TypeIs (.ref x) "tuple" := ⟨o,h1,h2⟩
    unfold ofAClassStatement
    wp_walk
    rw [h3]
    refine wpAny_pure ?_
    dsimp only
    refine wpAny_bind ?_
    rw [← Array.forIn_toList]
    refine wpAny_forIn_list _ (fun rest r s'=>r=(none,()) /\ s'=s /\ ∃ ks',NK.deeps ks' <= d' /\ Ats s.heap ks' rest) _ ?_ ?_ _ _ ⟨rfl,rfl,ks,by omega,h4⟩
    . rintro y rest r s' ⟨hr,rfl,ks',hk,at'⟩
      cases ks' with
      | nil=>unfold Ats at at'; cases at'
      | cons k' ks'=>
        unfold Ats at at'
        obtain ⟨_,_,e,a1,a2⟩:=at'
        cases e
        have hk':max (NK.deep k') (NK.deeps ks') <= d':=hk
        refine wpAny_bind (Ei d' (k:=k') (by omega) a1 ?_)
        rw [if_neg Bool.false_ne_true]
        exact wpAny_pure ⟨rfl,rfl,ks',by omega,a2⟩
    . rintro r s' ⟨hr,rfl,_⟩
      subst hr
      exact wpAny_pure q
theorem L0 {kx:NK} {ax:Addr} (hx:(kind prog w).is s.heap kx ax):∀ {ys:List Value},(∀ y ∈ ys,∃ k b,y=.ref b /\ (kind prog w).is s.heap k b)->∀ {Q:Bool->Shared->Prop},Q false s->wpAny (model prog w) A (searchCouldBeSeen (.ref ax) ys) Q E s:=by
  intro ys hy Q q
  unfold searchCouldBeSeen
  refine wpAny_bind ?_
  refine wpAny_forIn_list _ (fun rest r s'=>r=(none,()) /\ s'=s /\ ∀ y ∈ rest,∃ k b,y=.ref b /\ (kind prog w).is s.heap k b) _ ?_ ?_ _ _ ⟨rfl,rfl,hy⟩
  . rintro y rest r s' ⟨hr,rfl,hh⟩
    obtain ⟨k,b,rfl,hk⟩:=hh y List.mem_cons_self
    have more:∀ z ∈ rest,∃ k b,z=.ref b /\ (kind prog w).is s'.heap k b:=fun z hz=>hh z (List.mem_cons_of_mem _ hz)
    dsimp only
    by_cases e:(ax == b || (carriedByValue (.ref ax) && carriedByValue (.ref b)))=true
    . rw [if_pos e]
      exact wpAny_pure ⟨rfl,rfl,more⟩
    . rw [if_neg e]
      refine wpAny_bind (At.quiet 8 hx.2 hx.1 ?_)
      rw [if_neg (by decide)]
      refine wpAny_bind (At.quiet 8 hk.2 hk.1 ?_)
      rw [if_neg (by decide)]
      refine wpAny_bind (Ei 8 hx.2 hx.1 ?_)
      rw [if_neg (by decide)]
      refine wpAny_bind (Ei 8 hk.2 hk.1 ?_)
      rw [if_neg (by decide)]
      exact wpAny_pure ⟨rfl,rfl,more⟩
  . rintro r s' ⟨hr,rfl,_⟩
    subst hr
    exact wpAny_pure q
end
end Hs
set_option maxHeartbeats 4000000
namespace Hs
open PySem PySem.Spec PyProof.Rows Nk PySem.SetTable Ht
section
variable {prog:Program} {w:World} {A:Around} {E:Value->Shared->Prop} {s:Shared}
structure Ents (prog:Program) (w:World) (h:Heap) (es:Array (Int × Value)) (ks:List NK):Prop where
  len:es.size=ks.length
  at':∀ (i:Nat) (k:NK),ks[i]? = some k->∃ b,es[i]? = some (k.hash,.ref b) /\ (kind prog w).is h k b
theorem Ents.back {h:Heap} {es:Array (Int × Value)} {ks:List NK} (n:Ents prog w h es ks) {i:Nat} {e:Int × Value} (he:es[i]? = some e):∃ k b,ks[i]? = some k /\ e=(k.hash,.ref b) /\ (kind prog w).is h k b:=by
  have hi:i < ks.length:=by rw [← n.len]; exact (Array.getElem?_eq_some_iff.mp he).1
  obtain ⟨b,h1,h2⟩:=n.at' i ks[i] (by simp [hi])
  rw [he] at h1
  exact ⟨ks[i],b,by simp [hi],Option.some.inj h1,h2⟩
theorem JJ {t:SetTable} {j i:Nat} (h:t.slot j=.live i):t.place[i]? = some j:=by
  unfold SetTable.slot at h
  dsimp only at h
  split at h
  . rename_i q
    cases h
    exact beq_iff_eq.mp q
  . split at h <;> cases h
theorem Fd {ad:Bool} {a ax:Addr} {o:Obj} {es:Array (Int × Value)} {ep:Nat} {t:SetTable} {ks:List NK} {kx:NK} {Q:SetFound->Shared->Prop} (hu:(kind prog w).room A) (ho:s.heap.get? a=some o) (hd:o.data=.set es ep t) (fits:t.fits es.size=true) (r:Ris t.place.toList) (dm:t.dummies = #[]) (odd:t.gaveWay=false) (en:Ents prog w s.heap es ks) (hx:(kind prog w).is s.heap kx ax)
    {n0:Nat} (e0:t.slot (nth t n0 (t.probeStart kx.hash)).j=.empty) (b0:n0 < 10 * turns t.mask) (first:∀ k,k < n0->t.slot (nth t k (t.probeStart kx.hash)).j ≠ .empty)
    (found:∀ i:Nat,i < es.size->ks[i]? = some kx->Q (.there (if ad then none else some i)) s) (lost:(∀ k,k < n0->∀ i,t.slot (nth t k (t.probeStart kx.hash)).j=.live i->ks[i]? ≠ some kx)->Q (.free (nth t n0 (t.probeStart kx.hash)).j false) s) :
    ∀ (fuel m:Nat) (stand:Option Probe),stand.getD (t.probeStart kx.hash)=nth t m (t.probeStart kx.hash)->m <= n0->n0 - m < fuel->(∀ k,k < m->∀ i,t.slot (nth t k (t.probeStart kx.hash)).j=.live i->ks[i]? ≠ some kx)->
      wpAny (model prog w) A (setSearchFrom a (.ref ax) kx.hash ad fuel stand) Q E s:=by
  intro fuel
  induction fuel with
  | zero=>intro m stand _ _ hf _; omega
  | succ fuel ih=>
    intro m stand hs hm hf old
    have nd:∀ j,t.slot j ≠ .dummy:=BI dm
    have hdum:(nth t m (t.probeStart kx.hash)).dummy=none:=by
      have:∀ (n:Nat) (p:Probe),p.dummy=none->(nth t n p).dummy=none:=fun n=>by
        induction n with
        | zero=>intro p h; exact h
        | succ n ih=>intro p h; exact ih _ ((GD t p).trans h)
      exact this m _ rfl
    unfold setSearchFrom
    refine wpAny_bind (wpAny_setState_of ho hd fits ?_)
    dsimp only
    rw [if_neg (by rw [odd]; exact Bool.false_ne_true),hs]
    have row:∀ n,nth t n (nth t m (t.probeStart kx.hash))=nth t (m + n) (t.probeStart kx.hash):=fun n=>(GU t m n _).symm
    show wpAny (model prog w) A (match t.probe (fun i=>(es[i]?.map (·.1)).getD 0) kx.hash (nth t m (t.probeStart kx.hash)) with
      | some met=>_
      | x=>_) Q E s
    rcases IW (t:=t) nd (f:=fun i=>(es[i]?.map (·.1)).getD 0) (h:=kx.hash) (10 * turns t.mask) (nth t m (t.probeStart kx.hash)) hdum with ⟨n,h1,h2,h3,h4⟩ | ⟨n,i,h1,h2,h3,h4,h5⟩ | ⟨h1,h2⟩
    . have e':t.probe (fun i=>(es[i]?.map (·.1)).getD 0) kx.hash (nth t m (t.probeStart kx.hash))=some (.empty (nth t n (nth t m (t.probeStart kx.hash))).j none):=h3
      rw [e']
      dsimp only
      have en0:m + n=n0:=by
        rw [row] at h2
        rcases Nat.lt_trichotomy (m + n) n0 with z | z | z
        . exact absurd h2 (first _ z)
        . exact z
        . obtain ⟨i,hi,_⟩:=h4 (n0 - m) (by omega)
          rw [row,show m + (n0 - m)=n0 by omega,e0] at hi
          cases hi
      rw [row,en0]
      refine wpAny_pure (lost fun k hk i hi=>?_)
      by_cases hkm:k < m
      . exact old k hkm i hi
      . obtain ⟨i',hi',hne⟩:=h4 (k - m) (by omega)
        rw [row,show m + (k - m)=k by omega,hi] at hi'
        cases hi'
        intro z
        obtain ⟨b,hb,_⟩:=en.at' i kx z
        apply hne
        show (es[i]?.map (·.1)).getD 0=kx.hash
        rw [hb]
        rfl
    . have e':t.probe (fun i=>(es[i]?.map (·.1)).getD 0) kx.hash (nth t m (t.probeStart kx.hash))=some (.candidate (nth t n (nth t m (t.probeStart kx.hash))).j i (nth t (n + 1) (nth t m (t.probeStart kx.hash)))):=h4
      rw [e']
      dsimp only
      have hsz:t.place.size=es.size:=by
        unfold SetTable.fits at fits
        rw [Bool.and_eq_true] at fits
        exact beq_iff_eq.mp fits.1
      have hi:i < es.size:=by rw [← hsz]; exact (Array.getElem?_eq_some_iff.mp (JJ h2)).1
      obtain ⟨k,b,hk,he,hkb⟩:=en.back (Array.getElem?_eq_getElem hi)
      have he':es[i]? = some (k.hash,.ref b):=by rw [Array.getElem?_eq_getElem hi,he]
      have h2':t.slot (nth t n (nth t m (t.probeStart kx.hash))).j=.live i:=h2
      have lt:m + n < n0:=by
        rw [row] at h2
        rcases Nat.lt_or_ge (m + n) n0 with z | z
        . exact z
        . by_cases q:m + n=n0
          . rw [q,e0] at h2; cases h2
          . obtain ⟨i',hi',_⟩:=h5 (n0 - m) (by omega)
            rw [row,show m + (n0 - m)=n0 by omega,e0] at hi'
            cases hi'
      have same:t.sameMemory t.moves t.mask=some true:=by unfold SetTable.sameMemory; rw [if_pos (beq_self_eq_true _)]
      have old':k ≠ kx->∀ x,x < m + n + 1->∀ y,t.slot (nth t x (t.probeStart kx.hash)).j=.live y->ks[y]? ≠ some kx:=fun hne x hx' y hy=>by
        by_cases h1':x < m
        . exact old x h1' y hy
        . by_cases h3':x < m + n
          . obtain ⟨y',hy',hn'⟩:=h5 (x - m) (by omega)
            rw [row,show m + (x - m)=x by omega,hy] at hy'
            cases hy'
            intro z
            obtain ⟨b',hb',_⟩:=en.at' y kx z
            apply hn'
            show (es[y]?.map (·.1)).getD 0=kx.hash
            rw [hb']
            rfl
          . have ex:x=m + n:=by omega
            subst ex
            rw [row] at h2
            rw [h2] at hy
            cases hy
            rw [hk]
            intro z
            exact hne (Option.some.inj z)
      cases hl:t.led
      . rw [if_pos (by decide)]
        refine wpAny_bind (L0 hx (fun y hy=>?_) ?_)
        . obtain ⟨e,h1',rfl⟩:=List.mem_map.mp hy
          have h2'':e ∈ es:=by
            have:=Array.mem_toList_iff.mp h1'
            exact (Array.mem_filter.mp this).1
          obtain ⟨i',hi',ei'⟩:=Array.mem_iff_getElem.mp h2''
          obtain ⟨k',b',_,q2,q3⟩:=en.back (Array.getElem?_eq_getElem hi')
          rw [ei'] at q2
          exact ⟨k',b',by rw [q2],q3⟩
        rw [if_neg Bool.false_ne_true]
        rw [he']
        dsimp only
        refine wpAny_bind (wpAny_holding ((kind prog w).eqBool hu hkb hx ?_))
        refine wpAny_bind (wpAny_setState_of ho hd fits ?_)
        dsimp only
        by_cases ek:k=kx
        . cases ad
          . rw [decide_eq_true ek,if_neg (by decide),same]
            dsimp only
            rw [if_pos rfl,h2']
            dsimp only
            rw [he']
            wp_walk
            exact found i hi (by rw [hk,ek])
          . rw [decide_eq_true ek,if_pos (by decide)]
            exact wpAny_pure (found i hi (by rw [hk,ek]))
        . rw [decide_eq_false ek,if_neg (by rw [Bool.and_false]; decide),same]
          dsimp only
          rw [if_pos rfl,h2']
          dsimp only
          rw [he']
          wp_walk
          exact ih (m + n + 1) (some _) (row (n + 1)) (by omega) (by omega) (old' ek)
      . rw [if_neg (by decide)]
        rw [he']
        dsimp only
        refine wpAny_bind (wpAny_holding ((kind prog w).eqBool hu hkb hx ?_))
        refine wpAny_bind (wpAny_setState_of ho hd fits ?_)
        dsimp only
        by_cases ek:k=kx
        . cases ad
          . rw [decide_eq_true ek,if_neg (by decide),same]
            dsimp only
            rw [if_pos rfl,h2']
            dsimp only
            rw [he']
            wp_walk
            exact found i hi (by rw [hk,ek])
          . rw [decide_eq_true ek,if_pos (by decide)]
            exact wpAny_pure (found i hi (by rw [hk,ek]))
        . rw [decide_eq_false ek,if_neg (by rw [Bool.and_false]; decide),same]
          dsimp only
          rw [if_pos rfl,h2']
          dsimp only
          rw [he']
          wp_walk
          exact ih (m + n + 1) (some _) (row (n + 1)) (by omega) (by omega) (old' ek)
    . exfalso
      obtain ⟨i,hi,_⟩:=h2 (n0 - m) (by omega)
      rw [row,show m + (n0 - m)=n0 by omega,e0] at hi
      cases hi
end
end Hs
set_option maxHeartbeats 4000000
namespace Hs
open PySem PySem.Spec PyProof.Rows Nk PySem.SetTable Ht
section
variable {prog:Program} {w:World}
theorem Hj:∀ (d:Nat) {k:NK} {v:Value} {A:Around} {E:Value->Shared->Prop} {s:Shared} {Q:Bool->Shared->Prop},k.deep <= d->At s.heap k v->Q true s->wpAny (model prog w) A (hashByValue d v) Q E s
  | d,.int i,v,A,E,s,Q,hd,a,q=>by
    unfold At at a
    obtain ⟨t,rfl⟩:=a
    unfold hashByValue
    exact wpAny_pure q
  | 0,.tup ks,v,A,E,s,Q,hd,a,q=>by
    have hd':NK.deeps ks + 1 <= 0:=hd
    omega
  | d' + 1,.tup ks,v,A,E,s,Q,hd,a,q=>by
    have hd':NK.deeps ks + 1 <= d' + 1:=hd
    unfold At at a
    obtain ⟨x,o,items,n,rfl,h1,h2,h3,h4⟩:=a
    have hT:s.TypeIs (.ref x) "tuple" := ⟨o,h1,h2⟩
    unfold hashByValue
    wp_walk
    refine wpAny_of_eq PySem.F.slot_tuple_hash.lookup ?_
    show wpAny (model prog w) A (seqItems? (.ref x) >>= _) Q E s
    refine wpAny_bind (wpAny_seqItems h1 h3 ?_)
    refine wpAny_bind ?_
    show wpAny (model prog w) A (forIn items _ _) _ E s
    rw [← Array.forIn_toList]
    refine wpAny_forIn_list _ (fun rest r s'=>r=(none,()) /\ s'=s /\ ∃ ks',NK.deeps ks' <= d' /\ Ats s.heap ks' rest) _ ?_ ?_ _ _ ⟨rfl,rfl,ks,by omega,h4⟩
    . rintro y rest r s' ⟨hr,rfl,ks',hk,at'⟩
      cases ks' with
      | nil=>unfold Ats at at'; cases at'
      | cons k' ks'=>
        unfold Ats at at'
        obtain ⟨_,_,e,a1,a2⟩:=at'
        cases e
        have hk':max (NK.deep k') (NK.deeps ks') <= d':=hk
        refine wpAny_bind (Hj d' (k:=k') (by omega) a1 ?_)
        rw [if_neg (by decide)]
        exact wpAny_pure ⟨rfl,rfl,ks',by omega,a2⟩
    . rintro r s' ⟨hr,rfl,_⟩
      subst hr
      exact wpAny_pure q
end
end Hs
set_option maxHeartbeats 4000000
namespace Hs
open PySem PySem.Spec PyProof.Rows Nk PySem.SetTable Ht
section
variable {prog:Program} {w:World}
theorem NO {t:SetTable} (r:Ris t.place.toList) {i j:Nat} (h:t.place[i]? = some j):t.slot j=.live i:=by
  have hm:j ∈ t.place.toList:=by
    rw [← Array.getElem?_toList] at h
    exact List.mem_of_getElem? h
  obtain ⟨i',e⟩:=EU r hm
  have h':=JJ e
  have:i'=i:=by
    rw [← Array.getElem?_toList] at h h'
    have hl:=(List.getElem?_eq_some_iff.mp h').1
    exact (List.getElem?_inj hl (KH r)).mp (h'.trans h.symm)
  rw [e,this]
theorem RQ {h:Heap} {t:SetTable} {es:Array (Int × Value)} {ns:List NK} {kx:NK} (r:Ris t.place.toList) (g:Good t es) (en:Ents prog w h es ns) (hs:t.place.size=es.size) {n0:Nat} (e0:t.slot (nth t n0 (t.probeStart kx.hash)).j=.empty)
    (no:∀ k,k < n0->∀ i:Nat,t.slot (nth t k (t.probeStart kx.hash)).j=.live i->ns[i]? ≠ some kx):kx ∉ ns:=fun hm=>by
  obtain ⟨i,hi,e⟩:=List.getElem_of_mem hm
  have en':ns[i]? = some kx:=by rw [List.getElem?_eq_getElem hi,e]
  obtain ⟨b,hb,_⟩:=en.at' i kx en'
  have hip:i < t.place.size:=by rw [hs]; exact (Array.getElem?_eq_some_iff.mp hb).1
  have hpl:t.place[i]? = some t.place[i]:=Array.getElem?_eq_getElem hip
  have sl:=NO r hpl
  have hq:(t.place[i],kx.hash,Value.ref b) ∈ prs t es:=by
    refine List.mem_of_getElem? (i:=i) ?_
    unfold prs
    rw [List.getElem?_zip_eq_some,Array.getElem?_toList,Array.getElem?_toList]
    exact ⟨hpl,hb⟩
  obtain ⟨n1,h1,h2,h3⟩:=g _ hq
  have h2':(nth t n1 (t.probeStart kx.hash)).j=t.place[i]:=h2
  have lt:n1 < n0:=by
    rcases Nat.lt_trichotomy n1 n0 with z | z | z
    . exact z
    . rw [← z,h2',sl] at e0; cases e0
    . exact absurd e0 (h3 n0 z)
  exact no n1 lt i (by rw [h2']; exact sl) en'
theorem Ez {t:SetTable} {n:Nat} (T:Tab t n) (hn:n <= t.mask) (h:Int):∃ n0,t.slot (nth t n0 (t.probeStart h)).j=.empty /\ n0 < 10 * turns t.mask /\ (∀ k,k < n0->t.slot (nth t k (t.probeStart h)).j ≠ .empty) /\ t.freeSlot h=some ((nth t n0 (t.probeStart h)).j,false):=by
  obtain ⟨j,e,q⟩:=Ji T.dm T.sm T.ris (by rw [T.sz]; exact hn) h
  obtain ⟨⟨n0,h1,h2,h3⟩,_⟩:=HS T.ris T.dm e
  exact ⟨n0,by rw [h2]; exact q,h1,h3,by rw [h2]; exact e⟩
end
end Hs
set_option maxHeartbeats 4000000
namespace Hs
open PySem PySem.Spec PyProof.Rows Nk PySem.SetTable Ht
section
variable {prog:Program} {w:World} {h h':Heap} {P P':NK->Addr->Prop}
def EL (P:NK->Addr->Prop):List (Int × Value)->List NK->Prop
  | [],ks=>ks=[]
  | e :: es,ks=>∃ k ks' b,ks=k :: ks' /\ e=(k.hash,.ref b) /\ P k b /\ EL P es ks'
theorem EL.len:∀ {es:List (Int × Value)} {ks:List NK},EL P es ks->es.length=ks.length
  | [],_,e=>by unfold EL at e; subst e; rfl
  | _ :: _,_,e=>by
    unfold EL at e
    obtain ⟨k,ks',b,rfl,_,_,r⟩:=e
    simp [EL.len r]
theorem EL.at':∀ {es:List (Int × Value)} {ks:List NK},EL P es ks->∀ (i:Nat) (k:NK),ks[i]? = some k->∃ b,es[i]? = some (k.hash,.ref b) /\ P k b
  | [],_,e,i,k,hk=>by unfold EL at e; subst e; simp at hk
  | _ :: _,_,e,i,k,hk=>by
    unfold EL at e
    obtain ⟨k0,ks',b,rfl,rfl,hb,r⟩:=e
    cases i with
    | zero=>simp at hk; subst hk; exact ⟨b,rfl,hb⟩
    | succ i=>simpa using EL.at' r i k (by simpa using hk)
theorem EL.ents {es:Array (Int × Value)} {ks:List NK} (hp:∀ k b,P k b->(kind prog w).is h k b) (e:EL P es.toList ks):Ents prog w h es ks:=⟨by have:=e.len; simpa using this,fun i k hk=>by
  obtain ⟨b,h1,h2⟩:=e.at' i k hk
  exact ⟨b,by rw [← Array.getElem?_toList]; exact h1,hp k b h2⟩⟩
theorem EL.append:∀ {es fs:List (Int × Value)} {ks js:List NK},EL P es ks->EL P fs js->EL P (es ++ fs) (ks ++ js)
  | [],_,_,_,e,f=>by unfold EL at e; subst e; exact f
  | _ :: _,_,_,_,e,f=>by
    unfold EL at e
    obtain ⟨k,ks',b,rfl,rfl,hb,r⟩:=e
    show EL P (_ :: (_ ++ _)) _
    unfold EL
    exact ⟨k,_,b,rfl,rfl,hb,EL.append r f⟩
theorem EL.take:∀ (n:Nat) {es:List (Int × Value)} {ks:List NK},EL P es ks->EL P (es.take n) (ks.take n)
  | 0,_,_,_=>by rw [List.take_zero,List.take_zero]; unfold EL; rfl
  | _ + 1,[],_,e=>by unfold EL at e; subst e; show EL P [] []; unfold EL; rfl
  | n + 1,_ :: _,_,e=>by
    unfold EL at e
    obtain ⟨k,ks',b,rfl,rfl,hb,r⟩:=e
    show EL P (_ :: _) (_ :: _)
    unfold EL
    exact ⟨k,_,b,rfl,rfl,hb,EL.take n r⟩
theorem EL.drop:∀ (n:Nat) {es:List (Int × Value)} {ks:List NK},EL P es ks->EL P (es.drop n) (ks.drop n)
  | 0,_,_,e=>e
  | _ + 1,[],_,e=>by unfold EL at e; subst e; show EL P [] []; unfold EL; rfl
  | n + 1,_ :: _,_,e=>by
    unfold EL at e
    obtain ⟨k,ks',b,rfl,rfl,hb,r⟩:=e
    exact EL.drop n r
theorem EL.ins {es:Array (Int × Value)} {ks:List NK} (e:EL P es.toList ks) {kx:NK} {ax:Addr} (hx:P kx ax) (p:Nat):EL P (insertAt es p (kx.hash,.ref ax)).toList (ks.take p ++ kx :: ks.drop p):=by
  rw [Ev]
  refine (e.take p).append ?_
  unfold EL
  exact ⟨kx,_,ax,rfl,rfl,hx,e.drop p⟩
theorem MG {α:Type} (ks:List α) (k:α) (p:Nat):(ks.take p ++ k :: ks.drop p).Perm (ks ++ [k]):=by
  have h1:(ks.take p ++ k :: ks.drop p).Perm (k :: (ks.take p ++ ks.drop p)):=List.perm_middle
  rw [List.take_append_drop] at h1
  exact h1.trans (List.perm_append_singleton k ks).symm
theorem EL.perm {es fs:List (Int × Value)} (p:fs.Perm es):∀ {ks:List NK},EL P es ks->∃ js,EL P fs js /\ js.Perm ks:=by
  induction p with
  | nil=>intro ks e; exact ⟨ks,e,List.Perm.refl _⟩
  | cons x _ ih=>
    intro ks e
    unfold EL at e
    obtain ⟨k,ks',b,rfl,rfl,hb,r⟩:=e
    obtain ⟨js,h1,h2⟩:=ih r
    refine ⟨k :: js,?_,h2.cons k⟩
    unfold EL
    exact ⟨k,js,b,rfl,rfl,hb,h1⟩
  | swap x y l=>
    intro ks e
    unfold EL at e
    obtain ⟨k,ks',b,rfl,rfl,hb,r⟩:=e
    unfold EL at r
    obtain ⟨k2,ks2,b2,rfl,rfl,hb2,r2⟩:=r
    refine ⟨k2 :: k :: ks2,?_,List.Perm.swap k k2 ks2⟩
    unfold EL
    refine ⟨k2,_,b2,rfl,rfl,hb2,?_⟩
    unfold EL
    exact ⟨k,_,b,rfl,rfl,hb,r2⟩
  | trans _ _ ih1 ih2=>
    intro ks e
    obtain ⟨js,h1,h2⟩:=ih2 e
    obtain ⟨is,h3,h4⟩:=ih1 h1
    exact ⟨is,h3,h4.trans h2⟩
def SetC (w:World) (P:NK->Addr->Prop) (h:Heap) (a:Addr) (ks:List NK):Prop:=
  ∃ o es ep t ns,h.get? a=some o /\ o.ExactSet /\ o.data=.set es ep t /\ EL P es.toList ns /\ ns.Perm ks /\ Tab t es.size /\ Good t es /\ t.led = !(w.params.followText "set-order")
end
end Hs
set_option maxHeartbeats 4000000
namespace Hs
open PySem PySem.Spec PyProof.Rows Nk PySem.SetTable Ht
section
variable {prog:Program} {w:World} {A:Around} {E:Value->Shared->Prop} {s:Shared}
theorem HE {t:SetTable} {n:Nat} (T:Tab t n):t.gaveWay=false:=by
  unfold SetTable.gaveWay
  rcases T.mks with ⟨a,_⟩ | ⟨a,_⟩ <;> rw [a] <;> rfl
theorem KI {t t2:SetTable} {es es2:Array (Int × Value)} {wanted:Nat} (h:relayAll t es wanted=(es2,t2,false)):∃ order,t.relaid (es.map (·.1)) wanted=some (t2,order) /\ es2=order.filterMap (es[·]?):=by
  unfold relayAll at h
  split at h
  . rename_i t' order e
    dsimp only at h
    split at h
    . cases h
      exact ⟨order,e,rfl⟩
    . cases h
  . cases h
theorem GE {a ax:Addr} {ks:List NK} {kx:NK} {Q:Bool->Shared->Prop} {P:NK->Addr->Prop} (hu:(kind prog w).room A) (hP:∀ k b,P k b->(kind prog w).is s.heap k b) (hS:SetC w P s.heap a ks) (hxp:P kx ax) (room:(if kx ∈ ks then ks else ks ++ [kx]).length <= 18)
    (q:∀ b h' tk,Heap.SameBut a s.heap h'->SetC w P h' a (if kx ∈ ks then ks else ks ++ [kx])->Q b { s with heap:=h',toks:=tk }) :
    wpAny (model prog w) A (setAddHashed a (.ref ax) kx.hash) Q E s:=by
  obtain ⟨o,es,ep,t,ns,ho,hex,hd,el,hp,T,g,hled⟩:=hS
  have hx:=hP kx ax hxp
  have hsz:es.size=ks.length:=by have:=el.len; rw [hp.length_eq] at this; simpa using this
  have hpz:t.place.size=es.size:=T.sz
  have hmask:es.size <= t.mask:=by rcases T.mks with ⟨m,b⟩ | ⟨m,b⟩ <;> omega
  unfold setAddHashed setAddHashedIn
  refine wpAny_holding (wpAny_bind (wpAny_setState_of (s:=s) ho hd T.fits ?_))
  dsimp only
  rw [if_neg (show ¬ (byScan (.ref ax) es=true) from by unfold byScan Value.scannable; simp)]
  unfold setSearch
  obtain ⟨n0,e0,b0,f0,fs⟩:=Ez T hmask kx.hash
  refine wpAny_bind (Fd (s:=s) hu ho hd T.fits T.ris T.dm (HE T) (el.ents hP) hx e0 b0 f0 (fun i hi hm=>?_) (fun no=>?_) 100000 0 none rfl (Nat.zero_le _) (by have:turns t.mask=t.mask + 15:=rfl; rcases T.mks with ⟨m,_⟩ | ⟨m,_⟩ <;> rw [m] at this b0 <;> omega) (fun k hk=>absurd hk (Nat.not_lt_zero k)))
  . have hm':kx ∈ ks:=hp.mem_iff.mp (List.mem_of_getElem? hm)
    dsimp only
    refine wpAny_pure ?_
    rw [if_pos hm'] at q
    exact q _ s.heap _ (Heap.SameBut.refl a s.heap) ⟨o,es,ep,t,ns,ho,hex,hd,el,hp,T,g,hled⟩
  . have hm':kx ∉ ks:=fun z=>RQ T.ris g (el.ents hP) hpz e0 no (hp.mem_iff.mpr z)
    rw [if_neg hm',List.length_append,List.length_singleton] at room
    rw [if_neg hm'] at q
    dsimp only
    refine wpAny_bind (wpAny_setState_of (s:=s) ho hd T.fits ?_)
    dsimp only
    generalize hj:(nth t n0 (t.probeStart kx.hash)).j=j at e0 fs
    have hjp:j ∉ t.place.toList:=fun z=>(Gw T.ris T.dm).mpr z e0
    have r1:Ris (t.put j).1.place.toList:=GO T.ris hjp
    have d1:(t.put j).1.dummies = #[]:=by
      show (if has t.dummies j=true then eraseAt t.dummies (below t.dummies j) else t.dummies) = #[]
      rw [T.dm]
      have:has (#[]:Array Nat) j=false:=by unfold has; simp
      rw [this]
      rfl
    have z1:(t.put j).1.place.size=es.size + 1:=by
      have:=(insertAt_perm t.place (below t.place j) j).length_eq
      simp at this
      show (insertAt t.place (below t.place j) j).size=_
      omega
    have y1:(insertAt es (below t.place j) (kx.hash,Value.ref ax)).size=es.size + 1:=by
      have:=(insertAt_perm es (below t.place j) (kx.hash,Value.ref ax)).length_eq
      simpa using this
    have g1:Good (t.put j).1 (insertAt es (below t.place j) (kx.hash,Value.ref ax)):=g.put T.ris T.dm hpz fs
    have m1:(t.put j).1.mask=t.mask:=rfl
    have p1:(t.put j).1.plain=true:=T.pl
    have l1:(t.put j).1.led=t.led:=rfl
    have el1:=el.ins hxp (below t.place j)
    have hp1:=(MG ns kx (below t.place j)).trans (hp.append_right [kx])
    have f1:(t.put j).1.fits (insertAt es (below t.place j) (kx.hash,Value.ref ax)).size=true:=by
      unfold SetTable.fits SetTable.fill
      rw [z1,y1,d1,m1]
      rcases T.mks with ⟨m,b⟩ | ⟨m,b⟩ <;> simp [m] <;> omega
    show wpAny (model prog w) A (if (t.put j).1.plain=true then _ else _) Q E _
    rw [if_pos p1]
    refine wpAny_bind (Hj 8 hx.2 hx.1 ?_)
    simp only [if_true]
    generalize (t.put j).1=t1 at r1 d1 z1 g1 m1 p1 l1 f1 ⊢
    show wpAny (model prog w) A (storeSet a (insertAt es (below t.place j) (kx.hash,Value.ref ax)) t1 >>= _) Q E _
    generalize insertAt es (below t.place j) (kx.hash,Value.ref ax)=es1 at y1 g1 el1 f1 ⊢
    refine wpAny_bind (wpAny_storeSet_of (s:=s) ho hd ?_ (by rw [sizeLine_eq]; omega))
    have ho1:=CA ho hd es1 t1
    have sb1:=Heap.SameBut.update s.heap a (Obj.putSet es1 t1)
    by_cases hf:t1.tooFull=true
    . rw [if_pos (by rw [hf]; rfl)]
      have small:es.size + 1=5:=by
        unfold SetTable.tooFull SetTable.fill at hf
        rw [z1,d1,m1] at hf
        simp at hf
        rcases T.mks with ⟨m,b⟩ | ⟨m,b⟩ <;> rw [m] at hf <;> omega
      obtain ⟨t2,es2,e2,T2,l2,q2⟩:=HB (t:=t1) (es:=es1) (wanted:=grown (es.size + 1)) (by rw [small]; decide +kernel) (by omega) p1
      have g2:=IE e2 T2.ris
      obtain ⟨order,e3,e4⟩:=KI e2
      have s2:es2.size=es1.size:=by
        have:=q2.length_eq
        simpa using this
      have fin:∀ h' tk,h'.get? a=some { o with data:=.set es2 (ep + 1 + 1) t2 }->Heap.SameBut a s.heap h'->Q true { s with heap:=h',toks:=tk }:=fun h' tk hg sb=>by
        obtain ⟨js,hj1,hj2⟩:=el1.perm q2
        exact q _ _ _ sb ⟨_,es2,_,t2,js,hg,hex,rfl,hj1,hj2.trans hp1,T2,g2,by rw [l2,l1]; exact hled⟩
      refine wpAny_bind ?_
      unfold setRelay
      refine wpAny_bind (wpAny_setState_of (s:={ s with heap:=s.heap.update a (Obj.putSet es1 t1) }) ho1 rfl f1 ?_)
      dsimp only
      rw [if_neg (by rw [small]; decide +kernel),e3]
      wp_walk
      rw [← e4,if_neg (by rw [s2]; simp)]
      refine wpAny_pure ?_
      dsimp only
      refine wpAny_storeSet_of (s:={ s with heap:=s.heap.update a (Obj.putSet es1 t1) }) ho1 rfl ?_ (by rw [sizeLine_eq]; omega)
      exact wpAny_pure (fin _ _ (CA ho1 rfl es2 t2) (sb1.trans (Heap.SameBut.update _ a _)))
    . rw [if_neg (by simpa using hf)]
      refine wpAny_pure (q _ _ _ sb1 ⟨_,es1,_,t1,_,ho1,hex,rfl,el1,hp1,⟨r1,by omega,d1,?_,p1⟩,g1,by rw [l1]; exact hled⟩)
      rw [m1]
      unfold SetTable.tooFull SetTable.fill at hf
      rw [z1,d1,m1] at hf
      simp at hf
      rcases T.mks with ⟨m,b⟩ | ⟨m,b⟩
      . rw [m] at hf
        exact .inl ⟨m,by omega⟩
      . exact .inr ⟨m,by omega⟩
theorem LP {a ax:Addr} {ks:List NK} {kx:NK} {Q:Bool->Shared->Prop} {P:NK->Addr->Prop} (hu:(kind prog w).room A) (hP:∀ k b,P k b->(kind prog w).is s.heap k b) (hS:SetC w P s.heap a ks) (hxp:P kx ax) (room:(if kx ∈ ks then ks else ks ++ [kx]).length <= 18)
    (q:∀ b h' tk,Heap.SameBut a s.heap h'->SetC w P h' a (if kx ∈ ks then ks else ks ++ [kx])->Q b { s with heap:=h',toks:=tk }) :
    wpAny (model prog w) A (setAdd a (.ref ax)) Q E s:=by
  unfold setAdd
  exact wpAny_holding (wpAny_bind ((kind prog w).pyHash hu (hP kx ax hxp) (GE (s:={ s with toks:=s.toks + (kind prog w).draws kx }) hu hP hS hxp room q)))
end
end Hs
set_option maxHeartbeats 4000000
namespace Hs
open PySem PySem.Spec PyProof.Rows Sem L2 Nk PySem.SetTable Ht
def AT {α:Type} [DecidableEq α] (xs:List α):List α:=xs.foldl (fun ys x=>if x ∈ ys then ys else ys ++ [x]) []
section
variable {α:Type} [DecidableEq α]
theorem Dk (xs:List α) (x:α):AT (xs ++ [x])=if x ∈ AT xs then AT xs else AT xs ++ [x]:=by
  unfold AT
  rw [List.foldl_append]
  rfl
theorem Fj:∀ (xs ys:List α),ys.length <= (xs.foldl (fun ys x=>if x ∈ ys then ys else ys ++ [x]) ys).length
  | [],ys=>Nat.le_refl _
  | x :: xs,ys=>by
    rw [List.foldl_cons]
    refine Nat.le_trans ?_ (Fj xs _)
    split
    . exact Nat.le_refl _
    . simp
theorem Ka (xs:List α) (i:Nat):(AT (xs.take i)).length <= (AT xs).length:=by
  have h:=Fj (xs.drop i) (AT (xs.take i))
  have e:(xs.drop i).foldl (fun ys x=>if x ∈ ys then ys else ys ++ [x]) (AT (xs.take i))=AT xs:=by
    unfold AT
    rw [← List.foldl_append,List.take_append_drop]
  rw [e] at h
  exact h
theorem BV (xs:List α):(AT xs).Nodup /\ ∀ k,k ∈ AT xs ↔ k ∈ xs:=by
  have key:∀ (xs ys:List α),ys.Nodup->(xs.foldl (fun ys x=>if x ∈ ys then ys else ys ++ [x]) ys).Nodup /\ ∀ k,k ∈ xs.foldl (fun ys x=>if x ∈ ys then ys else ys ++ [x]) ys ↔ k ∈ ys ∨ k ∈ xs:=fun xs=>by
    induction xs with
    | nil=>intro ys nd; exact ⟨nd,fun k=>by simp⟩
    | cons x xs ih=>
      intro ys nd
      rw [List.foldl_cons]
      by_cases h:x ∈ ys
      . rw [if_pos h]
        obtain ⟨a,b⟩:=ih ys nd
        refine ⟨a,fun k=>(b k).trans ?_⟩
        constructor
        . rintro (z | z)
          . exact .inl z
          . exact .inr (List.mem_cons_of_mem _ z)
        . rintro (z | z)
          . exact .inl z
          . exact (List.mem_cons.mp z).elim (fun e=>.inl (e ▸ h)) .inr
      . rw [if_neg h]
        obtain ⟨a,b⟩:=ih (ys ++ [x]) (List.nodup_append.mpr ⟨nd,by simp,fun u hu v hv e=>h (by simp at hv; rw [← hv,← e]; exact hu)⟩)
        refine ⟨a,fun k=>(b k).trans ?_⟩
        simp only [List.mem_append,List.mem_cons,List.not_mem_nil,or_false,or_assoc]
  obtain ⟨a,b⟩:=key xs [] List.nodup_nil
  exact ⟨a,fun k=>(b k).trans (by simp)⟩
end
section
variable {prog:Program} {w:World} {A:Around} {E:Value->Shared->Prop} {s:Shared}
theorem SetC.at {P:NK->Addr->Prop} {h h':Heap} {a:Addr} {ks:List NK} (z:SetC w P h a ks) (k:∀ o,h.get? a=some o->h'.get? a=some o):SetC w P h' a ks:=by
  obtain ⟨o,es,ep,t,ns,e1,rest⟩:=z
  exact ⟨o,es,ep,t,ns,k o e1,rest⟩
theorem KE {I S:Addr} {ks:List NK} {fp:List Addr} {P:Nat->Value->Prop} {K:NK->Addr->Prop} {St:Nat->Heap->Prop} (hu:(kind prog w).room A.in1) (W:Walks prog w A.in1 I fp [I] ks.length P St) {h0:Heap} (hK:∀ h,(∀ c o,h0.get? c=some o->h.get? c=some o)->∀ k b,K k b->(kind prog w).is h k b) (hP:∀ i v,P i v->∃ k b,ks[i]? = some k /\ v=.ref b /\ K k b)
    (hSI:S ≠ I) (hSf:S ∉ fp) (h0S:h0.get? S=none) (h0I:h0.get? I=none) (room:(AT ks).length <= 18) {R:Result->Shared->Prop} :
    ∀ (m i:Nat) (s:Shared),ks.length - i=m->i <= ks.length->(∀ c o,h0.get? c=some o->s.heap.get? c=some o)->St i s.heap->SetC w K s.heap S (AT (ks.take i))->
      (∀ h' tk,(∀ c o,c ≠ S->c ≠ I->s.heap.get? c=some o->h'.get? c=some o)->SetC w K h' S (AT ks)->R (.ok (.ret .none)) { s with heap:=h',toks:=tk })->
      codeAny (model prog w) A (.builtin "set.update.loop" ⟨[.ref S,.ref I],[]⟩) R s:=by
  intro m
  have off:∀ {c:Addr} {o:Obj},h0.get? c=some o->c ≠ S /\ c ≠ I:=fun e=>⟨fun z=>(by rw [z,h0S] at e; cases e),fun z=>(by rw [z,h0I] at e; cases e)⟩
  induction m with
  | zero=>
    intro i s hm hi hk0 hst hS q
    have ei:i=ks.length:=by omega
    subst ei
    refine codeAny_builtin PyProof.Rows.F.entry_set_update_loop ?_
    rw [Around.under_plainId PyProof.Rows.F.plain_set_update_loop _]
    refine wpAny_bind (m:=pyNext (.ref I)) (W.done s _ _ hst fun h' tk kp=>wpAny_pure ?_)
    rw [List.take_length] at hS
    exact q h' tk (fun c o _ c2 e=>kp c o (by simpa using c2) e) (hS.at fun o e=>kp S o (by simpa using hSI) e)
  | succ m ih=>
    intro i s hm hi hk0 hst hS q
    have lt:i < ks.length:=by omega
    refine codeAny_builtin PyProof.Rows.F.entry_set_update_loop ?_
    rw [Around.under_plainId PyProof.Rows.F.plain_set_update_loop _]
    refine wpAny_bind (m:=pyNext (.ref I)) (W.item i s _ _ lt hst fun v h' tk hv st kp=>?_)
    obtain ⟨k,b,ek,rfl,hkb⟩:=hP i v hv
    have tk1:ks.take i ++ [k]=ks.take (i + 1):=by rw [List.take_succ,ek]; rfl
    have nb:(if k ∈ AT (ks.take i) then AT (ks.take i) else AT (ks.take i) ++ [k])=AT (ks.take (i + 1)):=by rw [← tk1,Dk]
    have hS1:SetC w K h' S (AT (ks.take i)):=hS.at fun o e=>kp S o (by simpa using hSI) e
    have hk1:∀ c o,h0.get? c=some o->h'.get? c=some o:=fun c o e=>kp c o (by simpa using (off e).2) (hk0 c o e)
    refine wpAny_bind (wpAny_holding (LP (s:={ s with heap:=h',toks:=tk }) hu (hK h' hk1) hS1 hkb (by rw [nb]; exact Nat.le_trans (Ka _ _) room) fun b2 h2 t2 sb hS2=>?_))
    rw [nb] at hS2
    have k2:∀ c o,c ≠ S->h'.get? c=some o->h2.get? c=some o:=fun c o hc e=>(sb.2 c hc).trans e
    refine wpAny_pure ⟨plainId_quiet PyProof.Rows.F.plain_set_update_loop _,ih (i + 1) _ (by omega) lt (fun c o e=>k2 c o (off e).1 (hk1 c o e)) (W.frame _ _ _ st fun b hb o e=>k2 b o (fun z=>hSf (z ▸ hb)) e) hS2 fun h3 t3 kp3 hS3=>?_⟩
    exact q h3 t3 (fun c o c1 c2 e=>kp3 c o c1 c2 (k2 c o c1 (kp c o (by simpa using c2) e))) hS3
end
end Hs
namespace Hs
open PySem PySem.Spec PyProof.Rows Sem L2 Nk Ht
section
variable {prog:Program} {w:World} {A:Around} {E:Value->Shared->Prop} {s:Shared}
set_option maxHeartbeats 2000000 in
theorem F7 {T:String} {l:Addr} {ns:List NK} {K:NK->Addr->Prop} (hu:(kind prog w).room A.in1.in1.in1) (hK:∀ h,(∀ c o,s.heap.get? c=some o->h.get? c=some o)->∀ k b,K k b->(kind prog w).is h k b) {Q:Value->Shared->Prop} {fp:Addr->List Addr} {P:Nat->Value->Prop} {St:Addr->Nat->Heap->Prop} {itO:Obj}
    (c1:isSubtype (.type T) (.type "set")=Pure.pure false) (c2:isSubtype (.type T) (.type "frozenset")=Pure.pure false) (c3:(Value.type T == Value.type "dict")=false)
    (tyl:∀ {s':Shared},(∀ o,s.heap.get? l=some o->s'.heap.get? l=some o)->s'.TypeIs (.ref l) T)
    (walk:∀ {s':Shared} {A':Around} {E' Q':Value->Shared->Prop},(∀ o,s.heap.get? l=some o->s'.heap.get? l=some o)->Q' (.ref s'.heap.objs.size) { s' with heap:=s'.heap.push itO }->wpAny (model prog w) A' (pyIter (.ref l)) Q' E' s')
    (W:∀ I,l ≠ I->Walks prog w A.in1.in1.in1 I (fp I) [I] ns.length P (St I)) (hP:∀ i v,P i v->∃ k b,ns[i]? = some k /\ v=.ref b /\ K k b) (hfp:∀ I,∀ b ∈ fp I,b=I ∨ b=l) (hl:∃ o,s.heap.get? l=some o)
    (hfr:itO.isFreed=false) (st0:∀ {h:Heap} (I:Addr),h.get? I=some itO->(∀ o,s.heap.get? l=some o->h.get? l=some o)->St I 0 h) (room:(AT ns).length <= 18)
    (q:∀ h' tk,(∀ c o,s.heap.get? c=some o->h'.get? c=some o)->SetC w K h' s.heap.objs.size (AT ns)->Q (.ref s.heap.objs.size) { s with heap:=h',toks:=tk }) :
    wpAny (model prog w) A (call (.type "set") [.ref l]) Q E s:=by
  refine Ja PySem.F.called_set (PySem.F.typeCall_set_1 _) (JM (.ref l) (Q:=fun x s₁=>x=.ref s.heap.objs.size /\ s₁={ s with heap:=s.heap.push (AK !(w.params.followText "set-order")) }) ⟨rfl,rfl⟩) ?_
  rintro x s₁ ⟨rfl,rfl⟩
  generalize hled:(!(w.params.followText "set-order"))=led
  have at_S:(s.heap.push (AK led)).get? s.heap.objs.size=some (AK led):=Heap.get?_push_size _ rfl
  have ty:Shared.TypeIs { s with heap:=s.heap.push (AK led) } (.ref s.heap.objs.size) "set" := ⟨_,at_S,rfl⟩
  have lt:l < s.heap.objs.size:=by obtain ⟨o,e⟩:=hl; exact Heap.lt_size e
  have kl:∀ o,s.heap.get? l=some o->(s.heap.push (AK led)).get? l=some o:=fun o e=>Heap.get?_push_of_some _ e
  have tyl:=tyl (s':={ s with heap:=s.heap.push (AK led) }) kl
  refine ⟨ty,codeAny_call_builtin PySem.F.called_set.init.plain PySem.F.entry_set_init (check_set_init_1 ty ?_)⟩
  unfold Builtin.«set.__init__» noKeywords Builtin.Frozenset.updateFrom
  have walk':∀ (A:Around) (E:Value->Shared->Prop) (Q:Value->Shared->Prop),Q (.ref (s.heap.push (AK led)).objs.size) { s with heap:=(s.heap.push (AK led)).push itO }->wpAny (model prog w) A (pyIter (.ref l)) Q E { s with heap:=s.heap.push (AK led) }:=fun A E Q z=>walk (s':={ s with heap:=s.heap.push (AK led) }) kl z
  wp_walk using walk'
  have sz:(s.heap.push (AK led)).objs.size=s.heap.objs.size + 1:=Heap.size_push ..
  have ne1:l ≠ (s.heap.push (AK led)).objs.size:=by rw [sz]; exact Nat.ne_of_lt (Nat.lt_succ_of_lt lt)
  have ne2:s.heap.objs.size ≠ (s.heap.push (AK led)).objs.size:=by rw [sz]; exact Nat.ne_of_lt (Nat.lt_succ_self _)
  have hSf:s.heap.objs.size ∉ fp (s.heap.push (AK led)).objs.size:=fun z=>(hfp _ _ z).elim ne2 (Nat.ne_of_gt lt)
  refine KE (A:=A.in1.in1) (h0:=s.heap) hu (W _ ne1) hK hP ne2 hSf (Heap.get?_none_of_le (Nat.le_refl _)) (Heap.get?_none_of_le (by rw [sz]; omega)) room ns.length 0 _ (Nat.sub_zero _) (Nat.zero_le _) (fun c o e=>Heap.get?_push_of_some _ (Heap.get?_push_of_some _ e)) (st0 _ (Heap.get?_push_size _ hfr) fun o e=>Heap.get?_push_of_some _ (kl o e)) ?start fun h' tk kp hS=>?fin
  case start=>
    refine ⟨_,#[],0,_,[],Heap.get?_push_of_some _ at_S,⟨rfl,rfl,rfl⟩,rfl,?_,.refl _,Dh led,?_,hled.symm⟩
    . unfold EL; rfl
    . intro e he
      cases he
  case fin=>
    have ltS:∀ {c:Addr} {o:Obj},s.heap.get? c=some o->c < s.heap.objs.size:=fun e=>Heap.lt_size e
    exact wpAny_pure (wpAny_pure ⟨rfl,q h' tk (fun c o e=>kp c o (Nat.ne_of_lt (ltS e)) (by rw [sz]; exact Nat.ne_of_lt (Nat.lt_succ_of_lt (ltS e))) (Heap.get?_push_of_some _ (Heap.get?_push_of_some _ e))) hS⟩)
end
end Hs
set_option maxHeartbeats 4000000
namespace Nk
open PySem PySem.Spec PyProof.Rows Ht
section
variable {prog:Program} {w:World} {A:Around} {E:Value->Shared->Prop} {s:Shared} {d I:Addr} {o:Obj} {es:Array DictEntry} {ep:Nat}
end
end Nk
namespace Nk
open PySem PySem.Spec PyProof.Rows L2 Mi
theorem HZ (c:Cs):(csK c).deep <= 8:=by
  have h:∀ ns:List Int,NK.deeps (ns.map NK.int)=0:=fun ns=>by
    induction ns with
    | nil=>rfl
    | cons n r ih=>unfold List.map NK.deeps; rw [ih]; rfl
  have:(csK c).deep=max 0 (max 0 (max (NK.deeps (c.2.2.map NK.int) + 1) 0)) + 1:=rfl
  rw [this,h]
  decide
theorem Hl {h:Heap}:∀ {ns:List Int} {its:List Value},Vals (ns.map V.int) its->Ats h (ns.map NK.int) its
  | [],_,r=>by cases r; unfold List.map Ats; rfl
  | n :: ns,_,r=>by
    cases r with
    | cons e t=>
      obtain ⟨tk,rfl⟩:=e
      unfold List.map Ats
      exact ⟨_,_,rfl,by unfold At; exact ⟨tk,rfl⟩,Hl t⟩
section
variable {X:Cx} {pins:List (Addr × Obj)} {σ:L2.St} {H:Hp} {s:Shared} {ι:Nat->Addr} {k:Nat}
theorem Mk (I:Inv X pins σ H s) {c:Cs} {v:V} {u:Value} (i:Is X.K ι k H (csD c) v) (r:RelV v u):At s.heap (csK c) u:=by
  unfold csD Is at i
  obtain ⟨p,vs,rfl,h1,h2⟩:=i
  cases r
  obtain ⟨its,rv,⟨o,g1,g2,n,g3⟩,_⟩:=I.tuple h1
  unfold Mi.IsL at h2
  obtain ⟨v1,_,rfl,i1,h2⟩:=h2
  unfold Mi.IsL at h2
  obtain ⟨v2,_,rfl,i2,h2⟩:=h2
  unfold Mi.IsL at h2
  obtain ⟨v3,_,rfl,i3,h2⟩:=h2
  unfold Mi.IsL at h2
  subst h2
  unfold Is at i1 i2 i3
  subst i1 i2
  obtain ⟨p3,vs3,rfl,j1,j2⟩:=i3
  have e3:=j2.ints
  subst e3
  obtain ⟨its3,rv3,⟨o3,k1,k2,n3,k3⟩,_⟩:=I.tuple j1
  cases rv with
  | cons a1 rv=>
    cases rv with
    | cons a2 rv=>
      cases rv with
      | cons a3 rv=>
        cases rv
        obtain ⟨t1,rfl⟩:=a1
        obtain ⟨t2,rfl⟩:=a2
        cases a3
        unfold csK At
        refine ⟨p,o,_,n,rfl,g1,g2,g3,?_⟩
        unfold Ats
        refine ⟨_,_,rfl,by unfold At; exact ⟨t1,rfl⟩,?_⟩
        unfold Ats
        refine ⟨_,_,rfl,by unfold At; exact ⟨t2,rfl⟩,?_⟩
        unfold Ats
        refine ⟨_,_,rfl,?_,by unfold Ats; rfl⟩
        unfold At
        exact ⟨p3,o3,_,n3,rfl,k1,k2,k3,Hl rv3⟩
theorem isC (I:Inv X pins σ H s) {c:Cs} {a:Addr} (i:Is X.K ι k H (csD c) (.ref a)):(kind X.prog X.w).is s.heap (csK c) a:=⟨Mk I i rfl,HZ c⟩
end
theorem Fk {ks:List Cs} (h:ks.Nodup):(ks.map csK).Nodup:=by
  refine List.Pairwise.map _ ?_ h
  intro a b hne e
  exact hne (Bo e)
end Nk
namespace Mi
open PySem L2 Ht Nk
def Bf:List D->Option (List Int)
  | []=>some []
  | .int i :: r=>(Bf r).map (i :: ·)
  | _ :: _=>none
theorem Dz:∀ {ds:List D} {ns:List Int},Bf ds=some ns->ds=ns.map D.int
  | [],ns,e=>by cases e; rfl
  | .int i :: r,ns,e=>by
    unfold Bf at e
    cases h:Bf r with
    | none=>rw [h] at e; cases e
    | some m=>rw [h] at e; cases e; rw [Dz h]; rfl
  | .non :: _,_,e | .bl _ :: _,_,e | .str _ :: _,_,e | .ty _ :: _,_,e | .scr _ :: _,_,e | .tup _ :: _,_,e | .lst _ :: _,_,e | .ref _ :: _,_,e=>by cases e
def Ku:D->Option Cs
  | .tup [.int a,.int b,.tup ds]=>(Bf ds).map fun ns=>(a,b,ns)
  | _=>none
theorem GC {d:D} {c:Cs} (e:Ku d=some c):d=csD c:=by
  unfold Ku at e
  split at e
  . rename_i a b ds
    cases h:Bf ds with
    | none=>rw [h] at e; cases e
    | some ns=>rw [h] at e; cases e; rw [Dz h]; rfl
  . cases e
section
variable {X:Cx} {e o i:Expr} {pos pos':Pos}
theorem EY {k:Nat} (hr:Room k X.A):(Nk.kind X.prog X.w).room X.A.in1:=by
  have:=hr.units
  show X.A.units + 1 + 8 < cLine
  omega
end
end Mi
namespace Hs
open PySem PySem.Spec PyProof.Rows Sem L2 Nk Ht
section
variable {prog:Program} {w:World} {A:Around} {E:Value->Shared->Prop} {s:Shared}
theorem GZ {h h':Heap} (kp:∀ c o,h.get? c=some o->h'.get? c=some o) (k:NK) (b:Addr) (x:(kind prog w).is h k b):(kind prog w).is h' k b:=⟨x.1.kept fun c o items n e _ _=>kp c o e,x.2⟩
end
end Hs
namespace Nk
open PySem PySem.Spec PyProof.Rows PySem.SeqAt
def Kj (x:Cs):List Cs->List Cs
  | []=>[x]
  | y :: r=>if cLt x y=true then x :: y :: r else y :: Kj x r
def D5:List Cs->List Cs
  | []=>[]
  | x :: r=>Kj x (D5 r)
theorem Do (x:Cs):∀ l,(Kj x l).Perm (x :: l)
  | []=>List.Perm.refl _
  | y :: r=>by
    unfold Kj
    split
    . exact List.Perm.refl _
    . exact ((Do x r).cons y).trans (List.Perm.swap x y r)
theorem Bp:∀ l,(D5 l).Perm l
  | []=>List.Perm.refl _
  | x :: r=>(Do x _).trans ((Bp r).cons x)
theorem Mc {a b c:Cs} (h:cLt a b=true) (g:cLt b c=true):cLt a c=true:=IS h g
theorem OH (a:Cs):cLt a a=false:=EG _
theorem OG {a b:Cs} (h:a ≠ b):cLt a b=true ∨ cLt b a=true:=GX fun z=>h (HU z)
theorem Je (x:Cs):∀ {l:List Cs},(∀ y ∈ l,y ≠ x)->l.Pairwise (fun x y=>cLt x y=true)->(Kj x l).Pairwise fun x y=>cLt x y=true
  | [],_,_=>List.pairwise_singleton _ _
  | y :: r,hx,h=>by
    obtain ⟨h1,h2⟩:=List.pairwise_cons.mp h
    unfold Kj
    split
    . rename_i hl
      exact List.pairwise_cons.mpr ⟨fun z hz=>(List.mem_cons.mp hz).elim (fun e=>e ▸ hl) fun hz=>Mc hl (h1 z hz),h⟩
    . rename_i hl
      refine List.pairwise_cons.mpr ⟨fun z hz=>?_,Je x (fun z hz=>hx z (List.mem_cons_of_mem _ hz)) h2⟩
      rcases List.mem_cons.mp ((Do x r).mem_iff.mp hz) with rfl | hz
      . exact (OG (hx y List.mem_cons_self)).resolve_right hl
      . exact h1 z hz
theorem JH:∀ {l:List Cs},l.Nodup->(D5 l).Pairwise fun x y=>cLt x y=true
  | [],_=>List.Pairwise.nil
  | x :: r,h=>by
    obtain ⟨h1,h2⟩:=List.nodup_cons.mp h
    exact Je x (fun y hy e=>h1 (by rw [← e]; exact (Bp r).mem_iff.mp hy)) (JH h2)
theorem OO:∀ {xs ys:List Cs},xs.Pairwise (fun x y=>cLt x y=true)->ys.Pairwise (fun x y=>cLt x y=true)->xs.Perm ys->xs=ys
  | [],ys,_,_,p=>by cases p.symm.eq_nil; rfl
  | x :: xs,[],_,_,p=>by cases p.eq_nil
  | x :: xs,y :: ys,hx,hy,p=>by
    obtain ⟨x1,x2⟩:=List.pairwise_cons.mp hx
    obtain ⟨y1,y2⟩:=List.pairwise_cons.mp hy
    have e:x=y:=by
      rcases List.mem_cons.mp (p.mem_iff.mp List.mem_cons_self) with e | e
      . exact e
      . rcases List.mem_cons.mp (p.symm.mem_iff.mp List.mem_cons_self) with e' | e'
        . exact e'.symm
        . have:=Mc (y1 x e) (x1 y e')
          rw [OH] at this
          cases this
    subst e
    rw [OO x2 y2 (List.Perm.cons_inv p)]
theorem NJ {ks l:List Cs} (nd:l.Nodup) (p:ks.Perm l) (u:ks.Pairwise fun x y=>cLt x y=true):ks=D5 l:=OO u (JH nd) (p.trans (Bp l).symm)
section
variable {prog:Program} {w:World} {A:Around} {E:Value->Shared->Prop} {s:Shared}
end
end Nk
set_option maxHeartbeats 4000000
namespace Hs
open PySem PySem.Spec PyProof.Rows PySem.SeqAt Nk Ht
section
variable {prog:Program} {w:World} {A:Around} {E:Value->Shared->Prop} {s:Shared}
theorem EL.ats {P:NK->Addr->Prop} {h:Heap} (hP:∀ k b,P k b->(kind prog w).is h k b):∀ {es:List (Int × Value)} {ks:List NK},EL P es ks->Ats h ks (es.map (·.2))
  | [],_,e=>by unfold EL at e; subst e; show Ats h [] []; unfold Ats; rfl
  | _ :: _,_,e=>by
    unfold EL at e
    obtain ⟨k,ks',b,rfl,rfl,hb,r⟩:=e
    show Ats h (k :: ks') (Value.ref b :: _)
    unfold Ats
    exact ⟨_,_,rfl,(hP k b hb).1,EL.ats hP r⟩
theorem Of:∀ {ks:List NK},(∀ k ∈ ks,∃ c,k=csK c)->∃ ds:List Cs,ks=ds.map csK
  | [],_=>⟨[],rfl⟩
  | k :: ks,h=>by
    obtain ⟨c,rfl⟩:=h k List.mem_cons_self
    obtain ⟨ds,rfl⟩:=Of fun x hx=>h x (List.mem_cons_of_mem _ hx)
    exact ⟨c :: ds,rfl⟩
theorem Lr {as bs:List Cs} (na:as.Nodup) (nb:bs.Nodup) (p:(as.map csK).Perm (bs.map csK)):as.Perm bs:=(List.perm_ext_iff_of_nodup na nb).mpr fun x=>by
  constructor
  . intro h
    obtain ⟨y,hy,e⟩:=List.mem_map.mp (p.mem_iff.mp (List.mem_map.mpr ⟨x,h,rfl⟩))
    rw [← Bo e]; exact hy
  . intro h
    obtain ⟨y,hy,e⟩:=List.mem_map.mp (p.mem_iff.mpr (List.mem_map.mpr ⟨x,h,rfl⟩))
    rw [← Bo e]; exact hy
theorem GV {as:List Cs} (h:(as.map csK).Nodup):as.Nodup:=by
  rw [List.nodup_iff_pairwise_ne,List.pairwise_map] at h
  exact h.imp fun z e=>z (by rw [e])
theorem G0 {S:Addr} {cs:List Cs} {P:NK->Addr->Prop} {Q:Value->Shared->Prop} (hh:A.handled=none) (hu:A.units + 16 < cLine) (hP:∀ k b,P k b->(kind prog w).is s.heap k b) (nd:cs.Nodup) (hS:SetC w P s.heap S (cs.map csK))
    (q:∀ (h1 h':Heap) tk c (out:List Value),(∀ b o,s.heap.get? b=some o->h1.get? b=some o)->(∀ b o,h1.get? b=some o->h'.get? b=some o)->h'.get? h1.objs.size=some (seqObj "list" out.toArray c)->Ats h1 ((D5 cs).map csK) out->(∀ v ∈ out,∃ k b,v=.ref b /\ P k b)->Q (.ref h1.objs.size) { s with heap:=h',toks:=tk }) :
    wpAny (model prog w) A (call (.builtin "sorted") [.ref S]) Q E s:=by
  obtain ⟨o,es,ep,t,ns,ho,hex,hd,el,hp,T,g,hled⟩:=hS
  have small:es.size <= 18:=by rcases T.mks with ⟨_,b⟩ | ⟨_,b⟩ <;> omega
  refine Calls.call_function_entry kind_sorted plain_sorted entry_sorted (args_sorted1 _) ?_
  unfold Builtin.«sorted»
  refine wpAny_bind (wpAny_of_eq (a:=()) rfl ?_)
  refine wpAny_bind (PySem.W.kdu_collect (A:=A.in1) (NL (S:=S) hex hd T hled) hh ho (by rw [sizeLine_eq]; omega) fun h1 t1 acc k1 it=>?_)
  have hacc:acc.toList=(wv w S ep es).toList.map (·.2):=by
    have h1':=it.1
    have h2':=EC w S ep es
    refine List.ext_getElem (by simp [h1',h2']) fun i a b=>?_
    have hi:i < acc.size:=by simpa using a
    obtain ⟨e,g1,g2⟩:=it.2 i acc[i] (Array.getElem?_eq_getElem hi)
    have he:(wv w S ep es)[i]'(by omega)=e:=(Array.getElem?_eq_some_iff.mp g1).2
    simp [g2,← he]
  obtain ⟨js,hj,hjp⟩:=el.perm (DM w S ep es)
  have hjc:js.Perm (cs.map csK):=hjp.trans hp
  obtain ⟨ds,rfl⟩:=Of (ks:=js) fun k hk=>by
    obtain ⟨c,_,e⟩:=List.mem_map.mp (hjc.mem_iff.mp hk)
    exact ⟨c,e.symm⟩
  have ndd:ds.Nodup:=GV (hjc.nodup_iff.mpr (Fk nd))
  have hat:Ats s.heap (ds.map csK) acc.toList:=by rw [hacc]; exact hj.ats hP
  have hlen:acc.toList.length=es.size:=by rw [Array.length_toList]; exact it.1
  refine wpAny_bind (wpAny_newList ?_ (by rw [sizeLine_eq]; omega))
  have hL:(h1.push (seqObj "list" acc.toList.toArray 0)).get? h1.objs.size=some (seqObj "list" acc.toList.toArray 0):=Heap.get?_push_size _ rfl
  have kL:∀ b o,h1.get? b=some o->(h1.push (seqObj "list" acc.toList.toArray 0)).get? b=some o:=fun b o e=>Heap.get?_push_of_some _ e
  have hk1:Ats h1 (ds.map csK) acc.toList:=hat.kept fun b o items n e _ _=>k1 b o e
  have hkL:Ats (h1.push (seqObj "list" acc.toList.toArray 0)) (ds.map csK) acc.toList:=hk1.kept fun b o items n e _ _=>kL b o e
  refine wpAny_bind (wpAny_holding (wpAny_call_entry slot_list_sort ⟨_,hL,rfl⟩ entry_list_sort (NM (s:={ s with heap:=h1.push (seqObj "list" acc.toList.toArray 0),toks:=t1 }) (by show A.units + 1 + 1 + 8 < cLine; omega) hL hkL ndd (by omega) fun out ks' a1 a2 a3 a4=>⟨_,rfl,?_⟩) (args_list_sort _)))
  obtain ⟨c,hc⟩:=sortedHeap_at (out:=out.toArray) hL
  have em:ks'=D5 cs:=NJ nd (a2.trans (Lr ndd nd hjc)) a3
  subst em
  have a1':Ats h1 ((D5 cs).map csK) out:=by
    refine Ats.of_get (by have:=a1.len; simpa using this) fun i k v e1 e2=>?_
    obtain ⟨v',f1,f2⟩:=a1.get i k e1
    rw [e2] at f1
    cases f1
    have hv:v ∈ acc.toList:=a4 v (List.mem_of_getElem? e2)
    obtain ⟨j,hj',ej⟩:=List.getElem_of_mem hv
    have hjk:j < ds.length:=by have:=hk1.len; simp at this; simp at hj'; omega
    obtain ⟨v2,g1,g2⟩:=hk1.get j (csK ds[j]) (by simp [hjk])
    rw [List.getElem?_eq_getElem hj',ej] at g1
    cases g1
    have same:=At.inj (At.kept g2 fun b o items n e _ _=>kL b o e) f2
    rw [← same]
    exact g2
  have src:∀ v ∈ out,∃ k b,v=.ref b /\ P k b:=fun v hv=>by
    have hv':=a4 v hv
    rw [hacc] at hv'
    obtain ⟨e,he,rfl⟩:=List.mem_map.mp hv'
    obtain ⟨i,hi,ei⟩:=List.getElem_of_mem he
    have hjl:=hj.len
    have hi2:i < (ds.map csK).length:=by omega
    obtain ⟨b,f1,f2⟩:=hj.at' i (ds.map csK)[i] (List.getElem?_eq_getElem hi2)
    rw [List.getElem?_eq_getElem hi,ei] at f1
    cases f1
    exact ⟨_,b,rfl,f2⟩
  exact wpAny_pure ⟨_,rfl,q h1 _ _ c out k1 (fun b o e=>by rw [sortedHeap_old (Nat.ne_of_lt (Heap.lt_size e)) (Heap.lt_size (kL b o e))]; exact kL b o e) hc a1' src⟩
end
end Hs
set_option maxHeartbeats 4000000
namespace Hs
open PySem PySem.Spec PyProof.Rows Nk PySem.SetTable Ht L2
section
variable {prog:Program} {w:World} {A:Around} {E:Value->Shared->Prop} {s:Shared}
theorem MN {a ax:Addr} {o:Obj} {es:Array (Int × Value)} {ep:Nat} {t:SetTable} {ns:List NK} {kx:NK} {Q:Option Nat->Shared->Prop} {P:NK->Addr->Prop} (hu:(kind prog w).room A) (hP:∀ k b,P k b->(kind prog w).is s.heap k b) (ho:s.heap.get? a=some o) (hd:o.data=.set es ep t) (el:EL P es.toList ns) (T:Tab t es.size) (g:Good t es) (hx:(kind prog w).is s.heap kx ax)
    (q1:∀ i,i < es.size->ns[i]? = some kx->Q (some i) s) (q2:kx ∉ ns->Q none s):wpAny (model prog w) A (setFind a (.ref ax) kx.hash) Q E s:=by
  have hpz:t.place.size=es.size:=T.sz
  have hmask:es.size <= t.mask:=by rcases T.mks with ⟨m,b⟩ | ⟨m,b⟩ <;> omega
  unfold setFind setFindIn
  refine wpAny_bind (wpAny_setState_of ho hd T.fits ?_)
  dsimp only
  rw [if_neg (show ¬ (byScan (.ref ax) es=true) from by unfold byScan Value.scannable; simp)]
  unfold setSearch
  obtain ⟨n0,e0,b0,f0,fs⟩:=Ez T hmask kx.hash
  refine wpAny_bind (Fd (ad:=false) hu ho hd T.fits T.ris T.dm (HE T) (el.ents hP) hx e0 b0 f0 (fun i hi hm=>?_) (fun no=>?_) 100000 0 none rfl (Nat.zero_le _) (by have:turns t.mask=t.mask + 15:=rfl; rcases T.mks with ⟨m,_⟩ | ⟨m,_⟩ <;> rw [m] at this b0 <;> omega) (fun k hk=>absurd hk (Nat.not_lt_zero k)))
  . exact wpAny_pure (q1 i hi hm)
  . exact wpAny_pure (q2 fun z=>RQ T.ris g (el.ents hP) hpz e0 no z)
theorem Iz {S:Addr} {others:List Addr} {filled:Option Addr} {ep:Nat} {es:Array (Int × Value)} {t:SetTable} {o:Obj} {Q:Array (Int × Value)->Shared->Prop} (ho:s.heap.get? S=some o) (hd:o.data=.set es ep t) (T:Tab t es.size) (hled:t.led = !(w.params.followText "set-order"))
    (h:Q (wv w S ep es) s):wpAny (model prog w) A (setWalkUnseen S others filled) Q E s:=by
  unfold setWalkUnseen
  refine wpAny_bind (wpAny_setState_of ho hd T.fits ?_)
  dsimp only
  unfold setsByText
  refine wpAny_bind (wpAny_bind (wpAny_askSetting (wpAny_pure ?_)))
  dsimp only [model]
  have hc:(w.params.followText "set-order" || (t.led && t.plain) || decide (es.size <= 1))=true:=by
    rw [hled,T.pl]
    cases w.params.followText "set-order" <;> simp
  rw [if_pos hc]
  unfold setWalk setsByText
  refine wpAny_bind (wpAny_setState_of ho hd T.fits ?_)
  dsimp only
  refine wpAny_bind (wpAny_bind (wpAny_askSetting (wpAny_pure ?_)))
  dsimp only [model]
  by_cases hb:w.params.followText "set-order" = true
  . rw [if_pos hb]
    refine wpAny_bind (wpAny_askSetting (wpAny_pure ?_))
    have ew:wv w S ep es=pickOrder (w.params.setOrder S ep) es:=by unfold wv; rw [if_pos hb]
    rw [ew] at h
    exact h
  . rw [if_neg hb]
    have hb':w.params.followText "set-order" = false:=by simpa using hb
    have hl:t.led=true:=by rw [hled,hb']; rfl
    have ew:wv w S ep es=es:=by unfold wv; rw [if_neg hb]
    rw [ew] at h
    split
    . rename_i z
      have z':(!t.plain && decide (es.size > 1))=true:=z
      rw [T.pl] at z'
      cases z'
    . refine wpAny_bind ?_
      show wpAny _ _ (if (!t.led && decide (es.size > 1))=true then PySem.unsupported "set:maker-not-led" else Pure.pure ()) _ _ _
      rw [hl]
      rw [if_neg (by simp)]
      exact wpAny_pure (wpAny_pure h)
theorem Ee {α β:Type} (f:α->β) {l m:List β} (p:l.Perm m):∀ {zs:List α},m=zs.map f->∃ ys:List α,l=ys.map f /\ ys.Perm zs:=by
  induction p with
  | nil=>intro zs e; cases zs with
    | nil=>exact ⟨[],rfl,.refl _⟩
    | cons z zs=>cases e
  | cons x _ ih=>intro zs e; cases zs with
    | nil=>cases e
    | cons z zs=>
      rw [List.map_cons] at e
      obtain ⟨e1,e2⟩:=List.cons.inj e
      obtain ⟨ys,h1,h2⟩:=ih e2
      exact ⟨z :: ys,by rw [List.map_cons,← e1,← h1],h2.cons z⟩
  | swap x y l=>intro zs e; cases zs with
    | nil=>cases e
    | cons z zs=>cases zs with
      | nil=>cases e
      | cons z2 zs=>
        rw [List.map_cons,List.map_cons] at e
        obtain ⟨e1,e2⟩:=List.cons.inj e
        obtain ⟨e3,e4⟩:=List.cons.inj e2
        exact ⟨z2 :: z :: zs,by rw [List.map_cons,List.map_cons,← e1,← e3,← e4],.swap z z2 zs⟩
  | trans _ _ ih1 ih2=>
    intro zs e
    obtain ⟨ys,h1,h2⟩:=ih2 e
    obtain ⟨xs,h3,h4⟩:=ih1 h1
    exact ⟨xs,h3,h4.trans h2⟩
theorem FW:entryFor table "set.__sub__" = some Builtin.«frozenset.__sub__»:=entryFor_alias (id' := "frozenset.__sub__") (by kernel_rfl) rfl (by decide +kernel) (by kernel_rfl)
theorem Hy:isSubtype (.type "set") (.type "set")=Pure.pure true:=by rw [isSubtype_type]; kernel_rfl
theorem JV {Q:Value->Shared->Prop} (h:Q (.ref s.heap.objs.size) { s with heap:=s.heap.push (AK !(w.params.followText "set-order")) }):wpAny (model prog w) A (newSet (.type "set")) Q E s:=by
  have told:∀ {Q:Bool->Shared->Prop}, Q (w.params.followText "set-order") s->wpAny (model prog w) A setsByText Q E s:=fun q=>wpAny_bind (wpAny_askSetting (wpAny_pure q))
  exact wpAny_bind (told (wpAny_newObj_type h))
theorem F1 {κ:Type} [DecidableEq κ] {id:String} {S O:Addr} {o o2:Obj} {es es2:Array (Int × Value)} {ep ep2:Nat} {t t2:SetTable} {zs:List ((Int × Value) × κ)} {kb:List κ} {SX:Heap->List κ->Prop} {Q:Value->Shared->Prop}
    (ho:s.heap.get? S=some o) (hex:o.ExactSet) (hd:o.data=.set es ep t) (T:Tab t es.size) (hled:t.led = !(w.params.followText "set-order")) (ho2:s.heap.get? O=some o2) (hex2:o2.ExactSet) (hd2:o2.data=.set es2 ep2 t2) (T2:Tab t2 es2.size)
    (near : ¬ es.size / 4 > es2.size) (hz:(wv w S ep es).toList=zs.map (·.1)) (nd:(zs.map (·.2)).Nodup)
    (find:∀ (s':Shared) (z:(Int × Value) × κ) (Q:Option Nat->Shared->Prop),z ∈ zs->(∀ c o,s.heap.get? c=some o->s'.heap.get? c=some o)->(∀ rr:Option Nat,rr.isSome=decide (z.2 ∈ kb)->Q rr s')->wpAny (model prog w) A (setFind O z.1.2 z.1.1) Q E s')
    (add:∀ (s':Shared) (acc:List κ) (z:(Int × Value) × κ) (Q:Bool->Shared->Prop),z ∈ zs->z.2 ∉ acc->acc.length + 1 <= zs.length->(∀ c o,s.heap.get? c=some o->s'.heap.get? c=some o)->SX s'.heap acc->(∀ b h' tk,Heap.SameBut s.heap.objs.size s'.heap h'->SX h' (acc ++ [z.2])->Q b { s' with heap:=h',toks:=tk })->wpAny (model prog w) A (setAddHashed s.heap.objs.size z.1.2 z.1.1) Q E s')
    (sx0:SX (s.heap.push (AK !(w.params.followText "set-order"))) [])
    (q:∀ h' tk,(∀ c o,s.heap.get? c=some o->h'.get? c=some o)->SX h' ((zs.map (·.2)).filter (fun k=>!decide (k ∈ kb)))->Q (.ref s.heap.objs.size) { s with heap:=h',toks:=tk }) :
    wpAny (model prog w) A (Builtin.Frozenset.difference id S (.ref O)) Q E s:=by
  have tS:s.TypeIs (.ref S) "set" := ⟨o,ho,hex.1⟩
  have tO:s.TypeIs (.ref O) "set" := ⟨o2,ho2,hex2.1⟩
  have z1:=Hy
  have eO:∀ (A:Around) (E:Value->Shared->Prop) (Q:Array (Int × Value)->Shared->Prop),Q es2 s->wpAny (model prog w) A (setEntries O) Q E s:=fun A E Q z=>wpAny_setEntries_of ho2 hd2 T2.fits z
  have eS:∀ (A:Around) (E:Value->Shared->Prop) (Q:Array (Int × Value)->Shared->Prop),Q es s->wpAny (model prog w) A (setEntries S) Q E s:=fun A E Q z=>wpAny_setEntries_of ho hd T.fits z
  have eN:∀ (A:Around) (E:Value->Shared->Prop) (Q:Value->Shared->Prop),Q (.ref s.heap.objs.size) { s with heap:=s.heap.push (AK !(w.params.followText "set-order")) }->wpAny (model prog w) A (newSet (if true=true then .type "set" else .type "frozenset")) Q E s:=fun A E Q z=>JV z
  generalize hfr:AK (!(w.params.followText "set-order"))=fr at sx0 eN
  have kS:∀ c o,s.heap.get? c=some o->(s.heap.push fr).get? c=some o:=fun c o e=>Heap.get?_push_of_some _ e
  have eW:∀ (A:Around) (E:Value->Shared->Prop) (l:List Addr) (f:Option Addr) (Q:Array (Int × Value)->Shared->Prop),Q (wv w S ep es) { s with heap:=s.heap.push fr }->wpAny (model prog w) A (setWalkUnseen S l f) Q E { s with heap:=s.heap.push fr }:=fun A E l f Q z=>Iz (s:={ s with heap:=s.heap.push fr }) (kS _ _ ho) hd T hled z
  have eE:∀ (s':Shared),(∀ c o,s.heap.get? c=some o->s'.heap.get? c=some o)->∀ (A:Around) (E:Value->Shared->Prop) (Q:Nat->Shared->Prop),Q ep s'->wpAny (model prog w) A (setEpoch S) Q E s':=fun s' k A E Q z=>wpAny_setEpoch_of (k _ _ ho) hd T.fits z
  have eE0:=eE { s with heap:=s.heap.push fr } kS
  unfold Builtin.Frozenset.difference Builtin.Frozenset.isAnySet Builtin.Frozenset.baseOf Builtin.Frozenset.sizeOf Builtin.Frozenset.unchanged
  wp_walk using eO,eS,eN,eW,eE0,wpAny_forIn_array' _ (fun rest _ s'=>∃ zd zr,zd ++ zr=zs /\ rest=zr.map (·.1) /\ SX s'.heap ((zd.map (·.2)).filter (fun k=>!decide (k ∈ kb))) /\ (∀ c o,s.heap.get? c=some o->s'.heap.get? c=some o) /\ ∃ h' tk,s'={ s with heap:=h',toks:=tk }) _
  case turn=>
    rintro ⟨h,x⟩ rest _ s' ⟨zd,zr,hzz,hr,sx,kp,h',tk,rfl⟩
    cases zr with
    | nil=>cases hr
    | cons z zr=>
      rw [List.map_cons] at hr
      obtain ⟨e1,e2⟩:=List.cons.inj hr
      have hm:z ∈ zs:=by rw [← hzz]; simp
      have f1:∀ (Q:Option Nat->Shared->Prop),(∀ rr:Option Nat,rr.isSome=decide (z.2 ∈ kb)->Q rr { s with heap:=h',toks:=tk })->wpAny (model prog w) A (setFind O x h) Q E { s with heap:=h',toks:=tk }:=fun Q q=>by
        have:=find { s with heap:=h',toks:=tk } z Q hm kp q
        rw [← e1] at this
        exact this
      have hnd:z.2 ∉ zd.map (·.2):=by
        rw [← hzz,List.map_append,List.map_cons] at nd
        exact fun q=>(List.nodup_append.mp nd).2.2 _ q _ List.mem_cons_self rfl
      wp_walk using f1
      intro rr hrr
      refine wpAny_bind (wpAny_pure ?_)
      dsimp only
      rw [hrr]
      have snoc:(zd ++ [z]).map (·.2)=zd.map (·.2) ++ [z.2]:=by rw [List.map_append]; rfl
      have fl:List.filter (fun k=>!decide (k ∈ kb)) ((zd ++ [z]).map (·.2))=List.filter (fun k=>!decide (k ∈ kb)) (zd.map (·.2)) ++ (if z.2 ∈ kb then [] else [z.2]):=by
        rw [snoc,List.filter_append]
        by_cases hk:z.2 ∈ kb <;> simp [hk]
      by_cases hk:z.2 ∈ kb
      . rw [decide_eq_true hk]
        rw [if_pos hk,List.append_nil] at fl
        refine wpAny_pure ?_
        refine wpAny_bind (wpAny_bind (eE { s with heap:=h',toks:=tk } kp _ _ _ ?_))
        rw [if_neg (by simp)]
        exact wpAny_pure (wpAny_pure ⟨zd ++ [z],zr,by rw [← hzz]; simp,e2,by rw [fl]; exact sx,kp,h',tk,rfl⟩)
      . rw [decide_eq_false hk]
        rw [if_neg hk] at fl
        refine wpAny_bind ?_
        have ln:(List.filter (fun k=>!decide (k ∈ kb)) (zd.map (·.2))).length + 1 <= zs.length:=by
          have l1:=List.length_filter_le (fun k=>!decide (k ∈ kb)) (zd.map (·.2))
          have l2:zs.length=zd.length + (zr.length + 1):=by rw [← hzz]; simp
          rw [List.length_map] at l1
          omega
        have ez:x=z.1.2 /\ h=z.1.1:=by rw [← e1]; exact ⟨rfl,rfl⟩
        rw [ez.1,ez.2]
        refine add { s with heap:=h',toks:=tk } _ z _ hm (fun q=>hnd (List.mem_filter.mp q).1) ln kp sx fun b h2 tk2 sb sx2=>wpAny_pure ?_
        have k2:∀ c o,s.heap.get? c=some o->h2.get? c=some o:=fun c o e=>(sb.2 c (Nat.ne_of_lt (Heap.lt_size e))).trans (kp c o e)
        refine wpAny_bind (wpAny_bind (eE { s with heap:=h2,toks:=tk2 } k2 _ _ _ ?_))
        rw [if_neg (by simp)]
        exact wpAny_pure (wpAny_pure ⟨zd ++ [z],zr,by rw [← hzz]; simp,e2,by rw [fl]; exact sx2,k2,h2,tk2,rfl⟩)
  case fin=>
    rintro _ s' ⟨zd,zr,hzz,hr,sx,kp,h',tk,rfl⟩
    cases zr with
    | cons z zr=>cases hr
    | nil=>
      rw [List.append_nil] at hzz
      subst hzz
      exact wpAny_pure (wpAny_pure (q h' tk kp sx))
  case h=>exact ⟨[],zs,rfl,hz,sx0,kS,_,_,rfl⟩
end
end Hs
set_option maxHeartbeats 4000000
namespace Hs
open PySem PySem.Spec PyProof.Rows Nk PySem.SetTable Ht L2
section
variable {prog:Program} {w:World} {A:Around} {E:Value->Shared->Prop} {s:Shared}
def SetN (h:Heap) (a:Addr) (n:Nat):Prop:=∃ o es ep t,h.get? a=some o /\ o.ExactSet /\ o.data=.set es ep t /\ t.fits es.size=true /\ es.size=n /\ n <= 18
theorem SetN.at {h h':Heap} {a:Addr} {n:Nat} (z:SetN h a n) (k:∀ o,h.get? a=some o->h'.get? a=some o):SetN h' a n:=by
  obtain ⟨o,es,ep,t,e1,rest⟩:=z
  exact ⟨o,es,ep,t,k o e1,rest⟩
structure Rn (t:SetTable) (n:Nat):Prop where
  pl:t.place = #[]
  dm:t.dummies = #[]
  plain:t.plain=true
  sm:Sm t.mask
  le:n <= t.mask
  big:8 <= n->t.mask=31
theorem Kt {t:SetTable} {n:Nat} (b:Rn t n):t.fits 0=true:=by
  unfold SetTable.fits SetTable.fill
  rw [b.pl,b.dm]
  simp
theorem HC {t:SetTable} {m:Nat} (hm:Sm (sizeAbove m - 1)) (hp:t.plain=true):∃ t1,t.relaid #[] m=some (t1,#[]) /\ t1.place = #[] /\ t1.dummies = #[] /\ t1.plain=true /\ t1.mask=sizeAbove m - 1 /\ t1.led=t.led:=by
  obtain ⟨place,order,e,_,e2,e3⟩:=GY hm #[] (Nat.zero_le _) t.finger (t.movedTo (sizeAbove m - 1)) t.led t.plain
  have p0:place = #[]:=Array.eq_empty_of_size_eq_zero e2
  have o0:order = #[]:=by
    have:=e3.length_eq
    simp at this
    exact this
  subst p0 o0
  unfold SetTable.relaid
  exact ⟨_,e,rfl,rfl,hp,rfl,rfl⟩
theorem Hz {n:Nat} (h1:5 <= n) (h2:n <= 11):(sizeAbove (n * 2)=16 ∨ sizeAbove (n * 2)=32) /\ (8 <= n->sizeAbove (n * 2)=32):=by
  have:∀ n,n <= 11->5 <= n->(sizeAbove (n * 2)=16 ∨ sizeAbove (n * 2)=32) /\ (8 <= n->sizeAbove (n * 2)=32):=by decide +kernel
  exact this n h2 h1
theorem LT {r:Addr} {led:Bool} {n:Nat} {Q:Unit->Shared->Prop} (ho:s.heap.get? r=some (AK led)) (h4:4 <= n) (h11:n <= 11)
    (q:∀ h' o ep t,Heap.SameBut r s.heap h'->h'.get? r=some o->o.ExactSet->o.data=.set #[] ep t->Rn t n->t.led=led->Q () { s with heap:=h' }):wpAny (model prog w) A (setRoomFor r n) Q E s:=by
  unfold setRoomFor
  refine wpAny_bind (wpAny_setState_of ho rfl rfl ?_)
  dsimp only
  by_cases h5:5 <= n
  . have e:(SetTable.fresh 0 0 led).roomFor n=some ((0 + n) * 2):=by
      unfold SetTable.roomFor
      rw [if_pos (by show (0 + n) * 5 ≥ 7 * 3; omega)]
      rfl
    rw [e,Nat.zero_add]
    dsimp only
    obtain ⟨hs,h8⟩:=Hz h5 h11
    obtain ⟨t1,e1,e2,e3,e4,e5,e6⟩:=HC (t:=SetTable.fresh 0 0 led) (m:=n * 2) (by rcases hs with z | z <;> rw [z] <;> decide) rfl
    unfold setRelay
    refine wpAny_bind (wpAny_setState_of ho rfl rfl ?_)
    dsimp only
    rw [if_neg (by rcases hs with z | z <;> rw [z,sizeLine_eq] <;> decide)]
    have em:Array.map (fun x:Int × Value=>x.1) #[] = #[]:=Array.map_empty ..
    rw [em,e1]
    wp_walk
    have fm:Array.filterMap (fun x:Nat=>(#[]:Array (Int × Value))[x]?) #[] = #[]:=by simp
    rw [fm]
    exact q _ _ _ t1 (Heap.SameBut.update s.heap r _) (CA ho rfl #[] t1) ⟨rfl,rfl,rfl⟩ rfl ⟨e2,e3,e4,by rw [e5]; rcases hs with z | z <;> rw [z] <;> decide,by rw [e5]; rcases hs with z | z <;> rw [z] <;> omega,fun z=>by rw [e5,h8 z]⟩ e6
  . have e:(SetTable.fresh 0 0 led).roomFor n=none:=by
      unfold SetTable.roomFor
      rw [if_neg (by show ¬ (0 + n) * 5 ≥ 7 * 3; omega)]
    rw [e]
    dsimp only
    refine wpAny_pure ?_
    exact q s.heap _ _ _ (Heap.SameBut.refl _ _) ho ⟨rfl,rfl,rfl⟩ rfl ⟨rfl,rfl,rfl,.inl rfl,by show n <= 7; omega,fun z=>by omega⟩ rfl
theorem Kd {r S:Addr} {led:Bool} {o:Obj} {es:Array (Int × Value)} {ep:Nat} {t:SetTable} {Q:Unit->Shared->Prop} (hne:r ≠ S) (hr:s.heap.get? r=some (AK led)) (ho:s.heap.get? S=some o) (hd:o.data=.set es ep t) (T:Tab t es.size) (h4:4 <= es.size) (h11:es.size <= 11)
    (q:∀ h' o' es' ep' t',Heap.SameBut r s.heap h'->h'.get? r=some o'->o'.ExactSet->o'.data=.set es' ep' t'->es'.size=es.size->t'.fits es'.size=true->t'.dummies = #[]->t'.mask ≥ 7->(8 <= es.size->es'=es /\ t'.place=t.place /\ t'.mask=t.mask /\ t'.plain=true)->Q () { s with heap:=h' }):wpAny (model prog w) A (setMerge r S) Q E s:=by
  unfold setMerge
  rw [if_neg (by simpa using hne)]
  refine wpAny_bind (wpAny_setState_of ho hd T.fits ?_)
  dsimp only
  rw [if_neg (by rw [Array.isEmpty_iff]; intro z; rw [z] at h4; simp at h4)]
  refine wpAny_bind (LT hr h4 h11 fun h1 o1 ep1 t1 sb1 g1 x1 d1 B l1=>?_)
  refine wpAny_bind (wpAny_setState_of (s:={ s with heap:=h1 }) g1 d1 (Kt B) ?_)
  dsimp only
  have f0:t1.fill=0:=by unfold SetTable.fill; rw [B.pl,B.dm]; rfl
  by_cases hm:t1.mask=t.mask
  . have er:t1.road t=.slotForSlot:=by
      unfold SetTable.road
      rw [f0,hm,T.dm]
      simp
    rw [er]
    dsimp only
    refine wpAny_storeSet_of (s:={ s with heap:=h1 }) g1 d1 ?_ (by rw [sizeLine_eq]; omega)
    refine q _ _ es _ _ (sb1.trans (Heap.SameBut.update h1 r _)) (CA g1 d1 es _) x1 rfl rfl ?_ T.dm ?_ fun _=>⟨rfl,rfl,rfl,?_⟩
    . exact T.fits
    . show t.mask ≥ 7
      rcases T.mks with ⟨z,_⟩ | ⟨z,_⟩ <;> rw [z] <;> decide
    . show (t1.plain && t.plain)=true
      rw [B.plain,T.pl]; rfl
  . have er:t1.road t=.clean:=by
      unfold SetTable.road
      rw [f0]
      simp [hm]
    rw [er]
    dsimp only
    have n8 : ¬ 8 <= es.size:=fun z=>hm (by
      rw [B.big z]
      rcases T.mks with ⟨a,b⟩ | ⟨a,b⟩
      . omega
      . exact a.symm)
    obtain ⟨place,order,e1,e2,e3,e4⟩:=GY B.sm (es.map (·.1)) (by rw [Array.size_map]; exact B.le) t1.finger t1.moves (t1.led && t.led) (t1.plain && t.plain)
    rw [e1]
    have fs:(order.filterMap (es[·]?)).size=es.size:=by
      have e4':order.toList.Perm (List.range es.size):=by rw [Array.size_map] at e4; exact e4
      have h1:((order.filterMap (es[·]?)).toList).Perm es.toList:=by
        rw [Array.toList_filterMap]
        exact (e4'.filterMap _).trans (by rw [filterMap_getElem?_range])
      have:=h1.length_eq
      rw [Array.length_toList,Array.length_toList] at this
      exact this
    rw [Array.size_map] at e3
    generalize hes:order.filterMap (es[·]?)=es1 at fs
    generalize htt:({ mask:=t1.mask,place:=place,dummies:=#[],finger:=t1.finger,led:=t1.led && t.led,moves:=t1.moves,plain:=t1.plain && t.plain }:SetTable)=t2
    have st:∀ (A:Around) (E:Value->Shared->Prop) (Q:Unit->Shared->Prop),Q () { s with heap:=h1.update r (Obj.putSet es1 t2) }->wpAny (model prog w) A (storeSet r es1 t2) Q E { s with heap:=h1 }:=fun A E Q z=>wpAny_storeSet_of (s:={ s with heap:=h1 }) g1 d1 z (by rw [sizeLine_eq]; omega)
    refine wpAny_bind (wpAny_of_eq (a:=(es1,t2)) ?_ ?_)
    . show (if ((order.filterMap (es[·]?)).size != es.size)=true then PySem.unsupported "internal:set-table-lost-an-element" >>= fun _=>Pure.pure (order.filterMap (es[·]?),t2) else Pure.pure (order.filterMap (es[·]?),t2))=Pure.pure (es1,t2)
      rw [hes,if_neg (by rw [fs]; simp)]
    dsimp only
    refine st _ _ _ ?_
    subst htt
    refine q _ _ es1 _ _ (sb1.trans (Heap.SameBut.update h1 r _)) (CA g1 d1 es1 _) x1 rfl fs ?_ rfl ?_ fun z=>absurd z n8
    . unfold SetTable.fits SetTable.fill
      have:=B.le
      simp [e3,fs]
      omega
    . show t1.mask ≥ 7
      rcases B.sm with z | z | z <;> rw [z] <;> decide
theorem Good.like {t u:SetTable} {es:Array (Int × Value)} (g:Good t es) (h1:u.place=t.place) (h2:u.mask=t.mask) (d1:t.dummies = #[]) (d2:u.dummies = #[]):Good u es:=by
  have hs:∀ x,u.slot x=t.slot x:=fun x=>by unfold SetTable.slot; rw [h1,d1,d2]
  intro q hq
  have hq':q ∈ prs t es:=by unfold prs at hq ⊢; rw [← h1]; exact hq
  exact (g q hq').mono h2.symm fun x hx=>by rw [hs]; exact hx
theorem E6 {α:Type} (xs:Array α) {i:Nat} (h:i < xs.size):(eraseAt xs i).size=xs.size - 1:=by
  unfold eraseAt
  simp
  omega
theorem FR {α:Type} [DecidableEq α] {ns:List α} (nd:ns.Nodup) (k:α):(ns.filter fun x=>!decide (x ∈ [k])).length=if k ∈ ns then ns.length - 1 else ns.length:=by
  induction ns with
  | nil=>rfl
  | cons n ns ih=>
    obtain ⟨h1,h2⟩:=List.nodup_cons.mp nd
    have ih:=ih h2
    by_cases e:n=k
    . subst e
      rw [List.filter_cons_of_neg (by simp),ih,if_neg h1,if_pos (by simp)]
      simp
    . rw [List.filter_cons_of_pos (by simp [e]),List.length_cons,ih]
      by_cases hk:k ∈ ns
      . rw [if_pos hk,if_pos (List.mem_cons_of_mem _ hk)]
        have:=List.length_pos_of_mem hk
        simp
        omega
      . rw [if_neg hk,if_neg (by simp [hk,Ne.symm e])]
        rfl
theorem MU {id:String} {S O:Addr} {o o2:Obj} {es es2:Array (Int × Value)} {ep ep2:Nat} {t t2:SetTable} {ns ns2:List NK} {P P2:NK->Addr->Prop} {Q:Value->Shared->Prop}
    (hu:(kind prog w).room A) (hP:∀ k b,P k b->(kind prog w).is s.heap k b) (hP2:∀ k b,P2 k b->(kind prog w).is s.heap k b)
    (ho:s.heap.get? S=some o) (hex:o.ExactSet) (hd:o.data=.set es ep t) (T:Tab t es.size) (g:Good t es) (el:EL P es.toList ns) (nd:ns.Nodup) (ho2:s.heap.get? O=some o2) (hex2:o2.ExactSet) (hd2:o2.data=.set es2 ep2 t2) (T2:Tab t2 es2.size) (el2:EL P2 es2.toList ns2) (hled2:t2.led = !(w.params.followText "set-order"))
    (far:es.size / 4 > es2.size) (h11:es.size <= 11)
    (q:∀ h' tk,(∀ c o,s.heap.get? c=some o->h'.get? c=some o)->SetN h' s.heap.objs.size (ns.filter fun k=>!decide (k ∈ ns2)).length->Q (.ref s.heap.objs.size) { s with heap:=h',toks:=tk }) :
    wpAny (model prog w) A (Builtin.Frozenset.difference id S (.ref O)) Q E s:=by
  have h4:4 <= es.size:=by omega
  have tS:s.TypeIs (.ref S) "set" := ⟨o,ho,hex.1⟩
  have tO:s.TypeIs (.ref O) "set" := ⟨o2,ho2,hex2.1⟩
  have z1:=Hy
  have eO:∀ (A:Around) (E:Value->Shared->Prop) (Q:Array (Int × Value)->Shared->Prop),Q es2 s->wpAny (model prog w) A (setEntries O) Q E s:=fun A E Q z=>wpAny_setEntries_of ho2 hd2 T2.fits z
  have eS:∀ (A:Around) (E:Value->Shared->Prop) (Q:Array (Int × Value)->Shared->Prop),Q es s->wpAny (model prog w) A (setEntries S) Q E s:=fun A E Q z=>wpAny_setEntries_of ho hd T.fits z
  have eN:∀ (A:Around) (E:Value->Shared->Prop) (Q:Value->Shared->Prop),Q (.ref s.heap.objs.size) { s with heap:=s.heap.push (AK !(w.params.followText "set-order")) }->wpAny (model prog w) A (newSet (if true=true then .type "set" else .type "frozenset")) Q E s:=fun A E Q z=>JV z
  generalize hfr:AK (!(w.params.followText "set-order"))=fr at eN
  have kS:∀ c o,s.heap.get? c=some o->(s.heap.push fr).get? c=some o:=fun c o e=>Heap.get?_push_of_some _ e
  have hr:(s.heap.push fr).get? s.heap.objs.size=some fr:=by rw [← hfr]; exact Heap.get?_push_size _ rfl
  have neS:s.heap.objs.size ≠ S:=Nat.ne_of_gt (Heap.lt_size ho)
  have neO:O ≠ s.heap.objs.size:=Nat.ne_of_lt (Heap.lt_size ho2)
  have eM:∀ (A:Around) (E:Value->Shared->Prop) (Q:Unit->Shared->Prop),(∀ h' o' es' ep' t',Heap.SameBut s.heap.objs.size (s.heap.push fr) h'->h'.get? s.heap.objs.size=some o'->o'.ExactSet->o'.data=.set es' ep' t'->es'.size=es.size->t'.fits es'.size=true->t'.dummies = #[]->t'.mask ≥ 7->(8 <= es.size->es'=es /\ t'.place=t.place /\ t'.mask=t.mask /\ t'.plain=true)->Q () { s with heap:=h' })->wpAny (model prog w) A (setMerge s.heap.objs.size S) Q E { s with heap:=s.heap.push fr }:=fun A E Q z=>Kd (s:={ s with heap:=s.heap.push fr }) neS (by rw [← hfr] at hr ⊢; exact hr) (kS _ _ ho) hd T h4 h11 z
  unfold Builtin.Frozenset.difference Builtin.Frozenset.isAnySet Builtin.Frozenset.baseOf Builtin.Frozenset.sizeOf Builtin.Frozenset.copyOf Builtin.Frozenset.baseOf
  wp_walk using eO,eS,eN,eM
  intro h' o' es' ep' t' sb g1 x1 d1 sz ft dm m7 big
  have kh:∀ c o,s.heap.get? c=some o->h'.get? c=some o:=fun c o e=>(sb.2 c (Nat.ne_of_lt (Heap.lt_size e))).trans (kS c o e)
  have nb:(Value.ref O == Value.ref s.heap.objs.size)=false:=by simpa using neO
  have tO1:Shared.TypeIs { s with heap:=h' } (.ref O) "set" := ⟨o2,kh _ _ ho2,hex2.1⟩
  have eO1:∀ (A:Around) (E:Value->Shared->Prop) (Q:Array (Int × Value)->Shared->Prop),Q es2 { s with heap:=h' }->wpAny (model prog w) A (setEntries O) Q E { s with heap:=h' }:=fun A E Q z=>wpAny_setEntries_of (s:={ s with heap:=h' }) (kh _ _ ho2) hd2 T2.fits z
  have eR1:∀ (A:Around) (E:Value->Shared->Prop) (Q:Array (Int × Value)->Shared->Prop),Q es' { s with heap:=h' }->wpAny (model prog w) A (setEntries s.heap.objs.size) Q E { s with heap:=h' }:=fun A E Q z=>wpAny_setEntries_of (s:={ s with heap:=h' }) g1 d1 ft z
  have eE:∀ (s':Shared),(∀ c o,s.heap.get? c=some o->s'.heap.get? c=some o)->∀ (A:Around) (E:Value->Shared->Prop) (Q:Nat->Shared->Prop),Q ep2 s'->wpAny (model prog w) A (setEpoch O) Q E s':=fun s' k A E Q z=>wpAny_setEpoch_of (k _ _ ho2) hd2 T2.fits z
  have eE1:=eE { s with heap:=h' } kh
  have eW:∀ (A:Around) (E:Value->Shared->Prop) (l:List Addr) (f:Option Addr) (Q:Array (Int × Value)->Shared->Prop),Q (wv w O ep2 es2) { s with heap:=h' }->wpAny (model prog w) A (setWalkUnseen O l f) Q E { s with heap:=h' }:=fun A E l f Q z=>Iz (s:={ s with heap:=h' }) (kh _ _ ho2) hd2 T2 hled2 z
  have c8 : ¬ es2.size / 8 > es'.size:=by omega
  have len:es.size=ns.length:=by have:=el.len; simpa using this
  generalize hN:(ns.filter fun k=>!decide (k ∈ ns2)).length=N at q
  have tidy:∀ (s':Shared) (Q:Unit->Shared->Prop),(∃ o'' es'' ep'' t'',s'.heap.get? s.heap.objs.size=some o'' /\ o''.ExactSet /\ o''.data=.set es'' ep'' t'' /\ t''.fits es''.size=true /\ es''.size=N /\ t''.dummies.size <= 1 /\ t''.mask ≥ 7)->Q () s'->wpAny (model prog w) A (setTidy s.heap.objs.size) Q E s':=fun s' Q ⟨o'',es'',ep'',t'',a1,a2,a3,a4,a5,a6,a7⟩ hq=>by
    unfold setTidy
    refine wpAny_bind (wpAny_setState_of a1 a3 a4 ?_)
    dsimp only
    rw [if_neg (by unfold SetTable.tooManyDummies; simp; omega)]
    exact wpAny_pure hq
  have wl:(wv w O ep2 es2).toList.Perm es2.toList:=DM w O ep2 es2
  unfold Builtin.Frozenset.addrOf Builtin.Frozenset.differenceUpdate Builtin.Frozenset.isAnySet Builtin.Frozenset.sizeOf Builtin.Frozenset.unchanged
  wp_walk using eO1,eR1
  rw [if_neg c8]
  wp_walk using eE1,eW,wpAny_forIn_array' _ (fun rest _ s'=>(rest=(wv w O ep2 es2).toList /\ s'={ s with heap:=h' } /\ rest ≠ []) ∨ (rest=[] /\ (∀ c o,s.heap.get? c=some o->s'.heap.get? c=some o) /\ (∃ h' tk,s'={ s with heap:=h',toks:=tk }) /\ ∃ o'' es'' ep'' t'',s'.heap.get? s.heap.objs.size=some o'' /\ o''.ExactSet /\ o''.data=.set es'' ep'' t'' /\ t''.fits es''.size=true /\ es''.size=N /\ t''.dummies.size <= 1 /\ t''.mask ≥ 7)) _
  case turn=>
    rintro ⟨h,x⟩ rest _ s' (⟨e1,rfl,_⟩ | ⟨e1,_⟩)
    . have l2:=wl.length_eq
      rw [← e1,List.length_cons] at l2
      have l3:es2.toList.length=es2.size:=Array.length_toList
      have hrest:rest=[]:=List.eq_nil_of_length_eq_zero (by omega)
      subst hrest
      have h8:8 <= es.size:=by rw [List.length_nil] at l2; omega
      obtain ⟨rfl,p1,m1,pl1⟩:=big h8
      rw [← e1] at wl
      have e2:es2.toList=[(h,x)]:=(List.perm_singleton.mp wl.symm)
      have el2':=el2
      rw [e2] at el2'
      unfold EL at el2'
      obtain ⟨k,ks',b,rfl,ex,hb,er⟩:=el2'
      unfold EL at er
      subst er
      cases ex
      have T':Tab t' es'.size:=⟨by rw [p1]; exact T.ris,by rw [p1]; exact T.sz,dm,by rw [m1]; exact T.mks,pl1⟩
      have g':Good t' es':=g.like p1 m1 T.dm dm
      have cnt:=FR nd k
      rw [hN] at cnt
      unfold setDiscardHashed
      refine wpAny_bind (wpAny_holding (wpAny_bind (MN (s:={ s with heap:=h' }) hu (fun k b z=>GZ kh k b (hP k b z)) g1 d1 el T' g' (GZ kh k b (hP2 k b hb)) (fun i hi hm=>?_) (fun hm=>?_))))
      . dsimp only
        refine wpAny_bind (wpAny_setState_of (s:={ s with heap:=h' }) g1 d1 ft ?_)
        dsimp only
        have hj:t'.place[i]? = some (t'.place[i]'(by rw [T'.sz]; exact hi)):=by simp [T'.sz,hi]
        have hdr:t'.drop i={ t' with place:=eraseAt t'.place i,dummies:=insertAt t'.dummies (below t'.dummies (t'.place[i]'(by rw [T'.sz]; exact hi))) (t'.place[i]'(by rw [T'.sz]; exact hi)) }:=by
          unfold SetTable.drop
          rw [hj]
        generalize t'.place[i]'(by rw [T'.sz]; exact hi)=j at hdr
        have hds:(insertAt t'.dummies (below t'.dummies j) j).size=1:=by
          have:=(insertAt_perm t'.dummies (below t'.dummies j) j).length_eq
          rw [dm] at this
          simp at this
          rw [dm]
          exact this
        have hps:(eraseAt t'.place i).size=es'.size - 1:=by rw [E6 _ (by rw [T'.sz]; exact hi),T'.sz]
        have hes:(eraseAt es' i).size=es'.size - 1:=E6 _ hi
        refine wpAny_bind (wpAny_storeSet_of (s:={ s with heap:=h' }) g1 d1 ?_ (by rw [sizeLine_eq]; omega))
        have ff:(t'.drop i).fits (eraseAt es' i).size=true:=by
          rw [hdr]
          unfold SetTable.fits SetTable.fill
          simp only [hps,hes,hds]
          have:=T'.mks
          simp
          omega
        have k2:∀ c o,s.heap.get? c=some o->(h'.update s.heap.objs.size (Obj.putSet (eraseAt es' i) (t'.drop i))).get? c=some o:=fun c o e=>((Heap.SameBut.update h' s.heap.objs.size _).2 c (Nat.ne_of_lt (Heap.lt_size e))).trans (kh c o e)
        have gp:=CA g1 d1 (eraseAt es' i) (t'.drop i)
        have eEx:=eE { s with heap:=h'.update s.heap.objs.size (Obj.putSet (eraseAt es' i) (t'.drop i)) } k2
        wp_walk using eEx
        refine .inr ⟨rfl,k2,⟨_,_,rfl⟩,_,_,_,_,gp,x1,rfl,ff,?_,?_,?_⟩
        . rw [hes,cnt,if_pos (List.mem_of_getElem? hm),← len]
        . rw [hdr]
          exact Nat.le_of_eq hds
        . rw [hdr]
          exact m7
      . dsimp only
        wp_walk using eE1
        refine .inr ⟨rfl,kh,⟨_,_,rfl⟩,_,_,_,_,g1,x1,d1,ft,?_,by rw [dm]; simp,m7⟩
        rw [cnt,if_neg hm,len]
    . cases e1
  case fin=>
    rintro _ s' (⟨_,_,z⟩ | ⟨_,kp,⟨h2,tk2,rfl⟩,fin⟩)
    . exact absurd rfl z
    . refine wpAny_pure (tidy _ _ fin ?_)
      refine wpAny_pure (q h2 tk2 kp ?_)
      obtain ⟨o'',es'',ep'',t'',a1,a2,a3,a4,a5,a6,a7⟩:=fin
      refine ⟨o'',es'',ep'',t'',a1,a2,a3,a4,a5,?_⟩
      have:=List.length_filter_le (fun k=>!decide (k ∈ ns2)) ns
      omega
  case h=>
    by_cases hn:(wv w O ep2 es2).toList=[]
    . rw [hn] at wl
      have e0:es2.toList=[]:=wl.symm.eq_nil
      have el2':=el2
      rw [e0] at el2'
      unfold EL at el2'
      subst el2'
      refine .inr ⟨hn,kh,⟨_,_,rfl⟩,_,_,_,_,g1,x1,d1,ft,?_,by rw [dm]; simp,m7⟩
      have ef:(ns.filter fun k=>!decide (k ∈ ([]:List NK)))=ns:=List.filter_eq_self.mpr fun a _=>by simp
      rw [← hN,sz,len,ef]
    . exact .inl ⟨rfl,rfl,hn⟩
end
end Hs
set_option maxHeartbeats 4000000
namespace Hs
open PySem PySem.Spec PyProof.Rows Nk PySem.SetTable Ht L2
section
variable {prog:Program} {w:World} {A:Around} {E:Value->Shared->Prop} {s:Shared}
theorem Gy {S O:Addr} {Q:Value->Shared->Prop} {o o2:Obj} (ho:s.heap.get? S=some o) (hex:o.ExactSet) (ho2:s.heap.get? O=some o2) (hex2:o2.ExactSet)
    (h:∀ id,wpAny (model prog w) A.in1 (Builtin.Frozenset.difference id S (.ref O)) (fun v s'=>v ≠ .notImplemented /\ Q v s') E s):wpAny (model prog w) A (binaryOp .Sub (.ref S) (.ref O)) Q E s:=by
  have tS:s.TypeIs (.ref S) "set" := ⟨o,ho,hex.1⟩
  have tO:s.TypeIs (.ref O) "set" := ⟨o2,ho2,hex2.1⟩
  have z1:=Hy
  refine wpAny_binaryOp_same (T := "set") (id := "set.__sub__") tS tO PySem.F.fills_set_sub PySem.F.slot_set_sub ?_
  refine wpAny_call_entry PySem.F.slot_set_sub tS FW ?_ (PySem.F.args_set_sub_2 _ _)
  unfold Builtin.«frozenset.__sub__»
  have hD:∀ (id:String) (Q':Value->Shared->Prop),(∀ v s',(v ≠ .notImplemented /\ Q v s')->Q' v s')->wpAny (model prog w) A.in1 (Builtin.Frozenset.difference id S (if false=true then (Value.ref O,Value.ref S) else (Value.ref S,Value.ref O)).snd) Q' E s:=fun id Q' z=>wpAny_mono (h id) z fun _ _ x=>x
  wp_walk
  rw [hex.1]
  wp_walk
  rw [hex2.1]
  wp_walk using hD
  intro v s' z
  exact wpAny_pure ⟨_,rfl,z⟩
theorem EL.zips {P:NK->Addr->Prop}:∀ {es:List (Int × Value)} {ns:List NK},EL P es ns->∃ zs:List ((Int × Value) × NK),es=zs.map (·.1) /\ ns=zs.map (·.2) /\ ∀ z ∈ zs,∃ b,z.1=(z.2.hash,.ref b) /\ P z.2 b
  | [],_,e=>by unfold EL at e; subst e; exact ⟨[],rfl,rfl,fun z hz=>by cases hz⟩
  | _ :: _,_,e=>by
    unfold EL at e
    obtain ⟨k,ks',b,rfl,rfl,hb,r⟩:=e
    obtain ⟨zs,h1,h2,h3⟩:=EL.zips r
    refine ⟨((k.hash,.ref b),k) :: zs,by rw [List.map_cons,← h1],by rw [List.map_cons,← h2],fun z hz=>?_⟩
    rcases List.mem_cons.mp hz with rfl | hz
    . exact ⟨b,rfl,hb⟩
    . exact h3 z hz
theorem CB {α:Type} [DecidableEq α] {a b c d:List α} (p:a.Perm b) (q:c.Perm d):(a.filter fun k=>!decide (k ∈ c)).length=(b.filter fun k=>!decide (k ∈ d)).length:=by
  have:(fun k=>!decide (k ∈ c))=fun k=>!decide (k ∈ d):=by
    funext k
    by_cases h:k ∈ c
    . rw [decide_eq_true h,decide_eq_true (q.mem_iff.mp h)]
    . rw [decide_eq_false h,decide_eq_false fun z=>h (q.mem_iff.mpr z)]
  rw [this]
  exact (p.filter _).length_eq
theorem Qw {S O:Addr} {ka kb:List NK} {P P2:NK->Addr->Prop} {Q:Value->Shared->Prop} (hu:(kind prog w).room A.in1) (hP:∀ h,(∀ c o,s.heap.get? c=some o->h.get? c=some o)->∀ k b,P k b->(kind prog w).is h k b) (hP2:∀ h,(∀ c o,s.heap.get? c=some o->h.get? c=some o)->∀ k b,P2 k b->(kind prog w).is h k b)
    (nd:ka.Nodup) (hS:SetC w P s.heap S ka) (hO:SetC w P2 s.heap O kb) (h11:ka.length <= 11)
    (q:∀ h' tk,(∀ c o,s.heap.get? c=some o->h'.get? c=some o)->SetN h' s.heap.objs.size (ka.filter fun k=>!decide (k ∈ kb)).length->Q (.ref s.heap.objs.size) { s with heap:=h',toks:=tk }) :
    wpAny (model prog w) A (binaryOp .Sub (.ref S) (.ref O)) Q E s:=by
  obtain ⟨o,es,ep,t,ns,ho,hex,hd,el,hp,T,g,hled⟩:=hS
  obtain ⟨o2,es2,ep2,t2,ns2,ho2,hex2,hd2,el2,hp2,T2,g2,hled2⟩:=hO
  have ndn:ns.Nodup:=hp.nodup_iff.mpr nd
  have len:es.size=ns.length:=by have:=el.len; simpa using this
  have len2:=hp.length_eq
  have cnt:=CB hp hp2
  refine Gy ho hex ho2 hex2 fun id=>?_
  have kk:∀ c o,s.heap.get? c=some o->s.heap.get? c=some o:=fun _ _ e=>e
  by_cases near:es.size / 4 > es2.size
  . exact MU hu (hP _ kk) (hP2 _ kk) ho hex hd T g el ndn ho2 hex2 hd2 T2 el2 hled2 near (by omega) fun h' tk kp sn=>⟨fun z=>(nomatch z),q h' tk kp (by rw [← cnt]; exact sn)⟩
  . obtain ⟨zs0,z1,z2,z3⟩:=el.zips
    obtain ⟨zs,y1,y2⟩:=Ee (fun z:(Int × Value) × NK=>z.1) (DM w S ep es) z1
    have y3:(zs.map (·.2)).Perm ns:=by rw [z2]; exact y2.map _
    have zlen:zs.length <= 11:=by
      have:=y3.length_eq
      rw [List.length_map] at this
      omega
    refine F1 (κ:=NK) (zs:=zs) (kb:=ns2) (SX:=fun h acc=>SetC w P h s.heap.objs.size acc) ho hex hd T hled ho2 hex2 hd2 T2 near y1 (y3.nodup_iff.mpr ndn) (fun s' z Q' hz kp hq=>?_) (fun s' acc z Q' hz hn hl kp sx hq=>?_) ?_ fun h' tk kp sx=>⟨fun z=>(nomatch z),q h' tk kp ?_⟩
    . obtain ⟨b,hb1,hb2⟩:=z3 z (y2.mem_iff.mp hz)
      rw [hb1]
      exact MN hu (hP2 _ kp) (kp _ _ ho2) hd2 el2 T2 g2 (hP _ kp _ _ hb2) (fun i hi hm=>hq _ (by rw [decide_eq_true (List.mem_of_getElem? hm)]; rfl)) (fun hm=>hq _ (by rw [decide_eq_false hm]; rfl))
    . obtain ⟨b,hb1,hb2⟩:=z3 z (y2.mem_iff.mp hz)
      rw [hb1]
      refine GE hu (hP _ kp) sx hb2 (by rw [if_neg hn,List.length_append,List.length_singleton]; omega) fun b h' tk sb sc=>?_
      rw [if_neg hn] at sc
      exact hq b h' tk sb sc
    . refine ⟨_,#[],0,_,[],Heap.get?_push_size _ rfl,⟨rfl,rfl,rfl⟩,rfl,?_,.refl _,Dh _,?_,rfl⟩
      . unfold EL; rfl
      . intro e he
        cases he
    . obtain ⟨o3,es3,ep3,t3,ns3,a1,a2,a3,a4,a5,a6,a7,a8⟩:=sx
      refine ⟨o3,es3,ep3,t3,a1,a2,a3,a6.fits,?_,?_⟩
      . have:=a4.len
        rw [a5.length_eq,CB y3 (.refl _),cnt] at this
        simpa using this
      . have:=List.length_filter_le (fun k=>!decide (k ∈ kb)) ka
        omega
theorem EN.zips {l:List (Int × Value)} (hel:ElemsOf (intKind prog w) l):∀ {ns:List Int},EN l ns->∃ zs:List ((Int × Value) × Int),l=zs.map (·.1) /\ ns=zs.map (·.2) /\ ∀ z ∈ zs,z.1.1=(intKind prog w).hash z.2 /\ (intKind prog w).is z.2 z.1.2=true /\ z.1.2.scannable=true:=by
  induction l with
  | nil=>intro ns h; have h:IntsAre [] ns:=h; cases h; exact ⟨[],rfl,rfl,fun z hz=>by cases hz⟩
  | cons e l ih=>
    intro ns h
    obtain ⟨a,v⟩:=e
    have h:IntsAre (v :: l.map (·.2)) ns:=h
    cases h with
    | cons n t h1=>
      obtain ⟨⟨k,hk,hh⟩,hs⟩:=hel.head
      have ek:k=n:=by
        have:Value.isInt k (.int n t)=true:=hk
        simp [Value.isInt] at this
        exact this.symm
      subst ek
      obtain ⟨zs,h2,h3,h4⟩:=ih hel.tail h1
      refine ⟨((a,.int k t),k) :: zs,by rw [List.map_cons,← h2],by rw [List.map_cons,← h3],fun z hz=>?_⟩
      rcases List.mem_cons.mp hz with rfl | hz
      . exact ⟨hh,hk,rfl⟩
      . exact h4 z hz
theorem Qv {S O:Addr} {ka kb:List Int} {Q:Value->Shared->Prop} (nd:ka.Nodup) (hS:SetI prog w s.heap S ka) (hO:SetI prog w s.heap O kb) (h3:ka.length <= 3)
    (q:∀ h' tk,(∀ c o,s.heap.get? c=some o->h'.get? c=some o)->SetN h' s.heap.objs.size (ka.filter fun k=>!decide (k ∈ kb)).length->Q (.ref s.heap.objs.size) { s with heap:=h',toks:=tk }) :
    wpAny (model prog w) A (binaryOp .Sub (.ref S) (.ref O)) Q E s:=by
  obtain ⟨o,es,ep,t,ho,hex,hd,hel,⟨ns,hen,hp⟩,T,hled⟩:=hS
  obtain ⟨o2,es2,ep2,t2,ho2,hex2,hd2,hel2,⟨ns2,hen2,hp2⟩,T2,hled2⟩:=hO
  have ndn:ns.Nodup:=hp.nodup_iff.mpr nd
  have len:es.size=ka.length:=Jk hen hp
  have cnt:=CB hp hp2
  refine Gy ho hex ho2 hex2 fun id=>?_
  obtain ⟨zs0,z1,z2,z3⟩:=EN.zips hel hen
  obtain ⟨zs,y1,y2⟩:=Ee (fun z:(Int × Value) × Int=>z.1) (DM w S ep es) z1
  have y3:(zs.map (·.2)).Perm ns:=by rw [z2]; exact y2.map _
  have zlen:zs.length <= 3:=by
    have l1:=y3.length_eq
    have l2:=hp.length_eq
    rw [List.length_map] at l1
    omega
  refine F1 (κ:=Int) (zs:=zs) (kb:=ns2) (SX:=fun h acc=>h.SetOf (intKind prog w) s.heap.objs.size (fun k=>decide (k ∈ acc)) acc.length) ho hex hd T hled ho2 hex2 hd2 T2 (by omega) y1 (y3.nodup_iff.mpr ndn) (fun s' z Q' hz kp hq=>?_) (fun s' acc z Q' hz hn hl kp sx hq=>?_) ?_ fun h' tk kp sx=>⟨fun z=>(nomatch z),q h' tk kp ?_⟩
  . obtain ⟨b1,b2,b3⟩:=z3 z (y2.mem_iff.mp hz)
    rw [b1]
    have hb:es2.size < scanBound:=by rcases T2.mks with ⟨_,b⟩ | ⟨_,b⟩ <;> (unfold scanBound; omega)
    exact wpAny_setFind_of (knd:=intKind prog w) (S:=fun k=>decide (k ∈ ns2)) b2 b3 ⟨o2,es2,ep2,t2,kp _ _ ho2,hex2,hd2,hel2,fun k=>by rw [decide_eq_true_iff]; exact (Ia hen2 k).symm,hb,T2.fits,rfl⟩ hq
  . obtain ⟨b1,b2,b3⟩:=z3 z (y2.mem_iff.mp hz)
    rw [b1]
    refine wpAny_setAddHashed_of (knd:=intKind prog w) b2 b3 sx (by unfold scanBound; omega) fun h' sb so=>hq _ h' _ sb ?_
    have e1:(fun k'=>decide (k' ∈ acc) || decide (k'=z.2))=fun k'=>decide (k' ∈ acc ++ [z.2]):=by
      funext k'
      rw [← Bool.decide_or]
      congr 1
      simp
    rw [e1,if_neg (by simpa using hn)] at so
    rw [List.length_append]
    exact so
  . refine ⟨_,#[],0,_,Heap.get?_push_size _ rfl,⟨rfl,rfl,rfl⟩,rfl,fun e he=>by simp at he,fun k=>by simp,by decide,by rfl,rfl⟩
  . obtain ⟨o3,es3,ep3,t3,a1,a2,a3,a4,a5,a6,a7,a8⟩:=sx
    refine ⟨o3,es3,ep3,t3,a1,a2,a3,a7,?_,?_⟩
    . rw [a8,CB y3 (.refl _),cnt]
    . have:=List.length_filter_le (fun k=>!decide (k ∈ kb)) ka
      omega
end
end Hs
namespace Mi
open PySem L2 Ht Nk
section
variable {X:Cx} {e:Expr}
def B3:D->List D->M D
  | .ref n,[]=>Gq n fun ds=>(ds[ds.length - 1]?).map fun d=>(d,ds.dropLast)
  | _,_=>BL
theorem IsL.dropLast {K:PySem.W.Frag} {ι:Nat->Addr} {k:Nat} {H:Hp} {ds:List D} {vs:List V} (h:IsL K ι k H ds vs):IsL K ι k H ds.dropLast vs.dropLast:=by
  rw [List.dropLast_eq_take,List.dropLast_eq_take,h.length]
  exact h.take _
theorem B8:MtR X "list.pop" (rMM X.K B3):=fun pins s σ H x xs v us Q I rx rs h=>by
  obtain ⟨ι,μ,a,as,d,μ',R,ia,ib,e,q⟩:=h
  unfold B3 at e
  split at e
  . rename_i n
    obtain ⟨ds,es,h1,h2,rfl⟩:=Fa e
    cases hd:ds[ds.length - 1]? with
    | none=>rw [hd] at h2; cases h2
    | some d0=>
      rw [hd] at h2
      cases h2
      unfold IsL at ib
      subst ib
      unfold Is at ia
      obtain ⟨_,rfl⟩:=ia
      obtain ⟨u,g1,vs,rfl,g2⟩:=R.obj n _ h1
      obtain ⟨w,ew,iw⟩:=g2.get hd
      refine P9 pins s σ H _ _ v us Q I rx rs ⟨_,vs,w,rfl,rfl,g1,by rw [g2.length]; exact ew,?_⟩
      exact JA R h1 g2.dropLast iw q
  . cases e
end
end Mi
namespace Mi
open PySem L2 Ht Nk PySem.SeqAt
section
variable {X:Cx} {e st:Expr} {pos p2:Pos}
def LX (d k:D):M D:=match k with
  | .int i=>if i = -1 then bnd (Ba d) fun ds=>Ek ds.reverse else BL
  | _=>BL
theorem PN {m ms:Sl->M D} (he:RE X e m) (hst:RE X st ms):RE X (.Subscript e (.Slice none none (some st) p2) pos) (mOp LX m ms):=RE.wk (Pl he.pe hst.pe) fun σ H Q h=>by
  obtain ⟨ι,μ,τ,d,μ',R,S,ev,q⟩:=h
  obtain ⟨x,μ1,e1,e2⟩:=AE ev
  obtain ⟨y,μ2,e3,e4⟩:=AE e2
  refine ⟨ι,μ,τ,x,μ1,R,S,e1,fun ι1 H1 E1 R1 v1 i1=>⟨ι1,μ1,τ,y,μ2,R1,S.ext E1,e3,fun ι2 H2 E2 R2 v2 i2=>?_⟩⟩
  unfold LX at e4
  split at e4
  . rename_i i
    split at e4
    . rename_i hi
      subst hi
      obtain ⟨ds,μ3,e5,e6⟩:=AE e4
      obtain ⟨hm,a,vs,rfl,h1,h2⟩:=BZ R2 (i1.ext E2) e5
      subst hm
      unfold Is at i2
      subst i2
      exact ⟨rfl,a,vs,rfl,h1,(JX R2 h2.reverse e6 fun ι3 H3 E3 R3 v3 i3=>q ι3 H3 ((E1.trans E2).trans E3) R3 v3 i3).2⟩
    . cases e4
  . cases e4
end
def C2:List D->Option (List Cs)
  | []=>some []
  | d :: r=>match Ku d,C2 r with
    | some c,some cs=>some (c :: cs)
    | _,_=>none
theorem B1:∀ {ds:List D} {cs:List Cs},C2 ds=some cs->ds=cs.map csD
  | [],cs,e=>by cases e; rfl
  | d :: r,cs,e=>by
    unfold C2 at e
    split at e
    . rename_i c cs' h1 h2
      cases e
      rw [GC h1,B1 h2]
      rfl
    . cases e
theorem CQ:∀ (cs:List Cs),C2 (cs.map csD)=some cs
  | []=>rfl
  | c :: r=>by
    have h:∀ ns:List Int,Bf (ns.map D.int)=some ns:=fun ns=>by
      induction ns with
      | nil=>rfl
      | cons n ns ih=>unfold List.map Bf; rw [ih]; rfl
    have h1:Ku (csD c)=some c:=by
      show (Bf (c.2.2.map D.int)).map (fun ns=>(c.1,c.2.1,ns))=some c
      rw [h]; rfl
    show C2 (csD c :: r.map csD)=_
    unfold C2
    rw [h1,CQ r]
theorem Il {X:Cx} {pins:List (Addr × Obj)} {σ:L2.St} {H:Hp} {s:Shared} {ι:Nat->Addr} {k:Nat} (I:Inv X pins σ H s):∀ {cs:List Cs} {vs:List V} {us:List Value},IsL X.K ι k H (cs.map csD) vs->Vals vs us->Ats s.heap (cs.map csK) us
  | [],_,_,i,r=>by
    unfold List.map IsL at i
    subst i
    cases r
    show Ats s.heap [] []
    unfold Ats; rfl
  | c :: cs,_,_,i,r=>by
    unfold List.map IsL at i
    obtain ⟨v,vs',rfl,i1,i2⟩:=i
    cases r with
    | cons r1 r2=>
      show Ats s.heap (csK c :: cs.map csK) _
      unfold Ats
      exact ⟨_,_,rfl,Mk I i1 r1,Il I i2 r2⟩
open Classical in
noncomputable def FU (h:Heap) (c:Cs) (u:Value):Bool:=decide (At h (csK c) u)
theorem Jd {h:Heap} {c d:Cs} {u:Value} (a:At h (csK d) u):FU h c u=decide (d=c):=by
  have e:(At h (csK c) u) ↔ d=c:=⟨fun z=>Bo (At.inj a z),fun z=>z ▸ a⟩
  unfold FU
  by_cases q:d=c
  . rw [decide_eq_true q]
    exact (@decide_eq_true_iff _ (Classical.propDecidable _)).mpr (e.mpr q)
  . rw [decide_eq_false q]
    exact (@decide_eq_false_iff_not _ (Classical.propDecidable _)).mpr fun z=>q (e.mp z)
theorem Io {h:Heap} {c:Cs}:∀ {cs:List Cs} {us:List Value},Ats h (cs.map csK) us->us.any (FU h c)=cs.any fun d=>decide (d=c)
  | [],_,a=>by unfold List.map Ats at a; subst a; rfl
  | d :: cs,_,a=>by
    unfold List.map Ats at a
    obtain ⟨v,us',rfl,a1,a2⟩:=a
    rw [List.any_cons,List.any_cons,Jd a1,Io a2]
def Jg (neg:Bool) (y d:D):M D:=bnd (A6 d) fun ds=>fun μ=>match Ku y,C2 ds with
  | some c,some cs=>some (.bl (if neg then !(cs.any fun z=>decide (z=c)) else cs.any fun z=>decide (z=c)),μ)
  | _,_=>none
section
variable {X:Cx}
theorem IN {A:Around} (hu:A.units + 8 < cLine) {s:Shared} {c:Cs} {x:Value} (hx:At s.heap (csK c) x):∀ {cs:List Cs} {us:List Value},Ats s.heap (cs.map csK) us->∀ y ∈ us,EqAt A s y x (FU s.heap c y)
  | [],_,a,y,hy=>by unfold List.map Ats at a; subst a; cases hy
  | d :: cs,_,a,y,hy=>by
    unfold List.map Ats at a
    obtain ⟨v,us',rfl,a1,a2⟩:=a
    rcases List.mem_cons.mp hy with rfl | hy
    . rw [Jd a1]
      have e:decide (d=c)=decide (csK d=csK c):=by
        by_cases z:d=c
        . rw [z]; simp
        . rw [decide_eq_false z,decide_eq_false fun q=>z (Bo q)]
      rw [e]
      exact At.eq (by have:=HZ d; omega) a1 hx
    . exact IN hu hx a2 y hy
theorem KU {k:Nat} (hr:Room k X.A):OpR X (compareOp .NotIn) (rM X.K (Jg true)):=fun pins s σ H x y v u Q I rx ry h=>by
  obtain ⟨ι,μ,a,b,d,μ',R,ia,ib,e,q⟩:=h
  obtain ⟨ds,μ1,e1,e2⟩:=AE e
  obtain ⟨hm,p,vs,rfl,h1,h2⟩:=Bs R ib e1
  subst hm
  split at e2
  . rename_i c cs hc hcs
    cases e2
    cases GC hc
    cases B1 hcs
    cases ry
    have hx:=Mk I ia rx
    rcases h1 with h1 | h1
    . obtain ⟨its,rv,pl,hz⟩:=I.list h1
      have hA:=Il I h2 rv
      refine notIn_listAt (FU s.heap c) pl.isList (fun w hw=>IN (A:=X.A.in1) (EY hr) hx hA w (by simpa using hw)) ⟨.bl _,H,I,rfl,?_⟩
      rw [show its.toArray.any (FU s.heap c)=its.any (FU s.heap c) by simp,Io hA]
      exact q ι H R.ext0 R _ (ofB _)
    . obtain ⟨its,rv,pl,hz⟩:=I.tuple h1
      have hA:=Il I h2 rv
      refine notIn_tupleAt (FU s.heap c) pl (fun w hw=>IN (A:=X.A.in1) (EY hr) hx hA w (by simpa using hw)) ⟨.bl _,H,I,rfl,?_⟩
      rw [show its.toArray.any (FU s.heap c)=its.any (FU s.heap c) by simp,Io hA]
      exact q ι H R.ext0 R _ (ofB _)
  . cases e2
end
end Mi
set_option maxHeartbeats 2000000
namespace Mi
open PySem PySem.Spec PyProof.Rows L2 Ht Nk Hs
def PC (K:PySem.W.Frag) (ι:Nat->Addr) (k:Nat) (H:Hp) (nk:NK) (b:Addr):Prop:=∃ c,nk=csK c /\ Is K ι k H (csD c) (.ref b)
def Cd (K:PySem.W.Frag) (w:World) (p:Addr) (ι:Nat->Addr) (k:Nat) (H:Hp) (cs:List Cs):HO:=.ext fun h=>SetC w (PC K ι k H) h p (cs.map csK)
def KC (p:Addr) (n:Nat):HO:=.ext fun h=>SetN h p n
theorem NN {α:Type} {p:List α->Prop} (h0:p []) (h1:∀ xs x,p xs->p (xs ++ [x])) (xs:List α):p xs:=by
  have h:∀ ys:List α,p ys.reverse:=fun ys=>by
    induction ys with
    | nil=>exact h0
    | cons y ys ih=>rw [List.reverse_cons]; exact h1 _ _ ih
  have:=h xs.reverse
  rw [List.reverse_reverse] at this
  exact this
theorem HG (cs:List Cs):AT (cs.map csK)=(AT cs).map csK:=by
  refine NN (p:=fun cs=>AT (cs.map csK)=(AT cs).map csK) rfl (fun xs x ih=>?_) cs
  show AT ((xs ++ [x]).map csK)=(AT (xs ++ [x])).map csK
  rw [List.map_append,List.map_cons,List.map_nil,Dk,Dk,ih]
  by_cases h:x ∈ AT xs
  . rw [if_pos (List.mem_map.mpr ⟨x,h,rfl⟩),if_pos h]
  . rw [if_neg fun z=>h (by obtain ⟨d,hd,e⟩:=List.mem_map.mp z; rw [← Bo e]; exact hd),if_neg h,List.map_append]
    rfl
theorem IV {X:Cx} {H:Hp} {ι:Nat->Addr} {k:Nat}:∀ {cs:List Cs} {vs:List V} {us:List Value},IsL X.K ι k H (cs.map csD) vs->Vals vs us->∀ (i:Nat) (u:Value),us[i]? = some u->∃ nk b,(cs.map csK)[i]? = some nk /\ u=.ref b /\ PC X.K ι k H nk b
  | [],_,_,i,r,j,u,e=>by
    unfold List.map IsL at i
    subst i
    cases r
    simp at e
  | c :: cs,_,_,i,r,j,u,e=>by
    unfold List.map IsL at i
    obtain ⟨v,vs',rfl,i1,i2⟩:=i
    cases r with
    | cons r1 r2=>
      cases j with
      | zero=>
        simp at e
        subst e
        have i1':=i1
        unfold csD Is at i1'
        obtain ⟨b,_,rfl,_⟩:=i1'
        cases r1
        exact ⟨csK c,b,rfl,rfl,c,rfl,i1⟩
      | succ j=>
        obtain ⟨nk,b,h1,h2,h3⟩:=IV i2 r2 j u (by simpa using e)
        exact ⟨nk,b,by simpa using h1,h2,h3⟩
section
variable {X:Cx}
theorem PC.is {pins:List (Addr × Obj)} {σ:L2.St} {H:Hp} {s:Shared} {ι:Nat->Addr} {k:Nat} (I:Inv X pins σ H s) {h:Heap} (kp:∀ c o,s.heap.get? c=some o->h.get? c=some o) (nk:NK) (b:Addr) (z:PC X.K ι k H nk b):(kind X.prog X.w).is h nk b:=by
  obtain ⟨c,rfl,i⟩:=z
  exact GZ kp _ _ (isC I i)
theorem SD {P:Program} {w:World} {K:PySem.W.Frag} {H' H:Hp} {h:Heap} {p:Addr} {ι:Nat->Addr} {k:Nat} {cs:List Cs} (z:SetC w (PC K ι k H) h p (cs.map csK)):ObjOk P w H' h p (Cd K w p ι k H cs):=by
  obtain ⟨o,es,ep,t,ns,e,rest⟩:=id z
  exact ⟨z,⟨o,e⟩,fun h1 h2 z k=>z.at k⟩
theorem okL {P:Program} {w:World} {H':Hp} {h:Heap} {p:Addr} {n:Nat} (z:SetN h p n):ObjOk P w H' h p (KC p n):=by
  obtain ⟨o,es,ep,t,e,rest⟩:=id z
  exact ⟨z,⟨o,e⟩,fun h1 h2 z k=>z.at k⟩
theorem FF {k0:Nat} (hr:Room k0 X.A) (hc:X.calm=true):A0 X (.type "set") (fun xs H Q=>∃ a cs vs ι k,xs=[.ref a] /\ (SqL X.K H a vs ∨ SqT X.K H a vs) /\ IsL X.K ι k H (cs.map csD) vs /\ (AT cs).length <= 18 /\ ∀ p,H p=none->Q (.ref p) (upd H p (Cd X.K X.w p ι k H (AT cs)))):=by
  intro pins s σ H xs us Q I r h
  obtain ⟨a,cs,vs,ι,k,rfl,ha,hi,room,q⟩:=h
  obtain ⟨u,rfl,ru⟩:=Vals.one r
  cases ru
  have hu:(kind X.prog X.w).room X.A.in1.in1.in1:=by
    have:=hr.un
    show X.A.units + 1 + 1 + 1 + 8 < cLine
    omega
  have hh:=I.ok.hd hc
  have room':(AT (cs.map csK)).length <= 18:=by rw [HG,List.length_map]; exact room
  have fin:∀ h' tk,(∀ c o,s.heap.get? c=some o->h'.get? c=some o)->SetC X.w (PC X.K ι k H) h' s.heap.objs.size (AT (cs.map csK))->EP X pins σ Q (.ref s.heap.objs.size) { s with heap:=h',toks:=tk }:=fun h' tk kp hS=>by
    rw [HG] at hS
    exact ⟨.ref s.heap.objs.size,_,I.laid (o:=Cd X.K X.w s.heap.objs.size ι k H (AT cs)) kp (Nat.le_refl _) (SD hS),rfl,q _ (I.hok.fresh (Nat.le_refl _))⟩
  rcases ha with ha | ha
  . obtain ⟨its,rv,pl,hz⟩:=I.list ha
    have hl:=pl.isList
    have len:its.toArray.size=(cs.map csK).length:=by have h1:=rv.length; have h2:=hi.length; simp at *; omega
    exact F7 (T := "list") (l:=a) (ns:=cs.map csK) (K:=PC X.K ι k H) hu (fun h kp nk b x=>PC.is I kp nk b x) (fp:=fun I=>[I,a]) (P:=fun i v=>its.toArray[i]? = some v) (St:=fun I i h=>h.IsListIter I a i /\ h.IsList a its.toArray) (itO:={ cls:=.type "list_iterator",data:=.fields #[.ref a,.int 0 0] }) PySem.F.sub_list_set PySem.F.sub_list_frozenset (by decide +kernel) (fun k=>(hl.at k).typeIs) (fun k z=>wpAny_pyIter_list (hl.at k) z) (fun I hI=>len ▸ Walks.list (by simp [hh]) I a hI its.toArray) (fun i v e=>IV hi rv i v (by simpa using e)) (fun I b hb=>by simpa using hb) (by obtain ⟨o,e,_⟩:=hl; exact ⟨o,e⟩) rfl (fun I e k=>⟨⟨_,e,rfl,rfl⟩,hl.at k⟩) room' fin
  . obtain ⟨its,rv,hl0,hz⟩:=I.tuple ha
    have hl:s.heap.IsTuple a its.toArray:=hl0
    have len:its.toArray.size=(cs.map csK).length:=by have h1:=rv.length; have h2:=hi.length; simp at *; omega
    exact F7 (T := "tuple") (l:=a) (ns:=cs.map csK) (K:=PC X.K ι k H) hu (fun h kp nk b x=>PC.is I kp nk b x) (fp:=fun I=>[I,a]) (P:=fun i v=>its.toArray[i]? = some v) (St:=fun I i h=>h.IsTupleIter I a i /\ h.IsTuple a its.toArray) (itO:={ cls:=.type "tuple_iterator",data:=.fields #[.ref a,.int 0 0] }) Dt Du (by decide +kernel) (fun k=>(hl.at k).typeIs) (fun k z=>wpAny_pyIter_tuple (hl.at k) z) (fun I hI=>len ▸ Walks.tuple (by simp [hh]) I a hI its.toArray) (fun i v e=>IV hi rv i v (by simpa using e)) (fun I b hb=>by simpa using hb) (by obtain ⟨o,e,_⟩:=hl; exact ⟨o,e⟩) rfl (fun I e k=>⟨⟨_,e,rfl,rfl⟩,hl.at k⟩) room' fin
theorem Ko:A0 X (.builtin "len") (fun xs H Q=>∃ p n,xs=[.ref p] /\ H p=some (KC p n) /\ Q (.int n) H):=by
  intro pins s σ H xs us Q I r h
  obtain ⟨p,n,rfl,hp,q⟩:=h
  obtain ⟨u,rfl,ru⟩:=Vals.one r
  cases ru
  obtain ⟨hS,_⟩:=I.hok p _ hp
  obtain ⟨o,es,ep,t,e,ex,hd,hf,hn,h18⟩:=hS
  refine call_len_set e ex hd hf (by omega) ?_
  rw [hn]
  exact ⟨.int n,H,I.tok _,⟨_,rfl⟩,q⟩
theorem KS {k0:Nat} (hr:Room k0 X.A):OpR X (binaryOp .Sub) (fun x y H Q=>(∃ p q na nb,x=.ref p /\ y=.ref q /\ H p=some (G4 X.prog X.w p (Aa na)) /\ H q=some (G4 X.prog X.w q (Aa nb)) /\ (Aa na).length <= 3 /\ ∀ r,H r=none->Q (.ref r) (upd H r (KC r ((Aa na).filter fun k=>!decide (k ∈ Aa nb)).length))) ∨
    (∃ p q ca cb ι k H0 ι' k' H0' ι2 k2,x=.ref p /\ y=.ref q /\ H p=some (Cd X.K X.w p ι k H0 (AT ca)) /\ H q=some (Cd X.K X.w q ι' k' H0' (AT cb)) /\ (∀ nk b,PC X.K ι k H0 nk b->PC X.K ι2 k2 H nk b) /\ (∀ nk b,PC X.K ι' k' H0' nk b->PC X.K ι2 k2 H nk b) /\ (AT ca).length <= 11 /\ ∀ r,H r=none->Q (.ref r) (upd H r (KC r ((AT ca).filter fun k=>!decide (k ∈ AT cb)).length)))):=by
  intro pins s σ H x y v u Q I rx ry h
  have hu:(kind X.prog X.w).room X.A.in1:=EY hr
  rcases h with ⟨p,q,na,nb,rfl,rfl,hp,hq,h3,hQ⟩ | ⟨p,q,ca,cb,ι,k,H0,ι',k',H0',ι2,k2,rfl,rfl,hp,hq,e1,e2,h11,hQ⟩
  . cases rx
    cases ry
    obtain ⟨hS,_⟩:=I.hok p _ hp
    obtain ⟨hO,_⟩:=I.hok q _ hq
    exact Qv (Eg na) hS hO h3 fun h' tk kp sn=>⟨.ref s.heap.objs.size,_,I.laid kp (Nat.le_refl _) (okL sn),rfl,hQ _ (I.hok.fresh (Nat.le_refl _))⟩
  . cases rx
    cases ry
    obtain ⟨hS,_⟩:=I.hok p _ hp
    obtain ⟨hO,_⟩:=I.hok q _ hq
    have cnt:(((AT ca).map csK).filter fun k=>!decide (k ∈ (AT cb).map csK)).length=((AT ca).filter fun k=>!decide (k ∈ AT cb)).length:=by
      rw [List.filter_map,List.length_map]
      congr 2
      funext c
      show (!decide (csK c ∈ (AT cb).map csK)) = !decide (c ∈ AT cb)
      by_cases h:c ∈ AT cb
      . rw [decide_eq_true h,decide_eq_true (List.mem_map.mpr ⟨c,h,rfl⟩)]
      . rw [decide_eq_false h,decide_eq_false fun z=>h (by obtain ⟨d,hd,e⟩:=List.mem_map.mp z; rw [← Bo e]; exact hd)]
    exact Qw hu (fun h kp nk b z=>PC.is I kp nk b (e1 nk b z)) (fun h kp nk b z=>PC.is I kp nk b (e2 nk b z)) (Fk (BV ca).1) hS hO (by rw [List.length_map]; exact h11) fun h' tk kp sn=>⟨.ref s.heap.objs.size,_,I.laid kp (Nat.le_refl _) (okL (by rw [← cnt]; exact sn)),rfl,hQ _ (I.hok.fresh (Nat.le_refl _))⟩
end
end Mi
set_option maxHeartbeats 2000000
namespace Mi
open PySem PySem.Spec PyProof.Rows L2 Ht Nk Hs
def By (a b:D):M D:=fun μ=>match a,b with
  | .tup as,.tup bs=>match DW as,DW bs with
    | some na,some nb=>if (Aa na).length <= 3 /\ (Aa nb).length <= 18 then some (.int ((Aa na).filter fun k=>!decide (k ∈ Aa nb)).length,μ) else none
    | _,_=>match C2 as,C2 bs with
      | some ca,some cb=>if (AT ca).length <= 11 /\ (AT cb).length <= 18 then some (.int ((AT ca).filter fun k=>!decide (k ∈ AT cb)).length,μ) else none
      | _,_=>none
  | _,_=>none
section
variable {X:Cx} {e e2:Expr} {pos p p2 pos2 p3 pos3 pos4:Pos}
theorem F5 {k0:Nat} (hr:Room k0 X.A) (hc:X.calm=true):A0 X (.type "set") (fun xs H Q=>(∃ a ns,xs=[.ref a] /\ (SqL X.K H a (ns.map V.int) ∨ SqT X.K H a (ns.map V.int)) /\ (Aa ns).length <= 18 /\ ∀ p,H p=none->Q (.ref p) (upd H p (G4 X.prog X.w p (Aa ns)))) ∨
    (∃ a cs vs ι k,xs=[.ref a] /\ (SqL X.K H a vs ∨ SqT X.K H a vs) /\ IsL X.K ι k H (cs.map csD) vs /\ (AT cs).length <= 18 /\ ∀ p,H p=none->Q (.ref p) (upd H p (Cd X.K X.w p ι k H (AT cs))))):=fun pins s σ H xs us Q I r h=>h.elim (fun z=>Km hc pins s σ H xs us Q I r z) fun z=>FF hr hc pins s σ H xs us Q I r z
theorem PC.ext {K:PySem.W.Frag} {ι ι':Nat->Addr} {k k':Nat} {H H':Hp} (E:Ext ι k H ι' k' H') (nk:NK) (b:Addr) (z:PC K ι k H nk b):PC K ι' k' H' nk b:=by
  obtain ⟨c,h1,h2⟩:=z
  exact ⟨c,h1,h2.ext E⟩
theorem IG {m m2:Sl->M D} {k0:Nat} (hr:Room k0 X.A) (yl:X.mg "len" = none) (ys:X.mg "set" = none) (he:RE X e m) (he2:RE X e2 m2) (hc:X.calm=true:=by rfl) (hgl:Gl X "len" := by rfl) (hgs:Gl X "set" := by rfl) (hst:Cy e=false:=by rfl) (hst2:Cy e2=false:=by rfl) :
    RE X (.Call (.Name "len" p) [.BinOp (.Call (.Name "set" p2) [e] [] pos2) .Sub (.Call (.Name "set" p3) [e2] [] pos3) pos4] [] pos) (mOp By m m2):=by
  have hs:PE X (.Call (.Name "set" p2) [e] [] pos2) _:=Br (F5 hr hc) hgs ys Mi.FH (B7 he.pe Cn (AR hst)) (by decide) (by decide) (AR hst) rfl
  have hs2:PE X (.Call (.Name "set" p3) [e2] [] pos3) _:=Br (F5 hr hc) hgs ys Mi.FH (B7 he2.pe Cn (AR hst2)) (by decide) (by decide) (AR hst2) rfl
  refine RE.wk (Ef Ko hgl yl Mi.FI (B7 (OQ (KS hr) hs hs2) Cn (AR rfl)) (by decide) (by decide) (AR rfl) rfl) fun σ H Q h=>?_
  obtain ⟨ι,μ,τ,d,μ',R,S,ev,q⟩:=h
  obtain ⟨x,μ1,e1,ee⟩:=AE ev
  obtain ⟨y,μ2,e3,e4⟩:=AE ee
  refine ⟨ι,μ,τ,x,μ1,R,S,e1,fun ι1 H1 E1 R1 v1 i1=>?_⟩
  unfold By at e4
  split at e4
  . rename_i as bs
    have i1':=i1
    unfold Is at i1'
    obtain ⟨a,vs,rfl,ha,hi⟩:=i1'
    split at e4
    . rename_i na nb hna hnb
      split at e4
      . rename_i room
        cases e4
        have ev1:=Et hi hna
        subst ev1
        refine .inl ⟨a,na,rfl,.inr ha,by have:=room.1; omega,fun p1 hp1=>?_⟩
        obtain ⟨E2,R2⟩:=R1.laid (G4 X.prog X.w p1 (Aa na)) hp1
        refine ⟨ι1,μ1,τ,.tup bs,_,R2,S.ext (E1.trans E2),e3,fun ι3 H3 E3 R3 v3 i3=>?_⟩
        unfold Is at i3
        obtain ⟨b,ws,rfl,hb,hj⟩:=i3
        have ev2:=Et hj hnb
        subst ev2
        have hp3:H3 p1=some (G4 X.prog X.w p1 (Aa na)):=E3.keep p1 _ AW fun n hn z=>by
          obtain ⟨o,g1,_⟩:=R1.muts n hn
          rw [z,hp1] at g1
          cases g1
        refine .inl ⟨b,nb,rfl,.inr hb,room.2,fun p4 hp4=>?_⟩
        obtain ⟨E4,R4⟩:=R3.laid (G4 X.prog X.w p4 (Aa nb)) hp4
        have ne:p1 ≠ p4:=fun z=>by rw [z,hp4] at hp3; cases hp3
        refine .inl ⟨p1,p4,na,nb,rfl,rfl,by rw [AU ne]; exact hp3,AW,room.1,fun r hr5=>?_⟩
        obtain ⟨E5,R5⟩:=R4.laid (KC r _) hr5
        exact ⟨r,_,rfl,AW,q ι3 _ ((((E1.trans E2).trans E3).trans E4).trans E5) R5 _ (ofI _)⟩
      . cases e4
    . split at e4
      . rename_i ca cb hca hcb
        split at e4
        . rename_i room
          cases e4
          cases B1 hca
          cases B1 hcb
          refine .inr ⟨a,ca,vs,ι1,_,rfl,.inr ha,hi,by have:=room.1; omega,fun p1 hp1=>?_⟩
          obtain ⟨E2,R2⟩:=R1.laid (Cd X.K X.w p1 ι1 _ H1 (AT ca)) hp1
          refine ⟨ι1,μ1,τ,.tup (cb.map csD),_,R2,S.ext (E1.trans E2),e3,fun ι3 H3 E3 R3 v3 i3=>?_⟩
          unfold Is at i3
          obtain ⟨b,ws,rfl,hb,hj⟩:=i3
          have hp3:H3 p1=some (Cd X.K X.w p1 ι1 _ H1 (AT ca)):=E3.keep p1 _ AW fun n hn z=>by
            obtain ⟨o,g1,_⟩:=R1.muts n hn
            rw [z,hp1] at g1
            cases g1
          refine .inr ⟨b,cb,ws,ι3,_,rfl,.inr hb,hj,room.2,fun p4 hp4=>?_⟩
          obtain ⟨E4,R4⟩:=R3.laid (Cd X.K X.w p4 ι3 (List.length μ') H3 (AT cb)) hp4
          have ne:p1 ≠ p4:=fun z=>by rw [z,hp4] at hp3; cases hp3
          refine .inr ⟨p1,p4,ca,cb,ι1,_,H1,ι3,_,H3,ι3,_,rfl,rfl,by rw [AU ne]; exact hp3,AW,PC.ext ((E2.trans E3).trans E4),PC.ext E4,room.1,fun r hr5=>?_⟩
          obtain ⟨E5,R5⟩:=R4.laid (KC r _) hr5
          exact ⟨r,_,rfl,AW,q ι3 _ ((((E1.trans E2).trans E3).trans E4).trans E5) R5 _ (ofI _)⟩
        . cases e4
      . cases e4
  . cases e4
theorem Lw {pins:List (Addr × Obj)} {σ:L2.St} {H:Hp} {s:Shared} {ι:Nat->Addr} {k:Nat} {h1:Heap} (I:Inv X pins σ H s) (kp:∀ b o,s.heap.get? b=some o->h1.get? b=some o) :
    ∀ {out:List Value} {ks:List Cs},Ats h1 (ks.map csK) out->(∀ v ∈ out,∃ nk b,v=.ref b /\ PC X.K ι k H nk b)->∃ vs,Vals vs out /\ IsL X.K ι k H (ks.map csD) vs
  | _,[],a,_=>by
    unfold List.map Ats at a
    subst a
    exact ⟨[],.nil,.nil⟩
  | _,c :: ks,a,m=>by
    unfold List.map Ats at a
    obtain ⟨v,out',rfl,a1,a2⟩:=a
    obtain ⟨vs,r,i⟩:=Lw I kp a2 fun v hv=>m v (List.mem_cons_of_mem _ hv)
    obtain ⟨nk,b,rfl,z⟩:=m v List.mem_cons_self
    have a3:=(PC.is I kp nk b z).1
    obtain ⟨c',rfl,i'⟩:=z
    have ec:=Bo (At.inj a3 a1)
    exact ⟨.ref b :: vs,.cons rfl r,.cons (by rw [← ec]; exact i') i⟩
theorem Hh {k0:Nat} (hr:Room k0 X.A) (hc:X.calm=true):A0 X (.builtin "sorted") (fun xs H Q=>∃ p cs ι k H0 ι2 k2,xs=[.ref p] /\ H p=some (Cd X.K X.w p ι k H0 (AT cs)) /\ (∀ nk b,PC X.K ι k H0 nk b->PC X.K ι2 k2 H nk b) /\ ∀ l vs,H l=none->IsL X.K ι2 k2 H ((D5 (AT cs)).map csD) vs->Q (.ref l) (upd H l (.lst vs))):=by
  intro pins s σ H xs us Q I r h
  obtain ⟨p,cs,ι,k,H0,ι2,k2,rfl,hp,e1,q⟩:=h
  obtain ⟨u,rfl,ru⟩:=Vals.one r
  cases ru
  obtain ⟨hS,_⟩:=I.hok p _ hp
  have hl18:(AT cs).length <= 18:=by
    obtain ⟨o,es,ep,t,ns,_,_,_,el,hp',T,_⟩:=id hS
    have:=el.len
    have h2:=hp'.length_eq
    rw [List.length_map] at h2
    rw [Array.length_toList] at this
    rcases T.mks with ⟨_,b⟩ | ⟨_,b⟩ <;> omega
  refine G0 (I.ok.hd hc) (by have:=hr.un; omega) (fun nk b z=>PC.is I (fun _ _ e=>e) nk b (e1 nk b z)) (BV cs).1 hS fun h1 h' tk c out kp1 kp2 e2 a1 src=>?_
  obtain ⟨vs,rv,iv⟩:=Lw (ι:=ι2) (k:=k2) I kp1 a1 fun v hv=>by
    obtain ⟨nk,b,h3,h4⟩:=src v hv
    exact ⟨nk,b,h3,e1 nk b h4⟩
  have I1:=I.kept (t':=tk) kp1
  have hz:vs.length <= sizeLine:=by
    have:=iv.length
    rw [this,List.length_map,(Bp _).length_eq,sizeLine_eq]
    omega
  exact ⟨.ref h1.objs.size,_,I1.laid (t':=tk) (o:=.lst vs) kp2 (Nat.le_refl _) ⟨hz,out,c,rv,e2⟩,rfl,q _ vs (I1.hok.fresh (Nat.le_refl _)) iv⟩
def Bq (d:D):M D:=bnd (A6 d) fun ds=>fun μ=>match C2 ds with
  | some cs=>if (AT cs).length <= 18 then some (.lst ((D5 (AT cs)).map csD),μ) else none
  | none=>none
theorem Dv {m:Sl->M D} {k0:Nat} (hr:Room k0 X.A) (yl:X.mg "sorted" = none) (ys:X.mg "set" = none) (he:RE X e m) (hc:X.calm=true:=by rfl) (hgl:Gl X "sorted" := by rfl) (hgs:Gl X "set" := by rfl) (hst:Cy e=false:=by rfl) :
    RE X (.Call (.Name "sorted" p) [.Call (.Name "set" p2) [e] [] pos2] [] pos) (mUn Bq m):=by
  have hs:PE X (.Call (.Name "set" p2) [e] [] pos2) _:=Br (FF hr hc) hgs ys Mi.FH (B7 he.pe Cn (AR hst)) (by decide) (by decide) (AR hst) rfl
  refine RE.wk (Ef (Hh hr hc) hgl yl PyProof.Rows.boot_sorted (B7 hs Cn (AR rfl)) (by decide) (by decide) (AR rfl) rfl) fun σ H Q h=>?_
  obtain ⟨ι,μ,τ,d,μ',R,S,ev,q⟩:=h
  obtain ⟨x,μ1,e1,e2⟩:=AE ev
  obtain ⟨ds,μ2,e3,e4⟩:=AE e2
  refine ⟨ι,μ,τ,x,μ1,R,S,e1,fun ι1 H1 E1 R1 v1 i1=>?_⟩
  obtain ⟨hm,a,vs,rfl,h1,h2⟩:=Bs R1 i1 e3
  subst hm
  cases hx:C2 ds with
  | none=>rw [hx] at e4; cases e4
  | some cs=>
    rw [hx] at e4
    have e5:(if (AT cs).length <= 18 then some (D.lst ((D5 (AT cs)).map csD),μ2) else none)=some (d,μ'):=e4
    split at e5
    . rename_i room
      cases e5
      cases B1 hx
      refine ⟨a,cs,vs,ι1,_,rfl,h1,h2,room,fun p hp=>?_⟩
      obtain ⟨E2,R2⟩:=R1.laid (Cd X.K X.w p ι1 _ H1 (AT cs)) hp
      refine ⟨p,cs,ι1,_,H1,ι1,_,rfl,AW,PC.ext E2,fun l ws hl iw=>MD R2 iw (fun ι' H' E' R'=>q ι' H' ((E1.trans E2).trans E') R') l hl⟩
    . cases e5
end
end Mi
namespace K41
open PySem L2 Mi
def CM (φ_are_among:List D->M D) (φ_lets_no_more:List D->M D):Sl->M (Fl × Sl):=
    (AY (sIf (AV (mOp CV (mOp BD (AB 0) (mC (.int 0))) (mC (.str "whole")))) (BA (AJ φ_are_among (AD (AB 1) (AD (AB 2) AO)))) CF)
    (AY (sIf (AV (mOp D8 (L5 (AB 1) Ej (HK (mC (.int 2)))) (L5 (AB 2) Ej (HK (mC (.int 2)))))) (BA (mC (.bl false))) CF)
    (BA (AJ OJ (AD (B9 2 [] (QA (AD (mOp BD (AB 1) (mC (.int 2))) (AD (mOp BD (AB 2) (mC (.int 2))) AO))) (Ik [0,1]) DU (AJ φ_lets_no_more (AD (AB 0) (AD (AB 1) AO))) BW) AO)))))
def A3 (φ_are_among:List D->M D):Sl->M (Fl × Sl):=
    (AY (sIf (mOr (AV (mOp (DS false) (AB 0) (mC .non))) (AV (mOp (DS false) (AB 1) (mC .non)))) (BA (L6 (mOp (DS false) (AB 0) (mC .non)) (mOp (DS false) (AB 1) (mC .non)))) CF)
    (BA (AJ φ_are_among (AD (AB 0) (AD (AB 1) AO)))))
def BN  : Sl->M (Fl × Sl):=
    (BA (mOp CV (mOp By (AB 0) (AB 1)) (mC (.int 0))))
def Bw  : Sl->M (Fl × Sl):=
    (AY (sIf (AV (mOp NZ (AB 1) (AJ MA (AD (AB 0) AO)))) (BA (mOp BD (AB 0) (AB 1))) CF)
    (BA (mC (.int 0))))
def CN  : Sl->M (Fl × Sl):=
    (AY (Aj (AJ Ek AO) (AL 2))
    (AY (sIf (AV (mOp PX (AB 0) (mOp Lj (mC (.int 10)) (mC (.int 40))))) (AY (Aj (mOp Af (AB 0) (mC (.int 7))) (AL 3))
    (AY (DC (Cv (AD (AB 1) AO)) (AL 4) (AY (EX (CG Gg (AB 2) (AD (mOp Ah (AB 3) (mC (.int 10000019))) AO)))
    (Aj (mOp Af (AB 3) (mC (.int 10000019))) (AL 3))))
    (BA (mOp LX (AB 2) (mUn OP (mC (.int 1))))))) CF)
    (AY (Aj (mOp Ah (mOp Dx (mOp Ai (mOp Ah (AB 0) (mC (.int 2147483647))) (mC (.int 1))) (mC (.int 48271))) (mC (.int 2147483647))) (AL 5))
    (AY (Aj (mOp Ah (mOp Dx (mOp Ai (mOp Ah (AB 0) (mC (.int 1000003))) (mC (.int 1))) (mC (.int 69621))) (mC (.int 2147483629))) (AL 6))
    (AY (DC (Cv (AD (AB 1) AO)) (AL 4) (AY (Aj (mOp Ai (mOp Ai (mOp Ah (mOp Dx (AB 5) (mOp Ai (mOp Af (AB 5) (mC (.int 1009))) (mC (.int 69621)))) (mC (.int 2147483647))) (AB 4)) (mC (.int 1))) (AL 5))
    (AY (Aj (mOp Ah (mOp Dx (AB 6) (mC (.int 48271))) (mC (.int 2147483629))) (AL 6))
    (EX (CG Gg (AB 2) (AD (mOp Ai (AB 5) (AB 6)) AO))))))
    (BA (AB 2)))))))
def Cr  : Sl->M (Fl × Sl):=
    (AY (Aj (AJ Ek AO) (AL 3))
    (AY (DC (Cv (AD (AB 2) AO)) (AL 4) (AY (Aj (AJ BO (AD (B9 1 [0] (Cv (AD (AB 1) AO)) (AL 0) (AV (mOp CV (mOp Ah (mOp Af (AX B3 (AB 1)) (mC (.int 3))) (mC (.int 2))) (mC (.int 0)))) (AB 0) BW) AO)) (AL 5))
    (EX (CG Gg (AB 3) (AD (mOp BD (AJ BW (AD (AB 5) (AD (AB 5) (AD (AB 5) (AD (mC .non) AO))))) (mOp Ah (mOp Af (AX B3 (AB 0)) (mC (.int 3))) (mC (.int 4)))) AO)))))
    (BA (AJ BO (AD (AB 3) AO)))))
def Ct (φ_Ltells:List D->M D):Sl->M (Fl × Sl):=
    (BA (AJ Bn (AD (mOp Ah (mOp Af (AX B3 (AB 0)) (mC (.int 3))) (AB 1)) (AD (mOp Eb (mOp Ah (mOp Af (AX B3 (AB 0)) (mC (.int 3))) (mOp Ai (AB 1) (mC (.int 1)))) (mC (.int 1))) (AD (AJ φ_Ltells (AD (AB 0) (AD (AB 1) (AD (AB 2) AO)))) AO)))))
def Av  : Sl->M (Fl × Sl):=
    (AY (Aj (AB 1) (Ik [3,4,5]))
    (AY (Aj (mOp Ah (mOp Af (AX B3 (AB 0)) (mC (.int 3))) (mC (.int 6))) (AL 6))
    (AY (sIf (AV (mOp CV (AB 6) (mC (.int 0)))) (BA (AJ Bn (AD (mOp Ah (mOp Ai (AB 3) (mC (.int 1))) (AB 2)) (AD (AB 4) (AD (AB 5) AO))))) CF)
    (AY (sIf (AV (mOp CV (AB 6) (mC (.int 1)))) (BA (AJ Bn (AD (AB 3) (AD (mOp Eb (mOp Ah (mOp Ai (AB 4) (mC (.int 2))) (mOp Ai (AB 2) (mC (.int 1)))) (mC (.int 1))) (AD (AB 5) AO))))) CF)
    (AY (Aj (AJ Ek AO) (AL 7))
    (AY (DC (DV (AB 5)) (AL 8) (AY (Aj (mOp Ah (mOp Af (AX B3 (AB 0)) (mC (.int 3))) (mC (.int 8))) (AL 9))
    (AY (sIf (Ke (AV (mOp (DS true) (AB 8) (mC .non))) (AV (mOp NZ (AB 9) (mC (.int 5))))) (Aj (L5 (AB 8) (HK (mOp Ah (AB 9) (mC (.int 2)))) Ej) (AL 8)) (sIf (AV (mOp CV (AB 9) (mC (.int 5)))) (Aj (mOp BD (AJ BW (AD (AJ Bn AO) (AD (mC .non) AO))) (AJ N9 (AD (mOp (DS true) (AB 8) (mC .non)) AO))) (AL 8)) (sIf (Ke (AV (mOp (DS true) (AB 8) (mC .non))) (AV (mOp CV (AB 9) (mC (.int 6))))) (Aj (mUn (G8 D.tup) (AB 2)) (AL 8)) CF)))
    (EX (CG Gg (AB 7) (AD (AB 8) AO))))))
    (BA (AJ Bn (AD (AB 3) (AD (AB 4) (AD (AJ BO (AD (AB 7) AO)) AO)))))))))))
def Cu  : Sl->M (Fl × Sl):=
    (AY (Aj (AJ Ek AO) (AL 3))
    (AY (DC (Cv (AD (mOp Ah (mOp Af (AX B3 (AB 0)) (mC (.int 3))) (mC (.int 6))) AO)) (AL 4) (AY (Aj (AJ BO (AD (B9 1 [1,0] (Cv (AD (AB 2) AO)) (AL 0) DU (mOp Eb (mOp Ah (mOp Af (AX B3 (AB 2)) (mC (.int 3))) (mOp Ai (AB 1) (mC (.int 2)))) (mC (.int 2))) BW) AO)) (AL 5))
    (EX (CG Gg (AB 3) (AD (AJ Bn (AD (mOp Ah (mOp Af (AX B3 (AB 0)) (mC (.int 3))) (AB 1)) (AD (mOp Eb (mOp Ah (mOp Af (AX B3 (AB 0)) (mC (.int 3))) (mOp Ai (AB 1) (mC (.int 2)))) (mC (.int 2))) (AD (AB 5) AO)))) AO)))))
    (BA (AJ BO (AD (mUn Bq (AB 3)) AO)))))
def Aw (φ_Lcases:List D->M D):Sl->M (Fl × Sl):=
    (AY (Aj (B9 1 [0] (DV (AB 1)) (AL 0) (AV (mOp PV (mOp Ah (mOp Af (AX B3 (AB 1)) (mC (.int 3))) (mC (.int 4))) (mC (.int 0)))) (AB 0) BW) (AL 4))
    (AY (sIf (AV (mOp CV (mOp Ah (mOp Af (AX B3 (AB 0)) (mC (.int 3))) (mC (.int 3))) (mC (.int 0)))) (Aj (mOp Ai (AB 4) (AJ IR (AD (AJ φ_Lcases (AD (AB 0) (AD (AB 2) (AD (AB 3) AO)))) AO))) (AL 4)) CF)
    (BA (AJ BO (AD (mUn Bq (AB 4)) AO)))))
def Dl  : Sl->M (Fl × Sl):=
    (AY (sIf (AV (mOp CV (AB 0) (mC (.str "whole")))) (BA (mOp CV (B9 1 [2] (DV (AB 1)) (AL 0) (AV (mOp (Jg true) (AB 0) (AB 1))) (AB 0) BW) (AJ BW AO))) CF)
    (AY (sIf (mOr (AV (mOp D8 (mOp BD (AB 1) (mC (.int 0))) (mOp BD (AB 2) (mC (.int 0))))) (AV (mOp D8 (mOp BD (AB 1) (mC (.int 1))) (mOp BD (AB 2) (mC (.int 1)))))) (BA (mC (.bl false))) CF)
    (AY (DC (Cv (AD (AJ MA (AD (mOp BD (AB 1) (mC (.int 2))) AO)) AO)) (AL 3) (AY (sIf (AV (mOp D8 (mOp (DS false) (mOp BD (mOp BD (AB 1) (mC (.int 2))) (AB 3)) (mC .non)) (mOp (DS false) (mOp BD (mOp BD (AB 2) (mC (.int 2))) (AB 3)) (mC .non)))) (BA (mC (.bl false))) CF)
    (sIf (AV (mOp (DS true) (mOp BD (mOp BD (AB 1) (mC (.int 2))) (AB 3)) (mC .non))) (sIf (AV (mOp D8 (B9 1 [3,2] (DV (mOp BD (mOp BD (AB 1) (mC (.int 2))) (AB 3))) (AL 0) (AV (mOp (Na true) (AB 0) (mOp BD (mOp BD (AB 2) (mC (.int 2))) (AB 1)))) (AB 0) BW) (AJ BW AO))) (BA (mC (.bl false))) CF) CF)))
    (BA (mC (.bl true))))))
def HJ (φ_Lcell_at:List D->M D) (φ_Lstream:List D->M D) (φ_Lcases:List D->M D) (φ_Lcases_beside:List D->M D) (φ_Lplain:List D->M D) (φ_Lplain_beside:List D->M D) (φ_covers:List D->M D) (φ_Ldue:List D->M D):Sl->M (Fl × Sl):=
    (AY (Aj (AJ φ_Lstream (AD (AJ φ_Lcell_at (AD (AB 0) (AD (mC (.int 0)) AO))) (AD (mC (.int 300)) AO))) (AL 1))
    (AY (DC (DV (AJ BW (AD (mC (.str "safe")) (AD (mC (.str "steady")) (AD (mC (.str "whole")) AO))))) (AL 2) (AY (Aj (mOp Ai (mC (.int 2)) (mOp Ah (mOp Af (AX B3 (AB 1)) (mC (.int 3))) (mC (.int 2)))) (AL 3))
    (AY (Aj (mOp Ai (mC (.int 1)) (mOp Ah (mOp Af (AX B3 (AB 1)) (mC (.int 3))) (mC (.int 2)))) (AL 4))
    (AY (Aj (AJ BO (AD (B9 1 [] (Cv (AD (mOp Ai (mC (.int 1)) (AB 4)) AO)) (AL 0) DU (AJ Bn (AD (mOp BD (mC (.str "wrs")) (AB 0)) (AD (mC (.int 0)) (AD (AJ Bn AO) AO)))) BW) AO)) (AL 5))
    (AY (Aj (AJ Bn (AD (AB 2) (AD (AB 3) (AD (mC (.int 0)) (AD (AJ Bn AO) (AD (AB 5) AO)))))) (AL 6))
    (AY (sIf (AV (mOp CV (AB 2) (mC (.str "whole")))) (AY (Aj (AJ φ_Lcases (AD (AB 1) (AD (AB 3) (AD (AB 4) AO)))) (AL 7))
    (Aj (AJ BW (AD (AB 7) (AD (AJ φ_Lcases_beside (AD (AB 1) (AD (AB 7) (AD (AB 3) (AD (AB 4) AO))))) (AD (AJ φ_Lcases_beside (AD (AB 1) (AD (AB 7) (AD (AB 3) (AD (AB 4) AO))))) AO)))) (AL 8))) (AY (Aj (AJ φ_Lplain (AD (AB 1) (AD (AB 3) (AD (AB 4) AO)))) (AL 7))
    (Aj (AJ BW (AD (AB 7) (AD (AJ φ_Lplain_beside (AD (AB 1) (AD (AB 7) (AD (AB 3) AO)))) (AD (AJ φ_Lplain_beside (AD (AB 1) (AD (AB 7) (AD (AB 3) AO)))) AO)))) (AL 8))))
    (AY (DC (DV (AB 8)) (AL 9) (DC (DV (AB 8)) (AL 10) (AY (Aj (AJ φ_covers (AD (AB 6) (AD (AB 9) (AD (AB 10) AO)))) (AL 11))
    (sIf (mOr (IP (AV (AJ Fq (AD (AB 11) (AD (mC (.ty "bool")) AO))))) (AV (mOp D8 (AB 11) (AJ φ_Ldue (AD (AB 2) (AD (AB 9) (AD (AB 10) AO))))))) (BA (mC (.bl false))) CF))))
    (sIf (Ke (AV (mOp CV (AB 2) (mC (.str "whole")))) (IP (AV (AJ φ_covers (AD (AB 6) (AD (AJ Bn AO) (AD (AB 7) AO))))))) (BA (mC (.bl false))) CF))))))))
    (BA (mC (.bl true)))))
end K41
namespace K41
open PySem L2 Mi
def top (i:Nat):Stmt:=PySem.Challenge.pw_strongboxes_k41_claims_that_cover.main.body.getD i (.Pass ⟨0,0,0,0⟩)
section
variable {P:Program} {w:World} {K:PySem.W.Frag} {mg:Str->Option Value} {base:Heap}
abbrev Ce:Stmt:=top 1
theorem sc_covers:Ag ["making", "one", "other"] ["making", "one", "other"] (AG Ce):=⟨rfl,rfl,rfl,by decide +kernel,rfl,by decide +kernel,by decide +kernel⟩
theorem Lc {φ_are_among:List D->M D} {k_are_among:Nat} {φ_lets_no_more:List D->M D} {k_lets_no_more:Nat} {k:Nat} {f:Addr} (F_are_among:Fn P w K mg base "are_among" ["ones", "others"] k_are_among φ_are_among) (hk_are_among:k_are_among <= k) (F_lets_no_more:Fn P w K mg base "lets_no_more" ["one", "other"] k_lets_no_more φ_lets_no_more) (hk_lets_no_more:k_lets_no_more <= k) (y_zip:mg "zip" = none) (y_all:mg "all" = none) (cdv:Value) (A:Around) (outer:List Env) (s:Shared) (H:Hp) (E:XK) (hr:Room k (A.deeper (PyProof.Rows.envOfC "covers" (AG Ce) s.heap.objs.size f cdv))) :
    RSs (B5 CX0 P w K mg base ["making", "one", "other"] "covers" (AG Ce) f cdv A outer s H E).nox (Ab Ce) (CM φ_are_among φ_lets_no_more):=by
  have nd:=sc_covers.nd
  exact (AH (BP (Ac (D9 hr) (A8 B4 (AA 0) AF) Ci) (AM (Ae (Bh (hkj:=hk_are_among) F_are_among hr (AC (AA 1) (AC (AA 2) AI))))) Ao)
      (AH (BP (Ac (KW hr) (IF (AA 1) GN (GM AF)) (IF (AA 2) GN (GM AF))) (AM (Ae Dw)) Ao)
      (AM (Ae (DR (Rl rfl) y_all Mi.Mf (AC (LY none (tgs:=["first", "second"]) (ix:=[]) (is:=[0,1]) (n:=2)  ⟨rfl,by decide +kernel,by decide +kernel,trivial,rfl,by decide +kernel⟩ rfl (NT y_zip (AC (A8 B4 (AA 1) AF) (AC (A8 B4 (AA 2) AF) AI))) (fun _ _ _ _=>(Ck (BE (i:=0) (show List.Nodup (["first", "second"]:List Str) from by decide +kernel) rfl (Or.inl rfl)) (Ck (BE (i:=1) (show List.Nodup (["first", "second"]:List Str) from by decide +kernel) rfl (Or.inl rfl)) JQ))) (fun _ _ _ _=>KM) (fun _ _ _ _=>(Bh (hkj:=hk_lets_no_more) F_lets_no_more hr (AC (AA 0) (AC (AA 1) AI))))) AI))))))
abbrev A1:Stmt:=top 2
theorem sc_lets_no_more:Ag ["one", "other"] ["one", "other"] (AG A1):=⟨rfl,rfl,rfl,by decide +kernel,rfl,by decide +kernel,by decide +kernel⟩
theorem Ea {φ_are_among:List D->M D} {k_are_among:Nat} {k:Nat} {f:Addr} (F_are_among:Fn P w K mg base "are_among" ["ones", "others"] k_are_among φ_are_among) (hk_are_among:k_are_among <= k) (cdv:Value) (A:Around) (outer:List Env) (s:Shared) (H:Hp) (E:XK) (hr:Room k (A.deeper (PyProof.Rows.envOfC "lets_no_more" (AG A1) s.heap.objs.size f cdv))) :
    RSs (B5 CX0 P w K mg base ["one", "other"] "lets_no_more" (AG A1) f cdv A outer s H E).nox (Ab A1) (A3 φ_are_among):=by
  have nd:=sc_lets_no_more.nd
  exact (AH (BP (RW.rt (LQ (Ac KY (AA 0) Be) (IA (Ac KY (AA 1) Be)))) (AM (Ae (PQ (DF KY (AA 0) Be) (PP (DF KY (AA 1) Be))))) Ao)
      (AM (Ae (Bh (hkj:=hk_are_among) F_are_among hr (AC (AA 0) (AC (AA 1) AI))))))
abbrev Bb:Stmt:=top 3
theorem sc_are_among:Ag ["ones", "others"] ["ones", "others"] (AG Bb):=⟨rfl,rfl,rfl,by decide +kernel,rfl,by decide +kernel,by decide +kernel⟩
theorem HD  {k:Nat} {f:Addr} (y_len:mg "len" = none) (y_set:mg "set" = none) (cdv:Value) (A:Around) (outer:List Env) (s:Shared) (H:Hp) (E:XK) (hr:Room k (A.deeper (PyProof.Rows.envOfC "are_among" (AG Bb) s.heap.objs.size f cdv))) :
    RSs (B5 CX0 P w K mg base ["ones", "others"] "are_among" (AG Bb) f cdv A outer s H E).nox (Ab Bb) (BN):=by
  have nd:=sc_are_among.nd
  exact (AM (Ae (DF (D9 hr) (IG hr y_len y_set (AA 0) (AA 1)) AF)))
abbrev Bt:Stmt:=top 5
theorem sc_Lcell_at:Ag ["_law_script", "_law_k"] ["_law_script", "_law_k"] (AG Bt):=⟨rfl,rfl,rfl,by decide +kernel,rfl,by decide +kernel,by decide +kernel⟩
theorem IJ  {k:Nat} {f:Addr} (y_len:mg "len" = none) (cdv:Value) (A:Around) (outer:List Env) (s:Shared) (H:Hp) (E:XK) (hr:Room k (A.deeper (PyProof.Rows.envOfC "_law_cell_at" (AG Bt) s.heap.objs.size f cdv))) :
    RSs (B5 CX0 P w K mg base ["_law_script", "_law_k"] "_law_cell_at" (AG Bt) f cdv A outer s H E).nox (Ab Bt) (Bw):=by
  have nd:=sc_Lcell_at.nd
  exact (AH (BP (Ac RN (AA 1) (DR Oe y_len Mi.FI (AC (AA 0) AI))) (AM (Ae (A8 B4 (AA 0) (AA 1)))) Ao)
      (AM (Ae AF)))
abbrev CK:Stmt:=top 6
theorem sc_Lstream:Ag ["_law_cell", "_law_size", "_law_found", "_law_rest", "_law_k", "_law_number", "_law_other"] ["_law_cell", "_law_size"] (AG CK):=⟨rfl,rfl,rfl,by decide +kernel,rfl,by decide +kernel,by decide +kernel⟩
theorem KL  {k:Nat} {f:Addr} (y_range:mg "range" = none) (cdv:Value) (A:Around) (outer:List Env) (s:Shared) (H:Hp) (E:XK) (hr:Room k (A.deeper (PyProof.Rows.envOfC "_law_stream" (AG CK) s.heap.objs.size f cdv))) :
    RSs (B5 CX0 P w K mg base ["_law_cell", "_law_size", "_law_found", "_law_rest", "_law_k", "_law_number", "_law_other"] "_law_stream" (AG CK) f cdv A outer s H E).nox (Ab CK) (CN):=by
  have nd:=sc_Lstream.nd
  exact (AH (AZ 2 nd (EE AI))
      (AH (BP (Ac SG (AA 0) (AN RL AF AF)) (AH (AZ 3 nd (AN A2 (AA 0) AF))
      (AH (CU PassesOwn.never rfl (BM y_range (AC (AA 1) AI)) (Bm 4 nd) (AH (DO (Cj PySem.F.slot_list_append PySem.F.type_list_append Cq (AA 2) (AC (AN Az (AA 3) AF) AI)))
      (AM (AZ 3 nd (AN A2 (AA 3) AF)))))
      (AM (Ae (PN (AA 2) (Qx RM AF)))))) Ao)
      (AH (AZ 5 nd (AN Az (AN JT (AN BB (AN Az (AA 0) AF) AF) AF) AF))
      (AH (AZ 6 nd (AN Az (AN JT (AN BB (AN Az (AA 0) AF) AF) AF) AF))
      (AH (CU PassesOwn.never rfl (BM y_range (AC (AA 1) AI)) (Bm 4 nd) (AH (AZ 5 nd (AN BB (AN BB (AN Az (AN JT (AA 5) (AN BB (AN A2 (AA 5) AF) AF)) AF) (AA 4)) AF))
      (AH (AZ 6 nd (AN Az (AN JT (AA 6) AF) AF))
      (AM (DO (Cj PySem.F.slot_list_append PySem.F.type_list_append Cq (AA 2) (AC (AN BB (AA 5) (AA 6)) AI)))))))
      (AM (Ae (AA 2))))))))
abbrev Cf:Stmt:=top 7
theorem sc_Ltells:Ag ["_law_xs", "_law_size", "_law_many", "_law_tells_here", "_law_k", "_law_some"] ["_law_xs", "_law_size", "_law_many"] (AG Cf):=⟨rfl,rfl,rfl,by decide +kernel,rfl,by decide +kernel,by decide +kernel⟩
theorem Ld  {k:Nat} {f:Addr} (y_range:mg "range" = none) (y_tuple:mg "tuple" = none) (cdv:Value) (A:Around) (outer:List Env) (s:Shared) (H:Hp) (E:XK) (hr:Room k (A.deeper (PyProof.Rows.envOfC "_law_tells" (AG Cf) s.heap.objs.size f cdv))) :
    RSs (B5 CX0 P w K mg base ["_law_xs", "_law_size", "_law_many", "_law_tells_here", "_law_k", "_law_some"] "_law_tells" (AG Cf) f cdv A outer s H E).nox (Ab Cf) (Cr):=by
  have nd:=sc_Ltells.nd
  exact (AH (AZ 3 nd (EE AI))
      (AH (CU PassesOwn.never rfl (BM y_range (AC (AA 2) AI)) (Bm 4 nd) (AH (AZ 5 nd (A7 CY y_tuple Mi.A5 (AC (DQ (tgs:=["_law_worth"]) (ix:=[0]) (i:=0) (n:=1) ⟨rfl,by decide +kernel,by decide +kernel,⟨Or.inl rfl,trivial⟩,rfl,by decide +kernel⟩ rfl (BM y_range (AC (AA 1) AI)) (fun _ _ _ _=>BE (i:=0) (show List.Nodup (["_law_worth", "_law_xs"]:List Str) from by decide +kernel) rfl (Or.inl rfl)) (fun _ _ _ _=>DP (Ac (D9 hr) (AN Az (AN A2 (Ad PySem.F.slot_list_pop PySem.F.type_list_pop B8 (AA 1)) AF) AF) AF)) (fun _ _ _ _=>(AA 0))) AI)))
      (AM (DO (Cj PySem.F.slot_list_append PySem.F.type_list_append Cq (AA 3) (AC (A8 B4 (DE (AC (AA 5) (AC (AA 5) (AC (AA 5) (AC Be AI))))) (AN Az (AN A2 (Ad PySem.F.slot_list_pop PySem.F.type_list_pop B8 (AA 0)) AF) AF)) AI))))))
      (AM (Ae (A7 CY y_tuple Mi.A5 (AC (AA 3) AI))))))
abbrev Cg:Stmt:=top 8
theorem sc_Lplain:Ag ["_law_xs", "_law_size", "_law_many"] ["_law_xs", "_law_size", "_law_many"] (AG Cg):=⟨rfl,rfl,rfl,by decide +kernel,rfl,by decide +kernel,by decide +kernel⟩
theorem Le {φ_Ltells:List D->M D} {k_Ltells:Nat} {k:Nat} {f:Addr} (F_Ltells:Fn P w K mg base "_law_tells" ["_law_xs", "_law_size", "_law_many"] k_Ltells φ_Ltells) (hk_Ltells:k_Ltells <= k) (cdv:Value) (A:Around) (outer:List Env) (s:Shared) (H:Hp) (E:XK) (hr:Room k (A.deeper (PyProof.Rows.envOfC "_law_plain" (AG Cg) s.heap.objs.size f cdv))) :
    RSs (B5 CX0 P w K mg base ["_law_xs", "_law_size", "_law_many"] "_law_plain" (AG Cg) f cdv A outer s H E).nox (Ab Cg) (Ct φ_Ltells):=by
  have nd:=sc_Lplain.nd
  exact (AM (Ae (Bv (AC (AN Az (AN A2 (Ad PySem.F.slot_list_pop PySem.F.type_list_pop B8 (AA 0)) AF) (AA 1)) (AC (AN JS (AN Az (AN A2 (Ad PySem.F.slot_list_pop PySem.F.type_list_pop B8 (AA 0)) AF) (AN BB (AA 1) AF)) AF) (AC (Bh (hkj:=hk_Ltells) F_Ltells hr (AC (AA 0) (AC (AA 1) (AC (AA 2) AI)))) AI))))))
abbrev Ar:Stmt:=top 9
theorem sc_Lplain_beside:Ag ["_law_xs", "_law_claim", "_law_size", "_law_worth", "_law_coming", "_law_tells_here", "_law_way", "_law_later", "_law_one", "_law_turn"] ["_law_xs", "_law_claim", "_law_size"] (AG Ar):=⟨rfl,rfl,rfl,by decide +kernel,rfl,by decide +kernel,by decide +kernel⟩
theorem D6  {k:Nat} {f:Addr} (y_int:mg "int" = none) (y_tuple:mg "tuple" = none) (y_range:mg "range" = none) (cdv:Value) (A:Around) (outer:List Env) (s:Shared) (H:Hp) (E:XK) (hr:Room k (A.deeper (PyProof.Rows.envOfC "_law_plain_beside" (AG Ar) s.heap.objs.size f cdv))) :
    RSs (B5 CX0 P w K mg base ["_law_xs", "_law_claim", "_law_size", "_law_worth", "_law_coming", "_law_tells_here", "_law_way", "_law_later", "_law_one", "_law_turn"] "_law_plain_beside" (AG Ar) f cdv A outer s H E).nox (Ab Ar) (Av):=by
  have nd:=sc_Lplain_beside.nd
  exact (AH (PH (AA 1) (PL (is:=[3,4,5]) rfl (Ck (BE (i:=3) nd rfl (by first | exact Or.inl rfl | exact Or.inr rfl)) (Ck (BE (i:=4) nd rfl (by first | exact Or.inl rfl | exact Or.inr rfl)) (Ck (BE (i:=5) nd rfl (by first | exact Or.inl rfl | exact Or.inr rfl)) JQ)))))
      (AH (AZ 6 nd (AN Az (AN A2 (Ad PySem.F.slot_list_pop PySem.F.type_list_pop B8 (AA 0)) AF) AF))
      (AH (BP (Ac (D9 hr) (AA 6) AF) (AM (Ae (Bv (AC (AN Az (AN BB (AA 3) AF) (AA 2)) (AC (AA 4) (AC (AA 5) AI)))))) Ao)
      (AH (BP (Ac (D9 hr) (AA 6) AF) (AM (Ae (Bv (AC (AA 3) (AC (AN JS (AN Az (AN BB (AA 4) AF) (AN BB (AA 2) AF)) AF) (AC (AA 5) AI)))))) Ao)
      (AH (AZ 7 nd (EE AI))
      (AH (CU PassesOwn.never rfl (DD (AA 5)) (Bm 8 nd) (AH (AZ 9 nd (AN Az (AN A2 (Ad PySem.F.slot_list_pop PySem.F.type_list_pop B8 (AA 0)) AF) AF))
      (AH (BP (RW.rt (IB (Ac EF (AA 8) Be) (GL (Ac RN (AA 9) AF)))) (AM (AZ 8 nd (IF (AA 8) (GM (AN Az (AA 9) AF)) GN))) (AM (BP (Ac (D9 hr) (AA 9) AF) (AM (AZ 8 nd (A8 B4 (DE (AC (Bv AI) (AC Be AI))) (A7 Rk y_int Mi.Me (AC (DF EF (AA 8) Be) AI))))) (AM (BP (RW.rt (IB (Ac EF (AA 8) Be) (GL (Ac (D9 hr) (AA 9) AF)))) (AM (AZ 8 nd (KJ y_tuple y_range (AA 2)))) Ao)))))
      (AM (DO (Cj PySem.F.slot_list_append PySem.F.type_list_append Cq (AA 7) (AC (AA 8) AI)))))))
      (AM (Ae (Bv (AC (AA 3) (AC (AA 4) (AC (A7 CY y_tuple Mi.A5 (AC (AA 7) AI)) AI))))))))))))
abbrev Ch:Stmt:=top 10
theorem sc_Lcases:Ag ["_law_xs", "_law_size", "_law_many", "_law_cases_here", "_law_k", "_law_tells_here"] ["_law_xs", "_law_size", "_law_many"] (AG Ch):=⟨rfl,rfl,rfl,by decide +kernel,rfl,by decide +kernel,by decide +kernel⟩
theorem Lf  {k:Nat} {f:Addr} (y_range:mg "range" = none) (y_tuple:mg "tuple" = none) (y_sorted:mg "sorted" = none) (y_set:mg "set" = none) (cdv:Value) (A:Around) (outer:List Env) (s:Shared) (H:Hp) (E:XK) (hr:Room k (A.deeper (PyProof.Rows.envOfC "_law_cases" (AG Ch) s.heap.objs.size f cdv))) :
    RSs (B5 CX0 P w K mg base ["_law_xs", "_law_size", "_law_many", "_law_cases_here", "_law_k", "_law_tells_here"] "_law_cases" (AG Ch) f cdv A outer s H E).nox (Ab Ch) (Cu):=by
  have nd:=sc_Lcases.nd
  exact (AH (AZ 3 nd (EE AI))
      (AH (CU PassesOwn.never rfl (BM y_range (AC (AN Az (AN A2 (Ad PySem.F.slot_list_pop PySem.F.type_list_pop B8 (AA 0)) AF) AF) AI)) (Bm 4 nd) (AH (AZ 5 nd (A7 CY y_tuple Mi.A5 (AC (DQ (tgs:=["_law_j"]) (ix:=[1,0]) (i:=0) (n:=1) ⟨rfl,by decide +kernel,by decide +kernel,⟨Or.inl rfl,Or.inl rfl,trivial⟩,rfl,by decide +kernel⟩ rfl (BM y_range (AC (AA 2) AI)) (fun _ _ _ _=>BE (i:=0) (show List.Nodup (["_law_j", "_law_size", "_law_xs"]:List Str) from by decide +kernel) rfl (Or.inl rfl)) (fun _ _ _ _=>HA) (fun _ _ _ _=>(AN JS (AN Az (AN A2 (Ad PySem.F.slot_list_pop PySem.F.type_list_pop B8 (AA 2)) AF) (AN BB (AA 1) AF)) AF))) AI)))
      (AM (DO (Cj PySem.F.slot_list_append PySem.F.type_list_append Cq (AA 3) (AC (Bv (AC (AN Az (AN A2 (Ad PySem.F.slot_list_pop PySem.F.type_list_pop B8 (AA 0)) AF) (AA 1)) (AC (AN JS (AN Az (AN A2 (Ad PySem.F.slot_list_pop PySem.F.type_list_pop B8 (AA 0)) AF) (AN BB (AA 1) AF)) AF) (AC (AA 5) AI)))) AI))))))
      (AM (Ae (A7 CY y_tuple Mi.A5 (AC (Dv hr y_sorted y_set (AA 3)) AI))))))
abbrev As:Stmt:=top 11
theorem sc_Lcases_beside:Ag ["_law_xs", "_law_claim", "_law_size", "_law_many", "_law_kept"] ["_law_xs", "_law_claim", "_law_size", "_law_many"] (AG As):=⟨rfl,rfl,rfl,by decide +kernel,rfl,by decide +kernel,by decide +kernel⟩
theorem D7 {φ_Lcases:List D->M D} {k_Lcases:Nat} {k:Nat} {f:Addr} (F_Lcases:Fn P w K mg base "_law_cases" ["_law_xs", "_law_size", "_law_many"] k_Lcases φ_Lcases) (hk_Lcases:k_Lcases <= k) (y_list:mg "list" = none) (y_sorted:mg "sorted" = none) (y_set:mg "set" = none) (y_tuple:mg "tuple" = none) (cdv:Value) (A:Around) (outer:List Env) (s:Shared) (H:Hp) (E:XK) (hr:Room k (A.deeper (PyProof.Rows.envOfC "_law_cases_beside" (AG As) s.heap.objs.size f cdv))) :
    RSs (B5 CX0 P w K mg base ["_law_xs", "_law_claim", "_law_size", "_law_many", "_law_kept"] "_law_cases_beside" (AG As) f cdv A outer s H E).nox (Ab As) (Aw φ_Lcases):=by
  have nd:=sc_Lcases_beside.nd
  exact (AH (IC 4 (tgs:=["_law_case"]) (ix:=[0]) (i:=0) (n:=1) nd ⟨rfl,by decide +kernel,by decide +kernel,⟨Or.inl rfl,trivial⟩,rfl,by decide +kernel⟩ rfl (DD (AA 1)) (fun _ _ _ _=>BE (i:=0) (show List.Nodup (["_law_case", "_law_xs"]:List Str) from by decide +kernel) rfl (Or.inl rfl)) (fun _ _ _ _=>DP (Ac SF (AN Az (AN A2 (Ad PySem.F.slot_list_pop PySem.F.type_list_pop B8 (AA 1)) AF) AF) AF)) (fun _ _ _ _=>(AA 0)) (fun _ _ _ _ _ _ _ _ R i e q=>C5 R i e q))
      (AH (BP (Ac (D9 hr) (AN Az (AN A2 (Ad PySem.F.slot_list_pop PySem.F.type_list_pop B8 (AA 0)) AF) AF) AF) (AM (AZ 4 nd (AN BB (AA 4) (A7 OF y_list Mi.Kr (AC (Bh (hkj:=hk_Lcases) F_Lcases hr (AC (AA 0) (AC (AA 2) (AC (AA 3) AI)))) AI))))) Ao)
      (AM (Ae (A7 CY y_tuple Mi.A5 (AC (Dv hr y_sorted y_set (AA 4)) AI))))))
abbrev EW:Stmt:=top 12
theorem sc_Ldue:Ag ["_law_kind", "_law_one", "_law_other", "_law_k"] ["_law_kind", "_law_one", "_law_other"] (AG EW):=⟨rfl,rfl,rfl,by decide +kernel,rfl,by decide +kernel,by decide +kernel⟩
theorem PR  {k:Nat} {f:Addr} (y_range:mg "range" = none) (y_len:mg "len" = none) (cdv:Value) (A:Around) (outer:List Env) (s:Shared) (H:Hp) (E:XK) (hr:Room k (A.deeper (PyProof.Rows.envOfC "_law_due" (AG EW) s.heap.objs.size f cdv))) :
    RSs (B5 CX0 P w K mg base ["_law_kind", "_law_one", "_law_other", "_law_k"] "_law_due" (AG EW) f cdv A outer s H E).nox (Ab EW) (Dl):=by
  have nd:=sc_Ldue.nd
  exact (AH (BP (Ac (D9 hr) (AA 0) Ci) (AM (Ae (DF (D9 hr) (DQ (tgs:=["_law_case"]) (ix:=[2]) (i:=0) (n:=1) ⟨rfl,by decide +kernel,by decide +kernel,⟨Or.inl rfl,trivial⟩,rfl,by decide +kernel⟩ rfl (DD (AA 1)) (fun _ _ _ _=>BE (i:=0) (show List.Nodup (["_law_case", "_law_other"]:List Str) from by decide +kernel) rfl (Or.inl rfl)) (fun _ _ _ _=>DP (Ac (KU hr) (AA 0) (AA 1))) (fun _ _ _ _=>(AA 0))) (DE AI)))) Ao)
      (AH (BP (RW.rt (LQ (Ac (KW hr) (A8 B4 (AA 1) AF) (A8 B4 (AA 2) AF)) (IA (Ac (KW hr) (A8 B4 (AA 1) AF) (A8 B4 (AA 2) AF))))) (AM (Ae Dw)) Ao)
      (AH (CU PassesOwn.never rfl (BM y_range (AC (DR Oe y_len Mi.FI (AC (A8 B4 (AA 1) AF) AI)) AI)) (Bm 3 nd) (AH (BP (Ac (KW hr) (DF KY (A8 B4 (A8 B4 (AA 1) AF) (AA 3)) Be) (DF KY (A8 B4 (A8 B4 (AA 2) AF) (AA 3)) Be)) (AM (Ae Dw)) Ao)
      (AM (BP (Ac EF (A8 B4 (A8 B4 (AA 1) AF) (AA 3)) Be) (AM (BP (Ac (KW hr) (DQ (tgs:=["_law_worth"]) (ix:=[3,2]) (i:=0) (n:=1) ⟨rfl,by decide +kernel,by decide +kernel,⟨Or.inl rfl,Or.inl rfl,trivial⟩,rfl,by decide +kernel⟩ rfl (DD (A8 B4 (A8 B4 (AA 1) AF) (AA 3))) (fun _ _ _ _=>BE (i:=0) (show List.Nodup (["_law_worth", "_law_k", "_law_other"]:List Str) from by decide +kernel) rfl (Or.inl rfl)) (fun _ _ _ _=>DP (Ac Nx (AA 0) (A8 B4 (A8 B4 (AA 2) AF) (AA 1)))) (fun _ _ _ _=>(AA 0))) (DE AI)) (AM (Ae Dw)) Ao)) Ao))))
      (AM (Ae Dw)))))
abbrev G6:Stmt:=top 13
theorem sc_law:Ag ["_law_script", "_law_xs", "_law_kind", "_law_size", "_law_many", "_law_hands", "_law_making", "_law_one", "_law_some", "_law_this", "_law_that", "_law_found"] ["_law_script"] (AG G6):=⟨rfl,rfl,rfl,by decide +kernel,rfl,by decide +kernel,by decide +kernel⟩
theorem Qy {φ_Lcell_at:List D->M D} {k_Lcell_at:Nat} {φ_Lstream:List D->M D} {k_Lstream:Nat} {φ_Lcases:List D->M D} {k_Lcases:Nat} {φ_Lcases_beside:List D->M D} {k_Lcases_beside:Nat} {φ_Lplain:List D->M D} {k_Lplain:Nat} {φ_Lplain_beside:List D->M D} {k_Lplain_beside:Nat} {φ_covers:List D->M D} {k_covers:Nat} {φ_Ldue:List D->M D} {k_Ldue:Nat} {k:Nat} {f:Addr} (F_Lcell_at:Fn P w K mg base "_law_cell_at" ["_law_script", "_law_k"] k_Lcell_at φ_Lcell_at) (hk_Lcell_at:k_Lcell_at <= k) (F_Lstream:Fn P w K mg base "_law_stream" ["_law_cell", "_law_size"] k_Lstream φ_Lstream) (hk_Lstream:k_Lstream <= k) (F_Lcases:Fn P w K mg base "_law_cases" ["_law_xs", "_law_size", "_law_many"] k_Lcases φ_Lcases) (hk_Lcases:k_Lcases <= k) (F_Lcases_beside:Fn P w K mg base "_law_cases_beside" ["_law_xs", "_law_claim", "_law_size", "_law_many"] k_Lcases_beside φ_Lcases_beside) (hk_Lcases_beside:k_Lcases_beside <= k) (F_Lplain:Fn P w K mg base "_law_plain" ["_law_xs", "_law_size", "_law_many"] k_Lplain φ_Lplain) (hk_Lplain:k_Lplain <= k) (F_Lplain_beside:Fn P w K mg base "_law_plain_beside" ["_law_xs", "_law_claim", "_law_size"] k_Lplain_beside φ_Lplain_beside) (hk_Lplain_beside:k_Lplain_beside <= k) (F_covers:Fn P w K mg base "covers" ["making", "one", "other"] k_covers φ_covers) (hk_covers:k_covers <= k) (F_Ldue:Fn P w K mg base "_law_due" ["_law_kind", "_law_one", "_law_other"] k_Ldue φ_Ldue) (hk_Ldue:k_Ldue <= k) (y_range:mg "range" = none) (y_tuple:mg "tuple" = none) (y_bool:mg "bool" = none) (y_isinstance:mg "isinstance" = none) (cdv:Value) (A:Around) (outer:List Env) (s:Shared) (H:Hp) (E:XK) (hr:Room k (A.deeper (PyProof.Rows.envOfC "law" (AG G6) s.heap.objs.size f cdv))) :
    RSs (B5 CX0 P w K mg base ["_law_script", "_law_xs", "_law_kind", "_law_size", "_law_many", "_law_hands", "_law_making", "_law_one", "_law_some", "_law_this", "_law_that", "_law_found"] "law" (AG G6) f cdv A outer s H E).nox (Ab G6) (HJ φ_Lcell_at φ_Lstream φ_Lcases φ_Lcases_beside φ_Lplain φ_Lplain_beside φ_covers φ_Ldue):=by
  have nd:=sc_law.nd
  exact (AH (AZ 1 nd (Bh (hkj:=hk_Lstream) F_Lstream hr (AC (Bh (hkj:=hk_Lcell_at) F_Lcell_at hr (AC (AA 0) (AC AF AI))) (AC AF AI))))
      (AH (CU PassesOwn.never rfl (DD (DE (AC Ci (AC Ci (AC Ci AI))))) (Bm 2 nd) (AH (AZ 3 nd (AN BB AF (AN Az (AN A2 (Ad PySem.F.slot_list_pop PySem.F.type_list_pop B8 (AA 1)) AF) AF)))
      (AH (AZ 4 nd (AN BB AF (AN Az (AN A2 (Ad PySem.F.slot_list_pop PySem.F.type_list_pop B8 (AA 1)) AF) AF)))
      (AH (AZ 5 nd (A7 CY y_tuple Mi.A5 (AC (DQ (tgs:=["_law_k"]) (ix:=[]) (i:=0) (n:=1) ⟨rfl,by decide +kernel,by decide +kernel,trivial,rfl,by decide +kernel⟩ rfl (BM y_range (AC (AN BB AF (AA 4)) AI)) (fun _ _ _ _=>BE (i:=0) (show List.Nodup (["_law_k"]:List Str) from by decide +kernel) rfl (Or.inl rfl)) (fun _ _ _ _=>HA) (fun _ _ _ _=>(Bv (AC (A8 B4 Ci (AA 0)) (AC AF (AC (Bv AI) AI)))))) AI)))
      (AH (AZ 6 nd (Bv (AC (AA 2) (AC (AA 3) (AC AF (AC (Bv AI) (AC (AA 5) AI)))))))
      (AH (BP (Ac (D9 hr) (AA 2) Ci) (AH (AZ 7 nd (Bh (hkj:=hk_Lcases) F_Lcases hr (AC (AA 1) (AC (AA 3) (AC (AA 4) AI)))))
      (AM (AZ 8 nd (DE (AC (AA 7) (AC (Bh (hkj:=hk_Lcases_beside) F_Lcases_beside hr (AC (AA 1) (AC (AA 7) (AC (AA 3) (AC (AA 4) AI))))) (AC (Bh (hkj:=hk_Lcases_beside) F_Lcases_beside hr (AC (AA 1) (AC (AA 7) (AC (AA 3) (AC (AA 4) AI))))) AI))))))) (AH (AZ 7 nd (Bh (hkj:=hk_Lplain) F_Lplain hr (AC (AA 1) (AC (AA 3) (AC (AA 4) AI)))))
      (AM (AZ 8 nd (DE (AC (AA 7) (AC (Bh (hkj:=hk_Lplain_beside) F_Lplain_beside hr (AC (AA 1) (AC (AA 7) (AC (AA 3) AI)))) (AC (Bh (hkj:=hk_Lplain_beside) F_Lplain_beside hr (AC (AA 1) (AC (AA 7) (AC (AA 3) AI)))) AI))))))))
      (AH (CU PassesOwn.never rfl (DD (AA 8)) (Bm 9 nd) (AM (CU PassesOwn.never rfl (DD (AA 8)) (Bm 10 nd) (AH (AZ 11 nd (Bh (hkj:=hk_covers) F_covers hr (AC (AA 6) (AC (AA 9) (AC (AA 10) AI)))))
      (AM (BP (RW.rt (LQ (LS (LR (DR QW y_isinstance Mi.EB (AC (AA 11) (AC (NX y_bool Mi.Ks) AI))))) (IA (Ac (KW hr) (AA 11) (Bh (hkj:=hk_Ldue) F_Ldue hr (AC (AA 2) (AC (AA 9) (AC (AA 10) AI)))))))) (AM (Ae Dw)) Ao))))))
      (AM (BP (RW.rt (IB (Ac (D9 hr) (AA 2) Ci) (GL (LS (LR (Bh (hkj:=hk_covers) F_covers hr (AC (AA 6) (AC (Bv AI) (AC (AA 7) AI))))))))) (AM (Ae Dw)) Ao)))))))))
      (AM (Ae Dw))))
end
end K41
namespace K41
open PySem L2 Mi
noncomputable def CW:List D->M D:=A9 .drop 2 2 (Bw)
noncomputable def C6:List D->M D:=A9 .all 7 2 (CN)
noncomputable def CO:List D->M D:=A9 .drop 6 3 (Cu)
noncomputable def Al:List D->M D:=A9 .drop 5 4 (Aw CO)
noncomputable def DY:List D->M D:=A9 .drop 6 3 (Cr)
noncomputable def C1:List D->M D:=A9 .drop 3 3 (Ct DY)
noncomputable def Ak:List D->M D:=A9 .drop 10 3 (Av)
noncomputable def A4:List D->M D:=A9 .drop 2 2 (BN)
noncomputable def BT:List D->M D:=A9 .drop 2 2 (A3 A4)
noncomputable def Ax:List D->M D:=A9 .drop 3 3 (CM A4 BT)
noncomputable def Bz:List D->M D:=A9 .drop 4 3 (Dl)
noncomputable def HW:List D->M D:=A9 .drop 12 1 (HJ CW C6 CO Al C1 Ak Ax Bz)
end K41
namespace K41
open PySem L2 Mi
theorem QZ {l:PySem.W.OpenLaw} {w:World} {K:PySem.W.Frag} {h:Heap} {mg:Str->Option Value} {fa:Addr} (hφ:∀ ns:List Int,ns.length <= 63->∃ μ',HW [.scr ns] []=some (.bl true,μ')) (X:K.In h) (G:h.Ns mainGlobals mg) (hfa:mg "law" = some (.ref fa))
    (e_Lcell_at:∃ f fd,Df K "_law_cell_at" Bt f fd)
    (e_Lstream:∃ f fd,Df K "_law_stream" CK f fd)
    (e_Lcases:∃ f fd,Df K "_law_cases" Ch f fd)
    (e_Lcases_beside:∃ f fd,Df K "_law_cases_beside" As f fd)
    (e_Ltells:∃ f fd,Df K "_law_tells" Cf f fd)
    (e_Lplain:∃ f fd,Df K "_law_plain" Cg f fd)
    (e_Lplain_beside:∃ f fd,Df K "_law_plain_beside" Ar f fd)
    (e_are_among:∃ f fd,Df K "are_among" Bb f fd)
    (e_lets_no_more:∃ f fd,Df K "lets_no_more" A1 f fd)
    (e_covers:∃ f fd,Df K "covers" Ce f fd)
    (e_Ldue:∃ f fd,Df K "_law_due" EW f fd)
    (e_law:∃ f fd,Df K "law" G6 f fd)
    (z_all:PySem.W.nsIn K mainGlobals "all" = some none)
    (z_bool:PySem.W.nsIn K mainGlobals "bool" = some none)
    (z_int:PySem.W.nsIn K mainGlobals "int" = some none)
    (z_isinstance:PySem.W.nsIn K mainGlobals "isinstance" = some none)
    (z_len:PySem.W.nsIn K mainGlobals "len" = some none)
    (z_list:PySem.W.nsIn K mainGlobals "list" = some none)
    (z_range:PySem.W.nsIn K mainGlobals "range" = some none)
    (z_set:PySem.W.nsIn K mainGlobals "set" = some none)
    (z_sorted:PySem.W.nsIn K mainGlobals "sorted" = some none)
    (z_tuple:PySem.W.nsIn K mainGlobals "tuple" = some none)
    (z_zip:PySem.W.nsIn K mainGlobals "zip" = some none) :
    ∃ fd:FuncData,(∀ (s:Shared) (v:Value),BindsTo s fd ⟨[v],[]⟩ [("_law_script",v)]) /\ ∀ base:Heap,K.In base->base.Ns mainGlobals mg->FnOk l.prog w K mg base CX0 4 fa fd ["_law_script"] (JI K):=by
  have y_all:=PySem.W.mg_none_of X G z_all
  have y_bool:=PySem.W.mg_none_of X G z_bool
  have y_int:=PySem.W.mg_none_of X G z_int
  have y_isinstance:=PySem.W.mg_none_of X G z_isinstance
  have y_len:=PySem.W.mg_none_of X G z_len
  have y_list:=PySem.W.mg_none_of X G z_list
  have y_range:=PySem.W.mg_none_of X G z_range
  have y_set:=PySem.W.mg_none_of X G z_set
  have y_sorted:=PySem.W.mg_none_of X G z_sorted
  have y_tuple:=PySem.W.mg_none_of X G z_tuple
  have y_zip:=PySem.W.mg_none_of X G z_zip
  obtain ⟨fa_Lcell_at,fd_Lcell_at,d_Lcell_at⟩:=e_Lcell_at
  have Bw:=PySem.W.mg_of X G d_Lcell_at.a
  have b_Lcell_at:=d_Lcell_at.F.binds (ps:=["_law_script", "_law_k"]) fun _ _ _ _ _ _ us hl=>match us,hl with | [_,_],_=>rfl
  obtain ⟨fa_Lstream,fd_Lstream,d_Lstream⟩:=e_Lstream
  have CN:=PySem.W.mg_of X G d_Lstream.a
  have b_Lstream:=d_Lstream.F.binds (ps:=["_law_cell", "_law_size"]) fun _ _ _ _ _ _ us hl=>match us,hl with | [_,_],_=>rfl
  obtain ⟨fa_Lcases,fd_Lcases,d_Lcases⟩:=e_Lcases
  have Cu:=PySem.W.mg_of X G d_Lcases.a
  have b_Lcases:=d_Lcases.F.binds (ps:=["_law_xs", "_law_size", "_law_many"]) fun _ _ _ _ _ _ us hl=>match us,hl with | [_,_,_],_=>rfl
  obtain ⟨fa_Lcases_beside,fd_Lcases_beside,d_Lcases_beside⟩:=e_Lcases_beside
  have Aw:=PySem.W.mg_of X G d_Lcases_beside.a
  have b_Lcases_beside:=d_Lcases_beside.F.binds (ps:=["_law_xs", "_law_claim", "_law_size", "_law_many"]) fun _ _ _ _ _ _ us hl=>match us,hl with | [_,_,_,_],_=>rfl
  obtain ⟨fa_Ltells,fd_Ltells,d_Ltells⟩:=e_Ltells
  have Cr:=PySem.W.mg_of X G d_Ltells.a
  have b_Ltells:=d_Ltells.F.binds (ps:=["_law_xs", "_law_size", "_law_many"]) fun _ _ _ _ _ _ us hl=>match us,hl with | [_,_,_],_=>rfl
  obtain ⟨fa_Lplain,fd_Lplain,d_Lplain⟩:=e_Lplain
  have Ct:=PySem.W.mg_of X G d_Lplain.a
  have b_Lplain:=d_Lplain.F.binds (ps:=["_law_xs", "_law_size", "_law_many"]) fun _ _ _ _ _ _ us hl=>match us,hl with | [_,_,_],_=>rfl
  obtain ⟨fa_Lplain_beside,fd_Lplain_beside,d_Lplain_beside⟩:=e_Lplain_beside
  have Av:=PySem.W.mg_of X G d_Lplain_beside.a
  have b_Lplain_beside:=d_Lplain_beside.F.binds (ps:=["_law_xs", "_law_claim", "_law_size"]) fun _ _ _ _ _ _ us hl=>match us,hl with | [_,_,_],_=>rfl
  obtain ⟨fa_are_among,fd_are_among,d_are_among⟩:=e_are_among
  have BN:=PySem.W.mg_of X G d_are_among.a
  have b_are_among:=d_are_among.F.binds (ps:=["ones", "others"]) fun _ _ _ _ _ _ us hl=>match us,hl with | [_,_],_=>rfl
  obtain ⟨fa_lets_no_more,fd_lets_no_more,d_lets_no_more⟩:=e_lets_no_more
  have A3:=PySem.W.mg_of X G d_lets_no_more.a
  have b_lets_no_more:=d_lets_no_more.F.binds (ps:=["one", "other"]) fun _ _ _ _ _ _ us hl=>match us,hl with | [_,_],_=>rfl
  obtain ⟨fa_covers,fd_covers,d_covers⟩:=e_covers
  have CM:=PySem.W.mg_of X G d_covers.a
  have b_covers:=d_covers.F.binds (ps:=["making", "one", "other"]) fun _ _ _ _ _ _ us hl=>match us,hl with | [_,_,_],_=>rfl
  obtain ⟨fa_Ldue,fd_Ldue,d_Ldue⟩:=e_Ldue
  have Dl:=PySem.W.mg_of X G d_Ldue.a
  have b_Ldue:=d_Ldue.F.binds (ps:=["_law_kind", "_law_one", "_law_other"]) fun _ _ _ _ _ _ us hl=>match us,hl with | [_,_,_],_=>rfl
  obtain ⟨fa_law,fd_law,d_law⟩:=e_law
  have HJ:=PySem.W.mg_of X G d_law.a
  have b_law:=d_law.F.binds (ps:=["_law_script"]) fun _ _ _ _ _ _ us hl=>match us,hl with | [_],_=>rfl
  have e:=hfa.symm.trans HJ
  cases e
  refine ⟨fd_law,fun s v=>?_,fun base _ _=>?_⟩
  . obtain ⟨oc,od,kV,doc,pm,an,cdv,ct,osl,rfl,lk,hcd⟩:=d_law.F.ex
    exact .of_eq rfl
  have F_Lcell_at:Fn l.prog w K mg base "_law_cell_at" ["_law_script", "_law_k"] 1 CW:=BS (k:=0) .drop d_Lcell_at.F sc_Lcell_at Bw b_Lcell_at (IJ y_len)
  have F_Lstream:Fn l.prog w K mg base "_law_stream" ["_law_cell", "_law_size"] 1 C6:=BS (k:=0) .all d_Lstream.F sc_Lstream CN b_Lstream (KL y_range)
  have F_Lcases:Fn l.prog w K mg base "_law_cases" ["_law_xs", "_law_size", "_law_many"] 1 CO:=BS (k:=0) .drop d_Lcases.F sc_Lcases Cu b_Lcases (Lf y_range y_tuple y_sorted y_set)
  have F_Lcases_beside:Fn l.prog w K mg base "_law_cases_beside" ["_law_xs", "_law_claim", "_law_size", "_law_many"] 2 Al:=BS (k:=1) .drop d_Lcases_beside.F sc_Lcases_beside Aw b_Lcases_beside (D7 F_Lcases (by decide) y_list y_sorted y_set y_tuple)
  have F_Ltells:Fn l.prog w K mg base "_law_tells" ["_law_xs", "_law_size", "_law_many"] 1 DY:=BS (k:=0) .drop d_Ltells.F sc_Ltells Cr b_Ltells (Ld y_range y_tuple)
  have F_Lplain:Fn l.prog w K mg base "_law_plain" ["_law_xs", "_law_size", "_law_many"] 2 C1:=BS (k:=1) .drop d_Lplain.F sc_Lplain Ct b_Lplain (Le F_Ltells (by decide))
  have F_Lplain_beside:Fn l.prog w K mg base "_law_plain_beside" ["_law_xs", "_law_claim", "_law_size"] 1 Ak:=BS (k:=0) .drop d_Lplain_beside.F sc_Lplain_beside Av b_Lplain_beside (D6 y_int y_tuple y_range)
  have F_are_among:Fn l.prog w K mg base "are_among" ["ones", "others"] 1 A4:=BS (k:=0) .drop d_are_among.F sc_are_among BN b_are_among (HD y_len y_set)
  have F_lets_no_more:Fn l.prog w K mg base "lets_no_more" ["one", "other"] 2 BT:=BS (k:=1) .drop d_lets_no_more.F sc_lets_no_more A3 b_lets_no_more (Ea F_are_among (by decide))
  have F_covers:Fn l.prog w K mg base "covers" ["making", "one", "other"] 3 Ax:=BS (k:=2) .drop d_covers.F sc_covers CM b_covers (Lc F_are_among (by decide) F_lets_no_more (by decide) y_zip y_all)
  have F_Ldue:Fn l.prog w K mg base "_law_due" ["_law_kind", "_law_one", "_law_other"] 1 Bz:=BS (k:=0) .drop d_Ldue.F sc_Ldue Dl b_Ldue (PR y_range y_len)
  exact O6 (φ:=HW) (MK (k:=3) .drop d_law.F sc_law (Qy F_Lcell_at (by decide) F_Lstream (by decide) F_Lcases (by decide) F_Lcases_beside (by decide) F_Lplain (by decide) F_Lplain_beside (by decide) F_covers (by decide) F_Ldue (by decide) y_range y_tuple y_bool y_isinstance)) hφ
end K41
namespace Mi
open PySem L2
section
variable {τ τ1 τ2:Sl} {μ μ1 μ2 μ3 μ4:Mh} {d x y z:D} {ds:List D} {ma mb mc me:Sl->M D} {tc tb:Sl->M Bool} {b:Bool} {m1 m2:Sl->M (Fl × Sl)} {g g':D->D->M D} {r:Fl × Sl}
theorem EI {i:Nat} (h:τ[i]? = some (some d)):AB i τ μ=some (d,μ):=by unfold AB; rw [h]
theorem OV {i j:Int} (h:0 < j):Ah (.int i) (.int j) μ=some (.int (i % j),μ):=by show (if 0 < j then some (D.int (i % j),μ) else none)=_; rw [if_pos h]
theorem ME {i j:Int} (h:0 < j) (h2:j < 1073741824):Af (.int i) (.int j) μ=some (.int (i / j),μ):=by show (if 0 < j /\ j < 1073741824 then some (D.int (i / j),μ) else none)=_; rw [if_pos ⟨h,h2⟩]
theorem OU {i j:Int} (h:(-(2 ^ 64) < i /\ i < 2 ^ 64) ∨ (-(2 ^ 64) < j /\ j < 2 ^ 64)):Dx (.int i) (.int j) μ=some (.int (i * j),μ):=by show (if (-(2 ^ 64) < i /\ i < 2 ^ 64) ∨ (-(2 ^ 64) < j /\ j < 2 ^ 64) then some (D.int (i * j),μ) else none)=_; rw [if_pos h]
theorem OW {ds:List D} {i:Int} (h2:atI ds i=some d):BD (.tup ds) (.int i) μ=some (d,μ):=by
  show bnd (A6 (.tup ds)) (fun ds=>ixD ds i) μ=_
  rw [Ay (show A6 (.tup ds) μ=some (ds,μ) from rfl)]
  unfold ixD; rw [h2]; rfl
theorem OX {ds:List D} {i:Int} (h2:atI ds i=some d):BD (.lst ds) (.int i) μ=some (d,μ):=by
  show bnd (A6 (.lst ds)) (fun ds=>ixD ds i) μ=_
  rw [Ay (show A6 (.lst ds) μ=some (ds,μ) from rfl)]
  unfold ixD; rw [h2]; rfl
end
end Mi
local macro_rules | `(tactic| wtm_at "own qleaf")=>`(tactic| first | rfl | assumption)
local macro_rules | `(tactic| wtm_at "own qev")=>`(tactic| first
  | (with_reducible apply Mi.ev_nil) | (with_reducible apply Mi.ev_nilA) | (with_reducible apply Mi.ev_c) | (with_reducible apply Mi.ev_noPart) | (with_reducible apply Mi.ev_retN)
  | ((with_reducible apply Mi.EI); first | rfl | assumption)
  | ((with_reducible apply Mi.ev_seqR); wtm_at "own qev")
  | ((with_reducible apply Mi.ev_seq); (wtm_at "own qev"); (wtm_at "own qev"))
  | ((with_reducible apply Mi.ev_asg); (wtm_at "own qev"); (wtm_at "own qev"))
  | ((with_reducible apply Mi.ev_name); rfl)
  | ((with_reducible apply Mi.ev_sub); (wtm_at "own qev"); (wtm_at "own qev"); (wtm_at "own qev"))
  | ((with_reducible apply Mi.ev_expr); wtm_at "own qev")
  | ((with_reducible apply Mi.ev_ret); wtm_at "own qev")
  | ((with_reducible apply Mi.ev_ifT); (wtm_at "own qev"); (wtm_at "own qev"))
  | ((with_reducible apply Mi.ev_ifF); (wtm_at "own qev"); (wtm_at "own qev"))
  | ((with_reducible apply Mi.ev_op); (wtm_at "own qev"); (wtm_at "own qev"); (wtm_at "own qev"))
  | ((with_reducible apply Mi.ev_un); (wtm_at "own qev"); (wtm_at "own qev"))
  | ((with_reducible apply Mi.ev_disp); (wtm_at "own qev"); (wtm_at "own qev"))
  | ((with_reducible apply Mi.ev_consA); (wtm_at "own qev"); (wtm_at "own qev"))
  | ((with_reducible apply Mi.ev_meth); (wtm_at "own qev"); (wtm_at "own qev"); (wtm_at "own qev"); (wtm_at "own qev"))
  | ((with_reducible apply Mi.ev_test); wtm_at "own qev")
  | ((with_reducible apply Mi.ev_notT); wtm_at "own qev")
  | ((with_reducible apply Mi.ev_notF); wtm_at "own qev")
  | ((with_reducible apply Mi.ev_andT); (wtm_at "own qev"); (wtm_at "own qev"))
  | ((with_reducible apply Mi.ev_andF); wtm_at "own qev")
  | ((with_reducible apply Mi.ev_orF); (wtm_at "own qev"); (wtm_at "own qev"))
  | ((with_reducible apply Mi.ev_orT); wtm_at "own qev")
  | ((with_reducible apply Mi.ev_andVT); (wtm_at "own qev"); (wtm_at "own qev"))
  | ((with_reducible apply Mi.ev_andVF); wtm_at "own qev")
  | ((with_reducible apply Mi.ev_orVF); (wtm_at "own qev"); (wtm_at "own qev"))
  | ((with_reducible apply Mi.ev_orVT); wtm_at "own qev")
  | ((with_reducible apply Mi.ev_notVT); wtm_at "own qev")
  | ((with_reducible apply Mi.ev_notVF); wtm_at "own qev")
  | ((with_reducible apply Mi.ev_chainT); (wtm_at "own qev"); (wtm_at "own qev"); (wtm_at "own qev"); (wtm_at "own qev"); (wtm_at "own qev"))
  | ((with_reducible apply Mi.ev_chainF); (wtm_at "own qev"); (wtm_at "own qev"); (wtm_at "own qev"))
  | ((with_reducible apply Mi.ev_part); wtm_at "own qev")
  | ((with_reducible apply Mi.ev_sl); (wtm_at "own qev"); (wtm_at "own qev"); (wtm_at "own qev"); (wtm_at "own qev"))
  | wtm_at "own qleaf")
local macro_rules | `(tactic| wtm_at "own qnums")=>`(tactic| first | assumption | decide | omega)
local macro_rules | `(tactic| wtm_at "own qleaf")=>`(tactic| first
  | ((with_reducible apply Mi.l_le); wtm_at "own qnums") | ((with_reducible apply Mi.l_leF); wtm_at "own qnums") | ((with_reducible apply Mi.l_lt); wtm_at "own qnums") | ((with_reducible apply Mi.l_ltF); wtm_at "own qnums") | ((with_reducible apply Mi.l_gt); wtm_at "own qnums") | ((with_reducible apply Mi.l_gtF); wtm_at "own qnums")
  | (with_reducible apply Mi.l_inst_ii) | (with_reducible apply Mi.l_inst_ib) | (with_reducible apply Mi.l_inst_ss) | (with_reducible apply Mi.l_inst_tt) | (with_reducible apply Mi.l_add) | (with_reducible apply Mi.l_sub) | ((with_reducible apply Mi.OV); wtm_at "own qnums") | ((with_reducible apply Mi.ME); (wtm_at "own qnums"); (wtm_at "own qnums")) | ((with_reducible apply Mi.OU); first | (left; omega) | (right; omega))
  | ((with_reducible apply Mi.OW); rfl) | ((with_reducible apply Mi.OX); rfl) | ((with_reducible apply Mi.l_ixRef); (first | assumption | rfl); (rfl)) | ((with_reducible apply Mi.l_set); (first | assumption | rfl); (rfl)))
namespace Mi
open PySem L2
def WP {α:Type} (m:M α) (μ:Mh) (Q:α->Mh->Prop):Prop:=∃ a μ',m μ=some (a,μ') /\ Q a μ'
section
variable {α β:Type} {m:M α} {f:α->M β} {μ μ':Mh} {Q Q':α->Mh->Prop} {R:β->Mh->Prop} {a:α}
theorem wp_of (h:m μ=some (a,μ')) (q:Q a μ'):WP m μ Q:=⟨a,μ',h,q⟩
theorem AQ (h:WP m μ Q) (k:∀ a μ',Q a μ'->Q' a μ'):WP m μ Q':=by
  obtain ⟨a,μ',e,q⟩:=h
  exact ⟨a,μ',e,k a μ' q⟩
theorem AS (h:WP m μ fun a μ1=>WP (f a) μ1 R):WP (bnd m f) μ R:=by
  obtain ⟨a,μ1,e,b,μ2,e2,q⟩:=h
  exact ⟨b,μ2,by rw [Ay e]; exact e2,q⟩
theorem Ap (q:Q a μ):WP (ret a) μ Q:=⟨a,μ,rfl,q⟩
end
section
variable {τ τ1:Sl} {μ μ1:Mh} {d x y:D} {ds:List D} {ma mb:Sl->M D} {ra:Sl->M (List D)} {tc tb:Sl->M Bool} {m1 m2:Sl->M (Fl × Sl)} {g:D->D->M D} {QD:D->Mh->Prop} {QB:Bool->Mh->Prop} {QL:List D->Mh->Prop} {QS:Fl × Sl->Mh->Prop} {QO:Option Int->Mh->Prop} {i j:Int} {k n:Nat}
theorem Mu {i:Nat} (h:τ[i]? = some (some d)) (q:QD d μ):WP (AB i τ) μ QD:=wp_of (EI h) q
theorem Rp (q:QD d μ):WP (mC d τ) μ QD:=⟨d,μ,rfl,q⟩
theorem Qe (h:WP (ma τ) μ fun x μ1=>WP (mb τ) μ1 fun y μ2=>WP (g x y) μ2 QD):WP (mOp g ma mb τ) μ QD:=AS (AQ h fun _ _ z=>AS z)
theorem Qc {u:D->M D} (h:WP (ma τ) μ fun x μ1=>WP (u x) μ1 QD):WP (mUn u ma τ) μ QD:=AS h
theorem M8 {f:List D->M D} (h:WP (ra τ) μ fun ds μ1=>WP (f ds) μ1 QD):WP (AJ f ra τ) μ QD:=AS h
theorem Mz (q:QL [] μ):WP (AO τ) μ QL:=⟨[],μ,rfl,q⟩
theorem K8 (h:WP (ma τ) μ fun x μ1=>WP (ra τ) μ1 fun ds μ2=>QL (x :: ds) μ2):WP (AD ma ra τ) μ QL:=AS (AQ h fun _ _ z=>AS (AQ z fun _ _ z=>Ap z))
theorem Oj {l h:Sl->M (Option Int)} (z:WP (ma τ) μ fun x μ1=>WP (l τ) μ1 fun a μ2=>WP (h τ) μ2 fun b μ3=>WP (Li a b x) μ3 QD):WP (L5 ma l h τ) μ QD:=AS (AQ z fun _ _ z=>AS (AQ z fun _ _ z=>AS z))
theorem Jy (q:QO none μ):WP (Ej τ) μ QO:=⟨none,μ,rfl,q⟩
theorem My (h:WP (ma τ) μ fun d μ1=>∃ i,d=.int i /\ QO (some i) μ1):WP (HK ma τ) μ QO:=AS (AQ h fun _ _ ⟨i,e,q⟩=>by subst e; exact Ap q)
theorem Ms (h:WP (ma τ) μ fun d μ1=>∃ b,d=.bl b /\ QB b μ1):WP (AV ma τ) μ QB:=AS (AQ h fun _ _ ⟨b,e,q⟩=>by subst e; exact Ap q)
theorem Oo (h:WP (tc τ) μ fun b μ1=>QB (!b) μ1):WP (IP tc τ) μ QB:=AS (AQ h fun _ _ q=>Ap q)
def Ds (m:M Bool) (QB:Bool->Mh->Prop):Bool->Mh->Prop
  | true,μ=>WP m μ QB
  | false,μ=>QB false μ
def orK (m:M Bool) (QB:Bool->Mh->Prop):Bool->Mh->Prop
  | true,μ=>QB true μ
  | false,μ=>WP m μ QB
theorem O1 (h:WP (tc τ) μ (Ds (tb τ) QB)):WP (Ke tc tb τ) μ QB:=AS (AQ h fun b _ z=>by cases b; exact Ap z; exact z)
theorem Qd (h:WP (tc τ) μ (orK (tb τ) QB)):WP (mOr tc tb τ) μ QB:=AS (AQ h fun b _ z=>by cases b; exact z; exact Ap z)
theorem Ix (h:WP (ma τ) μ fun d μ1=>∃ b,d=.bl b /\ (b=true->WP (mb τ) μ1 QD) /\ (b=false->QD (.bl false) μ1)):WP (L6 ma mb τ) μ QD:=AS (AQ h fun d μ1 ⟨b,e,z⟩=>by
  subst e
  refine AS (Ap ?_)
  cases b
  . exact Ap (z.2 rfl)
  . exact z.1 rfl)
def Gv (m2:Sl->M (Fl × Sl)) (QS:Fl × Sl->Mh->Prop):Fl × Sl->Mh->Prop
  | (.next,τ1),μ1=>WP (m2 τ1) μ1 QS
  | r,μ1=>QS r μ1
theorem LG (h:WP (m2 τ1) μ1 QS):Gv m2 QS (.next,τ1) μ1:=h
theorem O3 (h:QS (.rt d,τ1) μ1):Gv m2 QS (.rt d,τ1) μ1:=h
theorem Ol (h:WP (m1 τ) μ (Gv m2 QS)):WP (AY m1 m2 τ) μ QS:=AS (AQ h fun r _ z=>by
  obtain ⟨fl,τ1⟩:=r
  cases fl
  . exact z
  . exact Ap z
  . exact Ap z
  . exact Ap z)
theorem NB {i:Nat} (h:WP (ma τ) μ fun d μ1=>QS (.next,τ.set i (some d)) μ1):WP (Aj ma (AL i) τ) μ QS:=AS (AQ h fun _ _ q=>AS (Ap (Ap q)))
theorem O0 {bf:D->Sl->M Sl} (h:WP (ma τ) μ fun d μ1=>WP (bf d τ) μ1 fun τ1 μ2=>QS (.next,τ1) μ2):WP (Aj ma bf τ) μ QS:=AS (AQ h fun _ _ q=>AS (AQ q fun _ _ z=>Ap z))
theorem Om (h:WP (ma τ) μ fun d μ1=>QS (.rt d,τ) μ1):WP (BA ma τ) μ QS:=AS (AQ h fun _ _ q=>Ap q)
theorem M6 (h:WP (ma τ) μ fun _ μ1=>QS (.next,τ) μ1):WP (EX ma τ) μ QS:=AS (AQ h fun _ _ q=>Ap q)
theorem Op (q:QS (.next,τ) μ):WP (CF τ) μ QS:=⟨_,μ,rfl,q⟩
def ifK (m1 m2:Sl->M (Fl × Sl)) (τ:Sl) (QS:Fl × Sl->Mh->Prop):Bool->Mh->Prop
  | true,μ=>WP (m1 τ) μ QS
  | false,μ=>WP (m2 τ) μ QS
theorem NE (h:WP (m1 τ) μ QS):ifK m1 m2 τ QS true μ:=h
theorem NF (h:WP (m2 τ) μ QS):ifK m1 m2 τ QS false μ:=h
theorem Qg (h:WP (tc τ) μ (ifK m1 m2 τ QS)):WP (sIf tc m1 m2 τ) μ QS:=AS (AQ h fun b _ z=>by cases b; exact z; exact z)
theorem Ox {src:Sl->M (List D)} {bf:D->Sl->M Sl} (h:WP (src τ) μ fun ds μ1=>WP (Ex bf m1 ds τ) μ1 QS):WP (DC src bf m1 τ) μ QS:=AS h
def Dy (I:Sl->Mh->Prop) (QS:Fl × Sl->Mh->Prop):Fl × Sl->Mh->Prop
  | (.next,τ),μ=>I τ μ
  | (.cont,τ),μ=>I τ μ
  | (.brk,τ),μ=>QS (.next,τ) μ
  | (.rt d,τ),μ=>QS (.rt d,τ) μ
theorem BC {I:Sl->Mh->Prop} (h:I τ μ):Dy I QS (.next,τ) μ:=h
theorem Dd {I:Sl->Mh->Prop} (h:QS (.rt d,τ) μ):Dy I QS (.rt d,τ) μ:=h
theorem CC {bf:D->Sl->M Sl} (I:List D->Sl->Mh->Prop) (step:∀ x xs τ μ,I (x :: xs) τ μ->WP (bf x τ) μ fun τ1 μ1=>WP (m1 τ1) μ1 (Dy (I xs) QS)) (fin:∀ τ μ,I [] τ μ->QS (.next,τ) μ):∀ {ds:List D} {τ:Sl} {μ:Mh},I ds τ μ->WP (Ex bf m1 ds τ) μ QS
  | [],τ,μ,h=>Ap (fin τ μ h)
  | x :: xs,τ,μ,h=>AS (AQ (step x xs τ μ h) fun τ1 μ1 z=>AS (AQ z fun r μ2 z=>by
      obtain ⟨fl,τ2⟩:=r
      cases fl
      . exact CC I step fin z
      . exact Ap z
      . exact CC I step fin z
      . exact Ap z))
theorem LC {QT:Sl->Mh->Prop} {i:Nat} (q:QT (τ.set i (some d)) μ):WP (AL i d τ) μ QT:=⟨_,μ,rfl,q⟩
theorem LB {QT:Sl->Mh->Prop} {i j:Nat} (q:QT ((τ.set i (some x)).set j (some y)) μ):WP (Ik [i,j] (.tup [x,y]) τ) μ QT:=⟨_,μ,rfl,q⟩
theorem LA {QT:Sl->Mh->Prop} {i j k:Nat} (q:QT (((τ.set i (some x)).set j (some y)).set k (some d)) μ):WP (Ik [i,j,k] (.tup [x,y,d]) τ) μ QT:=⟨_,μ,rfl,q⟩
theorem M9 {N:Nat} {ix:List Nat} {src:Sl->M (List D)} {bf:D->Sl->M Sl} {fin:List D->M D} (h:WP (src τ) μ fun ds μ1=>ds.length <= sizeLine /\ WP (BX bf tc ma (Bl N ix τ) ds []) μ1 fun es μ2=>WP (fin es) μ2 QD):WP (B9 N ix src bf tc ma fin τ) μ QD:=AS (AQ h fun ds μ1 z=>AS (wp_of (Dm z.1 μ1) (AS z.2)))
theorem CT {bf:D->Sl->M Sl} {τ0:Sl} (I:List D->List D->Mh->Prop) (step:∀ x xs ys μ,I (x :: xs) ys μ->WP (bf x τ0) μ fun τ1 μ1=>WP (tc τ1) μ1 fun c μ2=>(c=true->WP (ma τ1) μ2 fun y μ3=>I xs (ys ++ [y]) μ3) /\ (c=false->I xs ys μ2)) (fin:∀ ys μ,I [] ys μ->QL ys μ):∀ {ds ys:List D} {μ:Mh},I ds ys μ->WP (BX bf tc ma τ0 ds ys) μ QL
  | [],ys,μ,h=>Ap (fin ys μ h)
  | x :: xs,ys,μ,h=>AS (AQ (step x xs ys μ h) fun τ1 μ1 z=>AS (AQ z fun c μ2 z=>by
      cases c
      . exact CT I step fin (z.2 rfl)
      . exact AS (AQ (z.1 rfl) fun y μ3 z=>CT I step fin z)))
theorem Iw (q:QB true μ):WP (DU τ) μ QB:=⟨true,μ,rfl,q⟩
theorem NC (q:QD (.int (i + j)) μ):WP (Ai (.int i) (.int j)) μ QD:=⟨_,μ,rfl,q⟩
theorem Oh (q:QD (.int (i - j)) μ):WP (Eb (.int i) (.int j)) μ QD:=⟨_,μ,rfl,q⟩
theorem Ot (h:0 < j) (q:QD (.int (i % j)) μ):WP (Ah (.int i) (.int j)) μ QD:=wp_of (OV h) q
theorem M5 (h:0 < j) (h2:j < 1073741824) (q:QD (.int (i / j)) μ):WP (Af (.int i) (.int j)) μ QD:=wp_of (ME h h2) q
theorem GG (h:(-(2 ^ 64) < i /\ i < 2 ^ 64) ∨ (-(2 ^ 64) < j /\ j < 2 ^ 64)) (q:QD (.int (i * j)) μ):WP (Dx (.int i) (.int j)) μ QD:=wp_of (OU h) q
theorem Qf (q:QD (.bl (decide (i < j))) μ):WP (NZ (.int i) (.int j)) μ QD:=⟨_,μ,rfl,q⟩
theorem Qh (q:QD (.bl (decide (j < i))) μ):WP (PV (.int i) (.int j)) μ QD:=⟨_,μ,rfl,q⟩
theorem Qi (q:QD (.bl (decide (j <= i))) μ):WP (PX (.int i) (.int j)) μ QD:=⟨_,μ,rfl,q⟩
theorem Oy (q:QD (.bl (i == j)) μ):WP (CV (.int i) (.int j)) μ QD:=⟨_,μ,rfl,q⟩
theorem Oq (q:QD (.bl (!(i == j))) μ):WP (D8 (.int i) (.int j)) μ QD:=⟨_,μ,rfl,q⟩
theorem Os {a b:Bool} (q:QD (.bl (!(a == b))) μ):WP (D8 (.bl a) (.bl b)) μ QD:=by
  refine wp_of ?_ q
  cases a <;> cases b <;> rfl
theorem Ov (q:QD (.bl (isN d)) μ):WP (DS false d .non) μ QD:=by cases d <;> exact ⟨_,μ,rfl,q⟩
theorem Ou (q:QD (.bl (!isN d)) μ):WP (DS true d .non) μ QD:=by cases d <;> exact ⟨_,μ,rfl,q⟩
theorem M4 {b:Bool} (q:QD (.int (if b then 1 else 0)) μ):WP (N9 [.bl b]) μ QD:=⟨_,μ,rfl,q⟩
theorem M0 (h:ds.length <= sizeLine) (q:QD (.tup ds) μ):WP (Bn ds) μ QD:=by
  refine wp_of (a:=.tup ds) (μ':=μ) ?_ q
  unfold Bn; rw [Ay (Dm h _)]; rfl
theorem Bi (h:ds.length <= sizeLine) (q:QD (.lst ds) μ):WP (BW ds) μ QD:=by
  refine wp_of (a:=.lst ds) (μ':=μ) ?_ q
  unfold BW; rw [Ay (Dm h _)]; rfl
theorem M1 (h:ds.length <= sizeLine) (q:QD (.ref μ.length) (μ ++ [.lst ds])):WP (Ek ds) μ QD:=by
  refine wp_of (a:=.ref μ.length) (μ':=μ ++ [.lst ds]) ?_ q
  unfold Ek; rw [Ay (Dm h _)]
theorem DA (h2:atI ds i=some d) (q:QD d μ):WP (BD (.tup ds) (.int i)) μ QD:=wp_of (OW h2) q
theorem K4 (h2:atI ds i=some d) (q:QD d μ):WP (BD (.lst ds) (.int i)) μ QD:=wp_of (OX h2) q
theorem Oi (h:WP (ma τ) μ fun d μ1=>WP (Ju d) μ1 QL):WP (DV ma τ) μ QL:=AS h
theorem Mv (q:QL ds μ):WP (Ju (.tup ds)) μ QL:=⟨_,μ,rfl,q⟩
theorem Mw (q:QL ds μ):WP (Ju (.lst ds)) μ QL:=⟨_,μ,rfl,q⟩
theorem Mx (h:WP (ra τ) μ fun ds μ1=>∃ j:Nat,ds=[.int j] /\ j < 1000000 /\ QL ((List.range j).map fun (i:Nat)=>.int (i:Int)) μ1):WP (Cv ra τ) μ QL:=AS (AQ h fun ds μ1 ⟨j,e,hj,q⟩=>by
  subst e
  refine wp_of (a:=G9 0 j) (μ':=μ1) ?_ ?_
  . have hj2 : -(2 ^ 62) <= (j:Int) /\ (j:Int) < 2 ^ 62:=⟨by omega,by omega⟩
    unfold LV
    simp only []
    rw [if_pos hj2]
  . have e:G9 0 (j:Int)=(List.range j).map fun (i:Nat)=>.int (i:Int):=by
      unfold G9
      rw [show ((j:Int) - 0).toNat=j by omega]
      congr 1
      funext i
      rw [Int.zero_add]
    rw [e]
    exact q)
theorem Mr (q:QD (.tup ds) μ):WP (BO [.lst ds]) μ QD:=⟨_,μ,rfl,q⟩
theorem Iv (h:μ[n]? = some (.lst ds)) (q:QD (.tup ds) μ):WP (BO [.ref n]) μ QD:=by
  refine wp_of (a:=.tup ds) (μ':=μ) ?_ q
  show bnd (Ba (.ref n)) (fun ds=>ret (D.tup ds)) μ=_
  rw [Ay (show Ba (.ref n) μ=some (ds,μ) from by show (match μ[n]? with | some (.lst ds)=>some (ds,μ) | _=>none)=_; rw [h])]
  rfl
theorem M3 (q:QD (.int ds.length) μ):WP (MA [.tup ds]) μ QD:=⟨_,μ,rfl,q⟩
def Xs (μ:Mh) (n k:Nat):Prop:=∃ xs:List Int,μ[n]? = some (.lst (xs.map D.int)) /\ k <= xs.length
def XU (n:Nat) (μ μ':Mh):Prop:=∃ xs:List Int,μ'=μ.set n (.lst (xs.map D.int))
theorem Xs.lt {k:Nat} (h:Xs μ n k):n < μ.length:=by
  obtain ⟨_,h,_⟩:=h
  exact (List.getElem?_eq_some_iff.mp h).1
theorem Xs.mono {k k':Nat} (h:Xs μ n k) (le:k' <= k):Xs μ n k':=by
  obtain ⟨xs,h1,h2⟩:=h
  exact ⟨xs,h1,by omega⟩
theorem Xs.refl {k:Nat} (h:Xs μ n k):XU n μ μ:=by
  obtain ⟨xs,h1,_⟩:=h
  refine ⟨xs,?_⟩
  apply List.ext_getElem?
  intro j
  rw [List.getElem?_set]
  split
  . rename_i e
    subst e
    rw [if_pos (List.getElem?_eq_some_iff.mp h1).1]
    exact h1
  . rfl
theorem XU.trans {μ2:Mh} (h:XU n μ μ1) (h2:XU n μ1 μ2):XU n μ μ2:=by
  obtain ⟨xs,rfl⟩:=h
  obtain ⟨ys,rfl⟩:=h2
  exact ⟨ys,by rw [List.set_set]⟩
theorem XU.len (h:XU n μ μ1):μ1.length=μ.length:=by
  obtain ⟨xs,rfl⟩:=h
  simp
theorem XU.other (h:XU n μ μ1) {j:Nat} (hj:j ≠ n):μ1[j]? = μ[j]?:=by
  obtain ⟨xs,rfl⟩:=h
  rw [List.getElem?_set_ne fun e=>hj e.symm]
theorem Ma {k:Nat}:∀ xs:List Int,ClL k (xs.map D.int)
  | []=>by unfold List.map ClL; trivial
  | x :: xs=>by unfold List.map ClL; exact ⟨by unfold Cl; trivial,Ma xs⟩
theorem B6 {gs:Mh} {k:Nat} {i:Nat} (ht:τ[i]? = some (some (.ref n))) (x:Xs μ n k) (hk:1 <= k) (q:∀ v μ1,XU n μ μ1->Xs μ1 n (k - 1)->QD (.int v) (μ1 ++ gs)):WP (AX B3 (AB i) τ) (μ ++ gs) QD:=by
  have hlt:=x.lt
  obtain ⟨xs,h1,h2⟩:=x
  have hne:xs ≠ []:=fun e=>by rw [e] at h2; simp at h2; omega
  have h1':(μ ++ gs)[n]? = some (.lst (xs.map D.int)):=by rw [List.getElem?_append_left hlt]; exact h1
  have hlast:(xs.map D.int)[(xs.map D.int).length - 1]? = some (.int (xs.getLast hne)):=by
    rw [List.length_map,List.getElem?_map,← List.getLast?_eq_getElem?,List.getLast?_eq_some_getLast hne]
    rfl
  refine wp_of (a:=.int (xs.getLast hne)) (μ':=μ.set n (.lst (xs.dropLast.map D.int)) ++ gs) ?_ (q _ _ ⟨_,rfl⟩ ⟨xs.dropLast,by rw [List.getElem?_set_self hlt],by rw [List.length_dropLast]; omega⟩)
  unfold AX
  rw [Ay (EI ht)]
  have hg:Cz (.ref n) (μ ++ gs)=some ((),μ ++ gs):=by
    unfold Cz
    rw [Ay (show Ba (.ref n) (μ ++ gs)=some (xs.map D.int,μ ++ gs) from by show (match (μ ++ gs)[n]? with | some (.lst ds)=>some (ds,μ ++ gs) | _=>none)=_; rw [h1'])]
    rfl
  rw [Ay hg]
  show Gq n (fun ds=>(ds[ds.length - 1]?).map fun d=>(d,ds.dropLast)) (μ ++ gs)=_
  unfold Gq
  rw [h1']
  dsimp only
  rw [hlast]
  show some (D.int (xs.getLast hne),(μ ++ gs).set n (.lst (xs.map D.int).dropLast))=_
  rw [List.set_append_left _ _ hlt,List.map_dropLast]
theorem CS {k:Nat} {i:Nat} (ht:τ[i]? = some (some (.ref n))) (x:Xs μ n k) (hk:1 <= k) (q:∀ v μ1,XU n μ μ1->Xs μ1 n (k - 1)->QD (.int v) μ1):WP (AX B3 (AB i) τ) μ QD:=by
  have:=B6 (gs:=[]) (QD:=QD) ht x hk fun v μ1 u x=>by rw [List.append_nil]; exact q v μ1 u x
  rw [List.append_nil] at this
  exact this
theorem DN {gs:Mh} {i:Nat} (ht:τ[i]? = some (some (.ref gs.length))) (hs:ds.length < sizeLine) (h:WP (ra τ) (gs ++ [.lst ds]) fun es μ1=>∃ gs' y,es=[y] /\ μ1=gs' ++ [.lst ds] /\ gs'.length=gs.length /\ QD .non (gs' ++ [.lst (ds ++ [y])])):WP (CG Gg (AB i) ra τ) (gs ++ [.lst ds]) QD:=by
  unfold CG
  refine AS (wp_of (EI ht) ?_)
  have hg:Cz (.ref gs.length) (gs ++ [.lst ds])=some ((),gs ++ [.lst ds]):=by
    unfold Cz
    rw [Ay (show Ba (.ref gs.length) (gs ++ [.lst ds])=some (ds,gs ++ [.lst ds]) from by show (match (gs ++ [MO.lst ds])[gs.length]? with | some (.lst ds')=>some (ds',gs ++ [MO.lst ds]) | _=>none)=some (ds,gs ++ [MO.lst ds]); rw [List.getElem?_append_right (Nat.le_refl _)]; simp)]
    rfl
  refine AS (wp_of hg (AS (AQ h ?_)))
  rintro es μ1 ⟨gs',y,rfl,rfl,hl,q⟩
  refine wp_of (a:=.non) (μ':=gs' ++ [.lst (ds ++ [y])]) ?_ q
  show Gq gs.length (fun ds=>if ds.length < sizeLine then some (.non,ds ++ [y]) else none) (gs' ++ [.lst ds])=_
  unfold Gq
  rw [← hl,List.getElem?_append_right (Nat.le_refl _)]
  simp [hs]
theorem Cc {N ps:Nat} {mb:Sl->M (Fl × Sl)} {ds:List D} {QD:D->Mh->Prop} (hl:ds.length=ps) (h:WP (mb (Bc N ds)) μ fun r μ2=>∃ d τ2 μ1 gs,r=(.rt d,τ2) /\ μ2=μ1 ++ gs /\ XU n μ μ1 /\ Cl μ.length d /\ QD d μ1):WP (A9 .drop N ps mb ds) μ QD:=by
  obtain ⟨r,μ2,e,d,τ2,μ1,gs,rfl,rfl,u,c,q⟩:=h
  have t:KR μ (μ1 ++ gs) .drop=μ1:=by show (μ1 ++ gs).take μ.length=μ1; rw [← u.len,List.take_left]
  refine wp_of (a:=d) (μ':=μ1) ?_ q
  have hh:=FG (hw:=.drop) e hl (.inr ⟨d,rfl⟩) (by
    rw [t]
    refine ⟨⟨gs,rfl⟩,by rw [u.len]; exact Nat.le_refl _,fun j o e=>?_,.inl ⟨rfl,by rw [u.len]; exact c⟩⟩
    by_cases hj:j=n
    . subst hj
      obtain ⟨xs,rfl⟩:=u
      right
      rw [List.getElem?_set] at e
      simp at e
      obtain ⟨_,rfl⟩:=e
      exact Ma xs
    . left; rw [← u.other hj]; exact e)
  rw [t] at hh
  exact hh
theorem Bj {N ps:Nat} {mb:Sl->M (Fl × Sl)} {ds:List D} {QD:D->Mh->Prop} (hl:ds.length=ps) (h:WP (mb (Bc N ds)) μ fun r μ2=>∃ d τ2 gs,r=(.rt d,τ2) /\ μ2=μ ++ gs /\ Cl μ.length d /\ QD d μ):WP (A9 .drop N ps mb ds) μ QD:=by
  obtain ⟨r,μ2,e,d,τ2,gs,rfl,rfl,c,q⟩:=h
  exact wp_of (Ig e hl c) q
end
end Mi
namespace Mi
open PySem L2
mutual
def Pz:D->Prop
  | .non=>True
  | .int _=>True
  | .str x=>PyData.strOk x=true
  | .tup ds=>PzL ds
  | .lst ds=>PzL ds
  | _=>False
def PzL:List D->Prop
  | []=>True
  | d :: ds=>Pz d /\ PzL ds
end
mutual
def dpt:D->Nat
  | .tup ds=>DZ ds + 1
  | .lst ds=>DZ ds + 1
  | _=>0
def DZ:List D->Nat
  | []=>0
  | d :: ds=>max (dpt d) (DZ ds)
end
mutual
def toZ:D->PyData
  | .int i=>.int i
  | .str x=>.str x
  | .tup ds=>.tuple (B2 ds)
  | .lst ds=>.list (B2 ds)
  | _=>.none
def B2:List D->List PyData
  | []=>[]
  | d :: ds=>toZ d :: B2 ds
end
mutual
theorem Hu (μ:Mh):∀ {d:D},Pz d->toP μ d=some (toZ d)
  | .non,_=>rfl
  | .int _,_=>rfl
  | .str _,_=>rfl
  | .tup ds,h=>by unfold Pz at h; unfold toP toZ; rw [GI μ h]; rfl
  | .lst ds,h=>by unfold Pz at h; unfold toP toZ; rw [GI μ h]; rfl
  | .bl _,h | .ty _,h | .scr _,h | .ref _,h=>by unfold Pz at h; exact h.elim
theorem GI (μ:Mh):∀ {ds:List D},PzL ds->DB μ ds=some (B2 ds)
  | [],_=>by unfold DB B2; rfl
  | d :: ds,h=>by
    unfold PzL at h
    unfold DB B2
    rw [Hu μ h.1,GI μ h.2]; rfl
end
mutual
theorem GH:∀ {d:D},Pz d->PyData.canLay0 (toZ d)=true /\ PyData.depth (toZ d)=dpt d
  | .non,_=>⟨rfl,rfl⟩
  | .int _,_=>⟨rfl,rfl⟩
  | .str _,h=>by unfold Pz at h; exact ⟨h,rfl⟩
  | .tup ds,h=>by
    unfold Pz at h
    obtain ⟨h1,h2⟩:=ES h
    unfold toZ dpt
    exact ⟨h1,by show PyData.depthAll (B2 ds) + 1=_; rw [h2]⟩
  | .lst ds,h=>by
    unfold Pz at h
    obtain ⟨h1,h2⟩:=ES h
    unfold toZ dpt
    exact ⟨h1,by show PyData.depthAll (B2 ds) + 1=_; rw [h2]⟩
  | .bl _,h | .ty _,h | .scr _,h | .ref _,h=>by unfold Pz at h; exact h.elim
theorem ES:∀ {ds:List D},PzL ds->PyData.canLayAll0 (B2 ds)=true /\ PyData.depthAll (B2 ds)=DZ ds
  | [],_=>by unfold B2 DZ; exact ⟨rfl,rfl⟩
  | d :: ds,h=>by
    unfold PzL at h
    obtain ⟨h1,h2⟩:=GH h.1
    obtain ⟨h3,h4⟩:=ES h.2
    unfold B2 DZ
    refine ⟨?_,?_⟩
    . show (PyData.canLay0 (toZ d) && PyData.canLayAll0 (B2 ds))=true
      rw [h1,h3]; rfl
    . show max (PyData.depth (toZ d)) (PyData.depthAll (B2 ds))=_
      rw [h2,h4]
end
mutual
theorem eqZ:∀ {a b:D},Pz a->Pz b->(PyData.eqv (toZ a) (toZ b)=true ↔ a=b)
  | .non,b,_,hb=>by
    cases b <;> first | exact ⟨fun _=>rfl,fun _=>rfl⟩ | (unfold Pz at hb; exact hb.elim) | (unfold toZ; exact ⟨fun z=>(by cases z),fun z=>(by cases z)⟩)
  | .int i,b,_,hb=>by
    cases b with
    | int j=>exact ⟨fun z=>by have:(i == j)=true:=z; rw [beq_iff_eq.mp this],fun z=>by cases z; show (i == i)=true; simp⟩
    | _=>first | (unfold Pz at hb; exact hb.elim) | (unfold toZ; exact ⟨fun z=>(by cases z),fun z=>(by cases z)⟩)
  | .str i,b,_,hb=>by
    cases b with
    | str j=>exact ⟨fun z=>by have:(i == j)=true:=z; rw [beq_iff_eq.mp this],fun z=>by cases z; show (i == i)=true; simp⟩
    | _=>first | (unfold Pz at hb; exact hb.elim) | (unfold toZ; exact ⟨fun z=>(by cases z),fun z=>(by cases z)⟩)
  | .tup xs,b,ha,hb=>by
    cases b with
    | tup ys=>
      unfold Pz at ha hb
      unfold toZ
      have:=QR ha hb
      exact ⟨fun z=>by rw [this.mp z],fun z=>by cases z; exact this.mpr rfl⟩
    | _=>first | (unfold Pz at hb; exact hb.elim) | (unfold toZ; exact ⟨fun z=>(by cases z),fun z=>(by cases z)⟩)
  | .lst xs,b,ha,hb=>by
    cases b with
    | lst ys=>
      unfold Pz at ha hb
      unfold toZ
      have:=QR ha hb
      exact ⟨fun z=>by rw [this.mp z],fun z=>by cases z; exact this.mpr rfl⟩
    | _=>first | (unfold Pz at hb; exact hb.elim) | (unfold toZ; exact ⟨fun z=>(by cases z),fun z=>(by cases z)⟩)
  | .bl _,_,h,_ | .ty _,_,h,_ | .scr _,_,h,_ | .ref _,_,h,_=>by unfold Pz at h; exact h.elim
theorem QR:∀ {as bs:List D},PzL as->PzL bs->(PyData.eqvAll (B2 as) (B2 bs)=true ↔ as=bs)
  | [],[],_,_=>by unfold B2; exact ⟨fun _=>rfl,fun _=>rfl⟩
  | [],_ :: _,_,_=>by unfold B2; exact ⟨fun z=>(by cases z),fun z=>(by cases z)⟩
  | _ :: _,[],_,_=>by unfold B2; exact ⟨fun z=>(by cases z),fun z=>(by cases z)⟩
  | a :: as,b :: bs,ha,hb=>by
    unfold PzL at ha hb
    unfold B2
    have h1:=eqZ ha.1 hb.1
    have h2:=QR ha.2 hb.2
    show (PyData.eqv (toZ a) (toZ b) && PyData.eqvAll (B2 as) (B2 bs))=true ↔ _
    rw [Bool.and_eq_true,h1,h2]
    exact ⟨fun ⟨x,y⟩=>by rw [x,y],fun z=>by cases z; exact ⟨rfl,rfl⟩⟩
end
section
variable {μ:Mh} {a b:D} {QD:D->Mh->Prop}
theorem MQ {neg:Bool} (ha:Pz a) (hb:Pz b) (da:dpt a <= 64) (db:dpt b <= 64):∃ e:Bool,(e=true ↔ a=b) /\ Ff neg a b μ=some (.bl (if neg then !e else e),μ):=by
  refine ⟨PyData.eqv (toZ a) (toZ b),eqZ ha hb,?_⟩
  obtain ⟨a1,a2⟩:=GH ha
  obtain ⟨b1,b2⟩:=GH hb
  have s1:SeqAt.shaped (toZ a)=true:=by
    show (PyData.canLay0 (toZ a) && decide (PyData.depth (toZ a) <= 64))=true
    rw [a1,decide_eq_true (by omega)]; rfl
  have s2:SeqAt.shaped (toZ b)=true:=by
    show (PyData.canLay0 (toZ b) && decide (PyData.depth (toZ b) <= 64))=true
    rw [b1,decide_eq_true (by omega)]; rfl
  have e1:Hv μ a=some (toZ a):=by
    cases a with
    | ref n=>unfold Pz at ha; exact ha.elim
    | _=>exact Hu μ ha
  have e2:Hv μ b=some (toZ b):=by
    cases b with
    | ref n=>unfold Pz at hb; exact hb.elim
    | _=>exact Hu μ hb
  unfold Ff
  rw [e1,e2]
  exact if_pos ⟨s1,s2⟩
theorem K6 (ha:Pz a) (hb:Pz b) (da:dpt a <= 64) (db:dpt b <= 64) (q:∀ e:Bool,(e=true ↔ a=b)->QD (.bl e) μ):WP (CV a b) μ QD:=by
  obtain ⟨e,h1,h2⟩:=MQ (μ:=μ) (neg:=false) ha hb da db
  exact wp_of h2 (q e h1)
theorem K3 (ha:Pz a) (hb:Pz b) (da:dpt a <= 64) (db:dpt b <= 64) (q:∀ e:Bool,(e=true ↔ a=b)->QD (.bl (!e)) μ):WP (D8 a b) μ QD:=by
  obtain ⟨e,h1,h2⟩:=MQ (μ:=μ) (neg:=true) ha hb da db
  exact wp_of h2 (q e h1)
end
theorem GP:∀ xs:List Int,PzL (xs.map D.int)
  | []=>by unfold List.map PzL; trivial
  | x :: xs=>by unfold List.map PzL; exact ⟨by unfold Pz; trivial,GP xs⟩
theorem E8:∀ xs:List Int,DZ (xs.map D.int)=0
  | []=>by unfold List.map DZ; rfl
  | x :: xs=>by unfold List.map DZ; rw [E8 xs]; rfl
theorem Lh {α:Type} {f:α->D}:∀ {xs:List α},(∀ a ∈ xs,Pz (f a))->PzL (xs.map f)
  | [],_=>by unfold List.map PzL; trivial
  | x :: xs,h=>by unfold List.map PzL; exact ⟨h x List.mem_cons_self,Lh fun a ha=>h a (List.mem_cons_of_mem _ ha)⟩
theorem Jl {α:Type} {f:α->D} {k:Nat}:∀ {xs:List α},(∀ a ∈ xs,dpt (f a) <= k)->DZ (xs.map f) <= k
  | [],_=>by unfold List.map DZ; omega
  | x :: xs,h=>by
    unfold List.map DZ
    have:=h x List.mem_cons_self
    have:=Jl fun a ha=>h a (List.mem_cons_of_mem x ha)
    omega
theorem Q3 (c:Nk.Cs):Pz (csD c):=by
  unfold csD Pz PzL
  refine ⟨by unfold Pz; trivial,?_⟩
  unfold PzL
  refine ⟨by unfold Pz; trivial,?_⟩
  unfold PzL
  exact ⟨by unfold Pz; exact GP _,by unfold PzL; trivial⟩
theorem QV (c:Nk.Cs):dpt (csD c) <= 2:=by
  have e:DZ (c.2.2.map D.int)=0:=E8 _
  have:dpt (csD c)=max 0 (max 0 (max (DZ (c.2.2.map D.int) + 1) 0)) + 1:=rfl
  rw [this,e]
  decide
end Mi
namespace Mi
section
variable {b:Bool} {i:Int} {a c:D}
theorem LF {P:Bool->Prop} (h:P b):∃ b',D.bl b=D.bl b' /\ P b':=⟨b,rfl,h⟩
theorem ND {P:Int->Prop} (h:P i):∃ i',D.int i=D.int i' /\ P i':=⟨i,rfl,h⟩
theorem Bk {n:Nat} {P:Nat->Prop} (e:i=n) (hn:n < 1000000) (h:P n):∃ j:Nat,[D.int i]=[D.int j] /\ j < 1000000 /\ P j:=⟨n,by rw [e],hn,h⟩
end
end Mi
local macro_rules | `(tactic| wtm_at "own qwn")=>`(tactic| first | assumption | decide | omega | exact Nat.le_of_ble_eq_true rfl)
local macro_rules | `(tactic| wtm_at "own qws")=>`(tactic| first
  | (with_reducible apply Mi.Ol) | (with_reducible apply Mi.LG) | (with_reducible apply Mi.NB) | (with_reducible apply Mi.Om) | (with_reducible apply Mi.O3) | (with_reducible apply Mi.M6) | (with_reducible apply Mi.Op) | (with_reducible apply Mi.Qg) | (with_reducible apply Mi.NE) | (with_reducible apply Mi.NF) | (with_reducible apply Mi.Qe) | (with_reducible apply Mi.Rp) | ((with_reducible apply Mi.Mu); rfl) | (with_reducible apply Mi.K8) | (with_reducible apply Mi.Mz) | (with_reducible apply Mi.M8) | (with_reducible apply Mi.Qc)
  | (with_reducible apply Mi.Ms) | (with_reducible apply Mi.LF) | (with_reducible apply Mi.Oo) | (with_reducible apply Mi.O1) | (with_reducible apply Mi.Qd) | (with_reducible apply Mi.Ox) | (with_reducible apply Mi.M9) | (with_reducible apply Mi.Oi) | (with_reducible apply Mi.Mv) | (with_reducible apply Mi.Mw) | (with_reducible apply Mi.Mx) | (with_reducible apply Mi.Oj) | (with_reducible apply Mi.Jy) | (with_reducible apply Mi.My) | (with_reducible apply Mi.ND)
  | (with_reducible apply Mi.NC) | (with_reducible apply Mi.wq_add) | (with_reducible apply Mi.Oh) | (with_reducible apply Mi.Qf) | (with_reducible apply Mi.Qh) | (with_reducible apply Mi.Qi) | (with_reducible apply Mi.Oy) | (with_reducible apply Mi.Oq) | (with_reducible apply Mi.Ov) | (with_reducible apply Mi.Ou) | (with_reducible apply Mi.M4) | (with_reducible apply Mi.Os) | (with_reducible apply Mi.wq_tupT) | (with_reducible apply Mi.Mr) | (with_reducible apply Mi.M3) | (with_reducible apply Mi.Iw) | (with_reducible apply Mi.LC)
  | ((with_reducible apply Mi.Ot); (wtm_at "own qwn")) | ((with_reducible apply Mi.M5); (wtm_at "own qwn"); (wtm_at "own qwn")) | ((with_reducible apply Mi.M0); (wtm_at "own qwn")) | ((with_reducible apply Mi.Bi); (wtm_at "own qwn")) | ((with_reducible apply Mi.M1); (wtm_at "own qwn")) | ((with_reducible apply Mi.DA); rfl) | ((with_reducible apply Mi.K4); rfl))
local macro_rules | `(tactic| wtm_at "own qwr")=>`(tactic| repeat wtm_at "own qws")
set_option maxHeartbeats 1000000
namespace K41
open PySem L2 Mi Ht Nk Hs
section
variable {μ:Mh} {QD:D->Mh->Prop}
theorem Fp:∀ xs:List Int,DW (xs.map D.int)=some xs
  | []=>rfl
  | x :: xs=>by unfold List.map DW; rw [Fp xs]; rfl
theorem HN (c:Cs) (cs:List Cs):DW ((c :: cs).map csD)=none:=rfl
theorem RU {na nb:List Int}:((((Aa na).filter fun k=>!decide (k ∈ Aa nb)).length:Int) == 0)=na.all fun k=>decide (k ∈ nb):=by
  rw [Bool.eq_iff_iff,beq_iff_eq,List.all_eq_true]
  constructor
  . intro h k hk
    have h0:((Aa na).filter fun k=>!decide (k ∈ Aa nb))=[]:=List.eq_nil_of_length_eq_zero (by omega)
    have:=List.filter_eq_nil_iff.mp h0 k ((Co na k).mpr hk)
    simp at this
    exact decide_eq_true ((Co nb k).mp this)
  . intro h
    have h0:((Aa na).filter fun k=>!decide (k ∈ Aa nb))=[]:=List.filter_eq_nil_iff.mpr fun k hk=>by
      have:=of_decide_eq_true (h k ((Co na k).mp hk))
      simp [(Co nb k).mpr this]
    rw [h0]; rfl
theorem RV {ca cb:List Cs}:((((AT ca).filter fun k=>!decide (k ∈ AT cb)).length:Int) == 0)=ca.all fun k=>decide (k ∈ cb):=by
  rw [Bool.eq_iff_iff,beq_iff_eq,List.all_eq_true]
  have ma:=(BV ca).2
  have mb:=(BV cb).2
  constructor
  . intro h k hk
    have h0:((AT ca).filter fun k=>!decide (k ∈ AT cb))=[]:=List.eq_nil_of_length_eq_zero (by omega)
    have:=List.filter_eq_nil_iff.mp h0 k ((ma k).mpr hk)
    simp at this
    exact decide_eq_true ((mb k).mp this)
  . intro h
    have h0:((AT ca).filter fun k=>!decide (k ∈ AT cb))=[]:=List.filter_eq_nil_iff.mpr fun k hk=>by
      have:=of_decide_eq_true (h k ((ma k).mp hk))
      simp [(mb k).mpr this]
    rw [h0]; rfl
theorem HF:∀ xs:List Int,(Aa xs).length <= xs.length:=fun xs=>DT (Eg xs) fun x hx=>(Co xs x).mp hx
theorem Cp (xs:List Cs):(AT xs).length <= xs.length:=DT (BV xs).1 fun x hx=>((BV xs).2 x).mp hx
theorem N0 {na nb:List Int} (ha:na.length <= 3) (hb:nb.length <= 18):By (.tup (na.map D.int)) (.tup (nb.map D.int)) μ=some (.int ((Aa na).filter fun k=>!decide (k ∈ Aa nb)).length,μ):=by
  unfold By
  simp only [Fp]
  rw [if_pos ⟨by have:=HF na; omega,by have:=HF nb; omega⟩]
theorem N1 {ca cb:List Cs} (ha:ca.length <= 11) (hb:cb.length <= 18):By (.tup (ca.map csD)) (.tup (cb.map csD)) μ=some (.int ((AT ca).filter fun k=>!decide (k ∈ AT cb)).length,μ):=by
  have r:(AT ca).length <= 11 /\ (AT cb).length <= 18:=⟨by have:=Cp ca; omega,by have:=Cp cb; omega⟩
  have s1:=CQ ca
  have s2:=CQ cb
  unfold By
  cases ca with
  | nil=>
    cases cb with
    | nil=>rfl
    | cons c cb=>
      dsimp only [HN]
      rw [s1,s2]
      exact if_pos r
  | cons c ca=>
    dsimp only
    rw [HN,s1,s2]
    exact if_pos r
theorem J2 {na nb:List Int} (ha:na.length <= 3) (hb:nb.length <= 18) (q:QD (.bl (na.all fun k=>decide (k ∈ nb))) μ):WP (A4 [.tup (na.map D.int),.tup (nb.map D.int)]) μ QD:=by
  unfold A4
  refine Bj rfl ?_
  unfold BN
  wtm_at "own qwr"
  refine wp_of (N0 ha hb) ?_
  wtm_at "own qwr"
  rw [RU]
  exact ⟨_,_,[],rfl,by simp,by unfold Cl; trivial,q⟩
theorem J3 {ca cb:List Cs} (ha:ca.length <= 11) (hb:cb.length <= 18) (q:QD (.bl (ca.all fun k=>decide (k ∈ cb))) μ):WP (A4 [.tup (ca.map csD),.tup (cb.map csD)]) μ QD:=by
  unfold A4
  refine Bj rfl ?_
  unfold BN
  wtm_at "own qwr"
  refine wp_of (N1 ha hb) ?_
  wtm_at "own qwr"
  rw [RV]
  exact ⟨_,_,[],rfl,by simp,by unfold Cl; trivial,q⟩
def tD:Option (List Int)->D
  | none=>.non
  | some l=>.tup (l.map D.int)
abbrev clD (w c:Int) (ts:List (Option (List Int))):D:=.tup [.int w,.int c,.tup (ts.map tD)]
def lnm:Option (List Int)->Option (List Int)->Bool
  | none,none=>true
  | some a,some b=>a.all fun k=>decide (k ∈ b)
  | _,_=>false
theorem M2 {a b:Option (List Int)} (ha:∀ l,a=some l->l.length <= 3) (hb:∀ l,b=some l->l.length <= 3) (q:QD (.bl (lnm a b)) μ):WP (BT [tD a,tD b]) μ QD:=by
  unfold BT
  refine Bj rfl ?_
  unfold A3
  cases a with
  | none=>
    wtm_at "own qwr"
    show orK _ _ true μ
    unfold orK
    wtm_at "own qwr"
    (with_reducible apply Ix)
    wtm_at "own qwr"
    refine ⟨fun _=>?_,fun z=>(by cases z)⟩
    wtm_at "own qwr"
    exact ⟨_,_,[],rfl,by simp,by unfold Cl; trivial,by cases b <;> exact q⟩
  | some x=>
    cases b with
    | none=>
      wtm_at "own qwr"
      show orK _ _ false μ
      unfold orK
      wtm_at "own qwr"
      show ifK _ _ _ _ true μ
      wtm_at "own qwr"
      (with_reducible apply Ix)
      wtm_at "own qwr"
      refine ⟨fun z=>(by cases z),fun _=>?_⟩
      wtm_at "own qwr"
      exact ⟨_,_,[],rfl,by simp,by unfold Cl; trivial,q⟩
    | some y=>
      wtm_at "own qwr"
      show orK _ _ false μ
      unfold orK
      wtm_at "own qwr"
      show ifK _ _ _ _ false μ
      wtm_at "own qwr"
      have h1:=ha x rfl
      have h2:=hb y rfl
      refine J2 h1 (by omega) ?_
      exact ⟨_,_,[],rfl,by simp,by unfold Cl; trivial,q⟩
end
end K41
namespace Mi
open PySem L2
section
variable {τ τ1:Sl} {μ μ1:Mh} {d x y:D} {ds:List D} {ma mb:Sl->M D} {ra:Sl->M (List D)} {tc tb:Sl->M Bool} {m1 m2:Sl->M (Fl × Sl)} {QD:D->Mh->Prop} {QL:List D->Mh->Prop} {QS:Fl × Sl->Mh->Prop}
theorem ER {α:Type} (f:α->D) (p:α->Bool) (F:α->D) {bf:D->Sl->M Sl} {τ0:Sl} {xs:List α} (h:∀ a ∈ xs,WP (bf (f a) τ0) μ fun τ1 μ1=>μ1=μ /\ WP (tc τ1) μ fun c μ2=>c=p a /\ μ2=μ /\ (p a=true->WP (ma τ1) μ fun y μ3=>y=F a /\ μ3=μ)) (q:QL ((xs.filter p).map F) μ):WP (BX bf tc ma τ0 (xs.map f) []) μ QL:=by
  refine CT (I:=fun rest ys μ'=>∃ a b,a ++ b=xs /\ rest=b.map f /\ ys=(a.filter p).map F /\ μ'=μ) (fun z zs ys μ' hI=>?_) (fun ys μ' hI=>?_) ⟨[],xs,rfl,rfl,rfl,rfl⟩
  . obtain ⟨a,b,hab,hr,rfl,rfl⟩:=hI
    cases b with
    | nil=>cases hr
    | cons w b=>
      rw [List.map_cons] at hr
      obtain ⟨e1,e2⟩:=List.cons.inj hr
      subst e1
      have hw:w ∈ xs:=by rw [← hab]; simp
      refine AQ (h w hw) fun τ1 μ1 ⟨e,z⟩=>?_
      subst e
      refine AQ z fun c μ2 ⟨e3,e4,z2⟩=>?_
      subst e3 e4
      refine ⟨fun hc=>AQ (z2 hc) fun y μ3 ⟨e5,e6⟩=>?_,fun hc=>?_⟩
      . subst e5 e6
        exact ⟨a ++ [w],b,by rw [← hab]; simp,e2,by rw [List.filter_append,List.map_append,List.filter_cons_of_pos hc]; rfl,rfl⟩
      . exact ⟨a ++ [w],b,by rw [← hab]; simp,e2,by rw [List.filter_append,List.map_append,List.filter_cons_of_neg (by rw [hc]; exact Bool.false_ne_true)]; simp,rfl⟩
  . obtain ⟨a,b,hab,hr,rfl,rfl⟩:=hI
    cases b with
    | cons w b=>cases hr
    | nil=>
      rw [List.append_nil] at hab
      subst hab
      exact q
theorem Og (h:WP (ra τ) μ fun ds μ1=>∃ xs ys,ds=[.tup xs,.tup ys] /\ ys.length=xs.length /\ QL (Dc xs ys) μ1):WP (QA ra τ) μ QL:=AS (AQ h fun ds μ1 ⟨xs,ys,e,hl,q⟩=>by
  subst e
  refine wp_of (a:=Dc xs ys) (μ':=μ1) ?_ q
  exact if_pos hl)
theorem Gj {α β:Type} {f:α->D} {g:β->D}:∀ {xs:List α} {ys:List β},Dc (xs.map f) (ys.map g)=(xs.zip ys).map fun p=>.tup [f p.1,g p.2]
  | [],_=>rfl
  | _ :: _,[]=>rfl
  | x :: xs,y :: ys=>by
    rw [List.map_cons,List.map_cons,List.zip_cons_cons,List.map_cons,← Gj]
    rfl
theorem Jq {α:Type} {f:α->Bool}:∀ xs:List α,Ge (xs.map fun a=>D.bl (f a))=some (xs.map f)
  | []=>rfl
  | x :: xs=>by rw [List.map_cons]; unfold Ge; rw [Jq xs]; rfl
theorem O2 {α:Type} {f:α->Bool} {xs:List α} (q:QD (.bl (xs.all f)) μ):WP (OJ [.lst (xs.map fun a=>D.bl (f a))]) μ QD:=by
  refine wp_of (a:=.bl (xs.all f)) (μ':=μ) ?_ q
  show (Ge (xs.map fun a=>D.bl (f a))).map _=_
  rw [Jq]
  show some (D.bl ((xs.map f).all id),μ)=_
  rw [List.all_map]
  rfl
theorem Cb {x y:Str} (h1:PyData.strOk x=true) (h2:PyData.strOk y=true) (q:QD (.bl (x == y)) μ):WP (CV (.str x) (.str y)) μ QD:=by
  refine K6 (by unfold Pz; exact h1) (by unfold Pz; exact h2) (by show 0 <= 64; omega) (by show 0 <= 64; omega) fun e he=>?_
  have:e=(x == y):=by
    rw [Bool.eq_iff_iff,he,beq_iff_eq]
    exact ⟨fun z=>by cases z; rfl,fun z=>by rw [z]⟩
  rw [this]
  exact q
end
end Mi
set_option maxHeartbeats 1000000
namespace K41
open PySem L2 Mi Ht Nk Hs
section
variable {μ:Mh} {QD:D->Mh->Prop}
abbrev mkD (kd:Str) (sz:Int) (hs:D):D:=.tup [.str kd,.int sz,.int 0,.tup [],hs]
theorem Au:PyData.strOk ("whole" : Str)=true:=by decide +kernel
theorem EQ {sz:Int} {hs:D} {ca cb:List Cs} (ha:ca.length <= 11) (hb:cb.length <= 18) (q:QD (.bl (ca.all fun k=>decide (k ∈ cb))) μ):WP (Ax [mkD "whole" sz hs,.tup (ca.map csD),.tup (cb.map csD)]) μ QD:=by
  unfold Ax
  refine Bj rfl ?_
  unfold CM
  wtm_at "own qwr"
  refine Cb Au Au ?_
  wtm_at "own qwr"
  show ifK _ _ _ _ true μ
  wtm_at "own qwr"
  refine J3 ha hb ?_
  wtm_at "own qwr"
  exact ⟨_,_,[],rfl,by simp,by unfold Cl; trivial,q⟩
structure Cm (ts:List (Option (List Int))):Prop where
  len:ts.length <= 100
  sm:∀ l,some l ∈ ts->l.length <= 3
theorem Rj (k:Nat):∀ t,Cl k (tD t)
  | none=>by unfold tD Cl; trivial
  | some l=>by unfold tD Cl; exact Ma l
theorem Jz {kd:Str} (hk:PyData.strOk kd=true) (hn:(kd == ("whole" : Str))=false) {sz w c w' c':Int} {hs:D} {ts ts':List (Option (List Int))} (hl:ts'.length=ts.length) (ha:Cm ts) (hb:Cm ts') (q:QD (.bl ((w == w' && c == c') && (ts.zip ts').all fun p=>lnm p.1 p.2)) μ):WP (Ax [mkD kd sz hs,clD w c ts,clD w' c' ts']) μ QD:=by
  unfold Ax
  refine Bj rfl ?_
  unfold CM
  wtm_at "own qwr"
  refine Cb hk Au ?_
  wtm_at "own qwr"
  rw [hn]
  wtm_at "own qwr"
  refine wp_of (a:=.tup [.int w,.int c]) (μ':=μ) rfl ?_
  wtm_at "own qwr"
  refine wp_of (a:=.tup [.int w',.int c']) (μ':=μ) rfl ?_
  refine K3 (by unfold Pz PzL Pz PzL Pz PzL; exact ⟨trivial,trivial,trivial⟩) (by unfold Pz PzL Pz PzL Pz PzL; exact ⟨trivial,trivial,trivial⟩) (by show max 0 (max 0 0) + 1 <= 64; decide) (by show max 0 (max 0 0) + 1 <= 64; decide) fun e he=>?_
  have he':e=(w == w' && c == c'):=by
    rw [Bool.eq_iff_iff,he,Bool.and_eq_true,beq_iff_eq,beq_iff_eq]
    exact ⟨fun z=>by cases z; exact ⟨rfl,rfl⟩,fun z=>by rw [z.1,z.2]⟩
  rw [← he'] at q
  wtm_at "own qwr"
  cases e with
  | false=>
    show ifK _ _ _ _ true μ
    wtm_at "own qwr"
    exact ⟨_,_,[],rfl,by simp,by unfold Cl; trivial,q⟩
  | true=>
    show ifK _ _ _ _ false μ
    wtm_at "own qwr"
    (with_reducible apply Og)
    wtm_at "own qwr"
    refine ⟨ts.map tD,ts'.map tD,rfl,by simpa using hl,?_,?_⟩
    . rw [EO (by simpa using hl),List.length_map]; have:=ha.len; rw [sizeLine_eq]; omega
    rw [Gj]
    refine ER _ (fun _=>true) (fun p=>.bl (lnm p.1 p.2)) (fun p hp=>?_) ?_
    . (with_reducible apply LB)
      refine ⟨rfl,?_⟩
      (with_reducible apply Iw)
      refine ⟨rfl,rfl,fun _=>?_⟩
      wtm_at "own qwr"
      obtain ⟨h1,h2⟩:=List.of_mem_zip (a:=p.1) (b:=p.2) hp
      refine M2 (fun l e=>ha.sm l (e ▸ h1)) (fun l e=>hb.sm l (e ▸ h2)) ⟨rfl,rfl⟩
    . rw [List.filter_eq_self.mpr (fun _ _=>rfl)]
      refine Bi (by rw [List.length_map,List.length_zip]; have:=ha.len; rw [sizeLine_eq]; omega) ?_
      wtm_at "own qwr"
      (with_reducible apply O2)
      wtm_at "own qwr"
      exact ⟨_,_,[],rfl,by simp,by unfold Cl; trivial,q⟩
end
end K41
set_option maxHeartbeats 1000000
namespace K41
open PySem L2 Mi Ht Nk Hs
section
variable {μ:Mh} {QD:D->Mh->Prop}
theorem Ml (c:Cs):Ku (csD c)=some c:=by
  have h:∀ ns:List Int,Bf (ns.map D.int)=some ns:=fun ns=>by
    induction ns with
    | nil=>rfl
    | cons n ns ih=>unfold List.map Bf; rw [ih]; rfl
  show (Bf (c.2.2.map D.int)).map (fun ns=>(c.1,c.2.1,ns))=some c
  rw [h]; rfl
theorem K2 {c:Cs} {cs:List Cs} (q:QD (.bl (!decide (c ∈ cs))) μ):WP (Jg true (csD c) (.tup (cs.map csD))) μ QD:=by
  refine wp_of (a:=.bl (!decide (c ∈ cs))) (μ':=μ) ?_ q
  unfold Jg
  rw [Ay (show A6 (.tup (cs.map csD)) μ=some (cs.map csD,μ) from rfl),Ml,CQ]
  have:(cs.any fun z=>decide (z=c))=decide (c ∈ cs):=by
    rw [Bool.eq_iff_iff,List.any_eq_true,decide_eq_true_iff]
    exact ⟨fun ⟨z,h1,h2⟩=>(of_decide_eq_true h2) ▸ h1,fun h=>⟨c,h,by simp⟩⟩
  show some (D.bl (!(cs.any fun z=>decide (z=c))),μ)=_
  rw [this]
theorem Lg:Pz (.lst []):=by unfold Pz PzL; trivial
theorem OI {α:Type} [DecidableEq α] {ca cb:List α}:(ca.filter (fun k=>!decide (k ∈ cb))=[]) ↔ (ca.all fun k=>decide (k ∈ cb))=true:=by
  rw [List.filter_eq_nil_iff,List.all_eq_true]
  exact ⟨fun h k hk=>by simpa using h k hk,fun h k hk=>by simpa using h k hk⟩
theorem M7 {ca cb:List Cs} (ha:ca.length <= 1000) (q:QD (.bl (ca.all fun k=>decide (k ∈ cb))) μ):WP (Bz [.str "whole",.tup (ca.map csD),.tup (cb.map csD)]) μ QD:=by
  unfold Bz
  refine Bj rfl ?_
  unfold Dl
  wtm_at "own qwr"
  refine Cb Au Au ?_
  wtm_at "own qwr"
  show ifK _ _ _ _ true μ
  wtm_at "own qwr"
  refine ⟨by rw [List.length_map,sizeLine_eq]; omega,?_⟩
  refine ER _ (fun k=>!decide (k ∈ cb)) csD (fun c hc=>?_) ?_
  . wtm_at "own qwr"
    refine ⟨rfl,?_⟩
    wtm_at "own qwr"
    refine K2 ?_
    wtm_at "own qwr"
    refine ⟨rfl,rfl,fun _=>?_⟩
    wtm_at "own qwr"
    exact ⟨rfl,rfl⟩
  . refine Bi (by have:=List.length_filter_le (fun k=>!decide (k ∈ cb)) ca; rw [List.length_map,sizeLine_eq]; omega) ?_
    wtm_at "own qwr"
    refine K6 (by unfold Pz; exact Lh fun c _=>Q3 c) Lg (by have:=Jl (f:=csD) (k:=2) (xs:=ca.filter fun k=>!decide (k ∈ cb)) fun c _=>QV c; unfold dpt; omega) (by show 0 + 1 <= 64; decide) fun e he=>?_
    have:e=ca.all fun k=>decide (k ∈ cb):=by
      rw [Bool.eq_iff_iff,he,List.all_eq_true]
      constructor
      . intro z k hk
        have:=List.filter_eq_nil_iff.mp (List.map_eq_nil_iff.mp (D.lst.inj z)) k hk
        simpa using this
      . intro h
        have:ca.filter (fun k=>!decide (k ∈ cb))=[]:=List.filter_eq_nil_iff.mpr fun k hk=>by simpa using h k hk
        rw [this]; rfl
    subst this
    wtm_at "own qwr"
    exact ⟨_,_,[],rfl,by simp,by unfold Cl; trivial,q⟩
theorem Ow {x:Int} {xs:List Int} (q:QD (.bl (!decide (x ∈ xs))) μ):WP (Na true (.int x) (.tup (xs.map D.int))) μ QD:=by
  refine wp_of (a:=.bl (!decide (x ∈ xs))) (μ':=μ) ?_ q
  have h1:∀ xs:List Int,DJ (xs.map D.int)=some (xs.map V.int):=fun xs=>by
    induction xs with
    | nil=>rfl
    | cons x xs ih=>unfold List.map DJ; rw [ih]; rfl
  have h2:∀ xs:List Int,inV (.int x) (xs.map V.int)=decide (x ∈ xs):=fun xs=>by
    unfold inV
    rw [List.any_map,Bool.eq_iff_iff,List.any_eq_true,decide_eq_true_iff]
    constructor
    . rintro ⟨y,hy,e⟩
      have e':(y == x)=true:=e
      rw [← beq_iff_eq.mp e']; exact hy
    . intro h
      exact ⟨x,h,by show (x == x)=true; simp⟩
  show Jf true (.int x) (.tup (xs.map D.int)) μ=_
  unfold Jf
  rw [Ay (show A6 (.tup (xs.map D.int)) μ=some (xs.map D.int,μ) from rfl)]
  simp only [h1]
  show some (D.bl (!inV (.int x) (xs.map V.int)),μ)=_
  rw [h2]
theorem DL {ds:List D} {r:Nat} {x:D} (h:ds[r]? = some x):atI ds (r:Int)=some x:=by
  have hr:=(List.getElem?_eq_some_iff.mp h).1
  unfold atI ixN
  rw [if_pos (by omega),if_pos (by omega)]
  simpa using h
theorem Oz {kd:Str} (hk:PyData.strOk kd=true) (hn:(kd == ("whole" : Str))=false) {w c w' c':Int} {ts ts':List (Option (List Int))} (hl:ts'.length=ts.length) (ha:Cm ts) (q:QD (.bl ((w == w' && c == c') && (ts.zip ts').all fun p=>lnm p.1 p.2)) μ):WP (Bz [.str kd,clD w c ts,clD w' c' ts']) μ QD:=by
  unfold Bz
  refine Bj rfl ?_
  unfold Dl
  wtm_at "own qwr"
  refine Cb hk Au ?_
  wtm_at "own qwr"
  rw [hn]
  wtm_at "own qwr"
  cases e1:(w == w') with
  | false=>
    show orK _ _ true μ
    unfold orK
    wtm_at "own qwr"
    rw [e1] at q
    exact ⟨_,_,[],rfl,by simp,by unfold Cl; trivial,q⟩
  | true=>
    show orK _ _ false μ
    unfold orK
    wtm_at "own qwr"
    cases e2:(c == c') with
    | false=>
      show ifK _ _ _ _ true μ
      wtm_at "own qwr"
      rw [e1,e2] at q
      exact ⟨_,_,[],rfl,by simp,by unfold Cl; trivial,q⟩
    | true=>
      rw [e1,e2] at q
      show ifK _ _ _ _ false μ
      wtm_at "own qwr"
      refine Bk (n:=ts.length) (by rw [List.length_map]) (by have:=ha.len; omega) ?_
      refine CC (I:=fun rest τ μ'=>∃ j o3,j <= ts.length /\ rest=(List.range' j (ts.length - j)).map (fun (i:Nat)=>D.int (i:Int)) /\ μ=μ' /\ τ=[some (.str kd),some (clD w c ts),some (clD w' c' ts'),o3] /\ ∀ i,i < j->∀ a b,ts[i]? = some a->ts'[i]? = some b->lnm a b=true) ?step ?fin ⟨0,none,Nat.zero_le _,by rw [Nat.sub_zero,← List.range_eq_range'],rfl,rfl,fun i hi=>absurd hi (Nat.not_lt_zero i)⟩
      case fin=>
        rintro τ μ' ⟨j,o3,hj,hr,rfl,rfl,hall⟩
        have hj':j=ts.length:=by
          have:=congrArg List.length hr
          simp at this
          omega
        subst hj'
        wtm_at "own qwr"
        refine ⟨_,_,[],rfl,by simp,by unfold Cl; trivial,?_⟩
        have:(ts.zip ts').all (fun p=>lnm p.1 p.2)=true:=by
          rw [List.all_eq_true]
          intro p hp
          obtain ⟨i,hi,e⟩:=List.getElem_of_mem hp
          rw [List.getElem_zip] at e
          have h1:i < ts.length:=by rw [List.length_zip] at hi; omega
          refine hall i h1 _ _ (by rw [← e]; simp) (by rw [← e]; simp)
        rw [this] at q
        exact q
      case step=>
        rintro x xs τ μ' ⟨j,o3,hj,hr,rfl,rfl,hall⟩
        have hlt:j < ts.length:=by
          rcases Nat.lt_or_ge j ts.length with z | z
          . exact z
          . rw [show ts.length - j=0 by omega] at hr; cases hr
        have hj':j < ts'.length:=by omega
        rw [show ts.length - j=(ts.length - (j + 1)) + 1 by omega,List.range'_succ,List.map_cons] at hr
        obtain ⟨e3,e4⟩:=List.cons.inj hr
        subst e3
        have a1:(ts.map tD)[j]? = some (tD ts[j]):=by simp [hlt]
        have a2:(ts'.map tD)[j]? = some (tD ts'[j]):=by simp [hj']
        have isn:∀ t,isN (tD t)=t.isNone:=fun t=>by cases t <;> rfl
        have bad:lnm ts[j] ts'[j]=false->(ts.zip ts').all (fun p=>lnm p.1 p.2)=false:=fun z=>by
          rw [Bool.eq_false_iff]
          intro h
          rw [List.all_eq_true] at h
          have hm:(ts[j],ts'[j]) ∈ ts.zip ts':=by
            rw [← List.getElem_zip (h:=by rw [List.length_zip]; omega)]
            exact List.getElem_mem _
          have:=h _ hm
          rw [z] at this
          cases this
        have go:∀ o3,lnm ts[j] ts'[j]=true->Dy (fun τ μ'=>∃ j o3,j <= ts.length /\ xs=(List.range' j (ts.length - j)).map (fun (i:Nat)=>D.int (i:Int)) /\ μ=μ' /\ τ=[some (.str kd),some (clD w c ts),some (clD w' c' ts'),o3] /\ ∀ i,i < j->∀ a b,ts[i]? = some a->ts'[i]? = some b->lnm a b=true) (Gv (BA (mC (.bl true))) fun r μ2=>∃ d τ2 gs,r=(Fl.rt d,τ2) /\ μ2=μ ++ gs /\ Cl μ.length d /\ QD d μ) (.next,[some (.str kd),some (clD w c ts),some (clD w' c' ts'),o3]) μ:=fun o3 z=>by
          refine BC ⟨j + 1,o3,hlt,e4,rfl,rfl,fun i hi a b ea eb=>?_⟩
          rcases Nat.lt_or_ge i j with h | h
          . exact hall i h a b ea eb
          . have:i=j:=by omega
            subst this
            simp [hlt] at ea
            simp [hj'] at eb
            rw [← ea,← eb]; exact z
        wtm_at "own qwr"
        refine DA (DL a1) ?_
        wtm_at "own qwr"
        refine DA (DL a2) ?_
        wtm_at "own qwr"
        rw [isn,isn]
        cases h1:ts[j] with
        | none=>
          cases h2:ts'[j] with
          | none=>
            show ifK _ _ _ _ false μ
            wtm_at "own qwr"
            refine DA (DL a1) ?_
            wtm_at "own qwr"
            rw [isn,h1]
            show ifK _ _ _ _ false μ
            wtm_at "own qwr"
            exact go _ (by rw [h1,h2]; rfl)
          | some b=>
            show ifK _ _ _ _ true μ
            wtm_at "own qwr"
            refine Dd ?_
            wtm_at "own qwr"
            exact ⟨_,_,[],rfl,by simp,by unfold Cl; trivial,by rw [bad (by rw [h1,h2]; rfl)] at q; exact q⟩
        | some a=>
          cases h2:ts'[j] with
          | none=>
            show ifK _ _ _ _ true μ
            wtm_at "own qwr"
            refine Dd ?_
            wtm_at "own qwr"
            exact ⟨_,_,[],rfl,by simp,by unfold Cl; trivial,by rw [bad (by rw [h1,h2]; rfl)] at q; exact q⟩
          | some b=>
            show ifK _ _ _ _ false μ
            wtm_at "own qwr"
            refine DA (DL a1) ?_
            wtm_at "own qwr"
            rw [isn,h1]
            show ifK _ _ _ _ true μ
            wtm_at "own qwr"
            refine DA (DL a1) ?_
            rw [h1]
            unfold tD
            wtm_at "own qwr"
            have hsm:=ha.sm a (by rw [← h1]; exact List.getElem_mem _)
            refine ⟨by rw [List.length_map,sizeLine_eq]; omega,?_⟩
            refine ER _ (fun k=>!decide (k ∈ b)) D.int (fun k hk=>?_) ?_
            . wtm_at "own qwr"
              refine ⟨rfl,?_⟩
              wtm_at "own qwr"
              refine DA (DL a2) ?_
              rw [h2]
              refine Ow ?_
              wtm_at "own qwr"
              refine ⟨rfl,rfl,fun _=>?_⟩
              wtm_at "own qwr"
              exact ⟨rfl,rfl⟩
            . refine Bi (by have:=List.length_filter_le (fun k=>!decide (k ∈ b)) a; rw [List.length_map,sizeLine_eq]; omega) ?_
              wtm_at "own qwr"
              refine K3 (by unfold Pz; exact GP _) Lg (by unfold dpt; rw [E8]; decide) (by show 0 + 1 <= 64; decide) fun e he=>?_
              have hee:e=lnm ts[j] ts'[j]:=by
                rw [h1,h2]
                show e=a.all fun k=>decide (k ∈ b)
                rw [Bool.eq_iff_iff,he,← OI]
                constructor
                . intro z
                  have:=D.lst.inj z
                  exact List.map_eq_nil_iff.mp this
                . intro z; rw [z]; rfl
              wtm_at "own qwr"
              cases e with
              | false=>
                show ifK _ _ _ _ true μ
                wtm_at "own qwr"
                refine Dd ?_
                wtm_at "own qwr"
                exact ⟨_,_,[],rfl,by simp,by unfold Cl; trivial,by rw [bad hee.symm] at q; exact q⟩
              | true=>
                show ifK _ _ _ _ false μ
                wtm_at "own qwr"
                exact go _ hee.symm
end
end K41
set_option maxHeartbeats 1000000
namespace K41
open PySem L2 Mi Ht Nk Hs
section
variable {μ:Mh} {QD:D->Mh->Prop} {n k:Nat}
theorem Od (j:Nat) (ts:List (Option (List Int))):ClL j (ts.map tD):=by
  induction ts with
  | nil=>unfold List.map ClL; trivial
  | cons t ts ih=>unfold List.map ClL; exact ⟨Rj j t,ih⟩
theorem Mt {gs:Mh} {sz:Nat} {μ1:Mh} {QL:List D->Mh->Prop} {j:Int} (hj:j=sz) (x:Xs μ1 n k) (hk:sz <= k) (q:∀ (l:List Int) μ2,l.length <= sz->XU n μ1 μ2->Xs μ2 n (k - sz)->QL (l.map D.int) (μ2 ++ gs)) :
    WP (BX (AL 0) (AV (mOp CV (mOp Ah (mOp Af (AX B3 (AB 1)) (mC (.int 3))) (mC (.int 2))) (mC (.int 0)))) (AB 0) [none,some (.ref n)] ((List.range sz).map fun (i:Nat)=>D.int (i:Int)) []) (μ1 ++ gs) QL:=by
  refine CT (I:=fun rest ys μ'=>∃ i l μ2,i <= sz /\ rest=(List.range' i (sz - i)).map (fun (i:Nat)=>D.int (i:Int)) /\ ys=List.map D.int l /\ l.length <= i /\ μ'=μ2 ++ gs /\ XU n μ1 μ2 /\ Xs μ2 n (k - i)) ?step ?fin ⟨0,[],μ1,Nat.zero_le _,by rw [Nat.sub_zero,← List.range_eq_range'],rfl,Nat.le_refl _,rfl,x.refl,x⟩
  case fin=>
    rintro ys μ' ⟨i,l,μ2,hi,hr,rfl,hl,rfl,u,x2⟩
    have hi':i=sz:=by
      have:=congrArg List.length hr
      simp at this
      omega
    subst hi'
    exact q l μ2 hl u x2
  case step=>
    rintro y ys zs μ' ⟨i,l,μ2,hi,hr,rfl,hl,rfl,u,x2⟩
    have hlt:i < sz:=by
      rcases Nat.lt_or_ge i sz with z | z
      . exact z
      . rw [show sz - i=0 by omega] at hr; cases hr
    rw [show sz - i=(sz - (i + 1)) + 1 by omega,List.range'_succ,List.map_cons] at hr
    obtain ⟨e3,e4⟩:=List.cons.inj hr
    subst e3
    wtm_at "own qwr"
    refine B6 rfl x2 (by omega) fun v μ3 u3 x3=>?_
    wtm_at "own qwr"
    refine ⟨fun _=>?_,fun _=>?_⟩
    . wtm_at "own qwr"
      exact ⟨i + 1,l ++ [(i:Int)],μ3,hlt,e4,by rw [List.map_append]; rfl,by simp; exact hl,rfl,u.trans u3,by rw [show k - (i + 1)=k - i - 1 by omega]; exact x3⟩
    . exact ⟨i + 1,l,μ3,hlt,e4,rfl,by omega,rfl,u.trans u3,by rw [show k - (i + 1)=k - i - 1 by omega]; exact x3⟩
theorem at4 (a b c d:D) (v:Int):∃ y,atI [a,b,c,d] (v / 3 % 4)=some y /\ (y=a ∨ y=b ∨ y=c ∨ y=d):=by
  have:v / 3 % 4=0 ∨ v / 3 % 4=1 ∨ v / 3 % 4=2 ∨ v / 3 % 4=3:=by omega
  rcases this with e | e | e | e <;> rw [e]
  . exact ⟨a,rfl,.inl rfl⟩
  . exact ⟨b,rfl,.inr (.inl rfl)⟩
  . exact ⟨c,rfl,.inr (.inr (.inl rfl))⟩
  . exact ⟨d,rfl,.inr (.inr (.inr rfl))⟩
theorem Kz {sz many:Nat} (x:Xs μ n k) (hk:many * (sz + 1) <= k) (hs:sz <= 3) (hm:many <= 2) (q:∀ (ts:List (Option (List Int))) μ1,ts.length=many->(∀ l,some l ∈ ts->l.length <= 3)->XU n μ μ1->Xs μ1 n (k - many * (sz + 1))->QD (.tup (ts.map tD)) μ1):WP (DY [.ref n,.int sz,.int many]) μ QD:=by
  unfold DY
  refine Cc (n:=n) rfl ?_
  unfold Cr
  wtm_at "own qwr"
  refine Bk (n:=many) rfl (by omega) ?_
  refine CC (I:=fun rest τ μ'=>∃ j ts μ1 o4 o5,j <= many /\ rest=(List.range' j (many - j)).map (fun (i:Nat)=>D.int (i:Int)) /\ μ'=μ1 ++ [.lst (List.map tD ts)] /\ τ=[some (.ref n),some (.int sz),some (.int many),some (.ref μ.length),o4,o5] /\ ts.length=j /\ (∀ l:List Int,some l ∈ ts->l.length <= 3) /\ XU n μ μ1 /\ Xs μ1 n (k - j * (sz + 1))) ?step ?fin ⟨0,[],μ,none,none,Nat.zero_le _,by rw [Nat.sub_zero,← List.range_eq_range'],rfl,rfl,rfl,(fun l hl=>(by cases hl)),x.refl,by simpa using x⟩
  case fin=>
    rintro τ μ' ⟨j,ts,μ1,o4,o5,hj,hr,rfl,rfl,hl,hsm,u,x1⟩
    have hj':j=many:=by
      have:=congrArg List.length hr
      simp at this
      omega
    subst hj'
    wtm_at "own qwr"
    refine Iv (n:=μ.length) (ds:=ts.map tD) (by rw [← u.len,List.getElem?_append_right (Nat.le_refl _)]; simp) ?_
    wtm_at "own qwr"
    exact ⟨_,_,μ1,[_],rfl,rfl,u,by unfold Cl; exact Od _ _,q ts μ1 hl hsm u x1⟩
  case step=>
    rintro y ys τ μ' ⟨j,ts,μ1,o4,o5,hj,hr,rfl,rfl,hl,hsm,u,x1⟩
    have hlt:j < many:=by
      rcases Nat.lt_or_ge j many with z | z
      . exact z
      . rw [show many - j=0 by omega] at hr; cases hr
    rw [show many - j=(many - (j + 1)) + 1 by omega,List.range'_succ,List.map_cons] at hr
    obtain ⟨e3,e4⟩:=List.cons.inj hr
    subst e3
    have h2:(j + 1) * (sz + 1) <= many * (sz + 1):=Nat.mul_le_mul_right _ hlt
    have h3:(j + 1) * (sz + 1)=j * (sz + 1) + (sz + 1):=by rw [Nat.add_mul,Nat.one_mul]
    wtm_at "own qwr"
    refine Bk (n:=sz) rfl (by omega) ⟨by rw [List.length_map,List.length_range,sizeLine_eq]; omega,?_⟩
    refine Mt (sz:=sz) rfl x1 (by omega) fun l μ2 hl2 u2 x2=>?_
    refine Bi (by rw [List.length_map,sizeLine_eq]; omega) ?_
    wtm_at "own qwr"
    have ul:μ.length=μ2.length:=by rw [u2.len,u.len]
    rw [ul]
    refine DN (gs:=μ2) rfl (by rw [List.length_map,sizeLine_eq]; omega) ?_
    wtm_at "own qwr"
    refine B6 rfl x2 (by omega) fun v μ3 u3 x3=>?_
    wtm_at "own qwr"
    obtain ⟨y,hy,hc⟩:=at4 (.tup (l.map D.int)) (.tup (l.map D.int)) (.tup (l.map D.int)) .non v
    refine K4 hy ?_
    wtm_at "own qwr"
    refine ⟨μ3,y,rfl,rfl,u3.len,?_⟩
    refine BC ?_
    have hy:∃ t:Option (List Int),y=tD t /\ ∀ l,t=some l->l.length <= 3:=by
      rcases hc with e | e | e | e
      . exact ⟨some l,e,fun l' e'=>by cases e'; omega⟩
      . exact ⟨some l,e,fun l' e'=>by cases e'; omega⟩
      . exact ⟨some l,e,fun l' e'=>by cases e'; omega⟩
      . exact ⟨none,e,fun l' e'=>by cases e'⟩
    obtain ⟨t,rfl,ht⟩:=hy
    refine ⟨j + 1,ts ++ [t],μ3,_,_,hlt,e4,by rw [List.map_append]; rfl,rfl,by simp [hl],fun l' hl'=>?_,(u.trans u2).trans u3,?_⟩
    . rcases List.mem_append.mp hl' with z | z
      . exact hsm l' z
      . exact ht l' (List.mem_singleton.mp z).symm
    . rw [show k - (j + 1) * (sz + 1)=k - j * (sz + 1) - sz - 1 by omega]
      exact x3
end
end K41
set_option maxHeartbeats 1000000
namespace K41
open PySem L2 Mi Ht Nk Hs
section
variable {μ:Mh} {QD:D->Mh->Prop} {n k:Nat}
theorem Gc (j:Nat) (w c:Int) (ts:List (Option (List Int))):Cl j (clD w c ts):=by
  unfold clD Cl ClL
  refine ⟨by unfold Cl; trivial,?_⟩
  unfold ClL
  refine ⟨by unfold Cl; trivial,?_⟩
  unfold ClL
  exact ⟨by unfold Cl; exact Od _ _,by unfold ClL; trivial⟩
structure Pc (many:Nat) (ts:List (Option (List Int))):Prop where
  len:ts.length=many
  sm:∀ l,some l ∈ ts->l.length <= 3
theorem K1 {sz many:Nat} (x:Xs μ n k) (hk:10 <= k) (h2:2 <= sz) (hs:sz <= 3) (hm:many <= 2) (q:∀ w c (ts:List (Option (List Int))) μ1,Pc many ts->XU n μ μ1->Xs μ1 n (k - 10)->QD (clD w c ts) μ1):WP (C1 [.ref n,.int sz,.int many]) μ QD:=by
  unfold C1
  refine Cc (n:=n) rfl ?_
  unfold Ct
  wtm_at "own qwr"
  refine CS rfl x (by omega) fun v μ1 u1 x1=>?_
  wtm_at "own qwr"
  refine CS rfl x1 (by omega) fun v2 μ2 u2 x2=>?_
  wtm_at "own qwr"
  have hmul:many * (sz + 1) <= 8:=by
    have:=Nat.mul_le_mul hm (show sz + 1 <= 4 by omega)
    omega
  refine Kz x2 (by omega) hs hm fun ts μ3 hl hsm u3 x3=>?_
  wtm_at "own qwr"
  exact ⟨_,_,μ3,[],rfl,by simp,(u1.trans u2).trans u3,Gc _ _ _ _,q _ _ ts μ3 ⟨hl,hsm⟩ ((u1.trans u2).trans u3) (x3.mono (by omega))⟩
theorem K0 {sz:Nat} (hs:sz <= 1000) (q:QD (.tup ((List.range sz).map fun (i:Nat)=>D.int (i:Int))) μ):WP (G8 D.tup (.int sz)) μ QD:=by
  refine wp_of (a:=.tup ((List.range sz).map fun (i:Nat)=>D.int (i:Int))) (μ':=μ) ?_ q
  unfold G8
  dsimp only
  rw [if_pos ⟨by omega,by omega⟩,Int.toNat_natCast]
  unfold L4
  first | rfl | (rw [List.map_map]; rfl)
theorem MW (l:List Int) (lo hi:Option Int):∃ l':List Int,FA (l.map D.int) lo hi=l'.map D.int /\ l'.length <= l.length:=by
  unfold FA
  refine ⟨(l.drop (HT.sIx (l.map D.int).length 0 lo)).take (HT.sIx (l.map D.int).length (l.map D.int).length hi - HT.sIx (l.map D.int).length 0 lo),?_,?_⟩
  . rw [List.map_take,List.map_drop]
  . rw [List.length_take,List.length_drop]; omega
theorem FX {sz many:Nat} {w c:Int} {ts:List (Option (List Int))} (x:Xs μ n k) (hk:3 <= k) (h2:2 <= sz) (hs:sz <= 3) (hm:many <= 2) (hP:Pc many ts) (q:∀ w c (ts:List (Option (List Int))) μ1,Pc many ts->XU n μ μ1->Xs μ1 n (k - 3)->QD (clD w c ts) μ1):WP (Ak [.ref n,clD w c ts,.int sz]) μ QD:=by
  unfold Ak
  refine Cc (n:=n) rfl ?_
  unfold Av
  wtm_at "own qws"
  (with_reducible apply O0)
  wtm_at "own qwr"
  (with_reducible apply LA)
  wtm_at "own qwr"
  refine CS rfl x (by omega) fun v μ1 u1 x1=>?_
  wtm_at "own qwr"
  cases e0:(v / 3 % 6 == 0) with
  | true=>
    wtm_at "own qwr"
    exact ⟨_,_,μ1,[],rfl,by simp,u1,Gc _ _ _ _,q _ _ ts μ1 hP u1 (x1.mono (by omega))⟩
  | false=>
    wtm_at "own qwr"
    cases e1:(v / 3 % 6 == 1) with
    | true=>
      wtm_at "own qwr"
      exact ⟨_,_,μ1,[],rfl,by simp,u1,Gc _ _ _ _,q _ _ ts μ1 hP u1 (x1.mono (by omega))⟩
    | false=>
      wtm_at "own qwr"
      have ul:μ1.length=μ.length:=u1.len
      refine CC (I:=fun rest τ μ'=>∃ a b ts2 μ2 o8 o9,a ++ b=ts /\ rest=List.map tD b /\ μ'=μ2 ++ [.lst (List.map tD ts2)] /\ τ=[some (.ref n),some (clD w c ts),some (.int sz),some (.int w),some (.int c),some (.tup (ts.map tD)),some (.int (v / 3 % 6)),some (.ref μ1.length),o8,o9] /\ ts2.length=a.length /\ (∀ l:List Int,some l ∈ ts2->l.length <= 3) /\ XU n μ1 μ2 /\ Xs μ2 n (k - 1 - a.length)) ?step ?fin ⟨[],ts,[],μ1,none,none,rfl,rfl,rfl,rfl,rfl,(fun l hl=>(by cases hl)),x1.refl,x1⟩
      case fin=>
        rintro τ μ' ⟨a,b,ts2,μ2,o8,o9,hab,hr,rfl,rfl,hl,hsm,u2,x2⟩
        cases b with
        | cons t b=>cases hr
        | nil=>
          rw [List.append_nil] at hab
          subst hab
          wtm_at "own qwr"
          refine Iv (n:=μ1.length) (ds:=ts2.map tD) (by rw [← u2.len,List.getElem?_append_right (Nat.le_refl _)]; simp) ?_
          wtm_at "own qwr"
          have:=hP.len
          exact ⟨_,_,μ2,[_],rfl,rfl,u1.trans u2,Gc _ _ _ _,q _ _ ts2 μ2 ⟨by omega,hsm⟩ (u1.trans u2) (x2.mono (by omega))⟩
      case step=>
        rintro y ys τ μ' ⟨a,b,ts2,μ2,o8,o9,hab,hr,rfl,rfl,hl,hsm,u2,x2⟩
        cases b with
        | nil=>cases hr
        | cons t b=>
          rw [List.map_cons] at hr
          obtain ⟨e3,e4⟩:=List.cons.inj hr
          subst e3
          have hlen:a.length < ts.length:=by rw [← hab]; simp
          have hPl:=hP.len
          have ht:∀ l,t=some l->l.length <= 3:=fun l e=>hP.sm l (by rw [← hab,e]; simp)
          wtm_at "own qwr"
          refine B6 rfl x2 (by omega) fun v2 μ3 u3 x3=>?_
          have ul3:μ1.length=μ3.length:=by rw [u3.len,u2.len]
          have fin:∀ (t':Option (List Int)) (o9:Option D),(∀ l,t'=some l->l.length <= 3)->WP (CG Gg (AB 7) (AD (AB 8) AO) [some (.ref n),some (clD w c ts),some (.int sz),some (.int w),some (.int c),some (.tup (ts.map tD)),some (.int (v / 3 % 6)),some (.ref μ1.length),some (tD t'),o9]) (μ3 ++ [.lst (List.map tD ts2)]) (fun _ μx=>Dy (fun τ μ'=>∃ a b ts2 μ2 o8 o9,a ++ b=ts /\ ys=List.map tD b /\ μ'=μ2 ++ [.lst (List.map tD ts2)] /\ τ=[some (.ref n),some (clD w c ts),some (.int sz),some (.int w),some (.int c),some (.tup (ts.map tD)),some (.int (v / 3 % 6)),some (.ref μ1.length),o8,o9] /\ ts2.length=a.length /\ (∀ l:List Int,some l ∈ ts2->l.length <= 3) /\ XU n μ1 μ2 /\ Xs μ2 n (k - 1 - a.length)) (Gv (BA (AJ Bn (AD (AB 3) (AD (AB 4) (AD (AJ BO (AD (AB 7) AO)) AO)))))
      fun r μ2=>∃ d τ2 μ1 gs,r=(Fl.rt d,τ2) /\ μ2=μ1 ++ gs /\ XU n μ μ1 /\ Cl (List.length μ) d /\ QD d μ1) (.next,[some (.ref n),some (clD w c ts),some (.int sz),some (.int w),some (.int c),some (.tup (ts.map tD)),some (.int (v / 3 % 6)),some (.ref μ1.length),some (tD t'),o9]) μx):=fun t' o9 ht'=>by
            refine DN (gs:=μ3) (by rw [ul3]; rfl) (by rw [List.length_map,sizeLine_eq]; omega) ?_
            wtm_at "own qwr"
            refine ⟨μ3,tD t',rfl,rfl,rfl,?_⟩
            refine BC ⟨a ++ [t],b,ts2 ++ [t'],μ3,_,_,by rw [← hab]; simp,e4,by rw [List.map_append]; rfl,rfl,by simp [hl],fun l' hl'=>?_,u2.trans u3,?_⟩
            . rcases List.mem_append.mp hl' with z | z
              . exact hsm l' z
              . exact ht' l' (List.mem_singleton.mp z).symm
            . rw [List.length_append,List.length_singleton,show k - 1 - (a.length + 1)=k - 1 - a.length - 1 by omega]
              exact x3
          wtm_at "own qwr"
          cases t with
          | none=>
            show Ds _ _ false _
            unfold Ds
            wtm_at "own qwr"
            cases e5:(v2 / 3 % 8 == 5) with
            | true=>
              wtm_at "own qwr"
              exact fin (some []) _ fun l e=>by cases e; simp
            | false=>
              wtm_at "own qwr"
              show Ds _ _ false _
              unfold Ds
              wtm_at "own qwr"
              exact fin none _ fun l e=>by cases e
          | some l=>
            show Ds _ _ true _
            unfold Ds
            wtm_at "own qwr"
            have hl3:=ht l rfl
            cases e6:decide (v2 / 3 % 8 < 5) with
            | true=>
              wtm_at "own qwr"
              obtain ⟨l',el,ll⟩:=MW l (some (v2 / 3 % 8 % 2)) none
              refine wp_of (a:=.tup (FA (l.map D.int) (some (v2 / 3 % 8 % 2)) none)) (μ':=μ3 ++ [.lst (List.map tD ts2)]) rfl ?_
              rw [el]
              wtm_at "own qwr"
              exact fin (some l') _ fun l2 e=>by cases e; omega
            | false=>
              wtm_at "own qwr"
              cases e5:(v2 / 3 % 8 == 5) with
              | true=>
                wtm_at "own qwr"
                exact fin none _ fun l2 e=>by cases e
              | false=>
                wtm_at "own qwr"
                show Ds _ _ true _
                unfold Ds
                wtm_at "own qwr"
                cases e7:(v2 / 3 % 8 == 6) with
                | true=>
                  wtm_at "own qwr"
                  refine K0 (by omega) ?_
                  wtm_at "own qwr"
                  have er:D.tup ((List.range sz).map fun (i:Nat)=>D.int (i:Int))=tD (some ((List.range sz).map fun (i:Nat)=>(i:Int))):=by show _=D.tup (((List.range sz).map fun (i:Nat)=>(i:Int)).map D.int); rw [List.map_map]; rfl
                  rw [er]
                  exact fin _ _ fun l2 e=>by cases e; simp; omega
                | false=>
                  wtm_at "own qwr"
                  exact fin (some l) _ fun l2 e=>by cases e; omega
end
end K41
set_option maxHeartbeats 1000000
namespace K41
open PySem L2 Mi Ht Nk Hs
section
variable {μ:Mh} {QD:D->Mh->Prop} {n k:Nat}
theorem Jp (j:Nat) (cs:List Cs):ClL j (cs.map csD):=by
  induction cs with
  | nil=>unfold List.map ClL; trivial
  | cons c cs ih=>
    unfold List.map ClL
    refine ⟨?_,ih⟩
    unfold csD Cl ClL
    refine ⟨by unfold Cl; trivial,?_⟩
    unfold ClL
    refine ⟨by unfold Cl; trivial,?_⟩
    unfold ClL
    exact ⟨by unfold Cl; exact Ma _,by unfold ClL; trivial⟩
theorem Gm {ds:D} {cs:List Cs} (h:A6 ds μ=some (cs.map csD,μ)) (hl:cs.length <= 18) (q:QD (.lst ((D5 (AT cs)).map csD)) μ):WP (Bq ds) μ QD:=by
  refine wp_of (a:=.lst ((D5 (AT cs)).map csD)) (μ':=μ) ?_ q
  unfold Bq
  rw [Ay h,CQ]
  have:=Cp cs
  exact if_pos (by omega)
theorem K7 {gs:Mh} {sz many:Nat} {μ1:Mh} {QL:List D->Mh->Prop} (x:Xs μ1 n k) (hk:many <= k) (q:∀ (l:List Int) μ2,XU n μ1 μ2->Xs μ2 n (k - many)->l.length=many->QL (l.map D.int) (μ2 ++ gs)) :
    WP (BX (AL 0) DU (mOp Eb (mOp Ah (mOp Af (AX B3 (AB 2)) (mC (.int 3))) (mOp Ai (AB 1) (mC (.int 2)))) (mC (.int 2))) [none,some (.int sz),some (.ref n)] ((List.range many).map fun (i:Nat)=>D.int (i:Int)) []) (μ1 ++ gs) QL:=by
  refine CT (I:=fun rest ys μ'=>∃ i l μ2,i <= many /\ rest=(List.range' i (many - i)).map (fun (i:Nat)=>D.int (i:Int)) /\ ys=List.map D.int l /\ l.length=i /\ μ'=μ2 ++ gs /\ XU n μ1 μ2 /\ Xs μ2 n (k - i)) ?step ?fin ⟨0,[],μ1,Nat.zero_le _,by rw [Nat.sub_zero,← List.range_eq_range'],rfl,rfl,rfl,x.refl,x⟩
  case fin=>
    rintro ys μ' ⟨i,l,μ2,hi,hr,rfl,hl,rfl,u,x2⟩
    have hi':i=many:=by
      have:=congrArg List.length hr
      simp at this
      omega
    subst hi'
    exact q l μ2 u x2 hl
  case step=>
    rintro y ys zs μ' ⟨i,l,μ2,hi,hr,rfl,hl,rfl,u,x2⟩
    have hlt:i < many:=by
      rcases Nat.lt_or_ge i many with z | z
      . exact z
      . rw [show many - i=0 by omega] at hr; cases hr
    rw [show many - i=(many - (i + 1)) + 1 by omega,List.range'_succ,List.map_cons] at hr
    obtain ⟨e3,e4⟩:=List.cons.inj hr
    subst e3
    wtm_at "own qwr"
    refine ⟨fun _=>?_,fun z=>(by cases z)⟩
    wtm_at "own qwr"
    refine B6 rfl x2 (by omega) fun v μ3 u3 x3=>?_
    wtm_at "own qwr"
    exact ⟨i + 1,l ++ [v / 3 % (sz + 2) - 2],μ3,hlt,e4,by rw [List.map_append]; rfl,by simp [hl],rfl,u.trans u3,by rw [show k - (i + 1)=k - i - 1 by omega]; exact x3⟩
theorem Go {sz many:Nat} (x:Xs μ n k) (hk:21 <= k) (h2:2 <= sz) (hs:sz <= 3) (hm:many <= 2) (q:∀ (cs:List Cs) μ1,cs.length <= 5->XU n μ μ1->Xs μ1 n (k - 21)->QD (.tup (cs.map csD)) μ1):WP (CO [.ref n,.int sz,.int many]) μ QD:=by
  unfold CO
  refine Cc (n:=n) rfl ?_
  unfold Cu
  wtm_at "own qwr"
  refine B6 rfl x (by omega) fun v μ1 u1 x1=>?_
  wtm_at "own qwr"
  refine Bk (n:=(v / 3 % 6).toNat) (by omega) (by omega) ?_
  have h5:(v / 3 % 6).toNat <= 5:=by omega
  generalize (v / 3 % 6).toNat=m at h5
  refine CC (I:=fun rest τ μ'=>∃ j cs μ2 o4 o5,j <= m /\ rest=(List.range' j (m - j)).map (fun (i:Nat)=>D.int (i:Int)) /\ μ'=μ2 ++ [.lst (List.map csD cs)] /\ τ=[some (.ref n),some (.int sz),some (.int many),some (.ref μ.length),o4,o5] /\ cs.length=j /\ XU n μ1 μ2 /\ Xs μ2 n (k - 1 - 4 * j)) ?step ?fin ⟨0,[],μ1,none,none,Nat.zero_le _,by rw [Nat.sub_zero,← List.range_eq_range'],rfl,rfl,rfl,x1.refl,x1⟩
  case fin=>
    rintro τ μ' ⟨j,cs,μ2,o4,o5,hj,hr,rfl,rfl,hl,u2,x2⟩
    wtm_at "own qwr"
    have e:A6 (.ref μ.length) (μ2 ++ [.lst (List.map csD cs)])=some (cs.map csD,μ2 ++ [.lst (List.map csD cs)]):=by
      have hg:(μ2 ++ [MO.lst (List.map csD cs)])[μ.length]? = some (.lst (cs.map csD)):=by rw [show μ.length=μ2.length by rw [u2.len,u1.len],List.getElem?_append_right (Nat.le_refl _)]; simp
      show (match (μ2 ++ [MO.lst (List.map csD cs)])[μ.length]? with | some (.lst ds)=>some (ds,μ2 ++ [MO.lst (List.map csD cs)]) | _=>none)=_
      rw [hg]
    refine Gm e (by omega) ?_
    wtm_at "own qwr"
    exact ⟨_,_,μ2,[_],rfl,rfl,u1.trans u2,by unfold Cl; exact Jp _ _,q _ μ2 (by have:=Cp cs; have:=(Bp (AT cs)).length_eq; omega) (u1.trans u2) (x2.mono (by omega))⟩
  case step=>
    rintro y ys τ μ' ⟨j,cs,μ2,o4,o5,hj,hr,rfl,rfl,hl,u2,x2⟩
    have hlt:j < m:=by
      rcases Nat.lt_or_ge j m with z | z
      . exact z
      . rw [show m - j=0 by omega] at hr; cases hr
    rw [show m - j=(m - (j + 1)) + 1 by omega,List.range'_succ,List.map_cons] at hr
    obtain ⟨e3,e4⟩:=List.cons.inj hr
    subst e3
    wtm_at "own qwr"
    refine Bk (n:=many) rfl (by omega) ⟨by rw [List.length_map,List.length_range,sizeLine_eq]; omega,?_⟩
    refine K7 (sz:=sz) x2 (by omega) fun l μ3 u3 x3 hl3=>?_
    refine Bi (by rw [List.length_map,sizeLine_eq]; omega) ?_
    wtm_at "own qwr"
    have ul:μ.length=μ3.length:=by rw [u3.len,u2.len,u1.len]
    refine DN (gs:=μ3) (by rw [ul]; rfl) (by rw [List.length_map,sizeLine_eq]; omega) ?_
    wtm_at "own qwr"
    refine B6 rfl x3 (by omega) fun v2 μ4 u4 x4=>?_
    wtm_at "own qwr"
    refine B6 rfl x4 (by omega) fun v3 μ5 u5 x5=>?_
    wtm_at "own qwr"
    refine ⟨μ5,csD (v2 / 3 % sz,v3 / 3 % (sz + 2) - 2,l),rfl,rfl,by rw [u5.len,u4.len],?_⟩
    refine BC ⟨j + 1,cs ++ [(v2 / 3 % sz,v3 / 3 % (sz + 2) - 2,l)],μ5,_,_,hlt,e4,by rw [List.map_append]; rfl,rfl,by simp [hl],((u2.trans u3).trans u4).trans u5,x5.mono (by omega)⟩
theorem FY {sz many:Nat} {cs:List Cs} (x:Xs μ n k) (hk:27 <= k) (h2:2 <= sz) (hs:sz <= 3) (hm:many <= 2) (hc:cs.length <= 5) (q:∀ (cs:List Cs) μ1,cs.length <= 10->XU n μ μ1->Xs μ1 n (k - 27)->QD (.tup (cs.map csD)) μ1):WP (Al [.ref n,.tup (cs.map csD),.int sz,.int many]) μ QD:=by
  unfold Al
  refine Cc (n:=n) rfl ?_
  unfold Aw
  wtm_at "own qwr"
  refine ⟨by rw [List.length_map,sizeLine_eq]; omega,?_⟩
  refine CT (I:=fun rest ys μ'=>∃ a b l,a ++ b=cs /\ rest=List.map csD b /\ ys=List.map csD l /\ l.length <= a.length /\ XU n μ μ' /\ Xs μ' n (k - a.length)) ?step ?last ⟨[],cs,[],rfl,rfl,rfl,Nat.le_refl _,x.refl,x⟩
  case step=>
    rintro y ys zs μ1 ⟨a,b,l,hab,hr,rfl,hl,u1,x1⟩
    cases b with
    | nil=>cases hr
    | cons c b=>
      rw [List.map_cons] at hr
      obtain ⟨e3,e4⟩:=List.cons.inj hr
      subst e3
      have hlen:a.length < cs.length:=by rw [← hab]; simp
      wtm_at "own qwr"
      refine CS rfl x1 (by omega) fun v μ2 u2 x2=>?_
      wtm_at "own qwr"
      refine ⟨fun _=>?_,fun _=>?_⟩
      . wtm_at "own qwr"
        exact ⟨a ++ [c],b,l ++ [c],by rw [← hab]; simp,e4,by rw [List.map_append]; rfl,by simp; exact hl,u1.trans u2,by rw [List.length_append,List.length_singleton,show k - (a.length + 1)=k - a.length - 1 by omega]; exact x2⟩
      . exact ⟨a ++ [c],b,l,by rw [← hab]; simp,e4,rfl,by simp; omega,u1.trans u2,by rw [List.length_append,List.length_singleton,show k - (a.length + 1)=k - a.length - 1 by omega]; exact x2⟩
  case last=>
    rintro ys μ1 ⟨a,b,l,hab,hr,rfl,hl,u1,x1⟩
    have ha:a.length <= 5:=by rw [← hab] at hc; simp at hc; omega
    refine Bi (by rw [List.length_map,sizeLine_eq]; omega) ?_
    wtm_at "own qwr"
    refine CS rfl x1 (by omega) fun v μ2 u2 x2=>?_
    wtm_at "own qwr"
    have fin:∀ (l':List Cs) μ3,l'.length <= 10->XU n μ μ3->Xs μ3 n (k - 27)->WP (BA (AJ BO (AD (mUn Bq (AB 4)) AO)) [some (.ref n),some (.tup (cs.map csD)),some (.int sz),some (.int many),some (.lst (l'.map csD))]) μ3 (fun r μ2=>∃ d τ2 μ1 gs,r=(Fl.rt d,τ2) /\ μ2=μ1 ++ gs /\ XU n μ μ1 /\ Cl (List.length μ) d /\ QD d μ1):=fun l' μ3 hl' u3 x3=>by
      wtm_at "own qwr"
      refine Gm (cs:=l') rfl (by omega) ?_
      wtm_at "own qwr"
      exact ⟨_,_,μ3,[],rfl,by simp,u3,by unfold Cl; exact Jp _ _,q _ μ3 (by have:=Cp l'; have:=(Bp (AT l')).length_eq; omega) u3 x3⟩
    cases e0:(v / 3 % 3 == 0) with
    | false=>
      wtm_at "own qws"
      wtm_at "own qws"
      wtm_at "own qws"
      exact fin l μ2 (by omega) (u1.trans u2) (x2.mono (by omega))
    | true=>
      wtm_at "own qwr"
      refine Go x2 (by omega) h2 hs hm fun cs2 μ3 hc2 u3 x3=>?_
      wtm_at "own qwr"
      refine wp_of (a:=.lst (cs2.map csD)) (μ':=μ3) rfl ?_
      refine wp_of (a:=.lst ((l ++ cs2).map csD)) (μ':=μ3) ?_ ?_
      . rw [List.map_append]
        show BW (l.map csD ++ cs2.map csD) μ3=_
        unfold BW
        rw [Ay (Dm (by rw [List.length_append,List.length_map,List.length_map,sizeLine_eq]; omega) _)]
        rfl
      . wtm_at "own qws"
        exact fin (l ++ cs2) μ3 (by rw [List.length_append]; omega) ((u1.trans u2).trans u3) (x3.mono (by omega))
end
end K41
set_option maxHeartbeats 1000000
namespace Mi
open PySem L2
theorem LE {μ:Mh} {N ps:Nat} {mb:Sl->M (Fl × Sl)} {ds:List D} {QD:D->Mh->Prop} (hl:ds.length=ps) (h:WP (mb (Bc N ds)) μ fun r μ2=>∃ d τ2,r=(.rt d,τ2) /\ μ.length <= μ2.length /\ (∀ (j:Nat) (o:MO),μ2[j]? = some o->μ[j]? = some o ∨ ClO μ2.length o) /\ Cl μ2.length d /\ QD d μ2):WP (A9 .all N ps mb ds) μ QD:=by
  obtain ⟨r,μ2,e,d,τ2,rfl,le,old,c,q⟩:=h
  exact wp_of (FG (hw:=.all) e hl (.inr ⟨d,rfl⟩) ⟨⟨[],by show μ2=μ2 ++ []; simp⟩,le,old,.inl ⟨rfl,c⟩⟩) q
theorem On {i j:Int} {μ:Mh} {QD:D->Mh->Prop} (h:0 <= j /\ j <= 1000000 /\ i.natAbs < 2 ^ 64) (q:QD (.int (i ^ j.toNat)) μ):WP (Lj (.int i) (.int j)) μ QD:=by
  refine wp_of (a:=.int (i ^ j.toNat)) (μ':=μ) ?_ q
  exact if_pos h
theorem LD {bf:D->Sl->M Sl} {m1:Sl->M (Fl × Sl)} {QS:Fl × Sl->Mh->Prop} {m:Nat} {τ:Sl} {μ:Mh} (I:Nat->Sl->Mh->Prop) (step:∀ (j:Nat) τ μ,j < m->I j τ μ->WP (bf (.int (j:Int)) τ) μ fun τ1 μ1=>WP (m1 τ1) μ1 (Dy (I (j + 1)) QS)) (last:∀ τ μ,I m τ μ->QS (.next,τ) μ) (h:I 0 τ μ):WP (Ex bf m1 ((List.range m).map fun (i:Nat)=>D.int (i:Int)) τ) μ QS:=by
  refine CC (I:=fun rest τ μ=>∃ j,j <= m /\ rest=(List.range' j (m - j)).map (fun (i:Nat)=>D.int (i:Int)) /\ I j τ μ) ?_ ?_ ⟨0,Nat.zero_le _,by rw [Nat.sub_zero,← List.range_eq_range'],h⟩
  . rintro x xs τ μ ⟨j,hj,hr,hI⟩
    have hlt:j < m:=by
      rcases Nat.lt_or_ge j m with z | z
      . exact z
      . rw [show m - j=0 by omega] at hr; cases hr
    rw [show m - j=(m - (j + 1)) + 1 by omega,List.range'_succ,List.map_cons] at hr
    obtain ⟨e3,e4⟩:=List.cons.inj hr
    subst e3
    refine AQ (step j τ μ hlt hI) fun τ1 μ1 z=>AQ z fun r μ2 z2=>?_
    obtain ⟨fl,τ2⟩:=r
    cases fl
    . exact ⟨j + 1,hlt,e4,z2⟩
    . exact z2
    . exact ⟨j + 1,hlt,e4,z2⟩
    . exact z2
  . rintro τ μ ⟨j,hj,hr,hI⟩
    have hj':j=m:=by
      have:=congrArg List.length hr
      simp at this
      omega
    subst hj'
    exact last τ μ hI
end Mi
namespace K41
open PySem L2 Mi Ht Nk Hs
section
variable {QD:D->Mh->Prop}
theorem FE {k:Nat} (l:List Int):ClO k (.lst (l.map D.int)):=by unfold ClO; exact Ma l
theorem Jx {c:Int} (q:∀ n μ1,Xs μ1 n 300->QD (.ref n) μ1):WP (C6 [.int c,.int 300]) [] QD:=by
  unfold C6
  refine LE rfl ?_
  unfold CN
  wtm_at "own qwr"
  refine On (by decide) ?_
  wtm_at "own qwr"
  cases e0:decide (((10:Int) ^ (40:Int).toNat) <= c) with
  | true=>
    wtm_at "own qwr"
    refine Bk (n:=300) rfl (by omega) ?_
    refine LD (I:=fun j τ μ'=>∃ (l:List Int) (r:Int) (o4:Option D),l.length=j /\ μ'=[.lst (l.map D.int)] /\ τ=[some (.int c),some (.int 300),some (.ref 0),some (.int r),o4,none,none]) ?_ ?_ ⟨[],c / 7,none,rfl,rfl,rfl⟩
    . rintro j τ μ' hj ⟨l,r,o4,hl,rfl,rfl⟩
      wtm_at "own qwr"
      refine DN (gs:=[]) rfl (by rw [List.length_map,sizeLine_eq]; omega) ?_
      wtm_at "own qwr"
      refine ⟨[],_,rfl,rfl,rfl,?_⟩
      wtm_at "own qwr"
      refine BC ⟨l ++ [r % 10000019],r / 10000019,_,by simp [hl],by rw [List.map_append]; rfl,rfl⟩
    . rintro τ μ' ⟨l,r,o4,hl,rfl,rfl⟩
      wtm_at "own qwr"
      refine wp_of (a:=.int (-1)) (μ':=[.lst (l.map D.int)]) rfl ?_
      refine wp_of (a:=.ref 1) (μ':=[.lst (l.map D.int),.lst (l.reverse.map D.int)]) ?_ ?_
      . show bnd (Ba (.ref 0)) (fun ds=>Ek ds.reverse) [.lst (l.map D.int)]=_
        rw [Ay (show Ba (.ref 0) [.lst (l.map D.int)]=some (l.map D.int,[.lst (l.map D.int)]) from rfl)]
        unfold Ek
        rw [Ay (Dm (by rw [List.length_reverse,List.length_map,sizeLine_eq]; omega) _),List.map_reverse]
        rfl
      . wtm_at "own qwr"
        refine ⟨_,_,rfl,Nat.zero_le _,fun j o e=>.inr ?_,by unfold Cl; simp,q 1 _ ⟨l.reverse,rfl,by rw [List.length_reverse]; omega⟩⟩
        match j,e with
        | 0,e=>cases e; exact FE _
        | 1,e=>cases e; exact FE _
  | false=>
    wtm_at "own qwr"
    refine GG (.inr (by decide)) ?_
    wtm_at "own qwr"
    refine GG (.inr (by decide)) ?_
    wtm_at "own qwr"
    refine Bk (n:=300) rfl (by omega) ?_
    refine LD (I:=fun j τ μ'=>∃ (l:List Int) (a b:Int) (o4:Option D),l.length=j /\ μ'=[.lst (l.map D.int)] /\ 0 <= a /\ a < 4000000000 /\ 0 <= b /\ b < 4000000000 /\ τ=[some (.int c),some (.int 300),some (.ref 0),none,o4,some (.int a),some (.int b)]) ?_ ?_ ⟨[],_,_,none,rfl,rfl,Int.emod_nonneg _ (by decide),by have:=Int.emod_lt_of_pos ((c % 2147483647 + 1) * 48271) (show (0:Int) < 2147483647 by decide); omega,Int.emod_nonneg _ (by decide),by have:=Int.emod_lt_of_pos ((c % 1000003 + 1) * 69621) (show (0:Int) < 2147483629 by decide); omega,rfl⟩
    . rintro j τ μ' hj ⟨l,a,b,o4,hl,rfl,ha,ha2,hb,hb2,rfl⟩
      wtm_at "own qwr"
      refine GG (.inl (by omega)) ?_
      wtm_at "own qwr"
      refine GG (.inr (by decide)) ?_
      wtm_at "own qwr"
      refine DN (gs:=[]) rfl (by rw [List.length_map,sizeLine_eq]; omega) ?_
      wtm_at "own qwr"
      refine ⟨[],_,rfl,rfl,rfl,?_⟩
      have m1:=Int.emod_nonneg (a * (a / 1009 + 69621)) (show (2147483647:Int) ≠ 0 by decide)
      have m2:=Int.emod_lt_of_pos (a * (a / 1009 + 69621)) (show (0:Int) < 2147483647 by decide)
      have m3:=Int.emod_nonneg (b * 48271) (show (2147483629:Int) ≠ 0 by decide)
      have m4:=Int.emod_lt_of_pos (b * 48271) (show (0:Int) < 2147483629 by decide)
      refine BC ⟨l ++ [_],_,_,_,by simp [hl],by rw [List.map_append]; rfl,?_,?_,m3,by omega,rfl⟩
      . omega
      . omega
    . rintro τ μ' ⟨l,a,b,o4,hl,rfl,ha,ha2,hb,hb2,rfl⟩
      wtm_at "own qwr"
      refine ⟨_,_,rfl,Nat.zero_le _,fun j o e=>.inr ?_,by unfold Cl; simp,q 0 _ ⟨l,rfl,by omega⟩⟩
      match j,e with
      | 0,e=>cases e; exact FE _
end
end K41
set_option maxHeartbeats 2000000
namespace K41
open PySem L2 Mi Ht Nk Hs
section
variable {μ:Mh} {QD:D->Mh->Prop} {QS:Fl × Sl->Mh->Prop} {n k:Nat}
noncomputable abbrev RX:Sl->M (Fl × Sl):=(AY (Aj (mOp Ai (mC (.int 2)) (mOp Ah (mOp Af (AX B3 (AB 1)) (mC (.int 3))) (mC (.int 2)))) (AL 3))
    (AY (Aj (mOp Ai (mC (.int 1)) (mOp Ah (mOp Af (AX B3 (AB 1)) (mC (.int 3))) (mC (.int 2)))) (AL 4))
    (AY (Aj (AJ BO (AD (B9 1 [] (Cv (AD (mOp Ai (mC (.int 1)) (AB 4)) AO)) (AL 0) DU (AJ Bn (AD (mOp BD (mC (.str "wrs")) (AB 0)) (AD (mC (.int 0)) (AD (AJ Bn AO) AO)))) BW) AO)) (AL 5))
    (AY (Aj (AJ Bn (AD (AB 2) (AD (AB 3) (AD (mC (.int 0)) (AD (AJ Bn AO) (AD (AB 5) AO)))))) (AL 6))
    (AY (sIf (AV (mOp CV (AB 2) (mC (.str "whole")))) (AY (Aj (AJ CO (AD (AB 1) (AD (AB 3) (AD (AB 4) AO)))) (AL 7))
    (Aj (AJ BW (AD (AB 7) (AD (AJ Al (AD (AB 1) (AD (AB 7) (AD (AB 3) (AD (AB 4) AO))))) (AD (AJ Al (AD (AB 1) (AD (AB 7) (AD (AB 3) (AD (AB 4) AO))))) AO)))) (AL 8))) (AY (Aj (AJ C1 (AD (AB 1) (AD (AB 3) (AD (AB 4) AO)))) (AL 7))
    (Aj (AJ BW (AD (AB 7) (AD (AJ Ak (AD (AB 1) (AD (AB 7) (AD (AB 3) AO)))) (AD (AJ Ak (AD (AB 1) (AD (AB 7) (AD (AB 3) AO)))) AO)))) (AL 8))))
    (AY (DC (DV (AB 8)) (AL 9) (DC (DV (AB 8)) (AL 10) (AY (Aj (AJ Ax (AD (AB 6) (AD (AB 9) (AD (AB 10) AO)))) (AL 11))
    (sIf (mOr (IP (AV (AJ Fq (AD (AB 11) (AD (mC (.ty "bool")) AO))))) (AV (mOp D8 (AB 11) (AJ Bz (AD (AB 2) (AD (AB 9) (AD (AB 10) AO))))))) (BA (mC (.bl false))) CF))))
    (sIf (Ke (AV (mOp CV (AB 2) (mC (.str "whole")))) (IP (AV (AJ Ax (AD (AB 6) (AD (AJ Bn AO) (AD (AB 7) AO))))))) (BA (mC (.bl false))) CF)))))))
theorem K5 {b:Bool} (q:QD (.bl true) μ):WP (Fq [.bl b,.ty "bool"]) μ QD:=by
  refine wp_of (a:=.bl true) (μ':=μ) ?_ q
  show (Fm "bool" "bool").map (fun b=>(D.bl b,μ))=_
  rw [show Fm "bool" "bool" = some true from by decide]; rfl
theorem Ky {m:Nat} (hm:m <= 3) {τ0:Sl} {QL:List D->Mh->Prop} (h0:τ0=[none]) (q:∀ hs:List D,hs.length=m->QL hs μ):WP (BX (AL 0) DU (AJ Bn (AD (mOp BD (mC (.str "wrs")) (AB 0)) (AD (mC (.int 0)) (AD (AJ Bn AO) AO)))) τ0 ((List.range m).map fun (i:Nat)=>D.int (i:Int)) []) μ QL:=by
  subst h0
  have hx:∀ i:Nat,i < 3->∃ s:Str,BD (.str "wrs") (.int (i:Int)) μ=some (.str s,μ):=fun i hi=>by
    match i,hi with
    | 0,_=>exact ⟨_,rfl⟩
    | 1,_=>exact ⟨_,rfl⟩
    | 2,_=>exact ⟨_,rfl⟩
  refine CT (I:=fun rest ys μ'=>∃ i,i <= m /\ rest=(List.range' i (m - i)).map (fun (i:Nat)=>D.int (i:Int)) /\ ys.length=i /\ μ=μ') ?_ ?_ ⟨0,Nat.zero_le _,by rw [Nat.sub_zero,← List.range_eq_range'],rfl,rfl⟩
  . rintro y ys zs μ' ⟨i,hi,hr,hl,rfl⟩
    have hlt:i < m:=by
      rcases Nat.lt_or_ge i m with z | z
      . exact z
      . rw [show m - i=0 by omega] at hr; cases hr
    rw [show m - i=(m - (i + 1)) + 1 by omega,List.range'_succ,List.map_cons] at hr
    obtain ⟨e3,e4⟩:=List.cons.inj hr
    subst e3
    wtm_at "own qwr"
    refine ⟨fun _=>?_,fun z=>(by cases z)⟩
    wtm_at "own qwr"
    obtain ⟨s,hs⟩:=hx i (by omega)
    refine wp_of hs ?_
    wtm_at "own qwr"
    exact ⟨i + 1,hlt,e4,by simp [hl],rfl⟩
  . rintro ys μ' ⟨i,hi,hr,hl,rfl⟩
    have hi':i=m:=by
      have:=congrArg List.length hr
      simp at this
      omega
    exact q ys (by omega)
theorem Gn {mk kd:D} {s0 s1 s3 s4 s5 s7 o9 o10 o11:Option D} {xs:List D} (hp:∀ x ∈ xs,∀ y ∈ xs,∃ b,(∀ (Q:D->Mh->Prop),Q (.bl b) μ->WP (Ax [mk,x,y]) μ Q) /\ ∀ (Q:D->Mh->Prop),Q (.bl b) μ->WP (Bz [kd,x,y]) μ Q)
    (q:∀ o9 o10 o11,QS (.next,[s0,s1,some kd,s3,s4,s5,some mk,s7,some (.lst xs),o9,o10,o11]) μ) :
    WP (DC (DV (AB 8)) (AL 9) (DC (DV (AB 8)) (AL 10) (AY (Aj (AJ Ax (AD (AB 6) (AD (AB 9) (AD (AB 10) AO)))) (AL 11))
    (sIf (mOr (IP (AV (AJ Fq (AD (AB 11) (AD (mC (.ty "bool")) AO))))) (AV (mOp D8 (AB 11) (AJ Bz (AD (AB 2) (AD (AB 9) (AD (AB 10) AO))))))) (BA (mC (.bl false))) CF))) [s0,s1,some kd,s3,s4,s5,some mk,s7,some (.lst xs),o9,o10,o11]) μ QS:=by
  wtm_at "own qwr"
  refine CC (I:=fun rest τ μ'=>(∀ x ∈ rest,x ∈ xs) /\ μ=μ' /\ ∃ o9 o10 o11,τ=[s0,s1,some kd,s3,s4,s5,some mk,s7,some (.lst xs),o9,o10,o11]) ?_ ?_ ⟨fun _ h=>h,rfl,_,_,_,rfl⟩
  . rintro x rest τ μ' ⟨hm,rfl,o9,o10,o11,rfl⟩
    have hx:=hm x List.mem_cons_self
    wtm_at "own qwr"
    refine CC (I:=fun rest τ μ'=>(∀ y ∈ rest,y ∈ xs) /\ μ=μ' /\ ∃ o10 o11,τ=[s0,s1,some kd,s3,s4,s5,some mk,s7,some (.lst xs),some x,o10,o11]) ?_ ?_ ⟨fun _ h=>h,rfl,_,_,rfl⟩
    . rintro y rest2 τ μ' ⟨hm2,rfl,o10,o11,rfl⟩
      obtain ⟨b,h1,h2⟩:=hp x hx y (hm2 y List.mem_cons_self)
      wtm_at "own qwr"
      refine h1 _ ?_
      wtm_at "own qwr"
      refine K5 ?_
      wtm_at "own qwr"
      show orK _ _ false μ
      unfold orK
      wtm_at "own qwr"
      refine h2 _ ?_
      wtm_at "own qwr"
      rw [beq_self_eq_true]
      show ifK _ _ _ _ false μ
      wtm_at "own qwr"
      exact BC ⟨fun z hz=>hm2 z (List.mem_cons_of_mem _ hz),rfl,_,_,rfl⟩
    . rintro τ μ' ⟨_,rfl,o10,o11,rfl⟩
      exact BC ⟨fun z hz=>hm z (List.mem_cons_of_mem _ hz),rfl,_,_,_,rfl⟩
  . rintro τ μ' ⟨_,rfl,o9,o10,o11,rfl⟩
    exact q o9 o10 o11
theorem OR:PyData.strOk ("safe" : Str)=true /\ PyData.strOk ("steady" : Str)=true:=by decide +kernel
theorem OS:(("safe" : Str) == ("whole" : Str))=false /\ (("steady" : Str) == ("whole" : Str))=false:=by decide +kernel
theorem Gp {I:Sl->Mh->Prop} {kd:Str} {s0 o3 o4 o5 o6 o7 o8 o9 o10 o11:Option D} (hk:PyData.strOk kd=true) (hn:(kd == ("whole" : Str))=false) (x:Xs μ n k) (h100:100 <= k)
    (q:∀ μ1 p3 p4 p5 p6 p7 p8 p9 p10 p11,Xs μ1 n (k - 100)->I [s0,some (.ref n),some (.str kd),p3,p4,p5,p6,p7,p8,p9,p10,p11] μ1):WP (RX [s0,some (.ref n),some (.str kd),o3,o4,o5,o6,o7,o8,o9,o10,o11]) μ (Dy I QS):=by
  wtm_at "own qwr"
  refine CS rfl x (by omega) fun v μ1 u1 x1=>?_
  wtm_at "own qwr"
  refine CS rfl x1 (by omega) fun v2 μ2 u2 x2=>?_
  wtm_at "own qwr"
  obtain ⟨sz,hsz,s1,s2⟩:∃ sz:Nat,2 + v / 3 % 2=sz /\ 2 <= sz /\ sz <= 3:=⟨(2 + v / 3 % 2).toNat,by omega,by omega,by omega⟩
  obtain ⟨many,hmany,m1,m2⟩:∃ many:Nat,1 + v2 / 3 % 2=many /\ 1 <= many /\ many <= 2:=⟨(1 + v2 / 3 % 2).toNat,by omega,by omega,by omega⟩
  rw [hsz,hmany]
  refine Bk (n:=1 + many) (by omega) (by omega) ⟨by rw [List.length_map,List.length_range,sizeLine_eq]; omega,?_⟩
  refine Ky (by omega) rfl fun hs hhs=>?_
  refine Bi (by rw [sizeLine_eq]; omega) ?_
  wtm_at "own qwr"
  refine Cb hk Au ?_
  wtm_at "own qwr"
  rw [hn]
  wtm_at "own qwr"
  refine K1 x2 (by omega) s1 s2 m2 fun w c ts μ3 P u3 x3=>?_
  wtm_at "own qwr"
  refine FX x3 (by omega) s1 s2 m2 P fun w' c' ts' μ4 P' u4 x4=>?_
  wtm_at "own qwr"
  refine FX x4 (by omega) s1 s2 m2 P fun w'' c'' ts'' μ5 P'' u5 x5=>?_
  wtm_at "own qwr"
  refine Gn (mk:=mkD kd sz (.tup hs)) (kd:=.str kd) (xs:=[clD w c ts,clD w' c' ts',clD w'' c'' ts'']) ?_ fun o9 o10 o11=>?_
  . have pr:∀ (w1 c1:Int) (t1:List (Option (List Int))) (w2 c2:Int) (t2:List (Option (List Int))),Pc many t1->Pc many t2->∃ b,(∀ (Q:D->Mh->Prop),Q (.bl b) μ5->WP (Ax [mkD kd sz (.tup hs),clD w1 c1 t1,clD w2 c2 t2]) μ5 Q) /\ ∀ (Q:D->Mh->Prop),Q (.bl b) μ5->WP (Bz [.str kd,clD w1 c1 t1,clD w2 c2 t2]) μ5 Q:=fun w1 c1 t1 w2 c2 t2 p1 p2=>by
      have l1:=p1.len
      have l2:=p2.len
      exact ⟨_,fun Q hq=>Jz hk hn (by omega) ⟨by omega,p1.sm⟩ ⟨by omega,p2.sm⟩ hq,fun Q hq=>Oz hk hn (by omega) ⟨by omega,p1.sm⟩ hq⟩
    intro x hx y hy
    simp only [List.mem_cons,List.not_mem_nil,or_false] at hx hy
    rcases hx with rfl | rfl | rfl <;> rcases hy with rfl | rfl | rfl <;> exact pr _ _ _ _ _ _ (by assumption) (by assumption)
  . wtm_at "own qwr"
    refine Cb hk Au ?_
    wtm_at "own qwr"
    rw [hn]
    show Ds _ _ false _
    unfold Ds
    wtm_at "own qwr"
    exact BC (q _ _ _ _ _ _ _ _ _ _ (x5.mono (by omega)))
theorem K9 {I:Sl->Mh->Prop} {s0 o3 o4 o5 o6 o7 o8 o9 o10 o11:Option D} (x:Xs μ n k) (h100:100 <= k)
    (q:∀ μ1 p3 p4 p5 p6 p7 p8 p9 p10 p11,Xs μ1 n (k - 100)->I [s0,some (.ref n),some (.str "whole"),p3,p4,p5,p6,p7,p8,p9,p10,p11] μ1):WP (RX [s0,some (.ref n),some (.str "whole"),o3,o4,o5,o6,o7,o8,o9,o10,o11]) μ (Dy I QS):=by
  wtm_at "own qwr"
  refine CS rfl x (by omega) fun v μ1 u1 x1=>?_
  wtm_at "own qwr"
  refine CS rfl x1 (by omega) fun v2 μ2 u2 x2=>?_
  wtm_at "own qwr"
  obtain ⟨sz,hsz,s1,s2⟩:∃ sz:Nat,2 + v / 3 % 2=sz /\ 2 <= sz /\ sz <= 3:=⟨(2 + v / 3 % 2).toNat,by omega,by omega,by omega⟩
  obtain ⟨many,hmany,m1,m2⟩:∃ many:Nat,1 + v2 / 3 % 2=many /\ 1 <= many /\ many <= 2:=⟨(1 + v2 / 3 % 2).toNat,by omega,by omega,by omega⟩
  rw [hsz,hmany]
  refine Bk (n:=1 + many) (by omega) (by omega) ⟨by rw [List.length_map,List.length_range,sizeLine_eq]; omega,?_⟩
  refine Ky (by omega) rfl fun hs hhs=>?_
  refine Bi (by rw [sizeLine_eq]; omega) ?_
  wtm_at "own qwr"
  refine Cb Au Au ?_
  wtm_at "own qwr"
  show ifK _ _ _ _ true _
  wtm_at "own qwr"
  refine Go x2 (by omega) s1 s2 m2 fun cs μ3 l3 u3 x3=>?_
  wtm_at "own qwr"
  refine FY x3 (by omega) s1 s2 m2 l3 fun cs' μ4 l4 u4 x4=>?_
  wtm_at "own qwr"
  refine FY x4 (by omega) s1 s2 m2 l3 fun cs'' μ5 l5 u5 x5=>?_
  wtm_at "own qwr"
  refine Gn (mk:=mkD "whole" sz (.tup hs)) (kd:=.str "whole") (xs:=[.tup (cs.map csD),.tup (cs'.map csD),.tup (cs''.map csD)]) ?_ fun o9 o10 o11=>?_
  . have pr:∀ (a b:List Cs),a.length <= 10->b.length <= 10->∃ r,(∀ (Q:D->Mh->Prop),Q (.bl r) μ5->WP (Ax [mkD "whole" sz (.tup hs),.tup (a.map csD),.tup (b.map csD)]) μ5 Q) /\ ∀ (Q:D->Mh->Prop),Q (.bl r) μ5->WP (Bz [.str "whole",.tup (a.map csD),.tup (b.map csD)]) μ5 Q:=fun a b ha hb=>
      ⟨_,fun Q hq=>EQ (by omega) (by omega) hq,fun Q hq=>M7 (by omega) hq⟩
    intro x hx y hy
    simp only [List.mem_cons,List.not_mem_nil,or_false] at hx hy
    rcases hx with rfl | rfl | rfl <;> rcases hy with rfl | rfl | rfl <;> exact pr _ _ (by omega) (by omega)
  . wtm_at "own qwr"
    refine Cb Au Au ?_
    wtm_at "own qwr"
    show Ds _ _ true _
    unfold Ds
    wtm_at "own qwr"
    refine EQ (ca:=[]) (by simp) (by omega) ?_
    wtm_at "own qwr"
    show ifK _ _ _ _ false _
    wtm_at "own qwr"
    exact BC (q _ _ _ _ _ _ _ _ _ _ (x5.mono (by omega)))
theorem NA {cs:List Int} (q:∀ i,QD (.int i) μ):WP (CW [.scr cs,.int 0]) μ QD:=by
  unfold CW
  refine Bj rfl ?_
  unfold Bw
  wtm_at "own qwr"
  refine wp_of (a:=.int (cs.map D.int).length) (μ':=μ) rfl ?_
  wtm_at "own qwr"
  cases cs with
  | nil=>
    show ifK _ _ _ _ false _
    wtm_at "own qwr"
    exact ⟨_,_,[],rfl,by simp,by unfold Cl; trivial,q 0⟩
  | cons c cs=>
    rw [decide_eq_true (by simp)]
    wtm_at "own qwr"
    have e:BD (.scr (c :: cs)) (.int 0) μ=some (.int c,μ):=by
      show bnd (A6 (.scr (c :: cs))) (fun ds=>ixD ds 0) μ=_
      rw [Ay (show A6 (.scr (c :: cs)) μ=some ((c :: cs).map D.int,μ) from rfl)]
      unfold ixD
      rw [show atI ((c :: cs).map D.int) 0=some (D.int c) from DL (r:=0) rfl]
      rfl
    refine wp_of e ?_
    wtm_at "own qwr"
    exact ⟨_,_,[],rfl,by simp,by unfold Cl; trivial,q c⟩
theorem SH:∀ cs:List Int,cs.length <= 63->∃ μ',HW [.scr cs] []=some (.bl true,μ'):=by
  intro cs hc
  have key:WP (HW [.scr cs]) [] fun d _=>d=.bl true:=by
    unfold HW
    refine Bj rfl ?_
    unfold HJ
    wtm_at "own qwr"
    refine NA fun i=>?_
    wtm_at "own qwr"
    refine Jx fun n μ0 x0=>?_
    wtm_at "own qwr"
    refine CC (I:=fun rest τ μ'=>∃ j s2 p3 p4 p5 p6 p7 p8 p9 p10 p11,rest=([.str "safe",.str "steady",.str "whole"]:List D).drop j /\ j <= 3 /\ τ=[some (.scr cs),some (.ref n),s2,p3,p4,p5,p6,p7,p8,p9,p10,p11] /\ Xs μ' n (300 - 100 * j)) ?_ ?_ ⟨0,none,none,none,none,none,none,none,none,none,none,rfl,by omega,rfl,x0⟩
    . rintro y ys τ μ' ⟨j,s2,p3,p4,p5,p6,p7,p8,p9,p10,p11,hr,hj,rfl,x⟩
      have hj3:j=0 ∨ j=1 ∨ j=2 ∨ j=3:=by omega
      rcases hj3 with rfl | rfl | rfl | rfl
      . cases hr
        wtm_at "own qws"
        exact Gp OR.1 OS.1 x (by omega) fun μ1 p3 p4 p5 p6 p7 p8 p9 p10 p11 x1=>⟨1,_,p3,p4,p5,p6,p7,p8,p9,p10,p11,rfl,by omega,rfl,x1⟩
      . cases hr
        wtm_at "own qws"
        exact Gp OR.2 OS.2 x (by omega) fun μ1 p3 p4 p5 p6 p7 p8 p9 p10 p11 x1=>⟨2,_,p3,p4,p5,p6,p7,p8,p9,p10,p11,rfl,by omega,rfl,x1⟩
      . cases hr
        wtm_at "own qws"
        exact K9 x (by omega) fun μ1 p3 p4 p5 p6 p7 p8 p9 p10 p11 x1=>⟨3,_,p3,p4,p5,p6,p7,p8,p9,p10,p11,rfl,by omega,rfl,x1⟩
      . cases hr
    . rintro τ μ' ⟨j,s2,p3,p4,p5,p6,p7,p8,p9,p10,p11,hr,hj,rfl,x⟩
      wtm_at "own qwr"
      exact ⟨_,_,_,rfl,(List.nil_append _).symm,by unfold Cl; trivial,rfl⟩
  obtain ⟨d,μ',e,rfl⟩:=key
  exact ⟨μ',e⟩
end
end K41
open PySem PySem.W PyProof.Rows
local macro_rules | `(tactic| wtm_at "own qdf")=>`(tactic| (refine' Mi.Rh ?qa ?ql ?qc ?qk; (case qa=>k_is); (case ql=>k_is); (case qc=>k_is); (case qk=>k_is)))
local macro_rules | `(tactic| wtm_at "own qtl")=>`(tactic| (refine' Mi.tl_mk ?pl ?pe; (case pl=>k_is); (case pe=>rfl)))
set_option maxRecDepth 100000 in
set_option maxHeartbeats 0 in
theorem PySem.Challenge.cw_strongboxes_k41_claims_that_cover_holds : PySem.Challenge.rw_strongboxes_k41_claims_that_cover.Holds := by
  w_on; o_law; k_head; (case hw=>w_witness2)
  k_fill
  refine Mi.Qj (k:=4) (l:=PySem.Challenge.rw_strongboxes_k41_claims_that_cover) rfl rfl (by decide) (fun w h Y=>PySem.W.kIn_of Y) ?F
  case F=>
    intro w mg fa h KX G hmg
    refine' K41.QZ K41.SH KX G hmg ?e_Lcell_at ?e_Lstream ?e_Lcases ?e_Lcases_beside ?e_Ltells ?e_Lplain ?e_Lplain_beside ?e_are_among ?e_lets_no_more ?e_covers ?e_Ldue ?e_law ?z_all ?z_bool ?z_int ?z_isinstance ?z_len ?z_list ?z_range ?z_set ?z_sorted ?z_tuple ?z_zip
    (case e_Lcell_at=>wtm_at "own qdf")
    (case e_Lstream=>wtm_at "own qdf")
    (case e_Lcases=>wtm_at "own qdf")
    (case e_Lcases_beside=>wtm_at "own qdf")
    (case e_Ltells=>wtm_at "own qdf")
    (case e_Lplain=>wtm_at "own qdf")
    (case e_Lplain_beside=>wtm_at "own qdf")
    (case e_are_among=>wtm_at "own qdf")
    (case e_lets_no_more=>wtm_at "own qdf")
    (case e_covers=>wtm_at "own qdf")
    (case e_Ldue=>wtm_at "own qdf")
    (case e_law=>wtm_at "own qdf")
    (case z_all=>k_is)
    (case z_bool=>k_is)
    (case z_int=>k_is)
    (case z_isinstance=>k_is)
    (case z_len=>k_is)
    (case z_list=>k_is)
    (case z_range=>k_is)
    (case z_set=>k_is)
    (case z_sorted=>k_is)
    (case z_tuple=>k_is)
    (case z_zip=>k_is)
