import PyProof.Rows.All
import Wide.All
import OpenK.AllK
import Wide.FinOn
import PyProof.EqAt
import PyProof.EqKinds
import PyProof.TupleCall
import Lean
import PySem.Challenge.RW_strongboxes_k61_one_thing_turned
set_option Elab.async false
set_option linter.all false
set_option maxRecDepth 100000
set_option maxHeartbeats 4000000
def PySem.W.Fast.tw12165773298904382886:Nat:=0
def PySem.W.Fast.tw7030035641667962135:Nat:=0
def PySem.W.Fast.tw11911824746288266283:Nat:=0
def PySem.W.Fast.tw9743288509813940754:Nat:=0
def PySem.W.Fast.tw11496487819241571249:Nat:=0
def PySem.W.Fast.tw11418789853492944115:Nat:=0
def PySem.W.Fast.tw16378623305693129994:Nat:=0
def PySem.W.Fast.tw16182071316842049291:Nat:=0
def PySem.W.Fast.tw8152928031483005724:Nat:=0
def PySem.W.Fast.tw4029783338461024823:Nat:=0
def PySem.W.Fast.tw14658791234836954031:Nat:=0
def PySem.W.Fast.tw14427035035567275597:Nat:=0
def PySem.W.Fast.tw11167866789561162947:Nat:=0
def PySem.W.Fast.tw11164325388099167802:Nat:=0
def PySem.W.Fast.tw3981963327806367032:Nat:=0
def PySem.W.Fast.tw327789741874745388:Nat:=0
def PySem.W.Fast.tw14555909232298423740:Nat:=0
def PySem.W.Fast.tw15898584898899873167:Nat:=0
def PySem.W.Fast.tw6456415895661304792:Nat:=0
def PySem.W.Fast.tw13910711790165749074:Nat:=0
def PySem.W.Fast.tw8466184471801142417:Nat:=0
def PySem.W.Fast.tw2175993078588294942:Nat:=0
def PySem.W.Fast.tw2912565577098952874:Nat:=0
def PySem.W.Fast.tw6305346755569041001:Nat:=0
def PySem.W.Fast.tw14655347232596561824:Nat:=0
def PySem.W.Fast.tw13794469225537419418:Nat:=0
def PySem.W.Fast.tw2689681597651181082:Nat:=0
def PySem.W.Fast.tw2732487257535175506:Nat:=0
def PySem.W.Fast.tw4731179080119659917:Nat:=0
def PySem.W.Fast.tw5176737542997519977:Nat:=0
def PySem.W.Fast.tw7454460580668393270:Nat:=0
def PySem.W.Fast.tw242858691767637123:Nat:=0
def PySem.W.Fast.tw9544352766027343927:Nat:=0
def PySem.W.Fast.tw10793663392384482104:Nat:=0
def PySem.W.Fast.tw17241103288811286465:Nat:=0
def PySem.W.Fast.tw17009432994612635640:Nat:=0
def PySem.W.Fast.tw5325586838873057000:Nat:=0
def PySem.W.Fast.tw6943648401779371240:Nat:=0
def PySem.W.Fast.tw4923057666963224997:Nat:=0
def PySem.W.Fast.tw12512666915157852887:Nat:=0
def PySem.W.Fast.tw12111400665337980627:Nat:=0
def PySem.W.Fast.tw3429317220014866715:Nat:=0
def PySem.W.Fast.tw6494531142596381864:Nat:=0
def PySem.W.Fast.tw169346811218303791:Nat:=0
def PySem.W.Fast.tw7716979927443153191:Nat:=0
def PySem.W.Fast.tw12819835582639875643:Nat:=0
def PySem.W.Fast.tw9002643590094245147:Nat:=0
def PySem.W.Fast.tw6971994669356455013:Nat:=0
def PySem.W.Fast.tw1628896623868684314:Nat:=0
def PySem.W.Fast.tw1733978995618207877:Nat:=0
def PySem.W.Fast.tw17247719862089813111:Nat:=0
def PySem.W.Fast.tw14666231037116363846:Nat:=0
def PySem.W.Fast.tw16325230102756747030:Nat:=0
def PySem.W.Fast.tw4669771921829114722:Nat:=0
def PySem.W.Fast.tw6537127261916833363:Nat:=0
def PySem.W.Fast.tw1824001139240186658:Nat:=0
def PySem.W.Fast.tw13350723042177024167:Nat:=0
def PySem.W.Fast.tw10636761066981961577:Nat:=0
def PySem.W.Fast.tw12472840942334368576:Nat:=0
def PySem.W.Fast.tw6529441227242480872:Nat:=0
def PySem.W.Fast.tw4082879218798013193:Nat:=0
def PySem.W.Fast.tw3432466910668361970:Nat:=0
def PySem.W.Fast.tw12230914990271347406:Nat:=0
def PySem.W.Fast.tw8406643726099656186:Nat:=0
def PySem.W.Fast.tw13878625356537935083:Nat:=0
def PySem.W.Fast.tw13025899798454863922:Nat:=0
def PySem.W.Fast.tw12900093234239675196:Nat:=0
def PySem.W.Fast.tw890634233286212625:Nat:=0
def PySem.W.Fast.tw8288674342509163967:Nat:=0
def PySem.W.Fast.tw15430339381077742802:Nat:=0
def PySem.W.Fast.tw6810264170760355958:Nat:=0
def PySem.W.Fast.tw13568331328723621154:Nat:=0
def PySem.W.Fast.tw5672305737825085918:Nat:=0
def PySem.W.Fast.tw9313229418487433429:Nat:=0
def PySem.W.Fast.tw933708512199209665:Nat:=0
def PySem.W.Fast.tw9114090227761814938:Nat:=0
def PySem.W.Fast.tw5686443360922628402:Nat:=0
def PySem.W.Fast.tw12162287841695458152:Nat:=0
def PySem.W.Fast.tw16955635500458403690:Nat:=0
def PySem.W.Fast.tw2627637676261307449:Nat:=0
def PySem.W.Fast.tw4576099667284643250:Nat:=0
def PySem.W.Fast.tw18184525170691795259:Nat:=0
def PySem.W.Fast.tw12779075303803972687:Nat:=0
def PySem.W.Fast.tw6432743090074469985:Nat:=0
def PySem.W.Fast.tw2834411561965625325:Nat:=0
def PySem.W.Fast.tw2131710810899437219:Nat:=0
def PySem.W.Fast.tw7587497114033608679:Nat:=0
def PySem.W.Fast.tw7749952974857107842:Nat:=0
def PySem.W.Fast.tw16106898236581230450:Nat:=0
def PySem.W.Fast.tw5223255485876666938:Nat:=0
def PySem.W.Fast.tw15484230439331645965:Nat:=0
def PySem.W.Fast.tw3575427254352088857:Nat:=0
def PySem.W.Fast.tw12952190533664391033:Nat:=0
def PySem.W.Fast.tw15288351788574623271:Nat:=0
def PySem.W.Fast.tw1610359449821080339:Nat:=0
def PySem.W.Fast.tw8972801375112089405:Nat:=0
def PySem.W.Fast.tw7752114759147613465:Nat:=0
def PySem.W.Fast.tw17526217447440013465:Nat:=0
def PySem.W.Fast.tw13635567410911304731:Nat:=0
def PySem.W.Fast.tw9375016693707372862:Nat:=0
def PySem.W.Fast.tw5157177295465209147:Nat:=0
def PySem.W.Fast.tw15062102711428513436:Nat:=0
def PySem.W.Fast.tw12350296085146283992:Nat:=0
def PySem.W.Fast.tw8762083517493550429:Nat:=0
def PySem.W.Fast.tw9393187908017685691:Nat:=0
def PySem.W.Fast.tw13959901401266929964:Nat:=0
def PySem.W.Fast.tw5852978567143704594:Nat:=0
def PySem.W.Fast.tw11087658425666510050:Nat:=0
def PySem.W.Fast.tw122326179548429309:Nat:=0
def PySem.W.Fast.tw17813832195639698964:Nat:=0
def PySem.W.Fast.tw11419620493118098553:Nat:=0
def PySem.W.Fast.tw1246849213199077836:Nat:=0
def PySem.W.Fast.tw12595817468298096779:Nat:=0
def PySem.W.Fast.tw5850081718309163831:Nat:=0
def PySem.W.Fast.tw1834057736112260827:Nat:=0
def PySem.W.Fast.tw2515788550860283826:Nat:=0
def PySem.W.Fast.tw8405230357823431356:Nat:=0
def PySem.W.Fast.tw14008064029423587264:Nat:=0
def PySem.W.Fast.tw7190050242003883257:Nat:=0
def PySem.W.Fast.tw14354705025719200080:Nat:=0
namespace L2
open PySem PySem.Spec PyProof.Rows
abbrev Key:=Sum Int Str
def Jm:Key->Value->Bool
  | .inl k,v=>Value.isInt k v
  | .inr x,v=>Value.isStrOf x v
def Wq (w:World):Key->Int
  | .inl k=>hashInt k
  | .inr x=>hashStr w x
theorem Bp:∀ {k:Key} {v:Value},Jm k v=true->(∃ i t,k=Sum.inl i /\ v=Value.int i t) ∨ (∃ x t,k=Sum.inr x /\ v=Value.str x t)
  | .inl i,v,h=>by
    obtain ⟨t,e⟩:=Value.isInt_shape (k:=i) (v:=v) h
    exact .inl ⟨i,t,rfl,e⟩
  | .inr x,v,h=>by
    obtain ⟨t,e⟩:=Value.isStrOf_shape (x:=x) (v:=v) h
    exact .inr ⟨x,t,rfl,e⟩
theorem OP (i:Int) (t:Tok):Jm (.inl i) (.int i t)=true:=by simp [Jm,Value.isInt]
theorem OO (x:Str) (t:Tok):Jm (.inr x) (.str x t)=true:=by simp [Jm,Value.isStrOf]
theorem Uj (a b:Int):decide ((Sum.inl a:Key)=Sum.inl b)=(a == b):=by
  by_cases e:a=b
  . subst e; simp
  . have h : ¬ (Sum.inl a:Key)=Sum.inl b:=fun q=>e (Sum.inl.inj q)
    rw [decide_eq_false h]
    exact (beq_eq_false_iff_ne.mpr e).symm
theorem Ug (a b:Str):decide ((Sum.inr a:Key)=Sum.inr b)=decide (a=b):=by
  by_cases e:a=b
  . subst e; simp
  . have h : ¬ (Sum.inr a:Key)=Sum.inr b:=fun q=>e (Sum.inr.inj q)
    rw [decide_eq_false h,decide_eq_false e]
theorem Ui (a:Int) (b:Str):decide ((Sum.inl a:Key)=Sum.inr b)=false:=decide_eq_false (fun q=>nomatch q)
theorem Uh (a:Str) (b:Int):decide ((Sum.inr a:Key)=Sum.inl b)=false:=decide_eq_false (fun q=>nomatch q)
def Bm (prog:Program) (w:World):PySem.KeyKind prog w Key where
  is:=Jm
  hash:=Wq w
  inj:=fun v a b ha hb=>by
    rcases Bp ha with ⟨i,t,rfl,rfl⟩ | ⟨x,t,rfl,rfl⟩
    . rcases Bp hb with ⟨j,u,rfl,e⟩ | ⟨y,u,rfl,e⟩
      . injection e with e1 _; rw [e1]
      . exact nomatch e
    . rcases Bp hb with ⟨j,u,rfl,e⟩ | ⟨y,u,rfl,e⟩
      . exact nomatch e
      . injection e with e1 _; rw [e1]
  byValue:=fun k v h=>by
    rcases Bp h with ⟨i,t,rfl,rfl⟩ | ⟨x,t,rfl,rfl⟩ <;> rfl
  pyHash:=fun hv h=>by
    rcases Bp hv with ⟨i,t,rfl,rfl⟩ | ⟨x,t,rfl,rfl⟩
    . exact wpAny_pyHash_int h
    . exact wpAny_pyHash_str h
  eqBool:=fun hu hv h=>by
    rcases Bp hu with ⟨i,t,rfl,rfl⟩ | ⟨x,t,rfl,rfl⟩
    . rcases Bp hv with ⟨j,u,rfl,rfl⟩ | ⟨y,u,rfl,rfl⟩
      . rw [Uj] at h; exact wpAny_eqBool_int h
      . rw [Ui] at h; exact SeqAt.EqAt.int_str i t y u _ _ _ _ h
    . rcases Bp hv with ⟨j,u,rfl,rfl⟩ | ⟨y,u,rfl,rfl⟩
      . rw [Uh] at h; exact SeqAt.EqAt.str_int x t j u _ _ _ _ h
      . rw [Ug] at h; exact wpAny_eqBool_str h
  «strs»:=fun k x t v h=>by
    rcases Bp h with ⟨i,u,rfl,e⟩ | ⟨y,u,rfl,e⟩
    . exact nomatch e
    . injection e with e1 _
      subst e1
      cases v <;> rfl
theorem LX (prog:Program) (w:World) (i:Int) (t:Tok):(Bm prog w).is (.inl i) (.int i t)=true:=OP i t
theorem LW (prog:Program) (w:World) (x:Str) (t:Tok):(Bm prog w).is (.inr x) (.str x t)=true:=OO x t
end L2
namespace L2
open PySem PySem.Spec PyProof.Rows
inductive V where
  | non | bl (b:Bool) | int (i:Int) | str (x:Str) | byt (b:Array UInt8) | flt (b:UInt64) | ref (a:Addr) | ty (n:String)
  deriving DecidableEq
def RelV:V->Value->Prop
  | .non,u=>u=Value.none
  | .bl b,u=>u=Value.bool b
  | .int i,u=>∃ t,u=Value.int i t
  | .str x,u=>∃ t,u=Value.str x t
  | .byt b,u=>∃ t,u=Value.bytes b t
  | .flt b,u=>∃ t,u=Value.float b t
  | .ref a,u=>u=Value.ref a
  | .ty n,u=>u=Value.type n
abbrev Vals:List V->List Value->Prop:=Paired RelV
theorem Vals.length {xs:List V} {us:List Value} (r:Vals xs us):xs.length=us.length:=Paired.length r
theorem Vals.get:∀ {xs:List V} {us:List Value} {i:Nat} {x:V},Vals xs us->xs[i]? = some x->∃ u,us[i]? = some u /\ RelV x u
  | _,_,_,_,.nil,e=>by simp at e
  | _,_,0,_,.cons r _,e=>by simp at e; subst e; exact ⟨_,rfl,r⟩
  | _,_,i + 1,x,.cons _ t,e=>by
    obtain ⟨u,h1,h2⟩:=Vals.get (i:=i) (x:=x) t (by simpa using e)
    exact ⟨u,by simpa using h1,h2⟩
theorem Vals.set {x:V} {u:Value} (r:RelV x u):∀ {xs:List V} {us:List Value} (i:Nat),Vals xs us->Vals (xs.set i x) (us.set i u)
  | _,_,_,.nil=>.nil
  | _,_,0,.cons _ t=>.cons r t
  | _,_,i + 1,.cons q t=>.cons q (Vals.set r i t)
theorem Vals.append:∀ {xs ys:List V} {us ws:List Value},Vals xs us->Vals ys ws->Vals (xs ++ ys) (us ++ ws)
  | _,_,_,_,.nil,s=>s
  | _,_,_,_,.cons r t,s=>.cons r (Vals.append t s)
theorem Vals.take:∀ {xs:List V} {us:List Value} (n:Nat),Vals xs us->Vals (xs.take n) (us.take n)
  | _,_,0,_=>.nil
  | _,_,_ + 1,.nil=>.nil
  | _,_,n + 1,.cons r t=>.cons r (Vals.take n t)
theorem Vals.drop:∀ {xs:List V} {us:List Value} (n:Nat),Vals xs us->Vals (xs.drop n) (us.drop n)
  | _,_,0,r=>r
  | _,_,_ + 1,.nil=>.nil
  | _,_,n + 1,.cons _ t=>Vals.drop n t
def RelO:Option V->Option Value->Prop
  | some v,some u=>RelV v u
  | none,none=>True
  | _,_=>False
def KV {κ:Type}:List (κ × V)->List (κ × Value)->Prop:=Paired fun (p:κ × V) (q:κ × Value)=>p.1=q.1 /\ RelV p.2 q.2
def kV:Key->V
  | .inl i=>.int i
  | .inr x=>.str x
inductive HO where
  | lst (xs:List V)
  | tup (xs:List V)
  | dK (kvs:List (Key × V)) | dT (kvs:List (List Key × V))
  | set (S:Int->Bool) (n:Nat)
  | ins (C dx:Addr) (fs:List (Str × V))
  | own (x:Addr)
  | xd (fs:List (Str × V))
  | met (f x:Addr)
  | rng (lo hi:Int)
  | frz (o:Obj) (u:HO)
  | tbl (ps:Array Value)
  | ext (φ:Heap->Prop)
abbrev Hp:=Addr->Option HO
def upd (H:Hp) (a:Addr) (o:HO):Hp:=fun b=>if b=a then some o else H b
theorem Bj {H:Hp} {a:Addr} {o:HO}:upd H a o a=some o:=by unfold upd; rw [if_pos rfl]
theorem A8 {H:Hp} {a b:Addr} {o:HO} (h:b ≠ a):upd H a o b=H b:=by unfold upd; rw [if_neg h]
theorem Vy {H:Hp} {a b:Addr} {o u:HO} (h:H a=some o) (h':H b=some u) (d:o ≠ u):a ≠ b:=by
  intro e; subst e; rw [h] at h'; exact d (Option.some.inj h')
theorem C3 {H:Hp} {a b:Addr} {o:HO} (h:H a=some o) (h':H b=none):a ≠ b:=by
  intro e; subst e; rw [h] at h'; cases h'
section
variable (P:Program) (w:World)
def ObjOk (H:Hp) (h:Heap) (a:Addr):HO->Prop
  | .lst xs=>xs.length <= sizeLine /\ ∃ (its:List Value) (n:Nat),Vals xs its /\ h.get? a=some { cls:=.type "list",data:=.seq its.toArray n }
  | .tup xs=>xs.length <= sizeLine /\ ∃ its:List Value,Vals xs its /\ IsTup h a its.toArray
  | .dK kvs=>kvs.length <= sizeLine /\ (a == sysModules)=false /\ ∃ vs,KV kvs vs /\ h.DictOf (Bm P w) a vs
  | .dT kvs=>kvs.length <= sizeLine /\ (a == sysModules)=false /\ ∃ xs:List (List Key × Addr × Value),
      Paired (fun (p:List Key × V) (q:List Key × Addr × Value)=>p.1=q.1 /\ H q.2.1=some (.tup (p.1.map kV)) /\ RelV p.2 q.2.2) kvs xs /\
      ∃ o es ep,h.get? a=some o /\ o.ExactDict /\ o.data=.dict es ep /\ es.toList=xs.map (entryOfKey (tupleKind (Bm P w))) /\ (xs.map (·.1)).Nodup
  | .set S n=>h.SetOf (intKind P w) a S n
  | .ins C dx fs=>H dx=some (.own a) /\ fs.length <= 1000 /\ dx ≠ a /\ h.get? a=some (PySem.W.instObj C dx) /\
      ∃ mA,h.Ns1 dx mA /\ (∀ f,RelO (fs.lookup f) (mA f)) /\ PySem.Within mA (fs.map (·.1))
  | .own _=>∃ o,h.get? a=some o
  | .xd fs=>∃ mA,h.Ns1 a mA /\ ∀ f,RelO (fs.lookup f) (mA f)
  | .rng lo hi=>∃ t u v,h.get? a=some { cls:=.type "range",data:=.fields #[.int lo t,.int hi u,.int 1 v] }
  | .frz o u=>h.get? a=some o /\ ObjOk H h a u
  | .tbl ps=>h.get? a=some { cls:=.none,data:=.fields ps }
  | .met f x=>h.get? a=some (PySem.W.methodObj (.ref f) (.ref x))
  | .ext φ=>φ h /\ (∃ o,h.get? a=some o) /\ ∀ h1 h2:Heap,φ h1->(∀ o,h1.get? a=some o->h2.get? a=some o)->φ h2
def HOk (H:Hp) (h:Heap):Prop:=∀ a o,H a=some o->ObjOk P w H h a o
end
section
variable {P:Program} {w:World} {H H':Hp} {h h':Heap} {a:Addr} {o:HO}
theorem ObjOk.lt (x:ObjOk P w H h a o):a < h.objs.size:=by
  cases o with
  | lst xs=>obtain ⟨_,_,_,_,e⟩:=x; exact Heap.lt_size e
  | tup xs=>obtain ⟨_,_,_,p⟩:=x; exact p.lt
  | dK kvs=>obtain ⟨_,_,_,_,o,_,_,e,_⟩:=x; exact Heap.lt_size e
  | dT kvs=>obtain ⟨_,_,_,_,o,_,_,e,_⟩:=x; exact Heap.lt_size e
  | set S n=>obtain ⟨o,_,_,_,e,_⟩:=x; exact Heap.lt_size e
  | ins C dx fs=>obtain ⟨_,_,_,e,_⟩:=x; exact Heap.lt_size e
  | own y=>obtain ⟨_,e⟩:=x; exact Heap.lt_size e
  | xd fs=>obtain ⟨_,⟨_,_,_,e,_⟩,_⟩:=x; exact Heap.lt_size e
  | rng lo hi=>obtain ⟨_,_,_,e⟩:=x; exact Heap.lt_size e
  | frz ob u=>obtain ⟨e,_⟩:=x; exact Heap.lt_size e
  | tbl ps=>exact Heap.lt_size (show h.get? a=some _ from x)
  | met f y=>exact Heap.lt_size (show h.get? a=some _ from x)
  | ext φ=>obtain ⟨_,⟨_,e⟩,_⟩:=x; exact Heap.lt_size e
theorem Paired.mapP {α β:Type} {F G:α->β->Prop}:∀ {l₁:List α} {l₂:List β},Paired F l₁ l₂->(∀ a b,F a b->G a b)->Paired G l₁ l₂
  | _,_,.nil,_=>.nil
  | _,_,.cons r t,f=>.cons (f _ _ r) (Paired.mapP t f)
theorem ObjOk.stay (x:ObjOk P w H h a o) (k:∀ b u,(b=a ∨ H b=some (.own a))->h.get? b=some u->h'.get? b=some u)
    (ho:∀ b,H b=some (.own a)->H' b=some (.own a)) (ht:∀ b xs,H b=some (.tup xs)->H' b=some (.tup xs)):ObjOk P w H' h' a o:=by
  induction o with
  | lst xs=>obtain ⟨z,its,n,r,e⟩:=x; exact ⟨z,its,n,r,k _ _ (.inl rfl) e⟩
  | tup xs=>obtain ⟨z,its,r,ob,e,c⟩:=x; exact ⟨z,its,r,ob,k _ _ (.inl rfl) e,c⟩
  | dK kvs=>obtain ⟨z,y,vs,r,ob,es,ep,e,c⟩:=x; exact ⟨z,y,vs,r,ob,es,ep,k _ _ (.inl rfl) e,c⟩
  | dT kvs=>
    obtain ⟨z,y,xs,r,ob,es,ep,e,c⟩:=x
    exact ⟨z,y,xs,Paired.mapP r fun p q z=>⟨z.1,ht _ _ z.2.1,z.2.2⟩,ob,es,ep,k _ _ (.inl rfl) e,c⟩
  | set S n=>obtain ⟨ob,es,ep,t,e,c⟩:=x; exact ⟨ob,es,ep,t,k _ _ (.inl rfl) e,c⟩
  | ins C dx fs=>
    obtain ⟨d,z,ne,e,mA,⟨od,es,ep,e2,c⟩,r⟩:=x
    exact ⟨ho _ d,z,ne,k _ _ (.inl rfl) e,mA,⟨od,es,ep,k _ _ (.inr d) e2,c⟩,r⟩
  | own y=>obtain ⟨ob,e⟩:=x; exact ⟨ob,k _ _ (.inl rfl) e⟩
  | xd fs=>obtain ⟨mA,⟨od,es,ep,e,c⟩,r⟩:=x; exact ⟨mA,⟨od,es,ep,k _ _ (.inl rfl) e,c⟩,r⟩
  | rng lo hi=>obtain ⟨t,u,v,e⟩:=x; exact ⟨t,u,v,k _ _ (.inl rfl) e⟩
  | frz ob u ih=>obtain ⟨e,q⟩:=x; exact ⟨k _ _ (.inl rfl) e,ih q⟩
  | tbl ps=>
    have e:h.get? a=some { cls:=.none,data:=.fields ps }:=x
    show h'.get? a=some { cls:=.none,data:=.fields ps }
    exact k a _ (.inl rfl) e
  | met f y=>
    have e:h.get? a=some (PySem.W.methodObj (.ref f) (.ref y)):=x
    show h'.get? a=some (PySem.W.methodObj (.ref f) (.ref y))
    exact k a _ (.inl rfl) e
  | ext φ=>obtain ⟨p,⟨o,e⟩,st⟩:=x; exact ⟨st _ _ p fun o q=>k _ _ (.inl rfl) q,⟨o,k _ _ (.inl rfl) e⟩,st⟩
theorem HOk.lt (x:HOk P w H h) (e:H a=some o):a < h.objs.size:=(x a o e).lt
theorem HOk.fresh (x:HOk P w H h) (e:h.objs.size <= a):H a=none:=by
  cases q:H a with
  | none=>rfl
  | some u=>exact absurd (Nat.lt_of_lt_of_le (x.lt q) e) (Nat.lt_irrefl _)
theorem HOk.kept (x:HOk P w H h) (k:∀ b u,h.get? b=some u->h'.get? b=some u):HOk P w H h':=fun a o e=>
  (x a o e).stay (fun b u _ q=>k b u q) (fun _ q=>q) fun _ _ q=>q
theorem HOk.laid (x:HOk P w H h) (k:∀ b u,h.get? b=some u->h'.get? b=some u) (hp:h.objs.size <= a) (new:ObjOk P w (upd H a o) h' a o):HOk P w (upd H a o) h':=fun b u e=>by
  have hn:=x.fresh hp
  by_cases hb:b=a
  . subst hb; rw [Bj] at e; cases e; exact new
  . rw [A8 hb] at e
    exact (x b u e).stay (fun c v _ q=>k c v q) (fun c q=>by rw [A8 (C3 q hn)]; exact q) fun c xs q=>by rw [A8 (C3 q hn)]; exact q
end
def Rd (H:Hp) (a:Addr) (u:HO):Prop:=H a=some u ∨ ∃ o,H a=some (.frz o u)
theorem Rd.ok {P:Program} {w:World} {H:Hp} {h:Heap} {a:Addr} {u:HO} (r:Rd H a u) (x:HOk P w H h):ObjOk P w H h a u:=by
  rcases r with r | ⟨o,r⟩
  . exact x a u r
  . obtain ⟨_,q⟩:=x a _ r
    exact q
def Mut:Option HO->Prop
  | some (.lst _)=>True
  | some (.dK _)=>True
  | some (.dT _)=>True
  | some (.set _ _)=>True
  | some (.ins _ _ _)=>True
  | some (.ext _)=>True
  | _=>False
section
variable {P:Program} {w:World} {H:Hp} {h h':Heap} {x e:Addr} {o':HO}
theorem HOk.write (ok:HOk P w H h) (mu:Mut (H x)) (he:e=x ∨ H e=some (.own x)) (k:∀ b u,b ≠ e->h.get? b=some u->h'.get? b=some u) (heo:∃ u,h'.get? e=some u)
    (new:ObjOk P w (upd H x o') h' x o'):HOk P w (upd H x o') h':=fun b u q=>by
  have nown:∀ c y,H c=some (.own y)->c ≠ x:=fun c y r z=>by subst z; rw [r] at mu; exact mu
  have ntup:∀ c xs,H c=some (.tup xs)->c ≠ x:=fun c xs r z=>by subst z; rw [r] at mu; exact mu
  by_cases hb:b=x
  . subst hb; rw [Bj] at q; cases q; exact new
  . rw [A8 hb] at q
    by_cases hbe:b=e
    . have q':H b=some (.own x):=by
        rcases he with z | z
        . exact absurd (hbe.trans z) hb
        . rw [hbe]; exact z
      rw [q] at q'; cases q'
      obtain ⟨v,hv⟩:=heo
      exact ⟨v,by rw [hbe]; exact hv⟩
    . refine (ok b u q).stay (fun c v hc r=>k c v ?_ r) (fun c r=>by rw [A8 (nown c b r)]; exact r) fun c xs r=>by rw [A8 (ntup c xs r)]; exact r
      rcases hc with rfl | hc
      . exact hbe
      . rintro rfl
        rcases he with z | z
        . exact nown c b hc z
        . rw [hc] at z; cases z; exact hb rfl
end
structure Un (fs ex:List Addr) (H H':Hp) (h h':Heap):Prop where
  keep:∀ b o,h.get? b=some o->H b=none->b ∉ fs->b ∉ ex->h'.get? b=some o
  slot:∀ b o,h.get? b=some o->H b=none->b ∈ fs->b ∉ ex->∃ sl,h'.get? b=some { o with slots:=sl }
  free:∀ b o,h.get? b=some o->H b=none->b ∉ ex->H' b=none
  there:∀ b o,h.get? b=some o->b ∉ ex->∃ o',h'.get? b=some o'
  tups:∀ b xs,H b=some (.tup xs)->H' b=some (.tup xs)
  frzs:∀ b o u,H b=some (.frz o u)->H' b=some (.frz o u)
  tbls:∀ b ps,H b=some (.tbl ps)->∃ more,H' b=some (.tbl (ps ++ more))
section
variable {fs fs' ex ex':List Addr} {H H1 H2:Hp} {h h1 h2 h':Heap} {a x e:Addr} {o:HO}
theorem Un.any (u:Un fs ex H H1 h h1) {b:Addr} {ob:Obj} (q:h.get? b=some ob) (n:H b=none) (hx:b ∉ ex):∃ sl,h1.get? b=some { ob with slots:=sl }:=by
  by_cases hb:b ∈ fs
  . exact u.slot b ob q n hb hx
  . exact ⟨ob.slots,u.keep b ob q n hb hx⟩
theorem Un.kept (k:∀ b u,h.get? b=some u->h'.get? b=some u):Un fs ex H H h h':=
  ⟨fun b ob q _ _ _=>k b ob q,fun b ob q _ _ _=>⟨ob.slots,k b ob q⟩,fun _ _ _ n _=>n,fun b ob q _=>⟨ob,k b ob q⟩,fun _ _ q=>q,fun _ _ _ q=>q,fun _ ps q=>⟨#[],by rw [q]; simp⟩⟩
theorem Un.refl:Un fs ex H H h h:=Un.kept fun _ _ q=>q
theorem Un.laid (k:∀ b u,h.get? b=some u->h'.get? b=some u) (hp:h.objs.size <= a) (hn:H a=none):Un fs ex H (upd H a o) h h' where
  keep:=fun b u q _ _ _=>k b u q
  slot:=fun b u q _ _ _=>⟨u.slots,k b u q⟩
  free:=fun b u q n _=>by rw [A8 (Nat.ne_of_lt (Nat.lt_of_lt_of_le (Heap.lt_size q) hp))]; exact n
  there:=fun b u q _=>⟨u,k b u q⟩
  tups:=fun b xs q=>by rw [A8 (C3 q hn)]; exact q
  frzs:=fun b u xs q=>by rw [A8 (C3 q hn)]; exact q
  tbls:=fun b ps q=>⟨#[],by rw [A8 (C3 q hn),q]; simp⟩
theorem Un.write (mu:Mut (H x)) (he:e=x ∨ H e=some (.own x)) (k:∀ b u,b ≠ e->h.get? b=some u->h'.get? b=some u) (heo:∃ u,h'.get? e=some u):Un fs ex H (upd H x o) h h':=by
  have hx:∀ b,H b=none->b ≠ x:=fun b n z=>by subst z; rw [n] at mu; exact mu
  have hb:∀ b,H b=none->b ≠ e:=fun b n z=>by
    subst z
    rcases he with r | r
    . exact hx b n r
    . rw [n] at r; cases r
  have hm:∀ b u,H b=some u->¬ Mut (some u)->b ≠ x:=fun b u q nm z=>by subst z; rw [q] at mu; exact nm mu
  refine ⟨fun b u q n _ _=>k b u (hb b n) q,fun b u q n _ _=>⟨u.slots,k b u (hb b n) q⟩,fun b u q n _=>by rw [A8 (hx b n)]; exact n,fun b u q _=>?_,
    fun b xs q=>by rw [A8 (hm b _ q fun z=>z)]; exact q,fun b u xs q=>by rw [A8 (hm b _ q fun z=>z)]; exact q,fun b ps q=>⟨#[],by rw [A8 (hm b _ q fun z=>z),q]; simp⟩⟩
  by_cases hbe:b=e
  . subst hbe; exact heo
  . exact ⟨u,k b u hbe q⟩
end
def trk (h:Heap) (H:Hp):List Addr:=(List.range h.objs.size).filter fun a=>(H a).isSome
def Kn (h:Heap) (H:Hp):Heap:=PySem.W.hideAll h (trk h H)
theorem OU (h:Heap) (H:Hp):(Kn h H).objs.size=h.objs.size:=PySem.W.hideAll_size _ _
theorem QM {h:Heap} {H:Hp} {b:Addr} {o:Obj} (e:h.get? b=some o) (n:H b=none):(Kn h H).get? b=some o:=
  PySem.W.hideAll_get _ e fun hm=>by
    have q:(H b).isSome=true:=(List.mem_filter.mp hm).2
    rw [n] at q; simp at q
theorem Rr {h:Heap} {H:Hp} {b:Addr} {o:Obj} (e:(Kn h H).get? b=some o):h.get? b=some o /\ H b=none:=by
  have e':h.get? b=some o:=PySem.W.of_hideAll (trk h H) e
  refine ⟨e',?_⟩
  cases q:H b with
  | none=>rfl
  | some x=>
    have hm:b ∈ trk h H:=List.mem_filter.mpr ⟨List.mem_range.mpr (Heap.lt_size e'),by simp [q]⟩
    have z:(Kn h H).get? b=none:=PySem.W.hideAll_none (trk h H) hm
    rw [z] at e; cases e
end L2
namespace L2
open PySem PySem.Spec PyProof.Rows
structure Mod (K:PySem.W.Frag) (mg:Str->Option Value) (base:Heap):Prop where
  kin:K.In base
  glob:base.Ns mainGlobals mg
  blt:∃ mb,base.Ns builtinsNs mb /\ ∀ x:Str,x ≠ "__name__" -> mb x=bootBuiltins x
  nolimit:base.NoLimit
structure Cx where
  prog:Program
  w:World
  K:PySem.W.Frag
  mg:Str->Option Value
  base:Heap
  A:Around
  N:List Str
  s₀:Shared
  H₀:Hp
  env:Env
  outer:List Env
  stack:List Env
  ex:List Addr
  fn:Str->Bool
  calm:Bool
  pn:List (Addr × Obj)
  xe:Value->Shared->Prop
def frs (l:List Env):List Addr:=l.filterMap (·.frame)
abbrev Cx.fs (X:Cx):List Addr:=frs X.outer
def Vis (sc:Scope) (x:Str):Prop:=sc.names.lookup x=some .local ∨ sc.names.lookup x=some .cell ∨ sc.names.lookup x=some .free
def Loc (sc:Scope) (x:Str):Prop:=sc.names.lookup x=some .local ∨ sc.names.lookup x=some .cell
def W0 (env:Env) (h:Heap) (m:Str->Option Value) (x:Str) (u:Value):Prop:=
  (env.kindOf x=some .local /\ m x=some u) ∨ ((env.kindOf x=some .cell ∨ env.kindOf x=some .free) /\ ∃ c,env.cells.lookup x=some c /\ h.IsCell c (some u))
structure Cx.Ok (X:Cx):Prop where
  mod:Mod X.K X.mg X.base
  kind:X.env.scope.kind=.function
  glob:X.env.globals=mainGlobals
  blt:X.env.builtins=builtinsNs
  above:X.s₀.heap.objs.size <= X.env.locals
  inj:∀ x y c,X.env.cells.lookup x=some c->X.env.cells.lookup y=some c->x=y
  has:∀ x,(X.env.kindOf x=some .cell ∨ X.env.kindOf x=some .free)->∃ c,X.env.cells.lookup x=some c
  cab:∀ x c,X.fn x=true->X.env.cells.lookup x=some c->X.s₀.heap.objs.size <= c
  hd:X.calm=true->X.A.handled=none
  frames:X.A.frames=some X.stack
  stk:X.stack=X.outer ∨ (X.stack=X.env :: X.outer /\ X.env.frame=some X.env.locals)
  exf:∀ b ∈ X.ex,b ≠ X.env.locals /\ ∀ x c,X.env.cells.lookup x=some c->c ≠ b
  bs:∀ b o,X.base.get? b=some o->X.s₀.heap.get? b=some o /\ X.H₀ b=none
  bsz:X.base.objs.size <= X.s₀.heap.objs.size
  noex:∀ b o,X.base.get? b=some o->b ∉ X.ex
  exfs:∀ b ∈ X.ex,b ∉ X.fs
  funs:X.s₀.heap.FunFrames X.base X.outer
  frf:∀ b ∈ X.fs,X.H₀ b=none
structure Inv (X:Cx) (pins:List (Addr × Obj)) (σ:List (Option V)) (H:Hp) (s:Shared):Prop where
  ok:X.Ok
  os:s.os=X.s₀.os
  bare:AllBare s.gens
  base:Un X.fs X.ex X.H₀ H X.s₀.heap s.heap
  loc:∃ m,s.heap.Ns X.env.locals m /\ ∀ (i:Nat) (x:Str) (v:V),X.N[i]? = some x->σ[i]? = some (some v)->Vis X.env.scope x->∃ u,RelV v u /\ W0 X.env s.heap m x u
  cell:∀ x c,X.env.cells.lookup x=some c->∃ v,s.heap.IsCell c v
  free:H X.env.locals=none
  freeC:∀ x c,X.env.cells.lookup x=some c->H c=none
  pin:∀ p ∈ X.pn ++ pins,s.heap.get? p.1=some p.2 /\ H p.1=none /\ p.1 ≠ X.env.locals /\ p.1 ∉ X.fs /\ ∀ v,p.2.data ≠ .cell v
  hok:HOk X.prog X.w H s.heap
  len:σ.length=X.N.length
section
variable {X:Cx} {pins:List (Addr × Obj)} {σ:List (Option V)} {H H':Hp} {s:Shared} {h':Heap}
theorem Cx.Ok.nofr (ok:X.Ok) {b:Addr} {o:Obj} (e:X.base.get? b=some o):b ∉ X.fs:=fun hb=>by
  have:=(ok.funs.mem hb).1
  rw [e] at this; cases this
theorem Inv.bs (I:Inv X pins σ H s):∀ b o,X.base.get? b=some o->s.heap.get? b=some o /\ H b=none:=fun b o e=>
  ⟨I.base.keep b o (I.ok.bs b o e).1 (I.ok.bs b o e).2 (I.ok.nofr e) (I.ok.noex b o e),I.base.free b o (I.ok.bs b o e).1 (I.ok.bs b o e).2 (I.ok.noex b o e)⟩
theorem Inv.bk (I:Inv X pins σ H s):∀ b o,X.base.get? b=some o->s.heap.get? b=some o:=fun b o e=>(I.bs b o e).1
theorem Inv.mod (I:Inv X pins σ H s):Mod X.K X.mg X.base:=I.ok.mod
theorem Inv.kIn (I:Inv X pins σ H s):X.K.In s.heap:=I.ok.mod.kin.keeps I.bk
theorem Inv.fr (I:Inv X pins σ H s):∃ m,Fr X.base X.env.locals s.heap m:=
  let ⟨m,hn,_⟩:=I.loc
  ⟨m,hn,I.bk,Nat.le_trans I.ok.bsz I.ok.above⟩
theorem Inv.lt (I:Inv X pins σ H s):X.env.locals < s.heap.objs.size:=let ⟨_,hn,_⟩:=I.loc; hn.lt
theorem Inv.sz (I:Inv X pins σ H s):X.s₀.heap.objs.size <= s.heap.objs.size:=Nat.le_trans I.ok.above (Nat.le_of_lt I.lt)
theorem Inv.nofs (I:Inv X pins σ H s) {a:Addr} (h:s.heap.objs.size <= a):a ∉ X.fs:=fun hb=>by
  obtain ⟨_,o,ho,_⟩:=I.ok.funs.mem hb
  exact absurd (Nat.lt_of_lt_of_le (Heap.lt_size ho) (Nat.le_trans I.sz h)) (Nat.lt_irrefl _)
theorem Inv.cne (I:Inv X pins σ H s):∀ x c,X.env.cells.lookup x=some c->c ≠ X.env.locals:=fun x c e z=>by
  obtain ⟨v,o,ho,hd⟩:=I.cell x c e
  obtain ⟨m,⟨o',es,ep,ho',hd',_⟩,_⟩:=I.loc
  rw [z,ho'] at ho; cases ho; rw [hd'] at hd; cases hd
theorem Inv.funs (I:Inv X pins σ H s):s.heap.FunFrames X.base X.outer:=by
  have all:∀ (l:List Env),(∀ b ∈ frs l,b ∈ X.fs)->X.s₀.heap.FunFrames X.base l->s.heap.FunFrames X.base l:=by
    intro l
    induction l with
    | nil=>intro _ _; trivial
    | cons env r ih=>
      intro hs hl
      obtain ⟨hk,⟨L,o,hf,hn,ho,hd⟩,hr⟩:=hl
      have hL:L ∈ X.fs:=hs L (by unfold frs; rw [List.filterMap_cons,hf]; exact List.mem_cons_self)
      obtain ⟨sl,e⟩:=I.base.slot L o ho (I.ok.frf L hL) hL fun z=>I.ok.exfs L z hL
      exact ⟨hk,⟨L,_,hf,hn,e,hd⟩,ih (fun b hb=>hs b (by unfold frs; rw [List.filterMap_cons,hf]; exact List.mem_cons_of_mem _ hb)) hr⟩
  exact all X.outer (fun _ hb=>hb) I.ok.funs
theorem Inv.stack (I:Inv X pins σ H s):s.heap.FunFrames X.base X.stack:=by
  rcases I.ok.stk with e | ⟨e,hf⟩
  . rw [e]; exact I.funs
  . rw [e]
    obtain ⟨m,hn,_⟩:=I.loc
    refine .cons (by rw [I.ok.kind]; decide) hf hn ?_ I.funs
    exact Heap.get?_none_of_le (Nat.le_trans I.ok.bsz I.ok.above)
theorem Inv.stkSub (I:Inv X pins σ H s):∀ b ∈ frs X.stack,b ∈ X.env.locals :: X.fs:=fun b hb=>by
  rcases I.ok.stk with e | ⟨e,hf⟩
  . rw [e] at hb; exact List.mem_cons_of_mem _ hb
  . rw [e] at hb
    unfold frs at hb
    rw [List.filterMap_cons,hf] at hb
    exact hb
theorem Inv.stkFree (I:Inv X pins σ H s):∀ b ∈ frs X.stack,H b=none:=fun b hb=>by
  rcases List.mem_cons.mp (I.stkSub b hb) with e | hb
  . rw [e]; exact I.free
  . obtain ⟨_,o,ho,_⟩:=I.ok.funs.mem hb
    exact I.base.free b o ho (I.ok.frf b hb) fun z=>I.ok.exfs b z hb
theorem Inv.step {g':Array GenState} {t':Nat} {d':Drawn} {ch:List Addr} (I:Inv X pins σ H s)
    (hch:∀ b ∈ ch,(b ∈ X.ex ∨ X.s₀.heap.objs.size <= b) /\ b ≠ X.env.locals /\ (∀ x c,X.env.cells.lookup x=some c->c ≠ b) /\ ∀ p ∈ X.pn ++ pins,p.1 ≠ b)
    (keep:∀ b o,b ≠ X.env.locals->b ∉ X.fs->b ∉ ch->s.heap.get? b=some o->H b=none->h'.get? b=some o)
    (slot:∀ b o,b ≠ X.env.locals->b ∈ X.fs->b ∉ ch->s.heap.get? b=some o->H b=none->∃ sl,h'.get? b=some { o with slots:=sl }) (free:∀ b o,b ∉ ch->s.heap.get? b=some o->H b=none->H' b=none)
    (there:∀ b o,b ∉ ch->s.heap.get? b=some o->∃ o',h'.get? b=some o')
    (tups:∀ b xs,H b=some (.tup xs)->H' b=some (.tup xs)) (frzs:∀ b o u,H b=some (.frz o u)->H' b=some (.frz o u)) (tbls:∀ b ps,H b=some (.tbl ps)->∃ more,H' b=some (.tbl (ps ++ more)))
    (ns:∀ m,s.heap.Ns X.env.locals m->h'.Ns X.env.locals m) (hok:HOk X.prog X.w H' h') (hg:AllBare g') :
    Inv X pins σ H' { s with heap:=h',gens:=g',drawn:=d',toks:=t' }:=by
  have neL:∀ b o,X.s₀.heap.get? b=some o->b ≠ X.env.locals:=fun b o e=>Nat.ne_of_lt (Nat.lt_of_lt_of_le (Heap.lt_size e) I.ok.above)
  have neC:∀ b o,X.s₀.heap.get? b=some o->b ∉ X.ex->b ∉ ch:=fun b o e hx hb=>by
    rcases (hch b hb).1 with z | z
    . exact hx z
    . exact absurd (Nat.lt_of_lt_of_le (Heap.lt_size e) z) (Nat.lt_irrefl _)
  have cellK:∀ x c,X.env.cells.lookup x=some c->∀ v,s.heap.IsCell c v->h'.IsCell c v:=fun x c e v ⟨o,ho,hd⟩=>by
    have nch:c ∉ ch:=fun z=>(hch c z).2.2.1 x c e rfl
    by_cases hc:c ∈ X.fs
    . obtain ⟨sl,q⟩:=slot c o (I.cne x c e) hc nch ho (I.freeC x c e)
      exact ⟨_,q,hd⟩
    . exact ⟨o,keep c o (I.cne x c e) hc nch ho (I.freeC x c e),hd⟩
  refine ⟨I.ok,I.os,hg,⟨fun b o e n hb hx=>?_,fun b o e n hb hx=>?_,fun b o e n hx=>?_,fun b o e hx=>?_,fun b xs e=>tups b xs (I.base.tups b xs e),fun b o xs e=>frzs b o xs (I.base.frzs b o xs e),fun b ps e=>?_⟩,?_,fun x c e=>?_,?_,fun x c e=>?_,fun p hp=>?_,hok,I.len⟩
  . exact keep b o (neL b o e) hb (neC b o e hx) (I.base.keep b o e n hb hx) (I.base.free b o e n hx)
  . obtain ⟨sl,e1⟩:=I.base.slot b o e n hb hx
    obtain ⟨sl',e2⟩:=slot b _ (neL b o e) hb (neC b o e hx) e1 (I.base.free b o e n hx)
    exact ⟨sl',e2⟩
  . obtain ⟨o',e1⟩:=I.base.there b o e hx
    exact free b o' (neC b o e hx) e1 (I.base.free b o e n hx)
  . obtain ⟨o',e1⟩:=I.base.there b o e hx
    exact there b o' (neC b o e hx) e1
  . obtain ⟨m1,e1⟩:=I.base.tbls b ps e
    obtain ⟨m2,e2⟩:=tbls b _ e1
    exact ⟨m1 ++ m2,by rw [e2,Array.append_assoc]⟩
  . obtain ⟨m,hn,hl⟩:=I.loc
    refine ⟨m,ns m hn,fun i x v e1 e2 e3=>?_⟩
    obtain ⟨u,r,l⟩:=hl i x v e1 e2 e3
    refine ⟨u,r,?_⟩
    rcases l with l | ⟨k,c,e,z⟩
    . exact .inl l
    . exact .inr ⟨k,c,e,cellK x c e _ z⟩
  . obtain ⟨v,z⟩:=I.cell x c e
    exact ⟨v,cellK x c e v z⟩
  . obtain ⟨m,⟨o,_,_,ho,_⟩,_⟩:=I.loc
    exact free _ o (fun z=>(hch _ z).2.1 rfl) ho I.free
  . obtain ⟨v,o,ho,hd⟩:=I.cell x c e
    exact free c o (fun z=>(hch c z).2.2.1 x c e rfl) ho (I.freeC x c e)
  . obtain ⟨e,n,ne,nf,d⟩:=I.pin p hp
    have nch:p.1 ∉ ch:=fun z=>(hch p.1 z).2.2.2 p hp rfl
    exact ⟨keep p.1 p.2 ne nf nch e n,free p.1 p.2 nch e n,ne,nf,d⟩
theorem Inv.un {t':Nat} (I:Inv X pins σ H s) (u:Un X.fs [] H H' s.heap h') (hok:HOk X.prog X.w H' h'):Inv X pins σ H' { s with heap:=h',toks:=t' }:=by
  obtain ⟨m,⟨o,es,ep,ho,r⟩,_⟩:=id I.loc
  obtain ⟨sl,hL⟩:=u.any ho I.free (by simp)
  exact I.step (g':=s.gens) (d':=s.drawn) (ch:=[]) (fun _ z=>nomatch z) (fun b o _ hb _ e n=>u.keep b o e n hb (by simp)) (fun b o _ hb _ e n=>u.slot b o e n hb (by simp)) (fun b o _ e n=>u.free b o e n (by simp)) (fun b o _ e=>u.there b o e (by simp)) u.tups u.frzs u.tbls (fun m' hm=>by
    obtain ⟨o',es',ep',ho',r'⟩:=hm
    rw [ho] at ho'; cases ho'
    exact ⟨_,es',ep',hL,r'⟩) hok I.bare
theorem Inv.call {g':Array GenState} {t':Nat} {d':Drawn} {ch:List Addr} (I:Inv X pins σ H s) (u:Un (frs X.stack) ch H H' s.heap h') (hok:HOk X.prog X.w H' h') (hg:AllBare g')
    (hch:∀ b ∈ ch,(b ∈ X.ex ∨ X.s₀.heap.objs.size <= b) /\ b ≠ X.env.locals /\ (∀ x c,X.env.cells.lookup x=some c->c ≠ b) /\ ∀ p ∈ X.pn ++ pins,p.1 ≠ b) :
    Inv X pins σ H' { s with heap:=h',gens:=g',drawn:=d',toks:=t' }:=by
  obtain ⟨m,⟨o,es,ep,ho,r⟩,_⟩:=id I.loc
  obtain ⟨sl,hL⟩:=u.any ho I.free fun z=>(hch _ z).2.1 rfl
  exact I.step (ch:=ch) hch (fun b o hL hb hc e n=>u.keep b o e n (fun z=>(List.mem_cons.mp (I.stkSub b z)).elim hL hb) hc) (fun b o _ _ hc e n=>u.any e n hc) (fun b o hc e n=>u.free b o e n hc) (fun b o hc e=>u.there b o e hc) u.tups u.frzs u.tbls (fun m' hm=>by
    obtain ⟨o',es',ep',ho',r'⟩:=hm
    rw [ho] at ho'; cases ho'
    exact ⟨_,es',ep',hL,r'⟩) hok hg
theorem Inv.turned {t':Nat} {it:Addr} (I:Inv X pins σ H s) (k:∀ b o,b ≠ it->s.heap.get? b=some o->h'.get? b=some o) (hn:H it=none) (hL:it ≠ X.env.locals)
    (h1:it ∈ X.ex ∨ X.s₀.heap.objs.size <= it) (h2:∀ x c,X.env.cells.lookup x=some c->c ≠ it) (h3:∀ p ∈ X.pn ++ pins,p.1 ≠ it):Inv X pins σ H { s with heap:=h',toks:=t' }:=by
  have nit:∀ b u,H b=some u->b ≠ it:=fun b u e z=>by rw [z,hn] at e; cases e
  refine I.step (g':=s.gens) (d':=s.drawn) (ch:=[it]) (fun b hb=>?_) (fun b o _ _ hc e _=>k b o (fun z=>hc (by simp [z])) e) (fun b o _ _ hc e _=>⟨o.slots,k b o (fun z=>hc (by simp [z])) e⟩) (fun _ _ _ _ n=>n)
    (fun b o hc e=>⟨o,k b o (fun z=>hc (by simp [z])) e⟩) (fun _ _ e=>e) (fun _ _ _ e=>e) (fun b ps e=>⟨#[],by rw [e]; simp⟩) (fun m hm=>?_) (fun b u e=>?_) I.bare
  . have e:b=it:=by simpa using hb
    subst e
    exact ⟨h1,hL,h2,h3⟩
  . obtain ⟨o,es,ep,ho,r⟩:=hm
    exact ⟨o,es,ep,k _ o (Ne.symm hL) ho,r⟩
  . refine (I.hok b u e).stay (fun c v hc q=>k c v ?_ q) (fun _ q=>q) fun _ _ q=>q
    rcases hc with z | z
    . rw [z]; exact nit b u e
    . exact nit c _ z
theorem Inv.tok (I:Inv X pins σ H s) (t:Nat):Inv X pins σ H { s with toks:=t }:=I.un (h':=s.heap) (t':=t) Un.refl I.hok
theorem Inv.kept {t':Nat} (I:Inv X pins σ H s) (k:∀ b u,s.heap.get? b=some u->h'.get? b=some u):Inv X pins σ H { s with heap:=h',toks:=t' }:=I.un (Un.kept k) (I.hok.kept k)
theorem Inv.laid {a:Addr} {o:HO} {t':Nat} (I:Inv X pins σ H s) (k:∀ b u,s.heap.get? b=some u->h'.get? b=some u) (hp:s.heap.objs.size <= a) (new:ObjOk X.prog X.w (upd H a o) h' a o) :
    Inv X pins σ (upd H a o) { s with heap:=h',toks:=t' }:=I.un (Un.laid k hp (I.hok.fresh hp)) (I.hok.laid k hp new)
theorem Inv.write {x e:Addr} {o:HO} {t':Nat} (I:Inv X pins σ H s) (mu:Mut (H x)) (he:e=x ∨ H e=some (.own x)) (k:∀ b u,b ≠ e->s.heap.get? b=some u->h'.get? b=some u) (heo:∃ u,h'.get? e=some u)
    (new:ObjOk X.prog X.w (upd H x o) h' x o):Inv X pins σ (upd H x o) { s with heap:=h',toks:=t' }:=I.un (Un.write mu he k heo) (I.hok.write mu he k heo new)
theorem Inv.weak {σ':List (Option V)} (I:Inv X pins σ H s) (hl:σ'.length=σ.length) (w:∀ (i:Nat) v,σ'[i]? = some (some v)->σ[i]? = some (some v)):Inv X pins σ' H s:=
  ⟨I.ok,I.os,I.bare,I.base,let ⟨m,hn,hl'⟩:=I.loc; ⟨m,hn,fun i x v e1 e2 e3=>hl' i x v e1 (w i v e2) e3⟩,I.cell,I.free,I.freeC,I.pin,I.hok,hl.trans I.len⟩
theorem Inv.pins_of {pins':List (Addr × Obj)} (I:Inv X pins σ H s) (h:∀ p ∈ pins',s.heap.get? p.1=some p.2 /\ H p.1=none /\ p.1 ≠ X.env.locals /\ p.1 ∉ X.fs /\ ∀ v,p.2.data ≠ .cell v):Inv X pins' σ H s:=
  ⟨I.ok,I.os,I.bare,I.base,I.loc,I.cell,I.free,I.freeC,fun p hp=>(List.mem_append.mp hp).elim (fun z=>I.pin p (List.mem_append_left _ z)) (h p),I.hok,I.len⟩
theorem LV {N:List Str} (hN:N.Nodup) {i j:Nat} {x:Str} (a:N[i]? = some x) (b:N[j]? = some x):i=j:=by
  obtain ⟨h1,e1⟩:=List.getElem?_eq_some_iff.mp a
  obtain ⟨h2,e2⟩:=List.getElem?_eq_some_iff.mp b
  exact (List.getElem_inj hN).mp (e1.trans e2.symm)
theorem JW {M:Model} {A:Around} {E:Value->Shared->Prop} {i:Nat} {x:Str} {v:V} {u:Value} {Q:Unit->Shared->Prop} (I:Inv X pins σ H s) (hN:X.N.Nodup) (hi:X.N[i]? = some x) (hx:Loc X.env.scope x) (r:RelV v u)
    (h:∀ s',Inv X pins (σ.set i (some v)) H s'->(∃ a,Heap.SameBut a s.heap s'.heap /\ (a=X.env.locals ∨ X.env.cells.lookup x=some a))->Q () s') (hf:X.fn x=true ∨ X.env.scope.names.lookup x=some .local:=by first | exact .inl rfl | exact .inr rfl | assumption):wpAny M A (storeName X.env x u) Q E s:=by
  obtain ⟨m,hn,hl⟩:=id I.loc
  have hcls:(X.env.scope.kind == .class || (X.env.scope.kind == .module && X.env.locals != X.env.globals))=false:=by rw [I.ok.kind]; rfl
  have hiσ:i < σ.length:=by rw [I.len]; exact (List.getElem?_eq_some_iff.mp hi).1
  have cne:=I.cne
  have tracked:∀ {a:Addr} {h':Heap},(∃ o,s.heap.get? a=some o /\ H a=none)->Heap.SameBut a s.heap h'->HOk X.prog X.w H h':=fun {a h'} ha hs b ob e=>by
    obtain ⟨_,_,hfree⟩:=ha
    refine (I.hok b ob e).stay (fun c w' hc q=>(hs.2 c ?_).trans q) (fun _ q=>q) fun _ _ q=>q
    rintro rfl
    rcases hc with rfl | hc
    . rw [hfree] at e; cases e
    . rw [hfree] at hc; cases hc
  rcases hx with hk | hk
  . refine wpAny_storeName_local hk hn (fun h' hn' hs=>?_) hcls
    obtain ⟨oL,_,_,hoL,_⟩:=id hn
    refine h _ ⟨I.ok,I.os,I.bare,⟨fun b o e n hb hx=>?_,fun b o e n hb hx=>?_,I.base.free,fun b o e hx=>?_,I.base.tups,I.base.frzs,I.base.tbls⟩,⟨_,hn',fun j y v' e1 e2 e3=>?_⟩,fun y c e=>?_,I.free,I.freeC,fun p hp=>?_,tracked ⟨oL,hoL,I.free⟩ hs,by simpa using I.len⟩ ⟨_,hs,.inl rfl⟩
    . exact (hs.2 b (Nat.ne_of_lt (Nat.lt_of_lt_of_le (Heap.lt_size e) I.ok.above))).trans (I.base.keep b o e n hb hx)
    . obtain ⟨sl,e1⟩:=I.base.slot b o e n hb hx
      exact ⟨sl,(hs.2 b (Nat.ne_of_lt (Nat.lt_of_lt_of_le (Heap.lt_size e) I.ok.above))).trans e1⟩
    . obtain ⟨o',e1⟩:=I.base.there b o e hx
      exact ⟨o',(hs.2 b (Nat.ne_of_lt (Nat.lt_of_lt_of_le (Heap.lt_size e) I.ok.above))).trans e1⟩
    . by_cases hj:j=i
      . subst hj
        rw [hi] at e1; cases e1
        rw [List.getElem?_set_self hiσ] at e2
        cases e2
        exact ⟨u,r,.inl ⟨hk,by simp⟩⟩
      . rw [List.getElem?_set_ne (Ne.symm hj)] at e2
        obtain ⟨u',r',q⟩:=hl j y v' e1 e2 e3
        refine ⟨u',r',?_⟩
        rcases q with ⟨k,e⟩ | ⟨k,c,e,z⟩
        . refine .inl ⟨k,?_⟩
          have:y ≠ x:=fun e=>hj (LV hN e1 (e ▸ hi))
          simp [this,e]
        . exact .inr ⟨k,c,e,z.sameBut hs (cne y c e)⟩
    . obtain ⟨w',z⟩:=I.cell y c e
      exact ⟨w',z.sameBut hs (cne y c e)⟩
    . obtain ⟨e,n,ne,nf,d⟩:=I.pin p hp
      exact ⟨(hs.2 p.1 ne).trans e,n,ne,nf,d⟩
  . have hfn:X.fn x=true:=by
      rcases hf with z | z
      . exact z
      . rw [z] at hk; cases hk
    obtain ⟨c,hc⟩:=I.ok.has x (.inl hk)
    obtain ⟨w',z⟩:=I.cell x c hc
    refine wpAny_storeName_cell I.ok.kind hk hc z (fun h' hc' hs=>?_)
    obtain ⟨oc,hoc,hocd⟩:=id z
    refine h { s with heap:=h' } ⟨I.ok,I.os,I.bare,⟨fun b o e n hb hx=>?_,fun b o e n hb hx=>?_,I.base.free,fun b o e hx=>?_,I.base.tups,I.base.frzs,I.base.tbls⟩,⟨m,hn.sameBut hs (Ne.symm (cne x c hc)),fun j y v' e1 e2 e3=>?_⟩,fun y c' e=>?_,I.free,I.freeC,fun p hp=>?_,tracked ⟨oc,hoc,I.freeC x c hc⟩ hs,by simpa using I.len⟩ ⟨c,hs,.inr hc⟩
    . exact (hs.2 b (Nat.ne_of_lt (Nat.lt_of_lt_of_le (Heap.lt_size e) (I.ok.cab x c hfn hc)))).trans (I.base.keep b o e n hb hx)
    . obtain ⟨sl,e1⟩:=I.base.slot b o e n hb hx
      exact ⟨sl,(hs.2 b (Nat.ne_of_lt (Nat.lt_of_lt_of_le (Heap.lt_size e) (I.ok.cab x c hfn hc)))).trans e1⟩
    . obtain ⟨o',e1⟩:=I.base.there b o e hx
      exact ⟨o',(hs.2 b (Nat.ne_of_lt (Nat.lt_of_lt_of_le (Heap.lt_size e) (I.ok.cab x c hfn hc)))).trans e1⟩
    . by_cases hj:j=i
      . subst hj
        rw [hi] at e1; cases e1
        rw [List.getElem?_set_self hiσ] at e2
        cases e2
        exact ⟨u,r,.inr ⟨.inl hk,c,hc,hc'⟩⟩
      . rw [List.getElem?_set_ne (Ne.symm hj)] at e2
        obtain ⟨u',r',q⟩:=hl j y v' e1 e2 e3
        refine ⟨u',r',?_⟩
        rcases q with q | ⟨k,c',e,z'⟩
        . exact .inl q
        . refine .inr ⟨k,c',e,z'.sameBut hs ?_⟩
          rintro rfl
          exact hj (LV hN e1 (I.ok.inj _ _ _ e hc ▸ hi))
    . by_cases hcc:c'=c
      . subst hcc; exact ⟨_,hc'⟩
      . obtain ⟨w2,z2⟩:=I.cell y c' e
        exact ⟨w2,z2.sameBut hs hcc⟩
    . obtain ⟨e,n,ne,nf,d⟩:=I.pin p hp
      refine ⟨(hs.2 p.1 ?_).trans e,n,ne,nf,d⟩
      intro q
      rw [q,hoc] at e
      have q':oc=p.2:=Option.some.inj e
      exact d w' (by rw [← q']; exact hocd)
theorem LD {M:Model} {A:Around} {E:Value->Shared->Prop} {i:Nat} {x:Str} {v:V} {u:Value} {Q:Unit->Shared->Prop} (I:Inv X pins σ H s) (hN:X.N.Nodup) (hi:X.N[i]? = some x) (hx:Loc X.env.scope x) (r:RelV v u)
    (h:∀ s',Inv X pins (σ.set i (some v)) H s'->Q () s') (hf:X.fn x=true ∨ X.env.scope.names.lookup x=some .local:=by first | exact .inl rfl | exact .inr rfl | assumption):wpAny M A (storeName X.env x u) Q E s:=
  JW I hN hi hx r (fun s' I' _=>h s' I') hf
theorem Inv.call' {s':Shared} {ch:List Addr} (I:Inv X pins σ H s) (ho:s'.os=s.os) (u:Un (frs X.stack) ch H H' s.heap s'.heap) (hok:HOk X.prog X.w H' s'.heap) (hg:AllBare s'.gens)
    (hch:∀ b ∈ ch,(b ∈ X.ex ∨ X.s₀.heap.objs.size <= b) /\ b ≠ X.env.locals /\ (∀ x c,X.env.cells.lookup x=some c->c ≠ b) /\ ∀ p ∈ X.pn ++ pins,p.1 ≠ b):Inv X pins σ H' s':=by
  obtain ⟨h',g',d',t',o'⟩:=s'
  have e:o'=s.os:=ho
  subst e
  exact I.call (g':=g') (t':=t') (d':=d') u hok hg hch
end
abbrev XK:=Value->Option Addr->Hp->Prop
abbrev St:=List (Option V)
abbrev VK:=V->Hp->Prop
abbrev TE:=St->Hp->VK->Prop
abbrev TT:=St->Hp->(Bool->Hp->Prop)->Prop
abbrev TA:=St->Hp->(List V->Hp->Prop)->Prop
structure Mt where
  nx:St->Hp->Prop
  rt:VK
  bk:St->Hp->Prop:=fun _ _=>False
  ct:St->Hp->Prop:=fun _ _=>False
abbrev TS:=Mt->St->Hp->Prop
def EP (X:Cx) (pins:List (Addr × Obj)) (σ:St) (Q:VK) (u:Value) (s':Shared):Prop:=∃ v H',Inv X pins σ H' s' /\ RelV v u /\ Q v H'
def TP (X:Cx) (pins:List (Addr × Obj)) (σ:St) (Q:Bool->Hp->Prop) (b:Bool) (s':Shared):Prop:=∃ H',Inv X pins σ H' s' /\ Q b H'
def AP (X:Cx) (pins:List (Addr × Obj)) (σ:St) (Q:List V->Hp->Prop) (us:List Value) (s':Shared):Prop:=∃ vs H',Inv X pins σ H' s' /\ Vals vs us /\ Q vs H'
def SP (X:Cx) (pins:List (Addr × Obj)) (D:Mt) (f:Flow) (s':Shared):Prop:=
  match f with
  | .next=>∃ σ' H',Inv X pins σ' H' s' /\ D.nx σ' H'
  | .brk=>∃ σ' H',Inv X pins σ' H' s' /\ D.bk σ' H'
  | .cont=>∃ σ' H',Inv X pins σ' H' s' /\ D.ct σ' H'
  | .ret u=>∃ v σ' H',Inv X pins σ' H' s' /\ RelV v u /\ D.rt v H'
def PE (X:Cx) (e:Expr) (t:TE):Prop:=
  ∀ (pins:List (Addr × Obj)) (s:Shared) (σ:St) (H:Hp) (Q:VK),Inv X pins σ H s->t σ H Q->wpAny (model X.prog X.w) X.A (eval e X.env) (EP X pins σ Q) X.xe s
def PT (X:Cx) (e:Expr) (t:TT):Prop:=
  ∀ (pins:List (Addr × Obj)) (s:Shared) (σ:St) (H:Hp) (Q:Bool->Hp->Prop),Inv X pins σ H s->t σ H Q->wpAny (model X.prog X.w) X.A (isTrue e X.env (eval e X.env)) (TP X pins σ Q) X.xe s
def PW (X:Cx) (e:Expr) (t:TT):Prop:=
  ∀ (whole:Sem Value) (pins:List (Addr × Obj)) (s:Shared) (σ:St) (H:Hp) (Q:Bool->Hp->Prop),Inv X pins σ H s->t σ H Q->wpAny (model X.prog X.w) X.A (isTrue e X.env whole) (TP X pins σ Q) X.xe s
theorem PW.pt {X:Cx} {e:Expr} {t:TT} (h:PW X e t):PT X e t:=h _
def PA (X:Cx) (es:List Expr) (t:TA):Prop:=
  ∀ (pos:Pos) (pins:List (Addr × Obj)) (s:Shared) (σ:St) (H:Hp) (Q:List V->Hp->Prop),Inv X pins σ H s->t σ H Q->wpAny (model X.prog X.w) X.A (spliced (backTo pos (starEach es X.env))) (AP X pins σ Q) X.xe s
def PS (X:Cx) (st:Stmt) (t:TS):Prop:=
  ∀ (pins:List (Addr × Obj)) (s:Shared) (σ:St) (H:Hp) (D:Mt),Inv X pins σ H s->t D σ H->wpAny (model X.prog X.w) X.A (exec st X.env) (SP X pins D) X.xe s
def PSs (X:Cx) (st:List Stmt) (t:TS):Prop:=
  ∀ (pins:List (Addr × Obj)) (s:Shared) (σ:St) (H:Hp) (D:Mt),Inv X pins σ H s->t D σ H->wpAny (model X.prog X.w) X.A (execs st X.env) (SP X pins D) X.xe s
theorem thn {α:Type} {t:Sem α} {Q Q':α->Shared->Prop} {M:Model} {A:Around} {E:Value->Shared->Prop} {s:Shared} (h:wpAny M A t Q E s) (hQ:∀ a s,Q a s->Q' a s):wpAny M A t Q' E s:=wpAny_mono h hQ fun _ _ x=>x
end L2
namespace L2
open PySem PySem.Spec PyProof.Rows
section
variable {X:Cx}
def WS (i:Nat):TE:=fun σ H Q=>∃ v,σ[i]? = some (some v) /\ Q v H
def tC (v:V):TE:=fun _ H Q=>Q v H
theorem T2 {i:Nat} {x:Str} {pos:Pos} (hN:X.N[i]? = some x) (hv:Vis X.env.scope x) (hd:(x == ("__debug__" : Str))=false:=by decide) (hcd:(x == ("__classdict__" : Str))=false:=by decide):PE X (.Name x pos) (WS i):=by
  intro pins s σ H Q I h
  obtain ⟨v,e,h⟩:=h
  obtain ⟨m,hn,hl⟩:=I.loc
  obtain ⟨u,r,l⟩:=hl i x v hN e hv
  have fin:EP X pins σ Q u s:=⟨v,H,I,r,h⟩
  rcases l with ⟨hk,hm⟩ | ⟨hk,c,hc,hcell⟩
  . exact wpAny_Name (wpAny_loadName_local I.ok.kind hk hn hm fin) hd
  . rcases hk with hk | hk
    . exact wpAny_Name (wpAny_loadName_cell I.ok.kind hk hc hcell fin) hd
    . exact wpAny_Name (wpAny_loadName_free I.ok.kind hk hc hcell fin hcd) hd
theorem T7 {i j pos}:PE X (.Constant (.int i) j pos) (tC (.int i)):=fun _ _ _ H _ I h=>wpAny_Constant_int ⟨.int i,H,I.tok _,⟨_,rfl⟩,h⟩
theorem Vk {b j pos}:PE X (.Constant (.bool b) j pos) (tC (.bl b)):=fun _ _ _ H _ I h=>Constant_bool ⟨.bl b,H,I,rfl,h⟩
theorem T6 {j pos}:PE X (.Constant .none j pos) (tC .non):=fun _ _ _ H _ I h=>Constant_none ⟨.non,H,I,rfl,h⟩
theorem IT {x j pos}:PE X (.Constant (.str x) j pos) (tC (.str x)):=fun _ _ _ H _ I h=>Calls.Constant_str ⟨.str x,H,I.tok _,⟨_,rfl⟩,h⟩
def Gl (X:Cx) (x:Str):Prop:=X.env.kindOf x=some .globalImplicit
theorem NK {E:Value->Shared->Prop} {pins:List (Addr × Obj)} {s:Shared} {σ:St} {H:Hp} {x:Str} {u:Value} {pos:Pos} {Q:Value->Shared->Prop} (I:Inv X pins σ H s) (hg:Gl X x) (hm:X.mg x=some u) (h:Q u s)
    (hd:(x == ("__debug__" : Str))=false:=by decide):wpAny (model X.prog X.w) X.A (eval (.Name x pos) X.env) Q E s:=
  Calls.Name_function_global I.ok.kind hg (Calls.loadGlobal_global (by rw [I.ok.glob]; exact I.mod.glob.keeps I.bk) hm h) hd
theorem Fb {E:Value->Shared->Prop} {pins:List (Addr × Obj)} {s:Shared} {σ:St} {H:Hp} {x:Str} {u:Value} {pos:Pos} {Q:Value->Shared->Prop} (I:Inv X pins σ H s) (hg:Gl X x) (hm:X.mg x=none) (hv:bootBuiltins x=some u) (h:Q u s)
    (hn:x ≠ "__name__" := by decide) (hd:(x == ("__debug__" : Str))=false:=by decide):wpAny (model X.prog X.w) X.A (eval (.Name x pos) X.env) Q E s:=by
  obtain ⟨mb,h1,h2⟩:=I.mod.blt
  exact Calls.Name_function_global I.ok.kind hg (Calls.loadGlobal_builtin (by rw [I.ok.glob]; exact I.mod.glob.keeps I.bk) hm (by rw [I.ok.blt]; exact h1.keeps I.bk) ((h2 x hn).trans hv) h) hd
theorem Hj {x:Str} {v:V} {u:Value} {pos:Pos} (hg:Gl X x) (hm:X.mg x=some u) (r:RelV v u) (hd:(x == ("__debug__" : Str))=false:=by decide):PE X (.Name x pos) (tC v):=
  fun _ _ _ H _ I h=>NK I hg hm ⟨v,H,I,r,h⟩ hd
theorem Rm {x:Str} {v:V} {u:Value} {pos:Pos} (hg:Gl X x) (hm:X.mg x=none) (hv:bootBuiltins x=some u) (r:RelV v u) (hn:x ≠ "__name__" := by decide) (hd:(x == ("__debug__" : Str))=false:=by decide):PE X (.Name x pos) (tC v):=
  fun _ _ _ H _ I h=>Fb I hg hm hv ⟨v,H,I,r,h⟩ hn hd
variable {a b:Expr} {ta tb:TE} {pos:Pos}
def PC (X:Cx) (op:CmpOp) (a b:Expr) (t:TE):Prop:=
  ∀ (pins:List (Addr × Obj)) (s:Shared) (σ:St) (H:Hp) (Q:VK),Inv X pins σ H s->t σ H Q->
    wpAny (model X.prog X.w) X.A (eval a X.env) (fun v s₁=>wpAny (model X.prog X.w) X.A (eval b X.env) (fun u s₂=>wpAny (model X.prog X.w) X.A (compareOp op v u) (EP X pins σ Q) X.xe s₂) X.xe s₁) X.xe s
def tB (t:TE):TT:=fun σ H Q=>t σ H fun x H1=>∃ c,x=.bl c /\ Q c H1
theorem Pw {op:CmpOp} {t:TE} (h:PC X op a b t) (h1:behindInMarks op b=false:=by first | exact nobehind _ (by decide) (by decide) | rfl):PE X (.Compare a [op] [b] pos) t:=fun pins s σ H Q I hw=>wpAny_Compare1 (h pins s σ H Q I hw) h1
theorem Ts {e:Expr} {t:TE} (h:PE X e t) (he:∀ whole,isTrue e X.env whole=(do let v ← whole; standAt e.pos; holding [v] (truthy v)):=by intro _; rfl):PT X e (tB t):=by
  intro pins s σ H Q I hw
  refine isTrue_plain (thn (h pins s σ H _ I hw) fun v s1 ⟨x,H1,I1,r1,q1⟩=>?_) (he _)
  obtain ⟨d,rfl,q⟩:=q1
  cases r1
  exact wpAny_truthy_bool ⟨H1,I1,q⟩
variable {tA tB':TT} {rest:List Expr}
def Wd (t u:TT):TT:=fun σ H Q=>t σ H fun c H1=>if c=true then u σ H1 Q else Q false H1
def tOr (t u:TT):TT:=fun σ H Q=>t σ H fun c H1=>if c=true then Q true H1 else u σ H1 Q
def WX (t:TT):TT:=fun σ H Q=>t σ H fun c H1=>Q (!c) H1
theorem RK (ha:PT X a tA):PW X (.BoolOp .And [a] pos) tA:=by
  intro wh pins s σ H Q I h
  refine isTrue_and (thn (ha pins s σ H Q I h) fun c s1 e=>?_)
  cases c with
  | true=>exact isTrue_and_nil e
  | false=>exact e
theorem Tm (ha:PT X a tA):PW X (.BoolOp .Or [a] pos) tA:=by
  intro wh pins s σ H Q I h
  refine isTrue_or (thn (ha pins s σ H Q I h) fun c s1 e=>?_)
  cases c with
  | false=>exact isTrue_or_nil e
  | true=>exact e
theorem Tn (ha:PT X a tA) (hb:PW X (.BoolOp .And (b :: rest) pos) tB'):PW X (.BoolOp .And (a :: b :: rest) pos) (Wd tA tB'):=by
  intro wh pins s σ H Q I h
  refine isTrue_and (thn (ha pins s σ H _ I h) fun c s1 ⟨H1,I1,q1⟩=>?_)
  cases c with
  | true=>exact hb wh pins s1 σ H1 Q I1 q1
  | false=>exact ⟨H1,I1,q1⟩
theorem Vb (ha:PT X a tA) (hb:PW X (.BoolOp .Or (b :: rest) pos) tB'):PW X (.BoolOp .Or (a :: b :: rest) pos) (tOr tA tB'):=by
  intro wh pins s σ H Q I h
  refine isTrue_or (thn (ha pins s σ H _ I h) fun c s1 ⟨H1,I1,q1⟩=>?_)
  cases c with
  | true=>exact ⟨H1,I1,q1⟩
  | false=>exact hb wh pins s1 σ H1 Q I1 q1
theorem Tt (ha:PT X a tA):PT X (.UnaryOp .Not a pos) (WX tA):=by
  intro pins s σ H Q I h
  exact isTrue_not (ha pins s σ H (fun c H1=>Q (!c) H1) I h)
def VP (ta tb:TE):TE:=fun σ H Q=>ta σ H fun x H1=>∃ c,x=.bl c /\ if c=true then tb σ H1 Q else Q (.bl false) H1
def WW (ta tb:TE):TE:=fun σ H Q=>ta σ H fun x H1=>∃ c,x=.bl c /\ if c=true then Q (.bl true) H1 else tb σ H1 Q
def VD (ta:TE):TE:=fun σ H Q=>ta σ H fun x H1=>∃ c,x=.bl c /\ Q (.bl (!c)) H1
theorem T4 {op} {t:TE} (h:PE X a t):PE X (.BoolOp op [a] pos) t:=fun pins s σ H Q I hw=>BoolOp_one (h pins s σ H Q I hw)
theorem UA (ha:PE X a ta) (hb:PE X (.BoolOp .And (b :: rest) pos) tb):PE X (.BoolOp .And (a :: b :: rest) pos) (VP ta tb):=by
  intro pins s σ H Q I h
  refine BoolOp_and (thn (ha pins s σ H _ I h) fun v s1 ⟨x,H1,I1,r1,q1⟩=>?_)
  obtain ⟨c,rfl,q1⟩:=q1
  cases r1
  refine wpAny_truthy_bool ?_
  cases c with
  | true=>exact hb pins s1 σ H1 Q I1 q1
  | false=>exact ⟨.bl false,H1,I1,rfl,q1⟩
theorem Vh (ha:PE X a ta) (hb:PE X (.BoolOp .Or (b :: rest) pos) tb):PE X (.BoolOp .Or (a :: b :: rest) pos) (WW ta tb):=by
  intro pins s σ H Q I h
  refine BoolOp_or (thn (ha pins s σ H _ I h) fun v s1 ⟨x,H1,I1,r1,q1⟩=>?_)
  obtain ⟨c,rfl,q1⟩:=q1
  cases r1
  refine wpAny_truthy_bool ?_
  cases c with
  | false=>exact hb pins s1 σ H1 Q I1 q1
  | true=>exact ⟨.bl true,H1,I1,rfl,q1⟩
theorem T5 (ha:PE X a ta):PE X (.UnaryOp .Not a pos) (VD ta):=by
  intro pins s σ H Q I h
  refine UnaryOp_ (thn (ha pins s σ H _ I h) fun v s1 ⟨x,H1,I1,r1,q1⟩=>?_)
  obtain ⟨c,rfl,q1⟩:=q1
  cases r1
  exact not_of (wpAny_truthy_bool ⟨.bl (!c),H1,I1,rfl,q1⟩)
end
end L2
namespace L2
open PySem PySem.Spec PyProof.Rows
def SqL (K:PySem.W.Frag) (H:Hp) (a:Addr) (xs:List V):Prop:=
  Rd H a (.lst xs) ∨
    ∃ (o:Obj) (its:Array Value) (n:Nat),K.lookup a=some o /\ o.cls=.type "list" /\ o.dict=none /\ o.data=.seq its n /\ its.size <= sizeLine /\ Vals xs its.toList
def SqT (K:PySem.W.Frag) (H:Hp) (a:Addr) (xs:List V):Prop:=
  Rd H a (.tup xs) ∨
    ∃ (o:Obj) (its:Array Value) (n:Nat),K.lookup a=some o /\ o.cls=.type "tuple" /\ o.data=.seq its n /\ its.size <= sizeLine /\ Vals xs its.toList
def Wz:Value->Option V
  | .none=>some .non
  | .bool b=>some (.bl b)
  | .int i _=>some (.int i)
  | .str x _=>some (.str x)
  | .bytes b _=>some (.byt b)
  | .float b _=>some (.flt b)
  | .ref a=>some (.ref a)
  | .type n=>some (.ty n)
  | _=>none
theorem RelV.abs {x:V} {u:Value} (r:RelV x u):Wz u=some x:=by
  cases x with
  | non=>cases r; rfl
  | bl _=>cases r; rfl
  | int _=>obtain ⟨t,rfl⟩:=r; rfl
  | str _=>obtain ⟨t,rfl⟩:=r; rfl
  | byt _=>obtain ⟨t,rfl⟩:=r; rfl
  | flt _=>obtain ⟨t,rfl⟩:=r; rfl
  | ref _=>cases r; rfl
  | ty _=>cases r; rfl
theorem RelV.inj {x y:V} {u:Value} (r:RelV x u) (q:RelV y u):x=y:=Option.some.inj (r.abs.symm.trans q.abs)
theorem Vals.inj:∀ {xs ys:List V} {us:List Value},Vals xs us->Vals ys us->xs=ys
  | _,_,_,.nil,.nil=>rfl
  | _,_,_,.cons r t,.cons r' t'=>by rw [r.inj r',Vals.inj t t']
section
variable {X:Cx} {pins:List (Addr × Obj)} {σ:St} {H:Hp} {s:Shared} {a:Addr} {xs ys:List V}
theorem SqL.of {K:PySem.W.Frag} (h:H a=some (.lst xs)):SqL K H a xs:=.inl (.inl h)
theorem SqT.of {K:PySem.W.Frag} (h:H a=some (.tup xs)):SqT K H a xs:=.inl (.inl h)
theorem Inv.list (I:Inv X pins σ H s) (h:SqL X.K H a xs):∃ its:List Value,Vals xs its /\ PlainL s.heap a its.toArray /\ xs.length <= sizeLine:=by
  rcases h with h | ⟨o,its,n,hk,hc,hd,hs,hz,r⟩
  . obtain ⟨z,its,n,r,e⟩:=h.ok I.hok
    exact ⟨its,r,⟨_,n,e,rfl,rfl,rfl⟩,z⟩
  . refine ⟨its.toList,r,⟨o,n,I.kIn a o hk,hc,hd,by simpa using hs⟩,?_⟩
    have e:=r.length
    simp only [Array.length_toList] at e
    omega
theorem Inv.tuple (I:Inv X pins σ H s) (h:SqT X.K H a xs):∃ its:List Value,Vals xs its /\ IsTup s.heap a its.toArray /\ xs.length <= sizeLine:=by
  rcases h with h | ⟨o,its,n,hk,hc,hs,hz,r⟩
  . obtain ⟨z,its,r,p⟩:=h.ok I.hok
    exact ⟨its,r,p,z⟩
  . refine ⟨its.toList,r,⟨o,I.kIn a o hk,hc,n,by simpa using hs⟩,?_⟩
    have e:=r.length
    simp only [Array.length_toList] at e
    omega
theorem Inv.list_inj (I:Inv X pins σ H s) (h:SqL X.K H a xs) (h':SqL X.K H a ys):xs=ys:=by
  obtain ⟨its,r,⟨o,n,e,_,_,d⟩,_⟩:=I.list h
  obtain ⟨its',r',⟨o',n',e',_,_,d'⟩,_⟩:=I.list h'
  rw [e] at e'; cases e'
  rw [d] at d'
  injection d' with d1 _
  have:its=its':=by simpa using congrArg Array.toList d1
  subst this
  exact r.inj r'
theorem Inv.tuple_inj (I:Inv X pins σ H s) (h:SqT X.K H a xs) (h':SqT X.K H a ys):xs=ys:=by
  obtain ⟨its,r,⟨o,e,_,n,d⟩,_⟩:=I.tuple h
  obtain ⟨its',r',⟨o',e',_,n',d'⟩,_⟩:=I.tuple h'
  rw [e] at e'; cases e'
  rw [d] at d'
  injection d' with d1 _
  have:its=its':=by simpa using congrArg Array.toList d1
  subst this
  exact r.inj r'
end
abbrev Cx.wish (X:Cx) (E:Value->Shared->Prop):Cx:={ X with xe:=E }
abbrev Cx.nox (X:Cx):Cx:=X.wish fun _ _=>False
theorem Cx.Ok.wish {X:Cx} (ok:X.Ok) (E:Value->Shared->Prop):(X.wish E).Ok:=
  ⟨ok.mod,ok.kind,ok.glob,ok.blt,ok.above,ok.inj,ok.has,ok.cab,ok.hd,ok.frames,ok.stk,ok.exf,ok.bs,ok.bsz,ok.noex,ok.exfs,ok.funs,ok.frf⟩
theorem Cx.Ok.unwish {X:Cx} {E:Value->Shared->Prop} (ok:(X.wish E).Ok):X.Ok:=
  ⟨ok.mod,ok.kind,ok.glob,ok.blt,ok.above,ok.inj,ok.has,ok.cab,ok.hd,ok.frames,ok.stk,ok.exf,ok.bs,ok.bsz,ok.noex,ok.exfs,ok.funs,ok.frf⟩
section
variable {X:Cx} {pins:List (Addr × Obj)} {σ:St} {H:Hp} {s:Shared} {E:Value->Shared->Prop}
theorem Inv.wish (I:Inv X pins σ H s) (E:Value->Shared->Prop):Inv (X.wish E) pins σ H s:=⟨I.ok.wish E,I.os,I.bare,I.base,I.loc,I.cell,I.free,I.freeC,I.pin,I.hok,I.len⟩
theorem Inv.unwish (I:Inv (X.wish E) pins σ H s):Inv X pins σ H s:=⟨I.ok.unwish,I.os,I.bare,I.base,I.loc,I.cell,I.free,I.freeC,I.pin,I.hok,I.len⟩
theorem SP.unwish {D:Mt} {f:Flow} {s':Shared} (h:SP (X.wish E) pins D f s'):SP X pins D f s':=by
  cases f with
  | next=>obtain ⟨σ',H',I,q⟩:=h; exact ⟨σ',H',I.unwish,q⟩
  | brk=>obtain ⟨σ',H',I,q⟩:=h; exact ⟨σ',H',I.unwish,q⟩
  | cont=>obtain ⟨σ',H',I,q⟩:=h; exact ⟨σ',H',I.unwish,q⟩
  | ret u=>obtain ⟨v,σ',H',I,r,q⟩:=h; exact ⟨v,σ',H',I.unwish,r,q⟩
theorem PSs.nox {st:List Stmt} {t:TS} (h:PSs X.nox st t):PSs X st t:=fun pins s σ H D I hw=>
  wpAny_mono (h pins s σ H D (I.wish _) hw) (fun _ _ q=>q.unwish) fun _ _ z=>False.elim z
end
section
variable {X:Cx} {st:Stmt} {rest:List Stmt} {t u:TS} {e:Expr} {te:TE} {pos:Pos}
def VE:TS:=fun D σ H=>D.nx σ H
def WU (t u:TS):TS:=fun D σ H=>t { D with nx:=u D } σ H
theorem RZ:PSs X [] VE:=fun _ _ σ H _ I h=>wpAny_execs_nil ⟨σ,H,I,h⟩
theorem Pi (h1:PS X st t) (h2:PSs X rest u):PSs X (st :: rest) (WU t u):=by
  intro pins s σ H D I h
  refine wpAny_execs_cons (thn (h1 pins s σ H { D with nx:=u D } I h) fun f s1 q=>?_)
  cases f with
  | next=>
    obtain ⟨σ',H',I',q⟩:=q
    exact h2 pins s1 σ' H' D I' q
  | ret v=>exact q
  | brk=>exact q
  | cont=>exact q
theorem RY (h1:PS X st t):PSs X [st] t:=by
  intro pins s σ H D I h
  refine wpAny_execs_cons (thn (h1 pins s σ H D I h) fun f s1 q=>?_)
  cases f with
  | next=>exact wpAny_execs_nil q
  | ret v=>exact q
  | brk=>exact q
  | cont=>exact q
theorem Inv.quiet {pins:List (Addr × Obj)} {σ:St} {H:Hp} {s:Shared} (I:Inv X pins σ H s):interactive X.env=false:=by simp [interactive,I.ok.kind]
def VI (te:TE):TS:=fun D σ H=>te σ H fun _ H1=>D.nx σ H1
theorem Ra (he:PE X e te) (hs:swapsWith e none pos.line X.env=pure false:=by rfl):PS X (.Expr e pos) (VI te):=by
  intro pins s σ H D I h
  exact wpAny_Expr_any (thn (he pins s σ H _ I h) fun v s1 ⟨x,H1,I1,r1,q1⟩=>⟨σ,H1,I1,q1⟩) I.quiet hs
def WV (te:TE):TS:=fun D σ H=>te σ H D.rt
theorem Tv (he:PE X e te):PS X (.Return (some e) pos) (WV te):=by
  intro pins s σ H D I h
  exact wpAny_Return_some (thn (he pins s σ H _ I h) fun v s1 ⟨x,H1,I1,r1,q1⟩=>⟨x,σ,H1,I1,r1,q1⟩)
def Wa (c:TT) (t u:TS):TS:=fun D σ H=>c σ H fun b H1=>if b=true then t D σ H1 else u D σ H1
theorem Vf {c:Expr} {a b:List Stmt} {tc:TT} (hc:PT X c tc) (ha:PSs X a t) (hb:PSs X b u):PS X (.If c a b pos) (Wa tc t u):=by
  intro pins s σ H D I h
  refine wpAny_If (thn (hc pins s σ H _ I h) fun d s1 ⟨H1,I1,q1⟩=>?_)
  cases d with
  | true=>exact ha pins s1 σ H1 D I1 q1
  | false=>exact hb pins s1 σ H1 D I1 q1
def TN:TS:=fun _ _ _=>False
theorem Pj:PS X st TN:=fun _ _ _ _ _ _ h=>h.elim
end
abbrev TG:=V->St->Hp->(St->Hp->Prop)->Prop
abbrev TGs:=List V->St->Hp->(St->Hp->Prop)->Prop
def PG (X:Cx) (target:Expr) (t:TG):Prop:=
  ∀ (pins:List (Addr × Obj)) (s:Shared) (σ:St) (H:Hp) (v:V) (u:Value) (Q:St->Hp->Prop),Inv X pins σ H s->RelV v u->t v σ H Q->
    wpAny (model X.prog X.w) X.A (assign target X.env u) (fun _ s'=>∃ σ' H',Inv X pins σ' H' s' /\ Q σ' H') X.xe s
def PGs (X:Cx) (ts:List Expr) (t:TGs):Prop:=
  ∀ (pins:List (Addr × Obj)) (s:Shared) (σ:St) (H:Hp) (vs:List V) (us:List Value) (Q:St->Hp->Prop),Inv X pins σ H s->Vals vs us->t vs σ H Q->
    wpAny (model X.prog X.w) X.A (assignInOrder ((assignEach ts X.env).map (·.2)) us) (fun _ s'=>∃ σ' H',Inv X pins σ' H' s' /\ Q σ' H') X.xe s
abbrev U2:=V->V->V->Hp->(Hp->Prop)->Prop
def WP (X:Cx) (t:U2):Prop:=
  ∀ (pins:List (Addr × Obj)) (s:Shared) (σ:St) (H:Hp) (o i v:V) (ov iv u:Value) (Q:Hp->Prop),Inv X pins σ H s->RelV o ov->RelV i iv->RelV v u->t o i v H Q->
    wpAny (model X.prog X.w) X.A (setItem ov iv u) (fun _ s'=>∃ H',Inv X pins σ H' s' /\ Q H') X.xe s
section
variable {X:Cx} {pos:Pos}
def Ef (i:Nat):TG:=fun v σ H Q=>Q (σ.set i (some v)) H
theorem Ao {i:Nat} {x:Str} (hN:X.N.Nodup) (hi:X.N[i]? = some x) (hx:Loc X.env.scope x) (hf:X.fn x=true ∨ X.env.scope.names.lookup x=some .local:=by first | exact .inl rfl | exact .inr rfl | assumption):PG X (.Name x pos) (Ef i):=by
  intro pins s σ H v u Q I r h
  exact wpAny_assign_Name (LD I hN hi hx r (fun s' I'=>⟨_,H,I',h⟩) hf)
def WE:TGs:=fun vs σ H Q=>vs=[] /\ Q σ H
def S8 (t:TG) (u:TGs):TGs:=fun vs σ H Q=>∃ v r,vs=v :: r /\ t v σ H fun σ' H'=>u r σ' H' Q
theorem Cb:PGs X [] WE:=by
  intro pins s σ H vs us Q I r h
  obtain ⟨e,h⟩:=h
  subst e
  cases r
  exact assignInOrder_nil ⟨σ,H,I,h⟩
theorem As {e:Expr} {es:List Expr} {t:TG} {u:TGs} (h1:PG X e t) (h2:PGs X es u)
    (hs:(assignEach (e :: es) X.env).map (·.2)=assign e X.env :: (assignEach es X.env).map (·.2):=by rfl):PGs X (e :: es) (S8 t u):=by
  intro pins s σ H vs us Q I r h
  obtain ⟨v,vr,e1,h⟩:=h
  subst e1
  cases r with
  | cons r rr=>
    rw [hs]
    refine assignInOrder_cons (thn (h1 pins s σ H _ _ _ I r h) fun _ s1 ⟨σ1,H1,I1,q1⟩=>?_)
    exact h2 pins s1 σ1 H1 _ _ Q I1 rr q1
def Wt (K:PySem.W.Frag) (n:Nat) (t:TGs):TG:=fun v σ H Q=>∃ a xs,v=.ref a /\ SqT K H a xs /\ xs.length=n /\ t xs σ H Q
theorem MM {es:List Expr} {k:Nat} {t:TGs} {n:Nat} (hc:X.calm=true) (h:PGs X es t)
    (hn:(assignEach es X.env).length=n:=by rfl) (hst:(assignEach es X.env).findIdx? (·.1)=none:=by rfl):PG X (.Tuple es k pos) (Wt X.K n t):=by
  intro pins s σ H v u Q I r hw
  obtain ⟨a,xs,e1,hq,hl,hw⟩:=hw
  subst e1
  cases r
  obtain ⟨its,rv,ht,hz⟩:=I.tuple hq
  refine assign_Tuple_tuple (I.ok.hd hc) ht (by simp [hn,← hl,rv.length]) hst fun h' hx=>?_
  have I1:Inv X pins σ H { s with heap:=h' }:=I.kept (t':=s.toks) fun b o e=>hx b o (Nat.ne_of_lt (Heap.lt_size e)) e
  exact h pins _ σ H xs _ Q I1 (by simpa using rv) hw
def Wu (to ti:TE) (t:U2):TG:=fun v σ H Q=>to σ H fun o H1=>ti σ H1 fun i H2=>t o i v H2 fun H3=>Q σ H3
theorem T1 {o i:Expr} {to ti:TE} {t:U2} (ho:PE X o to) (hi:PE X i ti) (hs:WP X t)
    (ha:∀ v,assign (.Subscript o i pos) X.env v=(do
      let ov ← holding [v] (eval o X.env)
      let iv ← holding [v,ov] (eval i X.env)
      standAt pos
      holding [v,ov,iv] (setItem ov iv v)
      release [v,ov,iv] []):=by intro _; rfl):PG X (.Subscript o i pos) (Wu to ti t):=by
  intro pins s σ H v u Q I r h
  rw [ha]
  refine wpAny_bind (wpAny_holding (thn (ho pins s σ H _ I h) fun ov s1 ⟨x,H1,I1,r1,q1⟩=>?_))
  refine wpAny_bind (wpAny_holding (thn (hi pins s1 σ H1 _ I1 q1) fun iv s2 ⟨y,H2,I2,r2,q2⟩=>?_))
  refine wpAny_bind (wpAny_standAt (wpAny_bind (wpAny_holding (thn (hs pins s2 σ H2 x y v ov iv u _ I2 r1 r2 r q2) fun _ s3 ⟨H3,I3,q3⟩=>?_))))
  exact wpAny_release ⟨σ,H3,I3,q3⟩
def Qt (te:TE) (g:TG):TS:=fun D σ H=>te σ H fun x H1=>g x σ H1 D.nx
theorem Tx {tg e:Expr} {te:TE} {g:TG} (he:PE X e te) (hg:PG X tg g) (hs:swapsWithSole [tg] e pos.line X.env=pure false:=by rfl) (hw:swappedStores [tg] e X.env=pure none:=by rfl)
    (h1:(assignEach [tg] X.env).map (·.2)=[assign tg X.env]:=by rfl):PS X (.Assign [tg] e pos) (Qt te g):=by
  intro pins s σ H D I h
  refine wpAny_Assign_stores (thn (he pins s σ H _ I h) fun v s1 ⟨x,H1,I1,r1,q1⟩=>?_) hs hw
  rw [h1]
  exact thn (hg pins s1 σ H1 x v _ I1 r1 q1) fun _ s2 q=>q
theorem Tu {i:Nat} {x:Str} {e:Expr} {te:TE} {pos':Pos} (hN:X.N.Nodup) (hi:X.N[i]? = some x) (hx:Loc X.env.scope x) (he:PE X e te) (hs:swapsWith e (some (.Name x pos')) pos.line X.env=pure false:=by rfl) (hf:X.fn x=true ∨ X.env.scope.names.lookup x=some .local:=by first | exact .inl rfl | exact .inr rfl | assumption) :
    PS X (.Assign [.Name x pos'] e pos) (Qt te (Ef i)):=by
  intro pins s σ H D I h
  refine wpAny_Assign_Name (thn (he pins s σ H _ I h) fun v s1 ⟨y,H1,I1,r1,q1⟩=>?_) hs
  exact LD I1 hN hi hx r1 (fun s2 I2=>⟨_,H1,I2,q1⟩) hf
end
section
variable {X:Cx} {pos:Pos}
end
structure It where
  go:Nat->Hp->Prop
  yld:Nat->Hp->V->Hp->Prop
  stop:Nat->Hp->Prop
def F1 (X:Cx) (pins:List (Addr × Obj)) (H:Hp) (b:Addr):Prop:=
  H b=none /\ b ≠ X.env.locals /\ b ∉ X.fs /\ (b ∈ X.ex ∨ X.s₀.heap.objs.size <= b) /\ (∀ x c,X.env.cells.lookup x=some c->c ≠ b) /\ ∀ p ∈ X.pn ++ pins,p.1 ≠ b
theorem Inv.fpOk {X:Cx} {pins:List (Addr × Obj)} {σ:St} {H H':Hp} {s:Shared} {b:Addr} (I:Inv X pins σ H s) (hb:s.heap.objs.size <= b) (hn:H' b=none):F1 X pins H' b:=by
  refine ⟨hn,Nat.ne_of_gt (Nat.lt_of_lt_of_le I.lt hb),I.nofs hb,.inr (Nat.le_trans I.sz hb),fun x c e z=>?_,fun p hp z=>?_⟩
  . obtain ⟨v,q⟩:=I.cell x c e
    exact absurd (Nat.lt_of_lt_of_le q.lt (by rw [z]; exact hb)) (Nat.lt_irrefl _)
  . exact absurd (Nat.lt_of_lt_of_le (Heap.lt_size (I.pin p hp).1) (by rw [z]; exact hb)) (Nat.lt_irrefl _)
structure JR (P:Program) (w:World) (K:PySem.W.Frag) (tg:Expr) (J:It) (fp:List Addr) (it:Addr) (tn:Nat->Heap->Prop):Prop where
  mem:it ∈ fp
  obj:∀ i h,tn i h->∀ b ∈ fp,∃ o,h.get? b=some o /\ ∀ v,o.data ≠ .cell v
  keep:∀ i h h',tn i h->(∀ b ∈ fp,∀ o,h.get? b=some o->h'.get? b=some o)->tn i h'
  item:∀ (X:Cx),X.prog=P->X.w=w->X.K=K->X.calm=true->∀ (i:Nat) (pins:List (Addr × Obj)) (s:Shared) (σ:St) (H:Hp) (E:Value->Shared->Prop),Inv X pins σ H s->(∀ b ∈ fp,F1 X pins H b)->tn i s.heap->J.go i H->
    wpAny (model P w) X.A (pyNext (.ref it)) (fun r s1=>∃ u,r=some u /\
      wpAny (model P w) X.A (letOwnedTupleGo tg (.ref it) u) (fun _ s2=>∃ x H',Inv X pins σ H' s2 /\ RelV x u /\ J.yld i H x H' /\ tn (i + 1) s2.heap /\ ∀ b ∈ fp,H' b=none) E s1) E s
  done:∀ (X:Cx),X.prog=P->X.w=w->X.K=K->X.calm=true->∀ (i:Nat) (pins:List (Addr × Obj)) (s:Shared) (σ:St) (H:Hp) (E:Value->Shared->Prop),Inv X pins σ H s->(∀ b ∈ fp,F1 X pins H b)->tn i s.heap->J.stop i H->
    wpAny (model P w) X.A (pyNext (.ref it)) (fun r s1=>r=none /\ Inv X pins σ H s1) E s
  self:∀ (A:Around) (i:Nat) (s:Shared) (Q:Value->Shared->Prop) (E:Value->Shared->Prop),tn i s.heap->Q (.ref it) s->wpAny (model P w) A (pyIter (.ref it)) Q E s
abbrev TI:=St->Hp->(It->Hp->Prop)->Prop
def PIE (X:Cx) (pins:List (Addr × Obj)) (σ:St) (tg:Expr) (R:It->Hp->Prop) (itv:Value) (s2:Shared):Prop:=
  ∃ (it:Addr) (fp:List Addr) (tn:Nat->Heap->Prop) (J:It) (H':Hp),itv=.ref it /\ Inv X pins σ H' s2 /\ JR X.prog X.w X.K tg J fp it tn /\ tn 0 s2.heap /\ (∀ b ∈ fp,F1 X pins H' b) /\ R J H'
def PI (X:Cx) (tg iter:Expr) (wi:TI):Prop:=
  ∀ (pins:List (Addr × Obj)) (s:Shared) (σ:St) (H:Hp) (R:It->Hp->Prop),Inv X pins σ H s->wi σ H R->
    wpAny (model X.prog X.w) X.A (eval iter X.env) (fun v s1=>wpAny (model X.prog X.w) X.A (pyIter v) (PIE X pins σ tg R) X.xe s1) X.xe s
theorem QN {M:Model} {A:Around} {E:Value->Shared->Prop} {s:Shared} {tg:Expr} {it:Addr} {u:Value} {o:Obj} {n:String} {vs:Array Value} {Q:Unit->Shared->Prop} (ho:s.heap.get? it=some o) (hc:o.cls=.type n) (hd:o.data=.fields vs)
    (hn:["enumerate", "zip", "dict_itemiterator", "dict_reverseitemiterator", "odict_iterator", "itertools.zip_longest", "itertools.pairwise"].contains n=false) (hQ:Q () s):wpAny M A (letOwnedTupleGo tg (.ref it) u) Q E s:=by
  unfold letOwnedTupleGo
  cases tg <;> first
    | exact wpAny_pure hQ
    | (cases u <;> first
        | exact wpAny_pure hQ
        | (refine wpAny_bind (wpAny_load ho ?_)
           rw [hc,hd]
           show wpAny M A (if (["enumerate", "zip", "dict_itemiterator", "dict_reverseitemiterator", "odict_iterator", "itertools.zip_longest", "itertools.pairwise"].contains n && vs[0]? == some (rawInt _))=true then _ else _) Q E s
           rw [if_neg (by intro h; rw [hn,Bool.false_and] at h; cases h)]
           exact wpAny_pure hQ))
def Itl (K:PySem.W.Frag) (a:Addr):It:=
  ⟨fun i H=>∃ xs x,SqL K H a xs /\ xs[i]? = some x,fun i H x H'=>H'=H /\ ∀ xs,SqL K H a xs->xs[i]? = some x,fun i H=>∃ xs,SqL K H a xs /\ xs.length <= i⟩
def Itt (K:PySem.W.Frag) (a:Addr):It:=
  ⟨fun i H=>∃ xs x,SqT K H a xs /\ xs[i]? = some x,fun i H x H'=>H'=H /\ ∀ xs,SqT K H a xs->xs[i]? = some x,fun i H=>∃ xs,SqT K H a xs /\ xs.length <= i⟩
def Itr (lo:Int) (n:Nat):It:=⟨fun i _=>i < n,fun i H x H'=>H'=H /\ x=.int (lo + i),fun i _=>n <= i⟩
theorem Nl {P:Program} {w:World} {K:PySem.W.Frag} {tg:Expr} (a it:Addr):JR P w K tg (Itl K a) [it] it (fun i h=>h.IsListIter it a i) where
  mem:=by simp
  obj:=fun i h st b hb=>by
    have e:b=it:=by simpa using hb
    subst e
    obtain ⟨o,e,c,d⟩:=st
    exact ⟨o,e,fun v z=>by rw [d] at z; cases z⟩
  keep:=fun i h h' st k=>st.at fun o e=>k it (by simp) o e
  item:=by
    intro X hP hw hK hc i pins s σ H E I hf st hg
    subst hP hw hK
    obtain ⟨xs,x,hq,hx⟩:=hg
    obtain ⟨its,rv,p,hz⟩:=I.list hq
    obtain ⟨u,hu,ru⟩:=rv.get hx
    obtain ⟨f0,f1,f2,f3,f4,f5⟩:=hf it (by simp)
    refine wpAny_pyNext_list_item st p.isList (x:=u) (by simpa using hu) fun h' st' sb=>?_
    have I1:Inv X pins σ H { s with heap:=h' }:=I.turned (t':=s.toks) (fun b o hb e=>(sb.2 b hb).trans e) f0 f1 f3 f4 f5
    obtain ⟨o,e,c,d⟩:=id st'
    exact ⟨u,rfl,QN (s:={ s with heap:=h' }) e c d (by decide) ⟨x,H,I1,ru,⟨rfl,fun ys hy=>by rw [I.list_inj hy hq]; exact hx⟩,st',fun b hb=>(hf b hb).1⟩⟩
  done:=by
    intro X hP hw hK hc i pins s σ H E I hf st hg
    subst hP hw hK
    obtain ⟨xs,hq,hx⟩:=hg
    obtain ⟨its,rv,p,hz⟩:=I.list hq
    obtain ⟨f0,f1,f2,f3,f4,f5⟩:=hf it (by simp)
    have hl:=rv.length
    exact wpAny_pyNext_list_end (I.ok.hd hc) st p.isList (by simp; omega) fun h' eb=>⟨rfl,I.turned (t':=s.toks) (fun b o hb e=>eb b o hb e) f0 f1 f3 f4 f5⟩
  self:=fun _ _ _ _ _ st h=>wpAny_pyIter_listiter st h
theorem MA {P:Program} {w:World} {K:PySem.W.Frag} {tg:Expr} (a it:Addr):JR P w K tg (Itt K a) [it] it (fun i h=>h.IsTupleIter it a i) where
  mem:=by simp
  obj:=fun i h st b hb=>by
    have e:b=it:=by simpa using hb
    subst e
    obtain ⟨o,e,c,d⟩:=st
    exact ⟨o,e,fun v z=>by rw [d] at z; cases z⟩
  keep:=fun i h h' st k=>st.at fun o e=>k it (by simp) o e
  item:=by
    intro X hP hw hK hc i pins s σ H E I hf st hg
    subst hP hw hK
    obtain ⟨xs,x,hq,hx⟩:=hg
    obtain ⟨its,rv,p,hz⟩:=I.tuple hq
    obtain ⟨u,hu,ru⟩:=rv.get hx
    obtain ⟨f0,f1,f2,f3,f4,f5⟩:=hf it (by simp)
    refine wpAny_pyNext_tuple_item st (show s.heap.IsTuple a its.toArray from p) (x:=u) (by simpa using hu) fun h' st' sb=>?_
    have I1:Inv X pins σ H { s with heap:=h' }:=I.turned (t':=s.toks) (fun b o hb e=>(sb.2 b hb).trans e) f0 f1 f3 f4 f5
    obtain ⟨o,e,c,d⟩:=id st'
    exact ⟨u,rfl,QN (s:={ s with heap:=h' }) e c d (by decide) ⟨x,H,I1,ru,⟨rfl,fun ys hy=>by rw [I.tuple_inj hy hq]; exact hx⟩,st',fun b hb=>(hf b hb).1⟩⟩
  done:=by
    intro X hP hw hK hc i pins s σ H E I hf st hg
    subst hP hw hK
    obtain ⟨xs,hq,hx⟩:=hg
    obtain ⟨its,rv,p,hz⟩:=I.tuple hq
    obtain ⟨f0,f1,f2,f3,f4,f5⟩:=hf it (by simp)
    have hl:=rv.length
    exact wpAny_pyNext_tuple_end (I.ok.hd hc) st (show s.heap.IsTuple a its.toArray from p) (by simp; omega) fun h' eb=>⟨rfl,I.turned (t':=s.toks) (fun b o hb e=>eb b o hb e) f0 f1 f3 f4 f5⟩
  self:=fun _ _ _ _ _ st h=>wpAny_pyIter_tupleiter st h
theorem MB {P:Program} {w:World} {K:PySem.W.Frag} {tg:Expr} (it:Addr) (lo:Int) (n:Nat):JR P w K tg (Itr lo n) [it] it (fun i h=>IsRangeIter h it (lo + (i:Nat) * 1) ((n:Int) - (i:Nat)) 1) where
  mem:=by simp
  obj:=fun i h st b hb=>by
    have e:b=it:=by simpa using hb
    subst e
    exact ⟨_,st,fun v z=>by
      have z':Data.fields _=Data.cell v:=z
      cases z'⟩
  keep:=fun i h h' st k=>k it (by simp) _ st
  item:=by
    intro X hP hw hK hc i pins s σ H E I hf st hg
    subst hP hw hK
    obtain ⟨f0,f1,f2,f3,f4,f5⟩:=hf it (by simp)
    have W:=Walks.range (prog:=X.prog) (w:=X.w) (I.ok.hd hc) it lo 1 n
    refine W.item i s _ _ hg st fun v h' tk hv st' kk=>?_
    obtain ⟨t,rfl⟩:=hv
    have I1:Inv X pins σ H { s with heap:=h',toks:=tk }:=I.turned (fun b o hb e=>kk b o (by simpa using hb) e) f0 f1 f3 f4 f5
    refine ⟨_,rfl,QN (s:={ s with heap:=h',toks:=tk }) (n := "range_iterator") st' rfl rfl (by decide) ⟨.int (lo + i),H,I1,⟨t,?_⟩,⟨rfl,rfl⟩,st',fun b hb=>(hf b hb).1⟩⟩
    rw [Int.mul_one]
  done:=by
    intro X hP hw hK hc i pins s σ H E I hf st hg
    subst hP hw hK
    obtain ⟨f0,f1,f2,f3,f4,f5⟩:=hf it (by simp)
    exact wpAny_pyNext_range_end (I.ok.hd hc) st (by have:n <= i:=hg; omega) fun h' eb=>⟨rfl,I.turned (t':=s.toks) (fun b o hb e=>eb b o hb e) f0 f1 f3 f4 f5⟩
  self:=fun _ _ _ _ _ st h=>wpAny_pyIter_rangeiter st h
end L2
namespace L2
open PySem PySem.Spec PyProof.Rows
section
variable {X:Cx} {tg:Expr}
def S6 (K:PySem.W.Frag) (tl:TE):TI:=fun σ H R=>tl σ H fun x H1=>∃ a,x=.ref a /\ (∃ xs,SqL K H1 a xs) /\ R (Itl K a) H1
def WA (K:PySem.W.Frag) (tl:TE):TI:=fun σ H R=>tl σ H fun x H1=>∃ a,x=.ref a /\ (∃ xs,SqT K H1 a xs) /\ R (Itt K a) H1
theorem ND {l:Expr} {tl:TE} (hl:PE X l tl):PI X tg l (S6 X.K tl):=by
  intro pins s σ H R I h
  refine thn (hl pins s σ H _ I h) fun v s1 ⟨x,H1,I1,r1,q1⟩=>?_
  obtain ⟨a,e,⟨xs,hq⟩,q⟩:=q1
  subst e
  cases r1
  obtain ⟨its,rv,p,hz⟩:=I1.list hq
  refine wpAny_pyIter_list p.isList ?_
  refine ⟨s1.heap.objs.size,[s1.heap.objs.size],_,_,H1,rfl,I1.kept (t':=s1.toks) fun b o e=>Heap.get?_push_of_some _ e,Nl a _,⟨_,Heap.get?_push_size _ rfl,rfl,rfl⟩,fun b hb=>?_,q⟩
  have e:b=s1.heap.objs.size:=by simpa using hb
  subst e
  exact I1.fpOk (Nat.le_refl _) (I1.hok.fresh (Nat.le_refl _))
theorem Tz {l:Expr} {tl:TE} (hl:PE X l tl):PI X tg l (WA X.K tl):=by
  intro pins s σ H R I h
  refine thn (hl pins s σ H _ I h) fun v s1 ⟨x,H1,I1,r1,q1⟩=>?_
  obtain ⟨a,e,⟨xs,hq⟩,q⟩:=q1
  subst e
  cases r1
  obtain ⟨its,rv,p,hz⟩:=I1.tuple hq
  refine wpAny_pyIter_tuple (show s1.heap.IsTuple a its.toArray from p) ?_
  refine ⟨s1.heap.objs.size,[s1.heap.objs.size],_,_,H1,rfl,I1.kept (t':=s1.toks) fun b o e=>Heap.get?_push_of_some _ e,MA a _,⟨_,Heap.get?_push_size _ rfl,rfl,rfl⟩,fun b hb=>?_,q⟩
  have e:b=s1.heap.objs.size:=by simpa using hb
  subst e
  exact I1.fpOk (Nat.le_refl _) (I1.hok.fresh (Nat.le_refl _))
theorem LK {pins:List (Addr × Obj)} {σ:St} {H:Hp} {s:Shared} {R:It->Hp->Prop} {E:Value->Shared->Prop} {lo hi:Int} {t u v:Tok} {tk:Nat} (I:Inv X pins σ H s) (h1 : -(2 ^ 62) <= lo) (h2:lo < 2 ^ 62) (h3 : -(2 ^ 62) <= hi) (h4:hi < 2 ^ 62)
    (q:R (Itr lo (hi - lo).toNat) H):wpAny (model X.prog X.w) X.A (pyIter (.ref s.heap.objs.size)) (PIE X pins σ tg R) E { s with heap:=s.heap.push { cls:=.type "range",data:=.fields #[.int lo t,.int hi u,.int 1 v] },toks:=tk }:=by
  refine wpAny_pyIter_range (IsRange.new ..) (small_one h1 h2 h3 h4) ?_
  have I1:Inv X pins σ H { s with heap:=s.heap.push { cls:=.type "range",data:=.fields #[.int lo t,.int hi u,.int 1 v] },toks:=tk }:=I.kept fun b o e=>Heap.get?_push_of_some _ e
  refine ⟨(s.heap.push { cls:=.type "range",data:=.fields #[.int lo t,.int hi u,.int 1 v] }).objs.size,[(s.heap.push { cls:=.type "range",data:=.fields #[.int lo t,.int hi u,.int 1 v] }).objs.size],_,_,H,rfl,
    I1.kept (t':=tk) fun b o e=>Heap.get?_push_of_some _ e,MB _ lo (hi - lo).toNat,?_,fun b hb=>?_,q⟩
  . have e1:lo + ((0:Nat):Int) * 1=lo:=by simp
    have e2:(((hi - lo).toNat:Nat):Int) - ((0:Nat):Int)=Builtin.Range.rangeSize lo hi 1:=by rw [rangeSize_one]; split <;> omega
    show IsRangeIter _ _ (lo + ((0:Nat):Int) * 1) ((((hi - lo).toNat:Nat):Int) - ((0:Nat):Int)) 1
    rw [e1,e2]
    exact Heap.get?_push_size _ rfl
  . have e:b=(s.heap.push { cls:=.type "range",data:=.fields #[.int lo t,.int hi u,.int 1 v] }).objs.size:=by simpa using hb
    subst e
    exact I1.fpOk (Nat.le_refl _) (I1.hok.fresh (Nat.le_refl _))
def WC (ta:TA):TI:=fun σ H R=>ta σ H fun vs H1=>∃ j:Int,vs=[.int j] /\ -(2 ^ 62) <= j /\ j < 2 ^ 62 /\ R (Itr 0 j.toNat) H1
def WB (ta:TA):TI:=fun σ H R=>ta σ H fun vs H1=>∃ i j:Int,vs=[.int i,.int j] /\ (-(2 ^ 62) <= i /\ i < 2 ^ 62 /\ -(2 ^ 62) <= j /\ j < 2 ^ 62) /\ R (Itr i (j - i).toNat) H1
theorem N4 {a:Expr} {ta:TA} {p pos:Pos} (hg:Gl X "range") (hm:X.mg "range" = none) (ha:PA X [a] ta) (hs:starEach [a] X.env=[(false,eval a X.env)]:=by rfl):PI X tg (.Call (.Name "range" p) [a] [] pos) (WC ta):=by
  intro pins s σ H R I h
  refine Call_ (Fb I hg hm boot_range (PyProof.Rows.callWith_type1 (thn (ha pos pins s σ H _ I h) fun us s1 ⟨vs,H1,I1,r1,q1⟩=>?_) hs rfl))
  obtain ⟨j,e,q1,q2,q⟩:=q1
  subst e
  cases r1 with
  | cons r rr=>
    cases rr
    obtain ⟨t,rfl⟩:=r
    exact call_range_1 (LK I1 (by omega) (by omega) q1 q2 (by simpa using q))
theorem N3 {a b:Expr} {ta:TA} {p pos:Pos} (hg:Gl X "range") (hm:X.mg "range" = none) (ha:PA X [a,b] ta) (hs:starEach [a,b] X.env=[(false,eval a X.env),(false,eval b X.env)]:=by rfl) (hs2:starEach [b] X.env=[(false,eval b X.env)]:=by rfl) :
    PI X tg (.Call (.Name "range" p) [a,b] [] pos) (WB ta):=by
  intro pins s σ H R I h
  refine Call_ (Fb I hg hm boot_range (PyProof.Rows.callWith_type1 (thn (ha pos pins s σ H _ I h) fun us s1 ⟨vs,H1,I1,r1,q1⟩=>?_) (by rw [hs,hs2]) (by rw [hs2]; rfl)))
  obtain ⟨i,j,e,⟨q1,q2,q3,q4⟩,q⟩:=q1
  subst e
  cases r1 with
  | cons r rr=>
    cases rr with
    | cons r' rr=>
      cases rr
      obtain ⟨t,rfl⟩:=r
      obtain ⟨t',rfl⟩:=r'
      exact call_range_2 (LK I1 q1 q2 q3 q4 q)
def Wb (wi:TI) (g:TG) (tb:TS):TS:=fun D σ H=>wi σ H fun J H1=>∃ W:Nat->Nat->St->Hp->Prop,(∃ m,W 0 m σ H1) /\ ∀ i m σ H,W i m σ H->
  (J.stop i H /\ D.nx σ H) ∨ (J.go i H /\ ∃ N:St->Hp->Prop,(∀ σ' H',N σ' H'->∃ m',m' < m /\ W (i + 1) m' σ' H') /\ ∀ x H',J.yld i H x H'->g x σ H' fun σ2 H2=>tb { D with nx:=N,ct:=N,bk:=D.nx } σ2 H2)
def KQ (fp:List Addr) (h:Heap):List (Addr × Obj):=fp.filterMap fun b=>(h.get? b).map fun o=>(b,o)
theorem DY {fp:List Addr} {h:Heap} {b:Addr} {o:Obj} (hb:b ∈ fp) (e:h.get? b=some o):(b,o) ∈ KQ fp h:=List.mem_filterMap.mpr ⟨b,hb,by rw [e]; rfl⟩
theorem OA {fp:List Addr} {h:Heap} {p:Addr × Obj} (hp:p ∈ KQ fp h):p.1 ∈ fp /\ h.get? p.1=some p.2:=by
  obtain ⟨b,hb,e⟩:=List.mem_filterMap.mp hp
  cases q:h.get? b with
  | none=>rw [q] at e; cases e
  | some o=>
    rw [q] at e
    have e':(b,o)=p:=Option.some.inj e
    subst e'
    exact ⟨hb,q⟩
theorem Inv.pinned {pins:List (Addr × Obj)} {σ:St} {H:Hp} {s:Shared} {fp:List Addr} (I:Inv X pins σ H s) (hf:∀ b ∈ fp,F1 X pins H b) (ho:∀ b ∈ fp,∃ o,s.heap.get? b=some o /\ ∀ v,o.data ≠ .cell v):Inv X (pins ++ KQ fp s.heap) σ H s:=
  I.pins_of fun p hp=>(List.mem_append.mp hp).elim (fun z=>I.pin p (List.mem_append_right _ z)) fun z=>by
    obtain ⟨hb,e⟩:=OA z
    obtain ⟨f0,f1,f2,_⟩:=hf p.1 hb
    obtain ⟨o,e',d⟩:=ho p.1 hb
    rw [e] at e'; cases e'
    exact ⟨e,f0,f1,f2,d⟩
theorem Inv.unpinned {pins pl:List (Addr × Obj)} {σ:St} {H:Hp} {s:Shared} (I:Inv X (pins ++ pl) σ H s):Inv X pins σ H s:=I.pins_of fun p hp=>I.pin p (List.mem_append_right _ (List.mem_append_left _ hp))
theorem Tw {iter:Expr} {body:List Stmt} {wi:TI} {g:TG} {tb:TS} {pos:Pos} (hp:PassesOwn (model X.prog X.w) X.A X.env X.xe) (hc:X.calm=true) (hi:PI X tg iter wi) (hg:PG X tg g) (hb:PSs X body tb)
    (hs:∀ x,foldedSetIterable iter X.env x=pure x:=by intro _; rfl):PS X (.For tg iter body [] pos) (Wb wi g tb):=by
  intro pins s σ H D I h
  refine wpAny_For (thn (hi pins s σ H _ I h) fun v s1 h1=>thn h1 fun itv s2 h2=>?_) hs
  obtain ⟨it,fp,tn,J,H2,e,I2,T,st2,f2,W,⟨m0,w0⟩,turn⟩:=h2
  subst e
  have stat:∀ {H':Hp},(∀ b ∈ fp,H' b=none)->∀ b ∈ fp,F1 X pins H' b:=fun hn b hb=>⟨hn b hb,(f2 b hb).2⟩
  refine codeAny_forLoop_any (fun n s'=>∃ i σ' H',Inv X pins σ' H' s' /\ tn i s'.heap /\ (∀ b ∈ fp,H' b=none) /\ W i n σ' H') ?_ m0 ⟨0,σ,H2,I2,st2,fun b hb=>(f2 b hb).1,w0⟩
  rintro n s3 ⟨i,σ3,H3,I3,st3,fr3,w3⟩
  rcases turn i n σ3 H3 w3 with ⟨stop,qn⟩ | ⟨go,N,hN,step⟩
  . refine wpAny_passesOwn hp (thn (T.done X rfl rfl rfl hc i pins s3 σ3 H3 X.xe I3 (stat fr3) st3 stop) fun r s4 ⟨hr,I4⟩=>?_)
    subst hr
    exact wpAny_execs_nil ⟨σ3,H3,I4,qn⟩
  . refine wpAny_passesOwn hp (thn (T.item X rfl rfl rfl hc i pins s3 σ3 H3 X.xe I3 (stat fr3) st3 go) fun r s4 ⟨u,hr,h4⟩=>?_)
    subst hr
    refine wpAny_passesOwn hp (thn h4 fun _ s5 ⟨x,H5,I5,r5,y5,st5,fr5⟩=>?_)
    have I5':=I5.pinned (stat fr5) (T.obj _ _ st5)
    refine wpAny_passesOwn hp (thn (hg _ s5 σ3 H5 x u _ I5' r5 (step x H5 y5)) fun _ s6 ⟨σ6,H6,I6,q6⟩=>?_)
    refine wpAny_passesOwn hp (thn (hb _ s6 σ6 H6 _ I6 q6) fun f s7 q7=>?_)
    have again:∀ {σ7:St} {H7:Hp},Inv X (pins ++ KQ fp s5.heap) σ7 H7 s7->N σ7 H7->∃ m,m < n /\ ∃ i σ' H',Inv X pins σ' H' s7 /\ tn i s7.heap /\ (∀ b ∈ fp,H' b=none) /\ W i m σ' H':=fun {σ7 H7} I7 n7=>by
      obtain ⟨m',hm,w7⟩:=hN σ7 H7 n7
      refine ⟨m',hm,i + 1,σ7,H7,I7.unpinned,T.keep _ _ _ st5 fun b hb o e=>(I7.pin (b,o) (List.mem_append_right _ (List.mem_append_right _ (DY hb e)))).1,fun b hb=>?_,w7⟩
      obtain ⟨o,e,d⟩:=T.obj _ _ st5 b hb
      exact (I7.pin (b,o) (List.mem_append_right _ (List.mem_append_right _ (DY hb e)))).2.1
    cases f with
    | next=>obtain ⟨σ7,H7,I7,n7⟩:=q7; exact again I7 n7
    | cont=>obtain ⟨σ7,H7,I7,n7⟩:=q7; exact again I7 n7
    | brk=>obtain ⟨σ7,H7,I7,q7⟩:=q7; exact ⟨σ7,H7,I7.unpinned,q7⟩
    | ret v=>obtain ⟨x7,σ7,H7,I7,r7,q7⟩:=q7; exact ⟨x7,σ7,H7,I7.unpinned,r7,q7⟩
end
end L2
namespace L2
open PySem PySem.Spec PyProof.Rows
abbrev R2:=V->V->Hp->VK->Prop
def OpR (X:Cx) (f:Value->Value->Sem Value) (r:R2):Prop:=
  ∀ (pins:List (Addr × Obj)) (s:Shared) (σ:St) (H:Hp) (x y:V) (v u:Value) (Q:VK),Inv X pins σ H s->RelV x v->RelV y u->r x y H Q->
    wpAny (model X.prog X.w) X.A (f v u) (EP X pins σ Q) X.xe s
def UnR (X:Cx) (f:Value->Sem Value) (r:V->Hp->VK->Prop):Prop:=
  ∀ (pins:List (Addr × Obj)) (s:Shared) (σ:St) (H:Hp) (x:V) (v:Value) (Q:VK),Inv X pins σ H s->RelV x v->r x H Q->
    wpAny (model X.prog X.w) X.A (f v) (EP X pins σ Q) X.xe s
def CH (X:Cx) (f:Value) (r:List V->Hp->VK->Prop):Prop:=
  ∀ (pins:List (Addr × Obj)) (s:Shared) (σ:St) (H:Hp) (xs:List V) (us:List Value) (Q:VK),Inv X pins σ H s->Vals xs us->r xs H Q->
    wpAny (model X.prog X.w) X.A (call f us) (EP X pins σ Q) X.xe s
def tOp (r:R2) (ta tb:TE):TE:=fun σ H Q=>ta σ H fun x H1=>tb σ H1 fun y H2=>r x y H2 Q
def tUn (r:V->Hp->VK->Prop) (ta:TE):TE:=fun σ H Q=>ta σ H fun x H1=>r x H1 Q
def rI (C:Int->Int->Prop) (g:Int->Int->V):R2:=fun x y H Q=>∃ i j,x=.int i /\ y=.int j /\ C i j /\ Q (g i j) H
def rI0 (g:Int->Int->V):R2:=fun x y H Q=>∃ i j,x=.int i /\ y=.int j /\ Q (g i j) H
def rU (g:Int->V):V->Hp->VK->Prop:=fun x H Q=>∃ i,x=.int i /\ Q (g i) H
section
variable {X:Cx} {a b c:Expr} {ta tb tc:TE} {pos:Pos}
theorem Uy (ha:PE X a ta) (hb:PE X b tb) {pins:List (Addr × Obj)} {s:Shared} {σ:St} {H:Hp} {R:V->V->Hp->Prop} (I:Inv X pins σ H s)
    (h:ta σ H fun x H1=>tb σ H1 fun y H2=>R x y H2) {Q:Value->Shared->Prop} {f:Value->Value->Sem Value}
    (hf:∀ v u s2 x y H2,Inv X pins σ H2 s2->RelV x v->RelV y u->R x y H2->wpAny (model X.prog X.w) X.A (f v u) Q X.xe s2) :
    wpAny (model X.prog X.w) X.A (eval a X.env) (fun v s₁=>wpAny (model X.prog X.w) X.A (eval b X.env) (fun u s₂=>wpAny (model X.prog X.w) X.A (f v u) Q X.xe s₂) X.xe s₁) X.xe s:=by
  refine thn (ha pins s σ H _ I h) fun v s1 ⟨x,H1,I1,r1,q1⟩=>?_
  refine thn (hb pins s1 σ H1 _ I1 q1) fun u s2 ⟨y,H2,I2,r2,q2⟩=>?_
  exact hf v u s2 x y H2 I2 r1 r2 q2
theorem Vi {op:Operator} {r:R2} (ho:OpR X (binaryOp op) r) (ha:PE X a ta) (hb:PE X b tb):PE X (.BinOp a op b pos) (tOp r ta tb):=by
  intro pins s σ H Q I h
  exact wpAny_BinOp (Uy ha hb I h fun v u s2 x y H2 I2 rx ry q=>ho pins s2 σ H2 x y v u Q I2 rx ry q)
theorem Vg {op:UnaryOp} {r:V->Hp->VK->Prop} (ho:UnR X (unaryOp op) r) (ha:PE X a ta):PE X (.UnaryOp op a pos) (tUn r ta):=by
  intro pins s σ H Q I h
  exact UnaryOp_ (thn (ha pins s σ H _ I h) fun v s1 ⟨x,H1,I1,r1,q1⟩=>ho pins s1 σ H1 x v Q I1 r1 q1)
theorem opI {f:Value->Value->Sem Value} {C:Int->Int->Prop} {g:Int->Int->Int}
    (rule:∀ (i j:Int) (t u:Tok) (s:Shared) (Q:Value->Shared->Prop) (E:Value->Shared->Prop),C i j->Q (.int (g i j) s.toks) { s with toks:=s.toks + 1 }->wpAny (model X.prog X.w) X.A (f (.int i t) (.int j u)) Q E s) :
    OpR X f (rI C fun i j=>.int (g i j)):=by
  intro pins s σ H x y v u Q I rx ry h
  obtain ⟨i,j,rfl,rfl,hc,q⟩:=h
  obtain ⟨t,rfl⟩:=rx
  obtain ⟨t',rfl⟩:=ry
  exact rule i j t t' s _ _ hc ⟨.int (g i j),H,I.tok _,⟨_,rfl⟩,q⟩
theorem Vt {f:Value->Value->Sem Value} {g:Int->Int->Int}
    (rule:∀ (i j:Int) (t u:Tok) (s:Shared) (Q:Value->Shared->Prop) (E:Value->Shared->Prop),Q (.int (g i j) s.toks) { s with toks:=s.toks + 1 }->wpAny (model X.prog X.w) X.A (f (.int i t) (.int j u)) Q E s) :
    OpR X f (rI0 fun i j=>.int (g i j)):=by
  intro pins s σ H x y v u Q I rx ry h
  obtain ⟨i,j,rfl,rfl,q⟩:=h
  obtain ⟨t,rfl⟩:=rx
  obtain ⟨t',rfl⟩:=ry
  exact rule i j t t' s _ _ ⟨.int (g i j),H,I.tok _,⟨_,rfl⟩,q⟩
theorem UQ {f:Value->Value->Sem Value} {g:Int->Int->Bool}
    (rule:∀ (i j:Int) (t u:Tok) (s:Shared) (Q:Value->Shared->Prop) (E:Value->Shared->Prop),Q (.bool (g i j)) s->wpAny (model X.prog X.w) X.A (f (.int i t) (.int j u)) Q E s) :
    OpR X f (rI0 fun i j=>.bl (g i j)):=by
  intro pins s σ H x y v u Q I rx ry h
  obtain ⟨i,j,rfl,rfl,q⟩:=h
  obtain ⟨t,rfl⟩:=rx
  obtain ⟨t',rfl⟩:=ry
  exact rule i j t t' s _ _ ⟨.bl (g i j),H,I,rfl,q⟩
def W5 (i j:Int):Prop:=0 < j /\ j < 1073741824
def W4 (i j:Int):Prop:=0 <= j /\ j <= 1000000 /\ i.natAbs < 2 ^ 64
def CMul (i j:Int):Prop:=(-(2 ^ 64) < i /\ i < 2 ^ 64) ∨ (-(2 ^ 64) < j /\ j < 2 ^ 64)
theorem CMul.ok {i j:Int} (h:CMul i j):IntMulOk i j:=by
  rcases h with ⟨h1,h2⟩ | ⟨h1,h2⟩
  . exact .of_left (intBits_le_64 h1 h2)
  . exact .of_right (intBits_le_64 h1 h2)
theorem UP:OpR X (binaryOp .Add) (rI0 fun i j=>.int (i + j)):=Vt fun _ _ _ _ _ _ _ q=>add_int q
theorem UG:OpR X (binaryOp .Sub) (rI0 fun i j=>.int (i - j)):=Vt fun _ _ _ _ _ _ _ q=>sub_int q
theorem UK:OpR X (binaryOp .Mult) (rI CMul fun i j=>.int (i * j)):=opI fun _ _ _ _ _ _ _ hc q=>mul_int q hc.ok
theorem Rp:OpR X (binaryOp .FloorDiv) (rI W5 fun i j=>.int (i / j)):=opI fun i j _ _ _ _ _ hc q=>by
  have h1:(0:Int) < j:=hc.1
  have h2:j < 1073741824:=hc.2
  exact floordiv_int (by omega) (by rw [Int.fdiv_eq_ediv_of_nonneg i (by omega)]; exact q) (.inl (PyProof.noPylong_small (by omega)))
theorem UL:OpR X (binaryOp .Mod) (rI (fun _ j=>0 < j) fun i j=>.int (i % j)):=opI fun i j _ _ _ _ _ hc q=>by
  have h1:(0:Int) < j:=hc
  exact mod_int' (by omega) (by rw [Int.fmod_eq_emod_of_nonneg i (by omega)]; exact q)
theorem UI:OpR X (binaryOp .Pow) (rI W4 fun i j=>.int (i ^ j.toNat)):=opI fun _ _ _ _ _ _ _ hc q=>pow_int_small hc.1 hc.2.1 hc.2.2 q
theorem unI {f:Value->Sem Value} {g:Int->Int}
    (rule:∀ (i:Int) (t:Tok) (s:Shared) (Q:Value->Shared->Prop) (E:Value->Shared->Prop),Q (.int (g i) s.toks) { s with toks:=s.toks + 1 }->wpAny (model X.prog X.w) X.A (f (.int i t)) Q E s) :
    UnR X f (rU fun i=>.int (g i)):=by
  intro pins s σ H x v Q I rx h
  obtain ⟨i,rfl,q⟩:=h
  obtain ⟨t,rfl⟩:=rx
  exact rule i t s _ _ ⟨.int (g i),H,I.tok _,⟨_,rfl⟩,q⟩
theorem TL:UnR X (unaryOp .USub) (rU fun i=>.int (-i)):=unI fun _ _ _ _ _ q=>neg_int q
end
section
variable {X:Cx} {a b c:Expr} {ta tb tc:TE} {pos:Pos}
theorem Kq {pins:List (Addr × Obj)} {σ:St} {H:Hp} {s:Shared} {Q:VK} {k k':Bool} (I:Inv X pins σ H s) (q:Q (.bl k) H) (e:k=k'):EP X pins σ Q (.bool k') s:=by
  subst e
  exact ⟨.bl k,H,I,rfl,q⟩
theorem Vq:OpR X (compareOp .Lt) (rI0 fun i j=>.bl (decide (i < j))):=UQ fun _ _ _ _ _ _ _ q=>lt_int q
theorem Vr:OpR X (compareOp .LtE) (rI0 fun i j=>.bl (decide (i <= j))):=UQ fun _ _ _ _ _ _ _ q=>le_int q
theorem Vs:OpR X (compareOp .Gt) (rI0 fun i j=>.bl (decide (j < i))):=UQ fun _ _ _ _ _ _ _ q=>gt_int q
theorem N8:OpR X (compareOp .In) (fun x y H Q=>∃ i j,x=.str i /\ y=.str j /\ Q (.bl (!(Builtin.Str.occurrences j i 0 j.length 1).isEmpty)) H):=by
  intro pins s σ H x y v u Q I rx ry h
  obtain ⟨i,j,rfl,rfl,q⟩:=h
  obtain ⟨t,rfl⟩:=rx
  obtain ⟨t',rfl⟩:=ry
  exact in_str (Kq I q rfl)
theorem UM:OpR X (compareOp .Is) (fun x y H Q=>y=.non /\ Q (.bl (decide (x=.non))) H):=by
  intro pins s σ H x y v u Q I rx ry h
  obtain ⟨rfl,q⟩:=h
  cases ry
  refine is_none_gen (Kq I q ?_)
  cases x <;> first
    | (cases rx; rfl)
    | (obtain ⟨t,rfl⟩:=rx; rfl)
theorem Ro:OpR X (compareOp .IsNot) (fun x y H Q=>y=.non /\ Q (.bl (!decide (x=.non))) H):=by
  intro pins s σ H x y v u Q I rx ry h
  obtain ⟨rfl,q⟩:=h
  cases ry
  refine isnot_none_gen (Kq I q ?_)
  cases x <;> first
    | (cases rx; rfl)
    | (obtain ⟨t,rfl⟩:=rx; rfl)
theorem KU:OpR X (compareOp .NotIn) (fun x y H Q=>∃ i j,x=.str i /\ y=.str j /\ Q (.bl (!(!(Builtin.Str.occurrences j i 0 j.length 1).isEmpty))) H):=by
  intro pins s σ H x y v u Q I rx ry h
  obtain ⟨i,j,rfl,rfl,q⟩:=h
  obtain ⟨t,rfl⟩:=rx
  obtain ⟨t',rfl⟩:=ry
  exact notIn_str (Kq I q rfl)
theorem P3 (b:Expr) {op:CmpOp} (h:op ≠ .In:=by decide) (h2:op ≠ .NotIn:=by decide):behindInMarks op b=false:=by
  have e1:(op == CmpOp.In)=false:=by cases op <;> first | rfl | exact absurd rfl h
  have e2:(op == CmpOp.NotIn)=false:=by cases op <;> first | rfl | exact absurd rfl h2
  cases b <;> simp [behindInMarks,e1,e2]
theorem Rk {op:CmpOp} {r:R2} (ho:OpR X (compareOp op) r) (ha:PE X a ta) (hb:PE X b tb) (hm:behindInMarks op b=false):PE X (.Compare a [op] [b] pos) (tOp r ta tb):=by
  intro pins s σ H Q I h
  exact wpAny_Compare1 (Uy ha hb I h fun v u s2 x y H2 I2 rx ry q=>ho pins s2 σ H2 x y v u Q I2 rx ry q) hm
def VB (t:TE):TT:=fun σ H Q=>t σ H fun x H'=>∃ k,x=.bl k /\ Q k H'
theorem RX {op:CmpOp} {r:R2} (ho:OpR X (compareOp op) r) (ha:PE X a ta) (hb:PE X b tb) (hm:behindInMarks op b=false):PT X (.Compare a [op] [b] pos) (VB (tOp r ta tb)):=by
  intro pins s σ H Q I h
  refine wpAny_isTrue_Compare1 (thn (ha pins s σ H _ I h) fun v s1 ⟨x,H1,I1,r1,q1⟩=>thn (hb pins s1 σ H1 _ I1 q1) fun u s2 ⟨y,H2,I2,r2,q2⟩=>
    thn (ho pins s2 σ H2 x y v u _ I2 r1 r2 q2) fun c s3 ⟨z,H3,I3,r3,k,e,q3⟩=>?_) hm
  subst e
  cases r3
  exact wpAny_truthy_bool ⟨H3,I3,q3⟩
def PB (r r':R2) (ta tb tc:TE):TE:=fun σ H Q=>ta σ H fun x H1=>tb σ H1 fun y H2=>r x y H2 fun z H3=>∃ k,z=.bl k /\
  (if k=true then tc σ H3 fun w' H4=>r' y w' H4 Q else Q (.bl false) H3)
theorem Px {op op':CmpOp} {r r':R2} (ho:OpR X (compareOp op) r) (ho':OpR X (compareOp op') r') (ha:PE X a ta) (hb:PE X b tb) (hc:PE X c tc)
    (hm:lastMarks [op,op'] [b,c]=false:=by with_unfolding_all rfl):PE X (.Compare a [op,op'] [b,c] pos) (PB r r' ta tb tc):=by
  intro pins s σ H Q I h
  refine Compare_chain (thn (ha pins s σ H _ I h) fun v s1 ⟨x,H1,I1,r1,q1⟩=>chain_link (thn (hb pins s1 σ H1 _ I1 q1) fun u s2 ⟨y,H2,I2,r2,q2⟩=>
    thn (ho pins s2 σ H2 x y v u _ I2 r1 r2 q2) fun d s3 ⟨z,H3,I3,r3,k,e,q3⟩=>?_)) hm
  subst e
  cases r3
  refine wpAny_truthy_bool ?_
  cases k with
  | false=>exact ite_ff ⟨.bl false,H3,I3,rfl,q3⟩
  | true=>exact ite_tt (chain_last (thn (hc pins s3 σ H3 _ I3 q3) fun w' s4 ⟨z',H4,I4,r4,q4⟩=>ho' pins s4 σ H4 y z' u w' Q I4 r2 r4 q4))
theorem HA:(sizeLine:Nat) < 2 ^ 63:=by rw [sizeLine_eq]; decide
theorem MR:OpR X (binaryOp .Add) (fun x y H Q=>∃ i j,x=.str i /\ y=.str j /\ i.length + j.length <= sizeLine /\ Q (.str (i ++ j)) H):=by
  intro pins s σ H x y v u Q I rx ry h
  obtain ⟨i,j,rfl,rfl,hz,q⟩:=h
  obtain ⟨t,rfl⟩:=rx
  obtain ⟨t',rfl⟩:=ry
  exact add_str (fun t' tk=>⟨.str (i ++ j),H,I.tok _,⟨_,rfl⟩,q⟩) hz
theorem FM {x:V} {us:List Value} (r:Vals [x] us):∃ u,us=[u] /\ RelV x u:=by
  cases r with
  | cons r1 r2=>cases r2; exact ⟨_,rfl,r1⟩
theorem Os {x y:V} {us:List Value} (r:Vals [x,y] us):∃ u w',us=[u,w'] /\ RelV x u /\ RelV y w':=by
  cases r with
  | cons r1 r2=>
    cases r2 with
    | cons r3 r4=>cases r4; exact ⟨_,_,rfl,r1,r3⟩
theorem Of (hc:X.calm=true):CH X (.builtin "max") (fun xs H Q=>∃ i j,xs=[.int i,.int j] /\ Q (.int (if j > i then j else i)) H):=by
  intro pins s σ H xs us Q I r h
  obtain ⟨i,j,rfl,q⟩:=h
  obtain ⟨u,w',rfl,⟨t,rfl⟩,⟨t',rfl⟩⟩:=Os r
  refine max_two_ints (I.ok.hd hc) fun h' tk k=>⟨_,H,I.kept k,?_,q⟩
  by_cases hj:j > i
  . rw [if_pos hj,if_pos hj]; exact ⟨_,rfl⟩
  . rw [if_neg hj,if_neg hj]; exact ⟨_,rfl⟩
theorem Od (hc:X.calm=true):CH X (.builtin "min") (fun xs H Q=>∃ i j,xs=[.int i,.int j] /\ Q (.int (if j < i then j else i)) H):=by
  intro pins s σ H xs us Q I r h
  obtain ⟨i,j,rfl,q⟩:=h
  obtain ⟨u,w',rfl,⟨t,rfl⟩,⟨t',rfl⟩⟩:=Os r
  refine min_two_ints (I.ok.hd hc) fun h' tk k=>⟨_,H,I.kept k,?_,q⟩
  by_cases hj:j < i
  . rw [if_pos hj,if_pos hj]; exact ⟨_,rfl⟩
  . rw [if_neg hj,if_neg hj]; exact ⟨_,rfl⟩
theorem Oh:CH X (.type "int") (fun xs H Q=>(∃ i,xs=[.int i] /\ Q (.int i) H) ∨ ∃ k,xs=[.bl k] /\ Q (.int (if k then 1 else 0)) H):=by
  intro pins s σ H xs us Q I r h
  rcases h with ⟨i,rfl,q⟩ | ⟨k,rfl,q⟩
  . obtain ⟨u,rfl,t,rfl⟩:=FM r
    exact call_int_int ⟨.int i,H,I,⟨_,rfl⟩,q⟩
  . obtain ⟨u,rfl,r1⟩:=FM r
    cases r1
    exact call_int_bool ⟨.int (if k then 1 else 0),H,I.tok _,⟨_,rfl⟩,q⟩
def W1 (K:PySem.W.Frag) (x:V) (H:Hp) (n:Nat):Prop:=
  match x with
  | .str y=>y.length <= sizeLine /\ n=y.length
  | .byt y=>y.size <= sizeLine /\ n=y.size
  | .ref p=>(∃ xs,SqL K H p xs /\ n=xs.length) ∨ ∃ xs,SqT K H p xs /\ n=xs.length
  | _=>False
theorem Qf:CH X (.builtin "len") (fun xs H Q=>∃ x n,xs=[x] /\ W1 X.K x H n /\ Q (.int n) H):=by
  intro pins s σ H xs us Q I r h
  obtain ⟨x,n,rfl,e,q⟩:=h
  obtain ⟨u,rfl,rx⟩:=FM r
  have hl:=HA
  have hs:sizeLine=16777216:=sizeLine_eq
  cases x with
  | str y=>
    obtain ⟨t,rfl⟩:=rx
    obtain ⟨hy,e'⟩:y.length <= sizeLine /\ n=y.length:=e
    subst e'
    exact len_str (by omega) ⟨.int _,H,I.tok _,⟨_,rfl⟩,q⟩
  | byt y=>
    obtain ⟨t,rfl⟩:=rx
    obtain ⟨hy,e'⟩:y.size <= sizeLine /\ n=y.size:=e
    subst e'
    exact PySem.W.len_bytes (by omega) ⟨.int _,H,I.tok _,⟨_,rfl⟩,q⟩
  | ref p=>
    cases rx
    have e':(∃ xs,SqL X.K H p xs /\ n=xs.length) ∨ ∃ xs,SqT X.K H p xs /\ n=xs.length:=e
    rcases e' with ⟨xs,hx,e'⟩ | ⟨xs,hx,e'⟩
    . subst e'
      obtain ⟨its,r',pl,hz⟩:=I.list hx
      have hlen:=r'.length
      exact Calls.call_len_list pl.isList (by simp only [List.size_toArray]; omega) ⟨.int xs.length,H,I.tok _,⟨_,by simp only [List.size_toArray]; rw [hlen]⟩,q⟩
    . subst e'
      obtain ⟨its,r',pl,hz⟩:=I.tuple hx
      have hlen:=r'.length
      exact len_tuple pl (by simp only [List.size_toArray]; omega) ⟨.int xs.length,H,I.tok _,⟨_,by simp only [List.size_toArray]; rw [hlen]⟩,q⟩
  | _=>exact (show False from e).elim
end
end L2
namespace L2
open PySem PySem.Spec PyProof.Rows
structure ObjM (h:Heap) (x dx C:Addr) (mA:Str->Option Value):Prop where
  obj:h.get? x=some (PySem.W.instObj C dx)
  ns:h.Ns1 dx mA
  ne:dx ≠ x
theorem OF {h:Heap} {dx:Addr} {mA:Str->Option Value} (n:h.Ns1 dx mA):∃ od,h.get? dx=some od /\ ∀ name,PySem.W.lookIn name od=some (mA name):=by
  obtain ⟨o,es,ep,ho,hd,hk,_,hm⟩:=n
  refine ⟨o,ho,fun name=>?_⟩
  have e:=hm name
  unfold nsFind findBy at e
  rw [← Array.find?_toList] at e
  unfold PySem.W.lookIn
  rw [hd]
  dsimp only
  split
  . rename_i y q
    rw [q] at e
    exact congrArg some e
  . rename_i q
    rw [q] at e
    have a:es.toList.any (·.refKey)=false:=by
      rw [List.any_eq_false]
      intro y hy
      obtain ⟨z,t,hkey⟩:=hk y (Array.mem_toList_iff.mp hy)
      simp [DictEntry.refKey,hkey]
    have a' : ¬ es.toList.any (·.refKey)=true:=by rw [a]; exact Bool.false_ne_true
    rw [if_neg a']
    exact congrArg some e
theorem ObjM.look {h:Heap} {x dx C:Addr} {mA:Str->Option Value} (I:ObjM h x dx C mA):∃ od,PySem.W.InstAt h x (PySem.W.instObj C dx) C (some od) /\ ∀ name,PySem.W.lookIn name od=some (mA name):=
  let ⟨od,ho,hl⟩:=OF I.ns
  ⟨od,⟨I.obj,rfl,rfl,ho⟩,hl⟩
section
variable {prog:Program} {w:World} {A:Around} {E:Value->Shared->Prop} {s:Shared} {K:PySem.W.Frag} {x dx C f:Addr} {mA:Str->Option Value} {name:Str} {v:Value}
end
theorem RelO.some_of {v:V} {o:Option Value} (r:RelO (some v) o):∃ u,o=some u /\ RelV v u:=by
  cases o with
  | none=>exact (show False from r).elim
  | some u=>exact ⟨u,rfl,r⟩
section
variable {P:Program} {w:World} {H H':Hp} {h h':Heap} {a C dx:Addr} {fs fs':List (Str × V)}
theorem SQ (hok:HOk P w H h) (e:H a=some (.ins C dx fs)):∃ mA,ObjM h a dx C mA /\ (∀ f,RelO (fs.lookup f) (mA f)) /\ PySem.Within mA (fs.map (·.1)) /\ fs.length <= 1000 /\ H dx=some (.own a):=by
  obtain ⟨d,z,ne,ob,mA,n,r,q⟩:=(show ObjOk P w H h a (.ins C dx fs) from hok a _ e)
  exact ⟨mA,⟨ob,n,ne⟩,r,q,z,d⟩
end
structure Cls (K:PySem.W.Frag) (C:Addr):Prop where
  pg:PySem.W.plainGet K C Str.empty=true
  hd:PySem.W.hasDictIn K C=true
  po:PySem.W.plainOver K C=true
  sa:PySem.W.findIn K (.ref C) "__setattr__" = some (some (.builtin "object.__setattr__"))
theorem Cls.get {K:PySem.W.Frag} {C:Addr} (c:Cls K C) (f:Str):PySem.W.plainGet K C f=true:=c.pg
structure Con (K:PySem.W.Frag) (C:Addr) (f:Str) (v:V) (u:Value):Prop where
  at_:PySem.W.findIn K (.ref C) f=some (some u)
  rel:RelV v u
  get:PySem.W.specialIn K u "__get__" = some none
  cp:PySem.W.copiedNames.contains f=false
structure W7 (K:PySem.W.Frag) (C:Addr) (m:Str) (f:Addr):Prop where
  at_:PySem.W.findIn K (.ref C) m=some (some (.ref f))
  fn:PySem.W.isFn K (.ref f)=true
  kp:PySem.W.keepIn K (.ref f)=true
section
variable {X:Cx} {pins:List (Addr × Obj)} {σ:St} {H:Hp} {s:Shared} {a C dx:Addr} {fs:List (Str × V)} {f:Str} {v:V} {A:Around} {E:Value->Shared->Prop}
end
section
variable {X:Cx} {o e value:Expr} {f:Str} {pos pos' tpos:Pos} {ta tv:TE}
end
section
variable {X:Cx} {pins:List (Addr × Obj)} {σ:St} {H:Hp} {s:Shared} {A:Around} {E:Value->Shared->Prop} {Q:Value->Shared->Prop} {c:Value} {b:Bool}
inductive Gw (K:PySem.W.Frag) (H:Hp):V->Value->Prop where
  | non:Gw K H .non (.type "NoneType")
  | bl (x:Bool):Gw K H (.bl x) (.type "bool")
  | int (i:Int):Gw K H (.int i) (.type "int")
  | str (x:Str):Gw K H (.str x) (.type "str")
  | flt (x:UInt64):Gw K H (.flt x) (.type "float")
  | lst {a:Addr} {xs:List V} (e:H a=some (.lst xs)):Gw K H (.ref a) (.type "list")
  | frz {a:Addr} {o:Obj} {xs:List V} (e:H a=some (.frz o (.lst xs))):Gw K H (.ref a) (.type "list")
  | tup {a:Addr} {xs:List V} (e:H a=some (.tup xs)):Gw K H (.ref a) (.type "tuple")
  | dK {a:Addr} {kvs:List (Key × V)} (e:H a=some (.dK kvs)):Gw K H (.ref a) (.type "dict")
  | dT {a:Addr} {kvs:List (List Key × V)} (e:H a=some (.dT kvs)):Gw K H (.ref a) (.type "dict")
  | ins {a C dx:Addr} {fs:List (Str × V)} (e:H a=some (.ins C dx fs)) (cl:Cls K C) (ha:PySem.W.findIn K (.ref C) "__class__" = some (some (.builtin "object.__class__")))
      (hn:PySem.W.specialIn K (.builtin "object.__class__") "__get__" = some (some (.builtin "getset_descriptor.__get__"))) (htk:PySem.W.takesIn K (.builtin "object.__class__")=some true)
      (hm:PySem.W.mroIn K C (.type "object")=some true):Gw K H (.ref a) (.ref C)
theorem OR {x:V} {u t:Value} (I:Inv X pins σ H s) (rx:RelV x u) (ty:Gw X.K H x t) (e:PySem.W.kitOne X.K t c=some b) (h:∀ tk,Q (.bool b) { s with toks:=tk }) :
    wpAny (model X.prog X.w) A (call (.builtin "isinstance") [u,c]) Q E s:=by
  cases ty with
  | non=>cases (show u=Value.none from rx); exact PySem.W.kia_one PySem.W.kitx_none I.kIn True.intro e (fun z=>nomatch z) h
  | bl y=>cases (show u=Value.bool y from rx); exact PySem.W.kia_one PySem.W.kitx_bool I.kIn True.intro e (fun z=>nomatch z) h
  | int i=>obtain ⟨t,q⟩:=(show ∃ t,u=Value.int i t from rx); cases q; exact PySem.W.kia_one PySem.W.kitx_int I.kIn True.intro e (fun z=>nomatch z) h
  | str y=>obtain ⟨t,q⟩:=(show ∃ t,u=Value.str y t from rx); cases q; exact PySem.W.kia_one PySem.W.kitx_str I.kIn True.intro e (fun z=>nomatch z) h
  | flt y=>obtain ⟨t,q⟩:=(show ∃ t,u=Value.float y t from rx); cases q; exact PySem.W.kia_one PySem.W.kitx_float I.kIn True.intro e (fun z=>nomatch z) h
  | @lst a xs ea=>
    cases (show u=Value.ref a from rx)
    obtain ⟨_,_,n,_,h1⟩:=(show ObjOk X.prog X.w H s.heap a (.lst xs) from I.hok a _ ea)
    exact PySem.W.kia_one PySem.W.kitx_list I.kIn ⟨_,h1,rfl⟩ e (fun z=>nomatch z) h
  | @frz a ob xs ea=>
    cases (show u=Value.ref a from rx)
    obtain ⟨_,_,_,n,_,h1⟩:=(show ObjOk X.prog X.w H s.heap a (.frz ob (.lst xs)) from I.hok a _ ea)
    exact PySem.W.kia_one PySem.W.kitx_list I.kIn ⟨_,h1,rfl⟩ e (fun z=>nomatch z) h
  | @tup a xs ea=>
    cases (show u=Value.ref a from rx)
    obtain ⟨_,_,_,p⟩:=(show ObjOk X.prog X.w H s.heap a (.tup xs) from I.hok a _ ea)
    obtain ⟨o,h1,h2,_⟩:=p
    exact PySem.W.kia_one PySem.W.kitx_tuple I.kIn ⟨o,h1,h2⟩ e (fun z=>nomatch z) h
  | @dK a kvs ea=>
    cases (show u=Value.ref a from rx)
    obtain ⟨_,_,vs,_,p⟩:=(show ObjOk X.prog X.w H s.heap a (.dK kvs) from I.hok a _ ea)
    obtain ⟨o,es,ep,h1,h2,_⟩:=p
    exact PySem.W.kia_one PySem.W.kitx_dict I.kIn ⟨o,h1,h2.1⟩ e (fun z=>nomatch z) h
  | @dT a kvs ea=>
    cases (show u=Value.ref a from rx)
    obtain ⟨_,_,xs,_,o,es,ep,h1,h2,_⟩:=(show ObjOk X.prog X.w H s.heap a (.dT kvs) from I.hok a _ ea)
    exact PySem.W.kia_one PySem.W.kitx_dict I.kIn ⟨o,h1,h2.1⟩ e (fun z=>nomatch z) h
  | @ins a C dx fs ea cl ha hn htk hm=>
    cases (show u=Value.ref a from rx)
    obtain ⟨mA,O,_⟩:=SQ I.hok ea
    obtain ⟨od,J,_⟩:=O.look
    exact PySem.W.kia_one (PySem.W.kitx_own (cl.get _) cl.hd ha hn htk hm) I.kIn J e (fun z=>nomatch z) h
end
end L2
namespace L2
open PySem PySem.Spec PyProof.Rows
structure Room (k:Nat) (A:Around):Prop where
  hd:A.handled=none
  dp:A.depth + 3 * k + 5 < recursionLimit
  un:A.units + 16 * k + 200 < cLine
theorem Room.mono {j k:Nat} {A:Around} (r:Room k A) (h:j <= k):Room j A:=⟨r.hd,by have:=r.dp; omega,by have:=r.un; omega⟩
theorem Room.deeper {k:Nat} {A:Around} (r:Room (k + 1) A) (env:Env):Room k (A.deeper env):=
  ⟨r.hd,by have:=r.dp; show A.depth + 1 + 3 * k + 5 < _; omega,by have:=r.un; show A.units + 3 + 16 * k + 200 < _; omega⟩
theorem Room.depth {k:Nat} {A:Around} (r:Room k A):A.depth < recursionLimit:=by have:=r.dp; omega
theorem Room.units {k:Nat} {A:Around} (r:Room k A):A.units + 64 < cLine:=by have:=r.un; omega
def WY:TA:=fun _ H Q=>Q [] H
def VM (ta:TE) (tr:TA):TA:=fun σ H Q=>ta σ H fun x H1=>tr σ H1 fun xs H2=>Q (x :: xs) H2
section
variable {X:Cx} {e:Expr} {es:List Expr} {te:TE} {t:TA} {pos:Pos}
theorem MN:PA X [] WY:=fun _ _ _ _ H Q I h=>Calls.spliced_nil ⟨[],H,I,.nil,h⟩
theorem KS (ha:PE X e te) (hr:PA X es t) (hs:starEach (e :: es) X.env=(false,eval e X.env) :: starEach es X.env:=by rfl):PA X (e :: es) (VM te t):=by
  intro pos pins s σ H Q I h
  rw [hs]
  show wpAny _ _ (spliced ((false,eval e X.env) :: backTo pos (starEach es X.env))) _ _ s
  refine Calls.spliced_cons (thn (ha pins s σ H _ I h) fun u s1 ⟨x,H1,I1,r1,q1⟩=>?_)
  exact thn (hr pos pins s1 σ H1 _ I1 q1) fun us s2 ⟨xs,H2,I2,r2,q2⟩=>⟨x :: xs,H2,I2,.cons r1 r2,q2⟩
def WT (t:TA):TE:=fun σ H Q=>t σ H fun xs H1=>xs.length <= sizeLine /\ ∀ p,H1 p=none->Q (.ref p) (upd H1 p (.tup xs))
def WZ (t:TA):TE:=fun σ H Q=>t σ H fun xs H1=>xs.length <= sizeLine /\ ∀ p,H1 p=none->Q (.ref p) (upd H1 p (.lst xs))
theorem T3 {x1} (h:PA X es t):PE X (.Tuple es x1 pos) (WT t):=by
  intro pins s σ H Q I hq
  refine wpAny_Tuple_spliced (thn (h pos pins s σ H _ I hq) fun us s1 ⟨xs,H1,I1,r,z,q⟩=>⟨by rw [← r.length]; exact z,?_⟩)
  have hf:H1 s1.heap.objs.size=none:=I1.hok.fresh (Nat.le_refl _)
  refine ⟨.ref s1.heap.objs.size,upd H1 s1.heap.objs.size (.tup xs),I1.laid (t':=s1.toks) (fun b u e=>Heap.get?_push_of_some _ e) (Nat.le_refl _) ?_,rfl,q _ hf⟩
  exact ⟨z,us,r,⟨_,Heap.get?_push_size _ rfl,rfl,_,rfl⟩⟩
theorem Pr (h:PA X es t):PE X (.List es pos) (WZ t):=by
  intro pins s σ H Q I hq
  refine wpAny_List_spliced (thn (h pos pins s σ H _ I hq) fun us s1 ⟨xs,H1,I1,r,z,q⟩=>⟨by rw [← r.length]; exact z,?_⟩)
  have hf:H1 s1.heap.objs.size=none:=I1.hok.fresh (Nat.le_refl _)
  refine ⟨.ref s1.heap.objs.size,upd H1 s1.heap.objs.size (.lst xs),I1.laid (t':=s1.toks) (fun b u e=>Heap.get?_push_of_some _ e) (Nat.le_refl _) ?_,rfl,q _ hf⟩
  exact ⟨z,us,0,r,Heap.get?_push_size _ rfl⟩
end
abbrev Sp:=List V->Hp->VK->XK->Prop
abbrev CXT:=List Env->Hp->Shared->XK->Value->Shared->Prop
structure Sk (P:Program) (w:World) (K:PySem.W.Frag) (mg:Str->Option Value) (base:Heap) (A:Around) (outer:List Env) (s:Shared) (H:Hp):Prop where
  frames:A.frames=some outer
  mod:Mod K mg base
  bs:∀ b o,base.get? b=some o->s.heap.get? b=some o /\ H b=none
  bsz:base.objs.size <= s.heap.objs.size
  funs:s.heap.FunFrames base outer
  frf:∀ b ∈ frs outer,H b=none
  hok:HOk P w H s.heap
  bare:AllBare s.gens
def CE (outer:List Env) (P:Program) (w:World) (H:Hp) (s:Shared) (Q:VK) (u:Value) (s':Shared):Prop:=
  ∃ v H',s'.os=s.os /\ AllBare s'.gens /\ Un (frs outer) [] H H' s.heap s'.heap /\ HOk P w H' s'.heap /\ RelV v u /\ Q v H'
def CR (CX:CXT) (outer:List Env) (P:Program) (w:World) (H:Hp) (s:Shared) (Q:VK) (E:XK) (r:Result) (s':Shared):Prop:=
  match r with
  | .ok (.ret u)=>CE outer P w H s Q u s'
  | .ok _=>False
  | .error e=>CX outer H s E e s'
structure FnOk (P:Program) (w:World) (K:PySem.W.Frag) (mg:Str->Option Value) (base:Heap) (CX:CXT) (k:Nat) (f:Addr) (fd:FuncData) (ps:List Str) (sp:Sp):Prop where
  len:∀ vs H Q E,sp vs H Q E->vs.length=ps.length
  run:∀ (A:Around) (outer:List Env) (s:Shared) (H:Hp) (args:Args) (us:List Value) (vs:List V) (Q:VK) (E:XK),Room k A->Sk P w K mg base A outer s H->BindsTo s fd args (ps.zip us)->Vals vs us->sp vs H Q E->
    codeAny (model P w) A (.call (.ref f) args) (CR CX outer P w H s Q E) s
theorem FnOk.mono {P:Program} {w:World} {K:PySem.W.Frag} {mg:Str->Option Value} {base:Heap} {CX:CXT} {j k:Nat} {f:Addr} {fd:FuncData} {ps:List Str} {sp:Sp} (F:FnOk P w K mg base CX j f fd ps sp) (h:j <= k) :
    FnOk P w K mg base CX k f fd ps sp:=⟨F.len,fun A outer s H args us vs Q E hr=>F.run A outer s H args us vs Q E (hr.mono h)⟩
theorem FnOk.imp {P:Program} {w:World} {K:PySem.W.Frag} {mg:Str->Option Value} {base:Heap} {CX:CXT} {k:Nat} {f:Addr} {fd:FuncData} {ps:List Str} {sp sp':Sp} (F:FnOk P w K mg base CX k f fd ps sp)
    (h:∀ vs H Q E,sp' vs H Q E->sp vs H Q E):FnOk P w K mg base CX k f fd ps sp':=
  ⟨fun vs H Q E q=>F.len vs H Q E (h _ _ _ _ q),fun A outer s H args us vs Q E hr he hb hv hs=>F.run A outer s H args us vs Q E hr he hb hv (h _ _ _ _ hs)⟩
section
variable {X:Cx} {pins:List (Addr × Obj)} {σ:St} {H:Hp} {s s':Shared}
theorem Inv.env0 (I:Inv X pins σ H s):Sk X.prog X.w X.K X.mg X.base X.A X.stack s H:=
  ⟨I.ok.frames,I.ok.mod,I.bs,Nat.le_trans I.ok.bsz I.sz,I.stack,I.stkFree,I.hok,I.bare⟩
theorem Inv.after {Q:VK} {u:Value} (I:Inv X pins σ H s) (h:CE X.stack X.prog X.w H s Q u s'):EP X pins σ Q u s':=by
  obtain ⟨v,H',os,bare,un,hok,r,q⟩:=h
  obtain ⟨hh,g,d,t,os'⟩:=s'
  obtain rfl:os'=s.os:=os
  exact ⟨v,H',I.call (h':=hh) (g':=g) (d':=d) (t':=t) (ch:=[]) un hok bare (fun b z=>absurd z (by simp)),r,q⟩
end
def VN (sp:Sp) (dvs:List V) (E:XK) (t:TA):TE:=fun σ H Q=>t σ H fun vs H1=>sp (vs ++ dvs) H1 Q E
def Binds (K:PySem.W.Frag) (fd:FuncData) (ps:List Str) (ds:List Value):Prop:=
  ∀ (s:Shared) (us:List Value),K.In s.heap->(us ++ ds).length=ps.length->BindsTo s fd ⟨us,[]⟩ (ps.zip (us ++ ds))
theorem Binds.all {K:PySem.W.Frag} {fd:FuncData} {ps:List Str} (h:∀ us:List Value,us.length=ps.length->bindArgs fd ⟨us,[]⟩=pure (ps.zip us)):Binds K fd ps []:=fun s us _ hl=>by
  rw [List.append_nil] at hl ⊢
  exact .of_eq (h us hl)
def Mr (CX:CXT) (X:Cx) (E:XK):Prop:=∀ (pins:List (Addr × Obj)) (σ:St) (H:Hp) (s:Shared) (e:Value) (s':Shared),Inv X pins σ H s->CX X.stack H s E e s'->X.xe e s'
section
variable {X:Cx} {CX:CXT} {k:Nat} {f C:Addr} {fd:FuncData} {ps:List Str} {sp:Sp} {dvs:List V} {ds:List Value} {E:XK} {x m:Str} {p pos apos:Pos} {e o:Expr} {es:List Expr} {ta:TE} {t:TA}
theorem TY {pins:List (Addr × Obj)} {σ:St} {H:Hp} {s:Shared} {Q:VK} {us:List Value} {vs:List V} (F:FnOk X.prog X.w X.K X.mg X.base CX k f fd ps sp) (hr:Room k X.A) (hb:Binds X.K fd ps ds) (hd:Vals dvs ds) (hx:Mr CX X E)
    (I:Inv X pins σ H s) (r:Vals vs us) (h:sp (vs ++ dvs) H Q E):wpAny (model X.prog X.w) X.A (call (.ref f) us) (EP X pins σ Q) X.xe s:=by
  have r2:Vals (vs ++ dvs) (us ++ ds):=r.append hd
  have hl:(us ++ ds).length=ps.length:=by rw [← r2.length]; exact F.len _ _ _ _ h
  refine wpAny_call (codeAny_mono (F.run X.A X.stack s H ⟨us,[]⟩ (us ++ ds) (vs ++ dvs) Q E hr I.env0 (hb s us I.kIn hl) r2 h) fun r s' hq=>?_)
  cases r with
  | error e=>exact hx pins σ H s e s' I hq
  | ok fl=>
    cases fl with
    | ret u=>exact I.after hq
    | next=>exact False.elim hq
    | brk=>exact False.elim hq
    | cont=>exact False.elim hq
theorem Rl (F:FnOk X.prog X.w X.K X.mg X.base CX k f fd ps sp) (hr:Room k X.A) (hg:Gl X x) (hm:X.mg x=some (.ref f)) (hk:PySem.W.keepIn X.K (.ref f)=true) (hb:Binds X.K fd ps ds) (hd:Vals dvs ds) (hx:Mr CX X E)
    (ha:PA X (e :: es) t) (hdb:(x == ("__debug__" : Str))=false:=by decide) (he:starEach (e :: es) X.env=(false,eval e X.env) :: starEach es X.env:=by rfl) (hpl:(backTo pos (starEach es X.env)).any (·.1)=false:=by rfl) :
    PE X (.Call (.Name x p) (e :: es) [] pos) (VN sp dvs E t):=by
  intro pins s σ H Q I h
  refine wpAny_Call_Name_kw (NK I hg hm ?_ hdb)
  refine PySem.W.callWith_K (h₀:=X.base) I.ok.mod.kin hk (thn (ha pos pins s σ H _ I h) fun us s1 ⟨vs,H1,I1,r,q⟩=>⟨I1.kIn,?_⟩) he hpl
  exact TY F hr hb hd hx I1 r q
structure Mk (K:PySem.W.Frag) (C f:Addr):Prop where
  makes:PySem.W.makesIn K C=true
  init:PySem.W.findIn K (.ref C) "__init__" = some (some (.ref f))
  fn:PySem.W.isFn K (.ref f)=true
  kp:PySem.W.keepIn K (.ref C)=true
end
section
variable {X:Cx} {CX:CXT} {k:Nat} {f C:Addr} {fd:FuncData} {ps ks:List Str} {sp:Sp} {E:XK} {x m:Str} {p pos apos kpos:Pos} {e o:Expr} {es:List Expr} {kws:List Keyword} {te ta:TE} {t tk:TA} {nm:Option Str}
structure W2 (K:PySem.W.Frag) (fd:FuncData) (ps ks:List Str) (g:List Value->List Value->List Value) (gV:List V->List V->List V):Prop where
  to:∀ (s:Shared) (us ws:List Value),K.In s.heap->(g us ws).length=ps.length->BindsTo s fd ⟨us,ks.zip ws⟩ (ps.zip (g us ws))
  rel:∀ {vs:List V} {us:List Value} {zs:List V} {ws:List Value},Vals vs us->Vals zs ws->Vals (gV vs zs) (g us ws)
variable {g:List Value->List Value->List Value} {gV:List V->List V->List V}
end
structure Ai (N P:List Str) (sc:Scope):Prop where
  kind:sc.kind=.function
  co:sc.isCoroutine=false
  gen:sc.isGenerator=false
  nd:N.Nodup
  pre:N.take P.length=P
  par:∀ x ∈ P,sc.names.lookup x=some .local ∨ sc.names.lookup x=some .cell
  nofree:∀ y ∈ sc.names,y.2 ≠ .free
theorem J4 {kindOf:Str->Option NameKind} {x:Str}:∀ {binds:List (Str × Value)} {m:Str->Option Value},(∀ v,(x,v) ∉ binds)->bindL kindOf binds m x=m x
  | [],_,_=>rfl
  | (n,v) :: r,m,h=>by
    unfold bindL
    rw [J4 fun w hw=>h w (List.mem_cons_of_mem _ hw)]
    split
    . have:x ≠ n:=by rintro rfl; exact h v List.mem_cons_self
      simp [this]
    . rfl
theorem J6 {kindOf:Str->Option NameKind} {x:Str}:∀ {binds:List (Str × Value)} {m:Str->Option Value},(∀ v,(x,v) ∉ binds)->bindC kindOf binds m x=m x
  | [],_,_=>rfl
  | (n,v) :: r,m,h=>by
    unfold bindC
    rw [J6 fun w hw=>h w (List.mem_cons_of_mem _ hw)]
    split
    . rfl
    . have:x ≠ n:=by rintro rfl; exact h v List.mem_cons_self
      simp [this]
theorem J5 {kindOf:Str->Option NameKind} {x:Str} {v:Value}:∀ {P:List Str} {vs:List Value} {i:Nat} {m:Str->Option Value},P.Nodup->P[i]? = some x->vs[i]? = some v->kindOf x=some .local->
    bindL kindOf (P.zip vs) m x=some v
  | [],_,_,_,_,h,_,_=>by simp at h
  | _ :: _,[],_,_,_,_,h,_=>by simp at h
  | p :: P,w :: vs,0,m,nd,h1,h2,hk=>by
    simp at h1 h2; subst h1; subst h2
    show bindL kindOf ((p,w) :: P.zip vs) m p=_
    unfold bindL
    rw [J4 fun v hv=>(List.nodup_cons.mp nd).1 (List.of_mem_zip hv).1,if_pos hk]
    simp
  | p :: P,w :: vs,i + 1,m,nd,h1,h2,hk=>by
    show bindL kindOf ((p,w) :: P.zip vs) m x=_
    unfold bindL
    exact J5 (i:=i) (List.nodup_cons.mp nd).2 (by simpa using h1) (by simpa using h2) hk
theorem J7 {kindOf:Str->Option NameKind} {x:Str} {v:Value}:∀ {P:List Str} {vs:List Value} {i:Nat} {m:Str->Option Value},P.Nodup->P[i]? = some x->vs[i]? = some v->kindOf x ≠ some .local->
    bindC kindOf (P.zip vs) m x=some v
  | [],_,_,_,_,h,_,_=>by simp at h
  | _ :: _,[],_,_,_,_,h,_=>by simp at h
  | p :: P,w :: vs,0,m,nd,h1,h2,hk=>by
    simp at h1 h2; subst h1; subst h2
    show bindC kindOf ((p,w) :: P.zip vs) m p=_
    unfold bindC
    rw [J6 fun v hv=>(List.nodup_cons.mp nd).1 (List.of_mem_zip hv).1,if_neg hk]
    simp
  | p :: P,w :: vs,i + 1,m,nd,h1,h2,hk=>by
    show bindC kindOf ((p,w) :: P.zip vs) m x=_
    unfold bindC
    exact J7 (i:=i) (List.nodup_cons.mp nd).2 (by simpa using h1) (by simpa using h2) hk
def start (N:List Str) (vs:List V):St:=vs.map some ++ List.replicate (N.length - vs.length) none
def BZ (CX:CXT) (P:Program) (w:World) (K:PySem.W.Frag) (mg:Str->Option Value) (base:Heap) (N:List Str) (qual:Str) (scope:Scope) (f:Addr) (cd:Value) (A:Around) (outer:List Env) (s:Shared) (H:Hp) (E:XK):Cx where
  prog:=P
  w:=w
  K:=K
  mg:=mg
  base:=base
  A:=A.deeper (envOfC qual scope s.heap.objs.size f cd)
  N:=N
  s₀:=s
  H₀:=H
  env:=envOfC qual scope s.heap.objs.size f cd
  outer:=outer
  stack:=envOfC qual scope s.heap.objs.size f cd :: outer
  ex:=[]
  calm:=true
  fn:=fun _=>true
  pn:=[]
  xe:=fun e s'=>wpAny (model P w) (A.deeper (envOfC qual scope s.heap.objs.size f cd)) (leaving (envOfC qual scope s.heap.objs.size f cd) e) (fun _ s''=>CX outer H s E e s'') (fun e' s''=>CX outer H s E e' s'') s'
theorem Lu {sc:Scope} {n:Nat} {x:Str} (h:sc.names.lookup x=some .cell):∃ c,(cellsFrom n sc.names []).lookup x=some c:=by
  have q:=PySem.W.cellsFrom_some sc.names n [] (.inl h)
  exact Option.isSome_iff_exists.mp q
theorem OS {CX:CXT} {P:Program} {w:World} {K:PySem.W.Frag} {mg:Str->Option Value} {base:Heap} {N ps:List Str} {qual:Str} {scope:Scope} {f:Addr} {cd:Value} {A:Around} {outer:List Env} {s s1:Shared} {H:Hp} {E:XK} {us:List Value} {vs:List V}
    (S:Ai N ps scope) (hd:A.handled=none) (e0:Sk P w K mg base A outer s H) (hl:vs.length=ps.length) (r:Vals vs us)
    (x:InCallC s s.heap.objs.size (bindL (envOfC qual scope s.heap.objs.size f cd).kindOf (ps.zip us) fun _=>none) (cellsFrom (s.heap.objs.size + 1) scope.names []) (bindC (envOfC qual scope s.heap.objs.size f cd).kindOf (ps.zip us) fun _=>none) s1) :
    Inv (BZ CX P w K mg base N qual scope f cd A outer s H E) [] (start N vs) H s1:=by
  have hpl:ps.length <= N.length:=by have:=congrArg List.length S.pre; rw [List.length_take] at this; omega
  obtain ⟨h1,tk,rfl,hk⟩:=x.done
  have noA:∀ b:Addr,b ∉ (BZ CX P w K mg base N qual scope f cd A outer s H E).ex:=fun b z=>absurd (show b ∈ ([]:List Addr) from z) (by simp)
  refine ⟨⟨e0.mod,S.kind,rfl,rfl,Nat.le_refl _,fun y z c h1 h2=>?_,fun y hy=>?_,fun y c _ h=>?_,fun _=>hd,Around.frames_deeper e0.frames,.inr ⟨rfl,rfl⟩,fun b z=>absurd z (noA b),e0.bs,e0.bsz,fun b _ _=>noA b,fun b z=>absurd z (noA b),e0.funs,e0.frf⟩,
    rfl,e0.bare,Un.kept hk,⟨_,x.toInCall.ns,fun i y v h1 h2 h3=>?_⟩,fun y c h=>⟨_,x.cell y c h⟩,e0.hok.fresh (Nat.le_refl _),fun y c h=>?_,fun p hp=>absurd (show p ∈ ([]:List (Addr × Obj)) from hp) (by simp),e0.hok.kept hk,?_⟩
  . exact name_of_addr x.apart (PySem.mem_of_lookup h1) (PySem.mem_of_lookup h2)
  . have hy:scope.names.lookup y=some .cell ∨ scope.names.lookup y=some .free:=hy
    rcases hy with hy | hy
    . exact Lu hy
    . exact absurd rfl (S.nofree _ (PySem.mem_of_lookup hy))
  . exact Nat.le_of_lt (x.above y c (PySem.mem_of_lookup h))
  . have hi:i < vs.length:=by
      unfold start at h2
      by_cases hi:i < vs.length
      . exact hi
      . rw [List.getElem?_append_right (by simpa using hi)] at h2
        rw [List.getElem?_replicate] at h2
        split at h2 <;> cases h2
    have ha:vs[i]? = some v:=by
      unfold start at h2
      rw [List.getElem?_append_left (by simpa using hi),List.getElem?_map] at h2
      cases e:vs[i]? with
      | none=>rw [e] at h2; cases h2
      | some a=>rw [e] at h2; cases h2; rfl
    obtain ⟨u,hu,rv⟩:=r.get ha
    have hp:ps[i]? = some y:=by
      rw [← S.pre,List.getElem?_take_of_lt (by omega)]; exact h1
    have ndP:ps.Nodup:=by rw [← S.pre]; exact S.nd.sublist (List.take_sublist _ _)
    refine ⟨u,rv,?_⟩
    rcases S.par y (List.mem_of_getElem? hp) with k | k
    . exact .inl ⟨k,J5 ndP hp hu k⟩
    . obtain ⟨c,e⟩:=Lu (n:=s.heap.objs.size + 1) k
      refine .inr ⟨.inl k,c,e,?_⟩
      have q:=x.cell y c e
      rw [J7 ndP hp hu (by show scope.names.lookup y ≠ _; rw [k]; decide)] at q
      exact q
  . exact e0.hok.fresh (Nat.le_of_lt (x.above y c (PySem.mem_of_lookup h)))
  . unfold start
    show _=N.length
    rw [List.length_append,List.length_map,List.length_replicate]
    omega
theorem WF {CX:CXT} {P:Program} {w:World} {K:PySem.W.Frag} {mg:Str->Option Value} {base:Heap} {k:Nat} {f:Addr} {name qual:Str} {params:Arguments} {body:List Stmt} {scope:Scope} {dV kV doc pm cdv ct oc:Value} {an od:Option Addr}
    {osl:Array (Option Value)} {N ps:List Str} {sp:Sp} (lk:K.lookup f=some ⟨oc,od,.func (PySem.W.fnOf name qual params body scope dV kV doc pm an cdv ct),osl⟩) (hcd:PySem.W.codeIn K cdv qual=true) (S:Ai N ps scope)
    (len:∀ vs H Q E,sp vs H Q E->vs.length=ps.length)
    (hbody:∀ (A:Around) (outer:List Env) (s:Shared) (H:Hp) (vs:List V) (Q:VK) (E:XK),Room k (A.deeper (envOfC qual scope s.heap.objs.size f cdv))->sp vs H Q E->
      ∃ t,PSs (BZ CX P w K mg base N qual scope f cdv A outer s H E) body t /\ t { nx:=fun _ H'=>Q .non H',rt:=Q } (start N vs) H) :
    FnOk P w K mg base CX (k + 1) f (PySem.W.fnOf name qual params body scope dV kV doc pm an cdv ct) ps sp:=by
  refine ⟨len,fun A outer s H args us vs Q E hr e0 hb r hsp=>?_⟩
  have hl:=len _ _ _ _ hsp
  have KX:K.In s.heap:=e0.mod.kin.keeps fun b o e=>(e0.bs b o e).1
  have lim:s.heap.NoLimit:=e0.mod.nolimit.keeps fun b o e=>(e0.bs b o e).1
  have hkind:∀ y ∈ ps.zip us,scope.names.lookup y.1=some .local ∨ (scope.names.lookup y.1=some .cell /\ ((cellsFrom (s.heap.objs.size + 1) scope.names []).lookup y.1).isSome=true):=fun ⟨n,v⟩ hy=>by
    rcases S.par n (List.of_mem_zip hy).1 with q | q
    . exact .inl q
    . exact .inr ⟨q,PySem.W.cellsFrom_some _ _ _ (.inl q)⟩
  refine codeAny_call_function hr.depth (KX _ _ lk) rfl S.co S.gen rfl (PySem.W.codeRec_of KX hcd) (hb _ _ _ _ ?_)
  refine wpAny_newFunctionEnv_cells S.kind hkind fun env he s1 x=>?_
  subst he
  refine ⟨lim.keeps x.toInCall.keep,codeAny_func ?_⟩
  obtain ⟨t,ht,hq⟩:=hbody A outer s H vs Q E (hr.deeper _) hsp
  have I:Inv (BZ CX P w K mg base N qual scope f cdv A outer s H E) [] (start N vs) H s1:=OS S hr.hd e0 hl r x
  refine wpAny_mono (ht [] s1 (start N vs) H _ I hq) (fun fl s' hs=>?_) fun e s' hs=>hs
  have fin:∀ {σ':St} {H':Hp} {v:V} {u:Value},Inv (BZ CX P w K mg base N qual scope f cdv A outer s H E) [] σ' H' s'->RelV v u->Q v H'->CE outer P w H s Q u s':=
    fun {σ' H' v u} J rv q=>⟨v,H',J.os,J.bare,J.base,J.hok,rv,q⟩
  cases fl with
  | ret u=>
    obtain ⟨v,σ',H',J,rv,q⟩:=hs
    exact fin J rv q
  | next=>
    obtain ⟨σ',H',J,q⟩:=hs
    exact fin (v:=V.non) (u:=Value.none) J rfl q
  | brk=>
    obtain ⟨_,_,_,q⟩:=hs
    exact False.elim q
  | cont=>
    obtain ⟨_,_,_,q⟩:=hs
    exact False.elim q
end L2
namespace L2
open PySem PySem.Spec PyProof.Rows
section
variable {X:Cx} {x:Str} {p pos:Pos} {e:Expr} {es:List Expr} {t:TA} {id T:String} {r:List V->Hp->VK->Prop}
def tCB (r:List V->Hp->VK->Prop) (t:TA):TE:=fun σ H Q=>t σ H fun vs H1=>r vs H1 Q
theorem LS (hc:CH X (.builtin id) r) (hg:Gl X x) (hm:X.mg x=none) (hv:bootBuiltins x=some (.builtin id)) (ha:PA X (e :: es) t) (hn:x ≠ "__name__" := by decide) (hdb:(x == ("__debug__" : Str))=false:=by decide)
    (he:starEach (e :: es) X.env=(false,eval e X.env) :: starEach es X.env:=by rfl) (hpl:(backTo pos (starEach es X.env)).any (·.1)=false:=by rfl):PE X (.Call (.Name x p) (e :: es) [] pos) (tCB r t):=by
  intro pins s σ H Q I h
  refine wpAny_Call_Name_kw (Fb I hg hm hv ?_ hn hdb)
  exact PyProof.Rows.callWith_builtin1 (thn (ha pos pins s σ H _ I h) fun us s1 ⟨vs,H1,I1,r1,q1⟩=>hc pins s1 σ H1 vs us Q I1 r1 q1) he hpl
theorem Jc (hc:CH X (.type T) r) (hg:Gl X x) (hm:X.mg x=none) (hv:bootBuiltins x=some (.type T)) (ha:PA X (e :: es) t) (hn:x ≠ "__name__" := by decide) (hdb:(x == ("__debug__" : Str))=false:=by decide)
    (he:starEach (e :: es) X.env=(false,eval e X.env) :: starEach es X.env:=by rfl) (hpl:(backTo pos (starEach es X.env)).any (·.1)=false:=by rfl):PE X (.Call (.Name x p) (e :: es) [] pos) (tCB r t):=by
  intro pins s σ H Q I h
  refine wpAny_Call_Name_kw (Fb I hg hm hv ?_ hn hdb)
  exact PyProof.Rows.callWith_type1 (thn (ha pos pins s σ H _ I h) fun us s1 ⟨vs,H1,I1,r1,q1⟩=>hc pins s1 σ H1 vs us Q I1 r1 q1) he hpl
end
end L2
namespace HT
open PySem PyProof.Rows
section
open PySem.SeqAt
open PySem.AutoSeq1 (wpAny_loadPart')
open PySem.MeetsSeq PySem.MeetsSeq2 PySem.MeetsSeq3
end
section
variable {prog:Program} {w:World} {A:Around} {E:Value->Shared->Prop} {s:Shared}
theorem Sf {t b:Addr} {vs ws:List Value} {Q:Value->Shared->Prop} (ht:IsTup s.heap t vs.toArray) (hb:IsTup s.heap b ws.toArray) (hv:vs ≠ [])
    (h1:ws=[]->Q (.ref t) s) (h2:ws ≠ []->Q (.ref s.heap.objs.size) { s with heap:=s.heap.push { cls:=.type "tuple",data:=.seq (vs ++ ws).toArray } })
    (hsz:vs.length + ws.length <= sizeLine):wpAny (model prog w) A (binaryOp .Add (.ref t) (.ref b)) Q E s:=by
  obtain ⟨⟨cls,dd,data,sl⟩,ho,hc,n,hd⟩:=id ht
  obtain ⟨⟨cls2,dd2,data2,sl2⟩,ho2,hc2,n2,hd2⟩:=id hb
  simp only at hc hd hc2 hd2
  subst hc hd hc2 hd2
  have e:vs.toArray ++ ws.toArray=(vs ++ ws).toArray:=by simp
  by_cases hw:ws=[]
  . exact concat_meets ⟨_,ho,rfl⟩ ⟨_,ho2,rfl⟩ noFill_tuple_add seq_tuple_add PySem.F.slot_tuple_add PySem.F.entry_tuple_add (PySem.F.args_tuple_add_2 _ _)
      (tuple_addW1 t b vs.toArray ws.toArray n n2 dd dd2 sl sl2 (by simpa using hv) (by simp [hw])) ⟨ho,ho2,h1 hw⟩
  . refine concat_meets ⟨_,ho,rfl⟩ ⟨_,ho2,rfl⟩ noFill_tuple_add seq_tuple_add PySem.F.slot_tuple_add PySem.F.entry_tuple_add (PySem.F.args_tuple_add_2 _ _)
      (tuple_addW2 t b vs.toArray ws.toArray n n2 dd dd2 sl sl2 (by simpa using hv) (by simpa using hw) (by rw [List.size_toArray,List.size_toArray]; exact hsz)) ⟨ho,ho2,?_⟩
    rw [e]
    exact h2 hw
def sIx (n d:Nat):Option Int->Nat
  | none=>d
  | some v=>if v < 0 then (v + (n:Int)).toNat else min v.toNat n
theorem KH (n d k:Nat):sIx n d (some (k:Int))=min k n:=by
  show (if (k:Int) < 0 then ((k:Int) + (n:Int)).toNat else min (k:Int).toNat n)=min k n
  rw [if_neg (by omega),Int.toNat_natCast]
theorem TX (n d:Nat) (hd:d <= n) (o:Option Int):sIx n d o <= n:=by
  cases o with
  | none=>exact hd
  | some v=>
    show (if v < 0 then (v + (n:Int)).toNat else min v.toNat n) <= n
    by_cases hv:v < 0
    . rw [if_pos hv]; omega
    . rw [if_neg hv]; exact Nat.min_le_right _ _
theorem NY (v:Int) (n d:Nat):(if v < 0 then max (v + (n:Int)) 0 else min v (n:Int))=((sIx n d (some v):Nat):Int):=by
  show (if v < 0 then max (v + (n:Int)) 0 else min v (n:Int))=(((if v < 0 then (v + (n:Int)).toNat else min v.toNat n):Nat):Int)
  by_cases hv:v < 0
  . simp only [if_pos hv]; omega
  . simp only [if_neg hv]; omega
theorem Mq (lo hi:Option Int) (n:Nat):Builtin.Slice.sliceAdjust lo hi 1 (n:Int)=(((sIx n 0 lo:Nat):Int),((sIx n n hi:Nat):Int)):=by
  have h1 : ¬ ((1:Int) < 0):=by omega
  unfold Builtin.Slice.sliceAdjust
  simp only [h1,if_false]
  refine Prod.ext ?_ ?_
  . cases lo with
    | none=>rfl
    | some v=>exact NY v n 0
  . cases hi with
    | none=>rfl
    | some v=>exact NY v n n
theorem ML (i j:Nat):Builtin.Slice.slicePlaces (i:Int) (j:Int) 1=j - i:=by
  unfold Builtin.Slice.slicePlaces
  have h1:(1:Int) > 0:=by omega
  simp only [h1,if_true,Int.ediv_one]
  split <;> omega
theorem ID {v:Value} {o:Option Int} {Q:Option Int->Shared->Prop} (p:IsPart v o) (h:Q o s):wpAny (model prog w) A (Builtin.Slice.slicePartIndex v) Q E s:=by
  cases p with
  | none=>exact slicePart_none h
  | int i t=>exact slicePart_int h
theorem El {sl:Addr} {vl vu:Value} {lo hi:Option Int} {n:Nat} {Q:Int × Int × Nat->Shared->Prop} (hs:s.heap.IsSliceOf sl vl vu .none) (pl:IsPart vl lo) (pu:IsPart vu hi)
    (h:Q (((sIx n 0 lo:Nat):Int),1,sIx n n hi - sIx n 0 lo) s):wpAny (model prog w) A (Builtin.Slice.sliceApplied (.ref sl) (pure (n:Int))) Q E s:=by
  obtain ⟨os,hos,hcs,hds⟩:=id hs
  unfold Builtin.Slice.sliceApplied Builtin.Slice.sliceFields
  refine wpAny_bind (wpAny_bind (wpAny_field hos hds (x:=vl) rfl (wpAny_bind (wpAny_field hos hds (x:=vu) rfl (wpAny_bind (wpAny_field hos hds (x:=.none) rfl (wpAny_pure ?_)))))))
  refine wpAny_bind (slicePart_none ?_)
  show wpAny _ _ (if ((1:Int) == 0)=true then _ else _) _ _ s
  rw [if_neg (by decide)]
  refine wpAny_bind (ID pl (wpAny_bind (ID pu (wpAny_bind (wpAny_pure ?_)))))
  show wpAny _ _ (match Builtin.Slice.sliceAdjust lo hi 1 (n:Int) with | (lo,hi)=>pure (lo,(1:Int),Builtin.Slice.slicePlaces lo hi 1)) _ _ s
  rw [Mq lo hi n]
  show wpAny _ _ (pure (((sIx n 0 lo:Nat):Int),(1:Int),Builtin.Slice.slicePlaces ((sIx n 0 lo:Nat):Int) ((sIx n n hi:Nat):Int) 1)) _ _ s
  rw [ML]
  exact wpAny_pure h
theorem Pn (xs:Array Value) (i k:Nat):((List.range k).filterMap fun (m:Nat)=>xs[((i:Int) + (m:Int) * 1).toNat]?).toArray=((xs.toList.drop i).take k).toArray:=by
  have e:(fun (m:Nat)=>xs[((i:Int) + (m:Int) * 1).toNat]?)=fun m=>xs[i + m]?:=by
    funext m
    have:((i:Int) + (m:Int) * 1).toNat=i + m:=by omega
    rw [this]
  rw [e]
  have:=pick_run xs i k
  rw [List.filterMap_map] at this
  have e2:((fun x=>xs[x]?) ∘ fun x=>i + x)=fun m=>xs[i + m]?:=rfl
  rw [e2] at this
  rw [this]
theorem Gk {t sl:Addr} {items:Array Value} {vl vu:Value} {lo hi:Option Int} {Q:Value->Shared->Prop} (ht:IsTup s.heap t items) (hs:s.heap.IsSliceOf sl vl vu .none) (pl:IsPart vl lo) (pu:IsPart vu hi)
    (hw : ¬ (sIx items.size 0 lo=0 /\ sIx items.size items.size hi=items.size))
    (h:Q (.ref s.heap.objs.size) { s with heap:=s.heap.push { cls:=.type "tuple",data:=.seq ((items.toList.drop (sIx items.size 0 lo)).take (sIx items.size items.size hi - sIx items.size 0 lo)).toArray } })
    (hsz:items.size <= sizeLine):wpAny (model prog w) A (getItem (.ref t) (.ref sl)) Q E s:=by
  have htake:sizeOk (.seq ((items.toList.drop (sIx items.size 0 lo)).take (sIx items.size items.size hi - sIx items.size 0 lo)).toArray):=by
    show ((items.toList.drop (sIx items.size 0 lo)).take (sIx items.size items.size hi - sIx items.size 0 lo)).toArray.size <= sizeLine
    rw [List.size_toArray,List.length_take,List.length_drop,Array.length_toList]
    omega
  have hj:sIx items.size items.size hi <= items.size:=TX _ _ (Nat.le_refl _) hi
  obtain ⟨os,hos,hcs,hds⟩:=id hs
  have hTs:s.TypeIs (.ref sl) "slice" := ⟨os,hos,hcs⟩
  unfold getItem
  try with_reducible refine wpAny_holding ?_
  first | refine wpAny_bind (wpAny_pure ?_) | skip
  refine wpAny_bind (wpAny_sequenceKey ht.typeIs (by decide) ?_)
  refine wpAny_bind (wpAny_callSpecial?_slot (name:=Str.ofString "__getitem__") ht.typeIs PyProof.Rows.slot_tuple_getitem
    (wpAny_call_entry PyProof.Rows.slot_tuple_getitem ht.typeIs entry_tuple_getitem ?_ (args_tuple_getitem _ _)))
  show wpAny _ _ (Builtin.Tuple.tupleItemsOf (.ref t) >>= _) _ _ s
  refine wpAny_bind (tupleItemsOf_ ht ?_)
  refine wpAny_bind (wpAny_typeOf hTs ?_)
  rw [if_pos (by decide)]
  refine wpAny_bind (El hs pl pu ?_)
  have hno : ¬ ((((sIx items.size 0 lo:Nat):Int) == 0 && (1:Int) == 1 && (sIx items.size items.size hi - sIx items.size 0 lo) == items.size)=true):=by
    intro q
    rw [Bool.and_eq_true,Bool.and_eq_true] at q
    have q1:((sIx items.size 0 lo:Nat):Int)=0:=eq_of_beq q.1.1
    have q2:sIx items.size items.size hi - sIx items.size 0 lo=items.size:=eq_of_beq q.2
    exact hw ⟨by omega,by omega⟩
  show wpAny _ _ (if (((sIx items.size 0 lo:Nat):Int) == 0 && (1:Int) == 1 && (sIx items.size items.size hi - sIx items.size 0 lo) == items.size)=true then _ else _) _ _ s
  rw [if_neg hno,Pn]
  first
    | exact wpAny_bind (m:=Builtin.Tuple.tupleExact _) (wpAny_newObj_type (wpAny_pure ⟨_,rfl,wpAny_pure h⟩) htake)
    | exact wpAny_bind (m:=Builtin.Tuple.tupleExact _) (wpAny_newObj_type (wpAny_bind (wpAny_pure (wpAny_pure ⟨_,rfl,wpAny_pure h⟩))) htake)
    | exact wpAny_bind (wpAny_bind (m:=Builtin.Tuple.tupleExact _) (wpAny_newObj_type (wpAny_pure (wpAny_pure ⟨_,rfl,wpAny_pure h⟩)) htake))
    | exact wpAny_bind (wpAny_bind (m:=Builtin.Tuple.tupleExact _) (wpAny_newObj_type (wpAny_pure ⟨_,rfl,wpAny_pure h⟩) htake))
end
end HT
namespace L2
open PySem PySem.Spec PyProof.Rows
abbrev TO:=St->Hp->(Option Int->Hp->Prop)->Prop
def PO (X:Cx) (e:Option Expr) (t:TO):Prop:=
  ∀ (pins:List (Addr × Obj)) (s:Shared) (σ:St) (H:Hp) (Q:Option Int->Hp->Prop),Inv X pins σ H s->t σ H Q->
    wpAny (model X.prog X.w) X.A (evalPart e X.env) (fun u s'=>∃ o H',Inv X pins σ H' s' /\ IsPart u o /\ Q o H') X.xe s
def Qs:TO:=fun _ H Q=>Q none H
def VC (t:TE):TO:=fun σ H Q=>t σ H fun x H1=>∃ i,x=.int i /\ Q (some i) H1
section
variable {X:Cx} {e:Expr} {te:TE} {lo hi:Option Expr} {tl th:TO} {pos p2:Pos}
theorem Rf:PO X none Qs:=by
  intro pins s σ H Q I h
  rw [evalPart_none]
  exact wpAny_pure ⟨none,H,I,.none,h⟩
theorem Re (h:PE X e te):PO X (some e) (VC te):=by
  intro pins s σ H Q I hw
  rw [evalPart_some]
  refine thn (h pins s σ H _ I hw) fun u s1 ⟨x,H1,I1,r1,q1⟩=>?_
  obtain ⟨i,rfl,q⟩:=q1
  obtain ⟨t,rfl⟩:=r1
  exact ⟨some i,H1,I1,.int i t,q⟩
def SlR (X:Cx) (r:V->Option Int->Option Int->Hp->VK->Prop):Prop:=
  ∀ (pins:List (Addr × Obj)) (s:Shared) (σ:St) (H:Hp) (x:V) (v vl vu:Value) (lo hi:Option Int) (sl:Addr) (Q:VK),Inv X pins σ H s->RelV x v->s.heap.IsSliceOf sl vl vu .none->IsPart vl lo->IsPart vu hi->r x lo hi H Q->
    ∃ T id,typeLookup (.type T) "__getitem__" = pure (some (.builtin id)) /\ s.TypeIs v T /\ wpAny (model X.prog X.w) X.A (getItem v (.ref sl)) (EP X pins σ Q) X.xe s
theorem SlR.or {r r':V->Option Int->Option Int->Hp->VK->Prop} (h:SlR X r) (h':SlR X r'):SlR X (fun x lo hi H Q=>r x lo hi H Q ∨ r' x lo hi H Q):=by
  intro pins s σ H x v vl vu lo hi sl Q I rx hs pl pu q
  rcases q with q | q
  . exact h pins s σ H x v vl vu lo hi sl Q I rx hs pl pu q
  . exact h' pins s σ H x v vl vu lo hi sl Q I rx hs pl pu q
def tSl (r:V->Option Int->Option Int->Hp->VK->Prop) (te:TE) (tl th:TO):TE:=fun σ H Q=>te σ H fun x H1=>tl σ H1 fun l H2=>th σ H2 fun u H3=>r x l u H3 Q
theorem LR {r:V->Option Int->Option Int->Hp->VK->Prop} (hr:SlR X r) (he:PE X e te) (hl:PO X lo tl) (hu:PO X hi th):PE X (.Subscript e (.Slice lo hi none p2) pos) (tSl r te tl th):=by
  intro pins s σ H Q I h
  refine Subscript_ (thn (he pins s σ H _ I h) fun v s1 ⟨x,H1,I1,r1,q1⟩=>?_)
  refine wpAny_Slice (thn (hl pins s1 σ H1 _ I1 q1) fun vl s2 ⟨l,H2,I2,pl,q2⟩=>thn (hu pins s2 σ H2 _ I2 q2) fun vu s3 ⟨u,H3,I3,pu,q3⟩=>?_)
  rw [evalPart_none]
  refine wpAny_pure ?_
  have I4:Inv X pins σ H3 { s3 with heap:=s3.heap.push { cls:=.type "slice",data:=.fields #[vl,vu,.none] } }:=I3.kept (t':=s3.toks) fun b ob q=>Heap.get?_push_of_some _ q
  obtain ⟨T,id,hT,ht,hg⟩:=hr pins { s3 with heap:=s3.heap.push { cls:=.type "slice",data:=.fields #[vl,vu,.none] } } σ H3 x v vl vu l u s3.heap.objs.size Q I4 r1 (Heap.IsSliceOf.new ..) pl pu q3
  show wpAny (model X.prog X.w) X.A (subscriptTail e (.Slice lo hi none p2) v (.ref s3.heap.objs.size)) (EP X pins σ Q) X.xe { s3 with heap:=s3.heap.push { cls:=.type "slice",data:=.fields #[vl,vu,.none] } }
  exact tail_any (ops:=[.ref s3.heap.objs.size,v]) ht hT hg (by with_unfolding_all rfl)
def Lp (xs:List V) (lo hi:Option Int):List V:=(xs.drop (HT.sIx xs.length 0 lo)).take (HT.sIx xs.length xs.length hi - HT.sIx xs.length 0 lo)
theorem Hb (xs:List V) (lo hi:Option Int):(Lp xs lo hi).length <= xs.length:=by
  unfold Lp
  rw [List.length_take,List.length_drop]
  omega
def Wg (K:PySem.W.Frag):V->Option Int->Option Int->Hp->VK->Prop:=fun x lo hi H Q=>∃ a xs,x=.ref a /\ SqT K H a xs /\
  ¬ (HT.sIx xs.length 0 lo=0 /\ HT.sIx xs.length xs.length hi=xs.length) /\ ∀ p,H p=none->Q (.ref p) (upd H p (.tup (Lp xs lo hi)))
theorem TW:SlR X (Wg X.K):=by
  intro pins s σ H x v vl vu lo hi sl Q I rx hs pl pu h
  obtain ⟨a,xs,rfl,hx,hw,q⟩:=h
  cases rx
  obtain ⟨its,r,ht,hz⟩:=I.tuple hx
  have hlen:its.toArray.size=xs.length:=by rw [List.size_toArray]; exact r.length.symm
  refine ⟨"tuple",_,PyProof.Rows.slot_tuple_getitem.lookup,ht.typeIs,?_⟩
  refine HT.Gk ht hs pl pu (by rw [hlen]; exact hw) ?_ (by rw [hlen]; exact hz)
  rw [hlen]
  refine ⟨.ref s.heap.objs.size,_,I.laid (t':=s.toks) (o:=.tup (Lp xs lo hi)) (fun b ob q=>Heap.get?_push_of_some _ q) (Nat.le_refl _) ?_,rfl,q _ (I.hok.fresh (Nat.le_refl _))⟩
  exact ⟨Nat.le_trans (Hb xs lo hi) hz,_,(r.drop (HT.sIx xs.length 0 lo)).take (HT.sIx xs.length xs.length hi - HT.sIx xs.length 0 lo),IsTup.new _ _⟩
def Va (K:PySem.W.Frag):R2:=fun x y H Q=>∃ a b xs ys,x=.ref a /\ y=.ref b /\ SqT K H a xs /\ SqT K H b ys /\ xs ≠ [] /\ xs.length + ys.length <= sizeLine /\
  (ys=[]->Q (.ref a) H) /\ (ys ≠ []->∀ p,H p=none->Q (.ref p) (upd H p (.tup (xs ++ ys))))
theorem Vals.nil_iff {xs:List V} {us:List Value} (r:Vals xs us):us=[] ↔ xs=[]:=by
  cases r with
  | nil=>simp
  | cons _ _=>simp
theorem Rq:OpR X (binaryOp .Add) (Va X.K):=by
  intro pins s σ H x y v u Q I rx ry h
  obtain ⟨a,b,xs,ys,rfl,rfl,ha,hb,hx,hz,q1,q2⟩:=h
  cases rx
  cases ry
  obtain ⟨its,r1,p1,_⟩:=I.tuple ha
  obtain ⟨its2,r2,p2,_⟩:=I.tuple hb
  refine HT.Sf p1 p2 (fun z=>hx (r1.nil_iff.mp z)) (fun z=>⟨.ref a,H,I,rfl,q1 (r2.nil_iff.mp z)⟩) (fun z=>?_) (by rw [← r1.length,← r2.length]; exact hz)
  refine ⟨.ref s.heap.objs.size,_,I.laid (t':=s.toks) (o:=.tup (xs ++ ys)) (fun b ob q=>Heap.get?_push_of_some _ q) (Nat.le_refl _) ?_,rfl,q2 (fun w=>z (r2.nil_iff.mpr w)) _ (I.hok.fresh (Nat.le_refl _))⟩
  exact ⟨by rw [List.length_append]; exact hz,_,r1.append r2,IsTup.new _ _⟩
theorem Lw:CH X (.type "tuple") (fun xs H Q=>∃ a ys,xs=[.ref a] /\ SqT X.K H a ys /\ Q (.ref a) H):=by
  intro pins s σ H xs us Q I r h
  obtain ⟨a,ys,rfl,ha,q⟩:=h
  obtain ⟨u,rfl,ru⟩:=FM r
  cases ru
  obtain ⟨its,_,p1,_⟩:=I.tuple ha
  exact call_tuple_same (items:=its.toArray) p1 ⟨.ref a,H,I,rfl,q⟩
end
end L2
namespace L2
open PySem PySem.Spec PyProof.Rows
def ixN (n:Nat) (i:Int):Option Nat:=if 0 <= i then (if i < n then some i.toNat else none) else if -(n:Int) <= i then some (i + n).toNat else none
def atI {α:Type} (xs:List α) (i:Int):Option α:=(ixN xs.length i).bind fun j=>xs[j]?
theorem NQ {n:Nat} {i:Int} {j:Nat} (h:ixN n i=some j):seqIndex? i n=some j /\ j < n /\ -(n:Int) <= i /\ i < n:=by
  unfold ixN at h
  by_cases h0:0 <= i
  . rw [if_pos h0] at h
    by_cases h1:i < n
    . rw [if_pos h1] at h
      have e:i.toNat=j:=Option.some.inj h
      exact ⟨by rw [seqIndex_of h0 h1,e],by omega,by omega,h1⟩
    . rw [if_neg h1] at h; cases h
  . rw [if_neg h0] at h
    by_cases h1 : -(n:Int) <= i
    . rw [if_pos h1] at h
      have e:(i + n).toNat=j:=Option.some.inj h
      exact ⟨by rw [seqIndex_neg (by omega) h1,e],by omega,h1,by omega⟩
    . rw [if_neg h1] at h; cases h
theorem Kw {α:Type} {xs:List α} {i:Int} {v:α} (h:atI xs i=some v):∃ j,seqIndex? i xs.length=some j /\ xs[j]? = some v /\ j < xs.length /\ -(xs.length:Int) <= i /\ i < xs.length:=by
  unfold atI at h
  cases e:ixN xs.length i with
  | none=>rw [e] at h; cases h
  | some j=>
    rw [e] at h
    obtain ⟨h1,h2,h3,h4⟩:=NQ e
    exact ⟨j,h1,h,h2,h3,h4⟩
def Nc (b:Expr):Prop:=∀ o i,subscripted b false o i=operate [o,i] (getItem o i)
def IxR (X:Cx) (r:R2):Prop:=
  ∀ (value slice:Expr) (pins:List (Addr × Obj)) (s:Shared) (σ:St) (H:Hp) (x y:V) (v u:Value) (Q:VK),Inv X pins σ H s->RelV x v->RelV y u->r x y H Q->
    subscripted slice false v u=operate [v,u] (getItem v u)->wpAny (model X.prog X.w) X.A (subscriptTail value slice v u) (EP X pins σ Q) X.xe s
def MtR (X:Cx) (id:String) (r:V->List V->Hp->VK->Prop):Prop:=
  ∀ (pins:List (Addr × Obj)) (s:Shared) (σ:St) (H:Hp) (x:V) (xs:List V) (v:Value) (us:List Value) (Q:VK),Inv X pins σ H s->RelV x v->Vals xs us->r x xs H Q->
    wpAny (model X.prog X.w) X.A (call (.builtin id) (v :: us)) (EP X pins σ Q) X.xe s
section
variable {X:Cx} {a b:Expr} {ta tb:TE} {pos:Pos}
theorem IxR.or {r r':R2} (h:IxR X r) (h':IxR X r'):IxR X (fun x y H Q=>r x y H Q ∨ r' x y H Q):=by
  intro value slice pins s σ H x y v u Q I rx ry q hs
  rcases q with q | q
  . exact h value slice pins s σ H x y v u Q I rx ry q hs
  . exact h' value slice pins s σ H x y v u Q I rx ry q hs
theorem Vj {r:R2} (hr:IxR X r) (ha:PE X a ta) (hb:PE X b tb) (hs:Nc b):PE X (.Subscript a b pos) (tOp r ta tb):=by
  intro pins s σ H Q I h
  exact Subscript_ (Uy ha hb I h fun v u s2 x y H2 I2 rx ry q=>hr a b pins s2 σ H2 x y v u Q I2 rx ry q (hs _ _))
def VY (K:PySem.W.Frag):R2:=fun x y H Q=>∃ p xs i v,x=.ref p /\ y=.int i /\ SqL K H p xs /\ atI xs i=some v /\ Q v H
def VW (K:PySem.W.Frag):R2:=fun x y H Q=>∃ p xs i v,x=.ref p /\ y=.int i /\ SqT K H p xs /\ atI xs i=some v /\ Q v H
def VX:R2:=fun x y H Q=>∃ z i c,x=.str z /\ y=.int i /\ z.length <= sizeLine /\ atI z.cps.toList i=some c /\ Q (.str ⟨#[c]⟩) H
theorem ix_list:IxR X (VY X.K):=by
  intro value slice pins s σ H x y v u Q I rx ry h hs
  obtain ⟨p,xs,i,z,rfl,rfl,hq,he,q⟩:=h
  cases rx
  obtain ⟨t,rfl⟩:=ry
  obtain ⟨its,r,pl,hz⟩:=I.list hq
  obtain ⟨j,h1,h2,h3,h4,h5⟩:=Kw he
  obtain ⟨w,ew,rw'⟩:=r.get h2
  have hl:=r.length
  have hn:=HA
  have fin:EP X pins σ Q w s:=⟨z,H,I,rw',q⟩
  by_cases h0:0 <= i
  . have hj:i.toNat=j:=by
      rw [seqIndex_of h0 h5] at h1
      exact Option.some.inj h1
    exact item_listR pl.isList h0 (by omega) (by rw [hj]; simpa using ew) fin hs
  . have hj:(i + (its.toArray.size:Int)).toNat=j:=by
      rw [seqIndex_neg (by omega) h4] at h1
      rw [List.size_toArray,← hl]
      exact Option.some.inj h1
    exact subscriptTail_builtinR (x:=w) pl.isList.typeIs slot_list_getitem.lookup
      (wpAny_getItem_list_neg (Q:=fun r s'=>r=w /\ EP X pins σ Q r s') pl.isList (by omega) (by rw [List.size_toArray] <;> omega) (by omega) (by rw [hj]; simpa using ew) ⟨rfl,fin⟩) hs
theorem ix_tup:IxR X (VW X.K):=by
  intro value slice pins s σ H x y v u Q I rx ry h hs
  obtain ⟨p,xs,i,z,rfl,rfl,hq,he,q⟩:=h
  cases rx
  obtain ⟨t,rfl⟩:=ry
  obtain ⟨its,r,pl,hz⟩:=I.tuple hq
  obtain ⟨j,h1,h2,h3,h4,h5⟩:=Kw he
  obtain ⟨w,ew,rw'⟩:=r.get h2
  have hl:=r.length
  have hn:=HA
  have fin:EP X pins σ Q w s:=⟨z,H,I,rw',q⟩
  exact subscriptTail_builtinR (x:=w) pl.typeIs slot_tuple_getitem.lookup
    (getItem_tuple (j:=j) (Q:=fun r s'=>r=w /\ EP X pins σ Q r s') pl (by omega) (by omega) (by rw [List.size_toArray,← hl]; exact h1) (by simpa using ew) ⟨rfl,fin⟩) hs
theorem Uk:IxR X VX:=by
  intro value slice pins s σ H x y v u Q I rx ry h hs
  obtain ⟨z,i,c,rfl,rfl,hz,he,q⟩:=h
  obtain ⟨t,rfl⟩:=rx
  obtain ⟨t',rfl⟩:=ry
  obtain ⟨j,h1,h2,h3,h4,h5⟩:=Kw he
  have hl:z.cps.toList.length=z.length:=by simp [Str.length]
  rw [hl] at h1 h4 h5
  have hn:=HA
  exact tail_any (typeIs_str s z t) slot_str_getitem.lookup (getItem_str (c:=c) (by
    have e1:decide (i < -(2 ^ 63:Int))=false:=decide_eq_false (by omega)
    have e2:decide (i ≥ 2 ^ 63)=false:=decide_eq_false (by omega)
    rw [e1,e2,Bool.or_false]) (by rw [h1]; simpa using h2) ⟨.str ⟨#[c]⟩,H,I.tok _,⟨_,rfl⟩,q⟩) hs
def rIx (K:PySem.W.Frag):R2:=fun x y H Q=>VY K x y H Q ∨ VW K x y H Q ∨ VX x y H Q
theorem Mc:IxR X (rIx X.K):=ix_list.or (ix_tup.or Uk)
theorem MT (its:List Value) (n j:Nat) (u:Value):Obj.mapSeq (·.setIfInBounds j u) { cls:=.type "list",data:=.seq its.toArray n }={ cls:=.type "list",data:=.seq (its.set j u).toArray n }:=by
  simp [Obj.mapSeq]
theorem Inv.lst {pins:List (Addr × Obj)} {σ:St} {H:Hp} {s:Shared} {p:Addr} {xs:List V} (I:Inv X pins σ H s) (h:H p=some (.lst xs)) :
    ∃ (its:List Value) (n:Nat),Vals xs its /\ s.heap.get? p=some { cls:=.type "list",data:=.seq its.toArray n } /\ xs.length <= sizeLine:=by
  obtain ⟨z,its,n,r,e⟩:=I.hok p _ h
  exact ⟨its,n,r,e,z⟩
theorem Inv.lstUpd {pins:List (Addr × Obj)} {σ:St} {H:Hp} {s:Shared} {p:Addr} {xs ys:List V} {its its':List Value} {n n':Nat} {f:Obj->Obj} (I:Inv X pins σ H s) (h:H p=some (.lst xs))
    (ho:s.heap.get? p=some { cls:=.type "list",data:=.seq its.toArray n }) (hf:f { cls:=.type "list",data:=.seq its.toArray n }={ cls:=.type "list",data:=.seq its'.toArray n' }) (r:Vals ys its') (hz:ys.length <= sizeLine) (t:Nat) :
    Inv X pins σ (upd H p (.lst ys)) { s with heap:=s.heap.update p f,toks:=t }:=by
  have e:(s.heap.update p f).get? p=some { cls:=.type "list",data:=.seq its'.toArray n' }:=by
    rw [Heap.get?_update_self f ho (by rw [hf] <;> rfl),hf]
  refine I.write (x:=p) (e:=p) (by rw [h]; trivial) (.inl rfl) (fun b u hb q=>(Heap.get?_update_other _ _ (Ne.symm hb)).trans q) ⟨_,e⟩ ?_
  exact ⟨hz,its',n',r,e⟩
def VU:V->V->V->Hp->(Hp->Prop)->Prop:=fun o i v H Q=>∃ p xs k j,o=.ref p /\ i=.int k /\ H p=some (.lst xs) /\ ixN xs.length k=some j /\ Q (upd H p (.lst (xs.set j v)))
theorem PL:WP X VU:=by
  intro pins s σ H o i v ov iv u Q I ro ri rv h
  obtain ⟨p,xs,k,j,rfl,rfl,hp,hj,q⟩:=h
  cases ro
  obtain ⟨t,rfl⟩:=ri
  obtain ⟨its,n,r,ho,hz⟩:=I.lst hp
  obtain ⟨h1,h2,h3,h4⟩:=NQ hj
  have hl:=r.length
  have hn:=HA
  have I':Inv X pins σ (upd H p (.lst (xs.set j v))) { s with heap:=s.heap.update p (Obj.mapSeq (·.setIfInBounds j u)) }:=
    I.lstUpd hp ho (MT its n j u) (r.set rv j) (by rw [List.length_set]; exact hz) s.toks
  by_cases h0:0 <= k
  . have hk:k.toNat=j:=by
      rw [seqIndex_of h0 h4] at h1
      exact Option.some.inj h1
    exact PySem.W.ki_setAt ho h0 (by omega) (by rw [List.size_toArray,← hl]; exact h4) (by rw [hk]; exact ⟨_,I',q⟩)
  . have hk:(k + (its.toArray.size:Int)).toNat=j:=by
      rw [seqIndex_neg (by omega) h3] at h1
      rw [List.size_toArray,← hl]
      exact Option.some.inj h1
    exact PySem.W.ki_setBack ho (by omega) (by rw [List.size_toArray,← hl]; exact h3) (by omega) (by rw [hk]; exact ⟨_,I',q⟩)
theorem KE (lo hi:Option Int) (n:Nat):(sliceBounds lo hi none n).1=((HT.sIx n 0 lo:Nat):Int) /\ (sliceBounds lo hi none n).2.1=((HT.sIx n n hi:Nat):Int) /\ (sliceBounds lo hi none n).2.2=1:=by
  refine ⟨?_,?_,rfl⟩
  . cases lo with
    | none=>simp [sliceBounds,HT.sIx]
    | some i=>
      simp only [sliceBounds,HT.sIx,Option.getD_none,show (1:Int) > 0 by decide,if_true]
      by_cases h:i < 0
      . simp only [h,if_true] <;> omega
      . simp only [h,if_false] <;> omega
  . cases hi with
    | none=>simp [sliceBounds,HT.sIx]
    | some i=>
      simp only [sliceBounds,HT.sIx,Option.getD_none,show (1:Int) > 0 by decide,if_true]
      by_cases h:i < 0
      . simp only [h,if_true] <;> omega
      . simp only [h,if_false] <;> omega
theorem JK (its:List Value) (lo hi:Option Int):slicePick its.toArray lo hi none=((its.drop (HT.sIx its.length 0 lo)).take (HT.sIx its.length its.length hi - HT.sIx its.length 0 lo)).toArray:=by
  obtain ⟨h1,h2,h3⟩:=KE lo hi its.toArray.size
  unfold slicePick
  rw [h1,h2,h3]
  simp only [sliceRange_one,pick_run,List.size_toArray] <;> rfl
def Wh (K:PySem.W.Frag):V->Option Int->Option Int->Hp->VK->Prop:=fun x lo hi H Q=>∃ a xs,x=.ref a /\ SqL K H a xs /\ ∀ p,H p=none->Q (.ref p) (upd H p (.lst (Lp xs lo hi)))
theorem Qw:SlR X (Wh X.K):=by
  intro pins s σ H x v vl vu lo hi sl Q I rx hs pl pu h
  obtain ⟨a,xs,rfl,hx,q⟩:=h
  cases rx
  obtain ⟨its,r,ht,hz⟩:=I.list hx
  have hlen:=r.length
  refine ⟨"list",_,slot_list_getitem.lookup,ht.isList.typeIs,?_⟩
  refine wpAny_getItem_list_slice ht.isList hs pl pu .none (by simp) ?_ (by rw [List.size_toArray] <;> omega)
  rw [JK,← hlen]
  refine ⟨.ref s.heap.objs.size,_,I.laid (t':=s.toks) (o:=.lst (Lp xs lo hi)) (fun b ob q=>Heap.get?_push_of_some _ q) (Nat.le_refl _) ?_,rfl,q _ (I.hok.fresh (Nat.le_refl _))⟩
  exact ⟨Nat.le_trans (Hb xs lo hi) hz,_,0,(r.drop (HT.sIx xs.length 0 lo)).take (HT.sIx xs.length xs.length hi - HT.sIx xs.length 0 lo),Heap.get?_push_size _ rfl⟩
def Dx:V->Bool
  | .non=>true
  | .bl _=>true
  | .int _=>true
  | .str _=>true
  | _=>false
def eqV:V->V->Bool
  | .non,.non=>true
  | .bl a,.bl b=>a == b
  | .bl a,.int b=>(if a then 1 else 0) == b
  | .int a,.bl b=>a == (if b then 1 else 0)
  | .int a,.int b=>a == b
  | .str a,.str b=>a == b
  | _,_=>false
theorem Uv {A:Around} {s:Shared} {y x:V} {u v:Value} (ry:RelV y u) (rx:RelV x v) (fy:Dx y=true) (fx:Dx x=true):SeqAt.EqAt A s u v (eqV y x):=by
  cases y with
  | non=>
    cases ry
    cases x with
    | non=>cases rx; exact SeqAt.EqAt.same _
    | bl b=>cases rx; exact SeqAt.EqAt.none_bool b
    | int b=>obtain ⟨t,rfl⟩:=rx; exact SeqAt.EqAt.none_int b t
    | str b=>obtain ⟨t,rfl⟩:=rx; exact SeqAt.EqAt.none_str b t
    | _=>exact absurd (show false=true from fx) Bool.false_ne_true
  | bl a=>
    cases ry
    cases x with
    | non=>cases rx; exact SeqAt.EqAt.bool_none a
    | bl b=>cases rx; exact SeqAt.EqAt.bool_bool a b
    | int b=>obtain ⟨t,rfl⟩:=rx; exact SeqAt.EqAt.bool_int a b t
    | str b=>obtain ⟨t,rfl⟩:=rx; exact SeqAt.EqAt.bool_str a b t
    | _=>exact absurd (show false=true from fx) Bool.false_ne_true
  | int a=>
    obtain ⟨t',rfl⟩:=ry
    cases x with
    | non=>cases rx; exact SeqAt.EqAt.int_none a t'
    | bl b=>cases rx; exact SeqAt.EqAt.int_bool a t' b
    | int b=>obtain ⟨t,rfl⟩:=rx; exact SeqAt.EqAt.int_int a t' b t
    | str b=>obtain ⟨t,rfl⟩:=rx; exact SeqAt.EqAt.int_str a t' b t
    | _=>exact absurd (show false=true from fx) Bool.false_ne_true
  | str a=>
    obtain ⟨t',rfl⟩:=ry
    cases x with
    | non=>cases rx; exact SeqAt.EqAt.str_none a t'
    | bl b=>cases rx; exact SeqAt.EqAt.str_bool a t' b
    | int b=>obtain ⟨t,rfl⟩:=rx; exact SeqAt.EqAt.str_int a t' b t
    | str b=>obtain ⟨t,rfl⟩:=rx; exact SeqAt.EqAt.str_str a t' b t
    | _=>exact absurd (show false=true from fx) Bool.false_ne_true
  | _=>exact absurd (show false=true from fy) Bool.false_ne_true
def eqU (x:V) (u:Value):Bool:=match u with
  | .none=>eqV .non x
  | .bool b=>eqV (.bl b) x
  | .int i _=>eqV (.int i) x
  | .str z _=>eqV (.str z) x
  | _=>false
theorem Ks {x y:V} {u:Value} (r:RelV y u) (f:Dx y=true):eqU x u=eqV y x:=by
  cases y with
  | non=>cases r; rfl
  | bl b=>cases r; rfl
  | int i=>obtain ⟨t,rfl⟩:=r; rfl
  | str z=>obtain ⟨t,rfl⟩:=r; rfl
  | _=>exact absurd (show false=true from f) Bool.false_ne_true
theorem Gv {x:V}:∀ {xs:List V} {us:List Value},Vals xs us->xs.all Dx=true->us.any (eqU x)=xs.any fun y=>eqV y x
  | _,_,.nil,_=>rfl
  | y :: xs,u :: us,.cons r t,f=>by
    rw [List.all_cons,Bool.and_eq_true] at f
    rw [List.any_cons,List.any_cons,Ks r f.1,Gv t f.2]
theorem EN {A:Around} {s:Shared} {x:V} {v:Value} (rx:RelV x v) (fx:Dx x=true):∀ {xs:List V} {us:List Value},Vals xs us->xs.all Dx=true->∀ u ∈ us,SeqAt.EqAt A s u v (eqU x u)
  | _,_,.nil,_=>fun u hu=>by cases hu
  | y :: xs,u :: us,.cons r t,f=>fun u' hu=>by
    rw [List.all_cons,Bool.and_eq_true] at f
    rcases List.mem_cons.mp hu with rfl | hu
    . rw [Ks r f.1]; exact Uv r rx f.1 fx
    . exact EN rx fx t f.2 u' hu
def inV (x:V) (xs:List V):Bool:=xs.any fun y=>eqV y x
def rIn (K:PySem.W.Frag) (neg:Bool):R2:=fun x y H Q=>∃ p xs,y=.ref p /\ (SqL K H p xs ∨ SqT K H p xs) /\ Dx x=true /\ xs.all Dx=true /\ Q (.bl (if neg then !inV x xs else inV x xs)) H
theorem N9:OpR X (compareOp .In) (rIn X.K false):=by
  intro pins s σ H x y v u Q I rx ry h
  obtain ⟨p,xs,rfl,hq,fx,fs,q⟩:=h
  cases ry
  rcases hq with hq | hq
  . obtain ⟨its,r,pl,hz⟩:=I.list hq
    refine SeqAt.in_listAt (eqU x) pl.isList (fun w hw=>EN rx fx r fs w (by simpa using hw)) ⟨.bl _,H,I,rfl,?_⟩
    rw [show its.toArray.any (eqU x)=its.any (eqU x) by simp,Gv r fs]
    exact q
  . obtain ⟨its,r,pl,hz⟩:=I.tuple hq
    refine SeqAt.in_tupleAt (eqU x) pl (fun w hw=>EN rx fx r fs w (by simpa using hw)) ⟨.bl _,H,I,rfl,?_⟩
    rw [show its.toArray.any (eqU x)=its.any (eqU x) by simp,Gv r fs]
    exact q
theorem KW:OpR X (compareOp .NotIn) (rIn X.K true):=by
  intro pins s σ H x y v u Q I rx ry h
  obtain ⟨p,xs,rfl,hq,fx,fs,q⟩:=h
  cases ry
  rcases hq with hq | hq
  . obtain ⟨its,r,pl,hz⟩:=I.list hq
    refine SeqAt.notIn_listAt (eqU x) pl.isList (fun w hw=>EN rx fx r fs w (by simpa using hw)) ⟨.bl _,H,I,rfl,?_⟩
    rw [show its.toArray.any (eqU x)=its.any (eqU x) by simp,Gv r fs]
    exact q
  . obtain ⟨its,r,pl,hz⟩:=I.tuple hq
    refine SeqAt.notIn_tupleAt (eqU x) pl (fun w hw=>EN rx fx r fs w (by simpa using hw)) ⟨.bl _,H,I,rfl,?_⟩
    rw [show its.toArray.any (eqU x)=its.any (eqU x) by simp,Gv r fs]
    exact q
theorem Ku:CH X (.type "list") (fun xs H Q=>∃ p ys,xs=[.ref p] /\ (SqL X.K H p ys ∨ SqT X.K H p ys) /\ ∀ l,H l=none->Q (.ref l) (upd H l (.lst ys))):=by
  intro pins s σ H xs us Q I r h
  obtain ⟨p,ys,rfl,hq,q⟩:=h
  obtain ⟨u,rfl,rx⟩:=FM r
  cases rx
  have fin:∀ (its:List Value),Vals ys its->ys.length <= sizeLine->∀ (h':Heap) (c':Nat),(∀ b o',s.heap.get? b=some o'->h'.get? b=some o')->
      h'.get? s.heap.objs.size=some { cls:=.type "list",dict:=none,data:=.seq its.toArray c',slots:=#[] }->EP X pins σ Q (.ref s.heap.objs.size) { s with heap:=h' }:=fun its r' hz h' c' kp e=>
    ⟨.ref s.heap.objs.size,_,I.laid (t':=s.toks) kp (Nat.le_refl _) (show ObjOk X.prog X.w _ h' _ (.lst ys) from ⟨hz,its,c',r',e⟩),rfl,q _ (I.hok.fresh (Nat.le_refl _))⟩
  rcases hq with hq | hq
  . obtain ⟨its,r',pl,hz⟩:=I.list hq
    have hlen:=r'.length
    obtain ⟨o,ho,hc,n,hd⟩:=pl.isList
    exact call_list_seq p (.inl rfl) ho hc hd (fun h' c' kp e=>fin its r' hz h' c' kp e) (by simp only [List.size_toArray] <;> omega)
  . obtain ⟨its,r',pl,hz⟩:=I.tuple hq
    have hlen:=r'.length
    obtain ⟨o,ho,hc,n,hd⟩:=pl
    exact call_list_seq p (.inr rfl) ho hc hd (fun h' c' kp e=>fin its r' hz h' c' kp e) (by simp only [List.size_toArray] <;> omega)
def tyV (K:PySem.W.Frag) (T:String) (x:V) (H:Hp):Prop:=match x with
  | .str _=>T = "str"
  | .int _=>T = "int"
  | .ref p=>(T = "list" /\ ∃ xs,SqL K H p xs) ∨ (T = "tuple" /\ ∃ o,K.lookup p=some o /\ o.cls=.type "tuple" /\ o.dict=none) ∨
      (T = "dict" /\ ((∃ kvs,H p=some (.dK kvs)) ∨ ∃ kvs,H p=some (.dT kvs))) ∨ (T = "set" /\ ∃ S n,H p=some (.set S n))
  | _=>False
theorem O3 {pins:List (Addr × Obj)} {σ:St} {H:Hp} {s:Shared} {T:String} {x:V} {v:Value} (I:Inv X pins σ H s) (r:RelV x v) (ty:tyV X.K T x H) :
    s.TypeIs v T /\ ∀ a,v=.ref a->∃ ob,s.heap.get? a=some ob /\ ob.dict=none:=by
  cases x with
  | str z=>
    obtain ⟨t,rfl⟩:=r
    cases (show T = "str" from ty)
    exact ⟨typeIs_str s z t,fun _ e=>nomatch e⟩
  | int i=>
    obtain ⟨t,rfl⟩:=r
    cases (show T = "int" from ty)
    exact ⟨typeIs_int s i t,fun _ e=>nomatch e⟩
  | ref p=>
    cases r
    rcases ty with ⟨rfl,xs,hq⟩ | ⟨rfl,o,hk,hc,hd⟩ | ⟨rfl,hk⟩ | ⟨rfl,S,n,hk⟩
    . obtain ⟨its,_,pl,_⟩:=I.list hq
      refine ⟨pl.isList.typeIs,fun a e=>?_⟩
      cases e
      obtain ⟨o,n,e,c,hd,_⟩:=pl
      exact ⟨o,e,hd⟩
    . refine ⟨⟨o,I.kIn p o hk,hc⟩,fun a e=>?_⟩
      cases e
      exact ⟨o,I.kIn _ o hk,hd⟩
    . have z:∃ o,s.heap.get? p=some o /\ o.ExactDict:=by
        rcases hk with ⟨kvs,hk⟩ | ⟨kvs,hk⟩
        . obtain ⟨_,_,_,_,o,_,_,e,ex,_⟩:=I.hok p _ hk
          exact ⟨o,e,ex⟩
        . obtain ⟨_,_,_,_,o,_,_,e,ex,_⟩:=I.hok p _ hk
          exact ⟨o,e,ex⟩
      obtain ⟨o,e,ex⟩:=z
      refine ⟨⟨o,e,ex.1⟩,fun a e2=>?_⟩
      cases e2
      exact ⟨o,e,ex.2.1⟩
    . obtain ⟨o,_,_,_,e,ex,_⟩:=I.hok p _ hk
      refine ⟨⟨o,e,ex.1⟩,fun a e2=>?_⟩
      cases e2
      exact ⟨o,e,ex.2.1⟩
  | _=>exact False.elim ty
def VO (K:PySem.W.Frag) (T:String) (r:V->List V->Hp->VK->Prop) (to:TE):TE:=fun σ H Q=>to σ H fun x H1=>tyV K T x H1 /\ r x [] H1 Q
def tBM (K:PySem.W.Frag) (T:String) (r:V->List V->Hp->VK->Prop) (to:TE) (t:TA):TE:=fun σ H Q=>to σ H fun x H1=>tyV K T x H1 /\ t σ H1 fun xs H2=>r x xs H2 Q
variable {o e:Expr} {es:List Expr} {to:TE} {t:TA} {name:Str} {apos cpos:Pos} {T id:String} {r:V->List V->Hp->VK->Prop}
theorem T9 (pa:PlainAttrs T) (slot:Slot T name id) (hty:typeOf (.builtin id)=pure (.type "method_descriptor")) (hm:MtR X id r) (ho:PE X o to)
    (hbase:attributeBase o name X.env (eval o X.env)=eval o X.env:=by rfl) (hline:(apos.endLine == cpos.line)=true:=by rfl):PE X (.Call (.Attribute o name apos) [] [] cpos) (VO X.K T r to):=by
  intro pins s σ H Q I h
  refine wpAny_Call_method0_late hbase hline (thn (ho pins s σ H _ I h) fun v s1 ⟨x,H1,I1,r1,ty,q1⟩=>?_)
  obtain ⟨h1,h2⟩:=O3 I1 r1 ty
  exact ⟨T,id,pa,slot,hty,h1,h2,Calls.callWith_builtin rfl (PySem.evalArgs_none (hm pins s1 σ H1 x [] v [] Q I1 r1 .nil q1))⟩
theorem Sr (pa:PlainAttrs T) (slot:Slot T name id) (hty:typeOf (.builtin id)=pure (.type "method_descriptor")) (hm:MtR X id r) (ho:PE X o to) (ha:PA X (e :: es) t)
    (hbase:attributeBase o name X.env (eval o X.env)=eval o X.env:=by rfl)
    (hfew:((backTo cpos (starEach (e :: es) X.env)).all (fun x=>!x.1) && (backToKw cpos (keywordEach [] X.env)).all (fun x=>x.1.isSome)
      && decide ((e :: es).length + ([]:List Keyword).length + (if ([]:List Keyword).isEmpty then 0 else 1) < 30))=true:=by rfl)
    (hline:(apos.endLine == cpos.line)=true:=by rfl) (hs:starEach (e :: es) X.env=(false,eval e X.env) :: starEach es X.env:=by rfl) (hplain:(backTo cpos (starEach es X.env)).any (·.1)=false:=by rfl) :
    PE X (.Call (.Attribute o name apos) (e :: es) [] cpos) (tBM X.K T r to t):=by
  intro pins s σ H Q I h
  refine wpAny_Call_method_late hbase hfew hline rfl (thn (ho pins s σ H _ I h) fun v s1 ⟨x,H1,I1,r1,ty,q1⟩=>?_)
  obtain ⟨h1,h2⟩:=O3 I1 r1 ty
  refine ⟨T,id,pa,slot,hty,h1,h2,?_⟩
  have hA:=ha cpos pins s1 σ H1 _ I1 q1
  rw [hs] at hA ⊢
  refine Calls.callWith_builtin (by show (false || (backTo cpos (starEach es X.env)).any (·.1))=false; rw [hplain] <;> rfl) (Calls.evalArgs_plain ?_)
  exact thn hA fun us s2 ⟨vs,H2,I2,r2,q2⟩=>hm pins s2 σ H2 x vs v us Q I2 r1 r2 q2
end
end L2
namespace L2
open PySem PySem.Spec PyProof.Rows
def MtM (X:Cx) (id:String) (r:V->List V->Hp->VK->Prop):Prop:=
  ∀ (pins:List (Addr × Obj)) (s:Shared) (σ:St) (H:Hp) (x:V) (xs:List V) (v:Value) (us:List Value) (Q:VK),Inv X pins σ H s->RelV x v->Vals xs us->r x xs H Q->
    wpAny (model X.prog X.w) X.A (call (.builtin id) (v :: us)) (EP X pins σ Q) X.xe s
theorem Vals.one:∀ {x:V} {us:List Value},Vals [x] us->∃ u,us=[u] /\ RelV x u
  | _,_,.cons r .nil=>⟨_,rfl,r⟩
theorem Vals.two:∀ {x y:V} {us:List Value},Vals [x,y] us->∃ u v,us=[u,v] /\ RelV x u /\ RelV y v
  | _,_,_,.cons r (.cons q .nil)=>⟨_,_,rfl,r,q⟩
theorem Vals.rep {xs:List V} {us:List Value} (h:Vals xs us):∀ k:Nat,Vals (List.replicate k xs).flatten (List.replicate k us).flatten
  | 0=>.nil
  | k + 1=>by
    rw [List.replicate_succ,List.replicate_succ,List.flatten_cons,List.flatten_cons]
    exact Vals.append h (Vals.rep h k)
theorem Jr (its:List Value):∀ (k:Nat) (acc:List Value),
    List.foldl (fun x1 x2=>x1 ++ x2) acc.toArray (List.replicate k its.toArray)=(acc ++ (List.replicate k its).flatten).toArray
  | 0,acc=>by simp
  | k + 1,acc=>by
    have e:acc.toArray ++ its.toArray=(acc ++ its).toArray:=by simp
    have e2:(acc ++ its) ++ (List.replicate k its).flatten=acc ++ (List.replicate (k + 1) its).flatten:=by
      rw [List.replicate_succ,List.flatten_cons,List.append_assoc]
    rw [← e2,← Jr its k (acc ++ its),← e,List.replicate_succ,List.foldl_cons]
section
variable {X:Cx} {pins:List (Addr × Obj)} {σ:St} {H:Hp} {s:Shared} {l b:Addr} {xs ys zs:List V}
theorem Inv.lset {its its':List Value} {n:Nat} {f:Array Value->Array Value} {t':Nat} (I:Inv X pins σ H s) (hH:H l=some (.lst xs))
    (e:s.heap.get? l=some { cls:=.type "list",data:=.seq its.toArray n }) (hf:f its.toArray=its'.toArray) (hv:Vals ys its') (hz:ys.length <= sizeLine) :
    Inv X pins σ (upd H l (.lst ys)) { s with heap:=s.heap.update l (Obj.mapSeq f),toks:=t' }:=by
  have q:=PySem.IsL.update e f
  rw [hf] at q
  refine I.write (x:=l) (e:=l) (by rw [hH]; exact trivial) (.inl rfl) (fun b' u hb hu=>(Heap.get?_update_other s.heap (Obj.mapSeq f) (Ne.symm hb)).trans hu) ⟨_,q⟩ ?_
  exact ⟨hz,its',_,hv,q⟩
theorem Inv.lnew {its:List Value} {t':Nat} (I:Inv X pins σ H s) (hv:Vals ys its) (hz:ys.length <= sizeLine) :
    Inv X pins σ (upd H s.heap.objs.size (.lst ys)) { s with heap:=s.heap.push { cls:=.type "list",data:=.seq its.toArray },toks:=t' }:=
  I.laid (fun _ _ q=>Heap.get?_push_of_some _ q) (Nat.le_refl _) ⟨hz,its,0,hv,Heap.get?_push_size _ rfl⟩
theorem Inv.fresh (I:Inv X pins σ H s):H s.heap.objs.size=none:=I.hok.fresh (Nat.le_refl _)
theorem Inv.lstM (I:Inv X pins σ H s) (hH:H l=some (.lst xs)):xs.length <= sizeLine /\ ∃ (its:List Value) (n:Nat),Vals xs its /\ xs.length=its.length /\ s.heap.get? l=some { cls:=.type "list",data:=.seq its.toArray n }:=by
  obtain ⟨z,its,n,r,e⟩:=I.hok l _ hH
  exact ⟨z,its,n,r,r.length,e⟩
theorem LU {n:Nat} (h:n <= sizeLine):Builtin.List.listTooLong n=false:=by
  unfold Builtin.List.listTooLong
  exact decide_eq_false (by omega)
end
section
variable {X:Cx}
def RH:V->List V->Hp->VK->Prop:=fun x vs H Q=>∃ l xs y,x=.ref l /\ vs=[y] /\ H l=some (.lst xs) /\ xs.length < sizeLine /\ Q .non (upd H l (.lst (xs ++ [y])))
theorem OE:MtM X "list.append" RH:=by
  intro pins s σ H x vs v us Q I rx rv h
  obtain ⟨l,xs,y,rfl,rfl,hH,hz,q⟩:=h
  cases rx
  obtain ⟨u,rfl,ru⟩:=rv.one
  obtain ⟨z,its,n,r,hl,e⟩:=I.lstM hH
  refine call_meets F.slot_list_append ⟨_,e,rfl⟩ F.entry_list_append (F.args_list_append_2 _ _) (PySem.list_append l its.toArray n u (by rw [List.size_toArray]; omega)) ⟨e,?_⟩
  refine ⟨.non,_,I.lset (its':=its ++ [u]) hH e (by simp) (r.append (.cons ru .nil)) ?_,rfl,q⟩
  rw [List.length_append,List.length_singleton]
  omega
def RF:V->List V->Hp->VK->Prop:=fun x vs H Q=>∃ l b xs zs,x=.ref l /\ vs=[.ref b] /\ H l=some (.lst xs) /\ H b=some (.lst zs) /\ xs.length + zs.length <= sizeLine /\ Q .non (upd H l (.lst (xs ++ zs)))
theorem OD:MtM X "list.extend" RF:=by
  intro pins s σ H x vs v us Q I rx rv h
  obtain ⟨l,b,xs,zs,rfl,rfl,hH,hB,hz,q⟩:=h
  cases rx
  obtain ⟨u,rfl,ru⟩:=rv.one
  cases ru
  obtain ⟨z,its,n,r,hl,e⟩:=I.lstM hH
  obtain ⟨z2,its2,n2,r2,hl2,e2⟩:=I.lstM hB
  have hsz:its.toArray.size + its2.toArray.size <= sizeLine:=by rw [List.size_toArray,List.size_toArray]; omega
  have hlong : ¬ (!its.toArray.isEmpty && Builtin.List.listTooLong (its.toArray.size + its2.toArray.size))=true:=by
    rw [LU hsz,Bool.and_false]
    exact Bool.false_ne_true
  refine call_meets F.slot_list_extend ⟨_,e,rfl⟩ F.entry_list_extend (F.args_list_extend_2 _ _)
    (AutoSeq1.list_extend_list_list_0 l its.toArray n b its2.toArray n2 hlong (by rw [List.size_toArray]; omega) (by omega)) ⟨e,e2,?_⟩
  refine ⟨.non,_,I.lset (its':=its ++ its2) hH e (by simp) (r.append r2) ?_,rfl,q⟩
  rw [List.length_append]
  omega
def Wk:R2:=fun x y H Q=>∃ l b xs zs,x=.ref l /\ y=.ref b /\ H l=some (.lst xs) /\ H b=some (.lst zs) /\ xs.length + zs.length <= sizeLine /\ ∀ p,H p=none->Q (.ref p) (upd H p (.lst (xs ++ zs)))
theorem UO:OpR X (binaryOp .Add) Wk:=by
  intro pins s σ H x y v u Q I rx ry h
  obtain ⟨l,b,xs,zs,rfl,rfl,hH,hB,hz,q⟩:=h
  cases rx
  cases ry
  obtain ⟨z,its,n,r,hl,e⟩:=I.lstM hH
  obtain ⟨z2,its2,n2,r2,hl2,e2⟩:=I.lstM hB
  refine PySem.P.add_list e e2 ?_ (by rw [List.size_toArray,List.size_toArray]; omega)
  have ea:its.toArray ++ its2.toArray=(its ++ its2).toArray:=by simp
  rw [ea]
  exact ⟨.ref _,_,I.lnew (t':=s.toks) (r.append r2) (by rw [List.length_append]; omega),rfl,q _ I.fresh⟩
def Wi:R2:=fun x y H Q=>∃ l k xs,x=.ref l /\ y=.int k /\ H l=some (.lst xs) /\ -(2 ^ 63) <= k /\ k < 2 ^ 63 /\ xs.length * k.toNat <= sizeLine /\
  ∀ p,H p=none->Q (.ref p) (upd H p (.lst (List.replicate k.toNat xs).flatten))
theorem SB {α:Type} (xs:List α) (k:Nat):(List.replicate k xs).flatten.length=k * xs.length:=by
  induction k with
  | zero=>simp
  | succ k ih=>rw [List.replicate_succ,List.flatten_cons,List.length_append,ih,Nat.succ_mul,Nat.add_comm]
theorem UH:OpR X (binaryOp .Mult) Wi:=by
  intro pins s σ H x y v u Q I rx ry h
  obtain ⟨l,k,xs,rfl,rfl,hH,h1,h2,hz,q⟩:=h
  cases rx
  obtain ⟨t,rfl⟩:=ry
  obtain ⟨z,its,n,r,hl,e⟩:=I.lstM hH
  have hlen:its.toArray.size * k.toNat <= sizeLine:=by rw [List.size_toArray,← hl]; exact hz
  have hcap : ¬ its.toArray.size * k.toNat > (2 ^ 63 - 1) / 8:=by
    have:(sizeLine:Nat) <= (2 ^ 63 - 1) / 8:=by decide
    omega
  have hfit : ¬ (!Builtin.List.listFitsIndex k)=true:=by
    rw [fitsIndex_both h1 h2]
    exact Bool.false_ne_true
  have hlong : ¬ Builtin.List.listTooLong (its.toArray.size * k.toNat)=true:=by
    rw [LU hlen]
    exact Bool.false_ne_true
  have hnew:List.foldl (fun x1 x2=>x1 ++ x2) #[] (List.replicate (if its.toArray.isEmpty=true then 0 else k.toNat) its.toArray)=(List.replicate k.toNat its).flatten.toArray:=by
    have f0:∀ m:Nat,List.foldl (fun x1 x2=>x1 ++ x2) #[] (List.replicate m its.toArray)=(List.replicate m its).flatten.toArray:=fun m=>by
      have:=Jr its m []
      rw [List.nil_append] at this
      exact this
    rw [f0]
    cases its with
    | nil=>simp
    | cons a r'=>rw [if_neg (by simp)]
  refine wpAny_binaryOp_repeat_ref (T := "list") (U := "int") (by decide) ⟨_,e,rfl⟩ (fun s'=>typeIs_int s' k t) noFill_list_mul F.fills_int_mul F.slot_int_rmul repeat_list F.slot_int_index.lookup
    (call_meets F.slot_int_rmul (typeIs_int s k t) F.entry_int_rmul (F.args_int_rmul_2 _ _) (int___rmul___int_list k t l its.toArray n)
      ⟨e,rfl,⟨_,e,rfl⟩,call_meets F.slot_list_mul ⟨_,e,rfl⟩ F.entry_list_mul (F.args_list_mul_2 _ _) (AutoListH.list___mul___list_int_3 l its.toArray n k t hfit hcap hlong) ⟨e,?_⟩⟩)
  rw [hnew]
  exact ⟨.ref _,_,I.lnew (t':=s.toks) (r.rep k.toNat) (by rw [SB,Nat.mul_comm]; exact hz),rfl,q _ I.fresh⟩
end
section
variable {prog:Program} {w:World} {A:Around} {E:Value->Shared->Prop} {s:Shared}
end
section
variable {X:Cx}
end
end L2
namespace L2
open PySem PySem.Spec PyProof.Rows
section
variable {κ:Type} [DecidableEq κ]
def FN (kvs:List (κ × V)) (k:κ):Option V:=(kvs.find? fun kv=>decide (kv.1=k)).map (·.2)
def E8 (kvs:List (κ × V)) (k:κ) (v:V):List (κ × V):=
  if (kvs.any fun kv=>decide (kv.1=k))=true then kvs.map (fun kv=>if kv.1=k then (kv.1,v) else kv) else kvs ++ [(k,v)]
theorem Hw {p:κ × V} {r:List (κ × V)} {k:κ} (e:p.1=k):FN (p :: r) k=some p.2:=by simp [FN,List.find?_cons,e]
theorem Hy {p:κ × V} {r:List (κ × V)} {k:κ} (e : ¬ p.1=k):FN (p :: r) k=FN r k:=by simp [FN,List.find?_cons,e]
theorem K2 (k:κ):∀ kvs:List (κ × V),(kvs.any fun kv=>decide (kv.1=k))=(FN kvs k).isSome
  | []=>rfl
  | p :: r=>by
    rw [List.any_cons]
    by_cases e:p.1=k
    . simp only [Hw e,decide_eq_true e,Bool.true_or,Option.isSome_some]
    . rw [Hy e,decide_eq_false e,Bool.false_or]; exact K2 k r
theorem Fa (kvs:List (κ × V)) (k:κ) (v:V):(E8 kvs k v).length <= kvs.length + 1:=by
  unfold E8
  split
  . rw [List.length_map]; omega
  . rw [List.length_append,List.length_cons,List.length_nil]; omega
theorem RelO.isSome_eq {o:Option V} {u:Option Value} (r:RelO o u):o.isSome=u.isSome:=by
  cases o with
  | none=>cases u with
    | none=>rfl
    | some _=>exact (show False from r).elim
  | some _=>cases u with
    | none=>exact (show False from r).elim
    | some _=>rfl
theorem RelO.getD {o:Option V} {u:Option Value} {d:V} {d':Value} (r:RelO o u) (rd:RelV d d'):RelV (o.getD d) (u.getD d'):=by
  cases o with
  | none=>cases u with
    | none=>exact rd
    | some _=>exact (show False from r).elim
  | some _=>cases u with
    | none=>exact (show False from r).elim
    | some _=>exact r
theorem KV.val {kvs:List (κ × V)} {vs:List (κ × Value)} (r:KV kvs vs) (k:κ):RelO (FN kvs k) (valueAt vs k):=by
  unfold KV at r
  induction r with
  | nil=>exact True.intro
  | @cons p q ps qs h t ih=>
    obtain ⟨h1,h2⟩:=h
    by_cases e:p.1=k
    . have e':q.1=k:=h1.symm.trans e
      have b:valueAt (q :: qs) k=some q.2:=by simp [valueAt,List.find?_cons,e']
      rw [Hw e,b]; exact h2
    . have e' : ¬ q.1=k:=fun z=>e (h1.trans z)
      have b:valueAt (q :: qs) k=valueAt qs k:=by simp [valueAt,List.find?_cons,e']
      rw [Hy e,b]; exact ih
theorem KV.any {kvs:List (κ × V)} {vs:List (κ × Value)} (r:KV kvs vs) (k:κ):(kvs.any fun kv=>decide (kv.1=k))=vs.any fun kv=>decide (kv.1=k):=by
  unfold KV at r
  induction r with
  | nil=>rfl
  | cons h t ih=>rw [List.any_cons,List.any_cons,ih,h.1]
theorem KV.repl {kvs:List (κ × V)} {vs:List (κ × Value)} (r:KV kvs vs) (k:κ) {y:V} {u:Value} (ry:RelV y u) :
    KV (kvs.map fun kv=>if kv.1=k then (kv.1,y) else kv) (vs.map fun kv=>if kv.1=k then (kv.1,u) else kv):=by
  unfold KV at r ⊢
  induction r with
  | nil=>exact .nil
  | @cons p q ps qs h t ih=>
    rw [List.map_cons,List.map_cons]
    refine .cons ?_ ih
    obtain ⟨h1,h2⟩:=h
    by_cases e:p.1=k
    . rw [if_pos e,if_pos (h1.symm.trans e)]; exact ⟨h1,ry⟩
    . rw [if_neg e,if_neg (fun z=>e (h1.trans z))]; exact ⟨h1,h2⟩
theorem KV.put {kvs:List (κ × V)} {vs:List (κ × Value)} (r:KV kvs vs) (k:κ) {y:V} {u:Value} (ry:RelV y u):KV (E8 kvs k y) (stored vs k u):=by
  unfold E8 stored
  rw [r.any k]
  by_cases e:(vs.any fun kv=>decide (kv.1=k))=true
  . rw [if_pos e,if_pos e]; exact r.repl k ry
  . rw [if_neg e,if_neg e]; exact Paired.snoc r ⟨rfl,ry⟩
theorem KV.length {kvs:List (κ × V)} {vs:List (κ × Value)} (r:KV kvs vs):kvs.length=vs.length:=Paired.length r
end
theorem Lg {P:Program} {w:World} {k:Key} {u:Value} (r:RelV (kV k) u):(Bm P w).is k u=true:=by
  cases k with
  | inl i=>obtain ⟨t,e⟩:=(show ∃ t,u=Value.int i t from r); subst e; exact LX P w i t
  | inr x=>obtain ⟨t,e⟩:=(show ∃ t,u=Value.str x t from r); subst e; exact LW P w x t
theorem Jn {P:Program} {w:World}:∀ {ks:List Key} {us:List Value},Vals (ks.map kV) us->ItemsAre (Bm P w) ks us
  | [],_,r=>by rw [List.map_nil] at r; cases r; exact .nil
  | k :: ks,_,r=>by
    rw [List.map_cons] at r
    cases r with
    | cons h t=>exact .cons (Lg h) (Jn t)
abbrev KT (H:Hp):List (List Key × V)->List (List Key × Addr × Value)->Prop:=Paired fun p q=>p.1=q.1 /\ H q.2.1=some (.tup (p.1.map kV)) /\ RelV p.2 q.2.2
theorem KT.val {H:Hp} {kvs:List (List Key × V)} {xs:List (List Key × Addr × Value)} (r:KT H kvs xs) (k:List Key):RelO (FN kvs k) ((atKey xs k).map (·.2)):=by
  induction r with
  | nil=>exact True.intro
  | @cons p q ps qs h t ih=>
    obtain ⟨h1,_,h2⟩:=h
    by_cases e:p.1=k
    . have e':q.1=k:=h1.symm.trans e
      have b:atKey (q :: qs) k=some q.2:=by simp [atKey,List.find?_cons,e']
      rw [Hw e,b]; exact h2
    . have e' : ¬ q.1=k:=fun z=>e (h1.trans z)
      have b:atKey (q :: qs) k=atKey qs k:=by simp [atKey,List.find?_cons,e']
      rw [Hy e,b]; exact ih
theorem KT.repl {H:Hp} {kvs:List (List Key × V)} {xs:List (List Key × Addr × Value)} (r:KT H kvs xs) (k:List Key) {y:V} {u:Value} (ry:RelV y u) :
    KT H (kvs.map fun kv=>if kv.1=k then (kv.1,y) else kv) (xs.map (putAt k u)):=by
  induction r with
  | nil=>exact .nil
  | @cons p q ps qs h t ih=>
    rw [List.map_cons,List.map_cons]
    refine .cons ?_ ih
    obtain ⟨h1,h2,h3⟩:=h
    unfold putAt
    by_cases e:p.1=k
    . rw [if_pos e,if_pos (h1.symm.trans e)]; exact ⟨h1,h2,ry⟩
    . rw [if_neg e,if_neg (fun z=>e (h1.trans z))]; exact ⟨h1,h2,h3⟩
theorem KT.put {H:Hp} {kvs:List (List Key × V)} {xs:List (List Key × Addr × Value)} (r:KT H kvs xs) (k:List Key) {b:Addr} {y:V} {u:Value} (hb:H b=some (.tup (k.map kV))) (ry:RelV y u) :
    KT H (E8 kvs k y) (storedH xs k b u):=by
  have e:(kvs.any fun kv=>decide (kv.1=k))=(atKey xs k).isSome:=by
    rw [K2,(r.val k).isSome_eq,Option.isSome_map]
  unfold E8 storedH
  rw [e]
  by_cases q:(atKey xs k).isSome=true
  . rw [if_pos q,if_pos q]; exact r.repl k ry
  . rw [if_neg q,if_neg q]; exact Paired.snoc r ⟨rfl,hb,ry⟩
theorem KT.keeps {H H':Hp} {kvs:List (List Key × V)} {xs:List (List Key × Addr × Value)} (r:KT H kvs xs) (ht:∀ b ys,H b=some (.tup ys)->H' b=some (.tup ys)):KT H' kvs xs:=
  Paired.mapP r fun _ _ z=>⟨z.1,ht _ _ z.2.1,z.2.2⟩
section
variable {P:Program} {w:World} {H:Hp} {h:Heap} {a:Addr}
theorem So {u:HO} (ok:HOk P w H h) (e:Rd H a u):ObjOk P w H h a u:=e.ok ok
theorem NW {kvs:List (Key × V)} (ok:HOk P w H h) (e:Rd H a (.dK kvs)):kvs.length <= sizeLine /\ (a == sysModules)=false /\ ∃ vs,KV kvs vs /\ h.DictOf (Bm P w) a vs:=
  show ObjOk P w H h a (.dK kvs) from So ok e
theorem TB {kvs:List (Key × V)} (ok:HOk P w H h) (e:H a=some (.dK kvs)):kvs.length <= sizeLine /\ (a == sysModules)=false /\ ∃ vs,KV kvs vs /\ h.DictOf (Bm P w) a vs:=NW ok (.inl e)
theorem Kj {ks:List Key} (ok:HOk P w H h) (e:H a=some (.tup (ks.map kV))):(tupleKind (Bm P w)).is h ks a:=by
  obtain ⟨_,its,r,o,h1,h2,n,h3⟩:=(show ObjOk P w H h a (.tup (ks.map kV)) from ok a _ e)
  exact ⟨o,its.toArray,n,h1,h2,h3,by simpa using Jn r⟩
theorem NV {kvs:List (List Key × V)} (ok:HOk P w H h) (e:Rd H a (.dT kvs)):kvs.length <= sizeLine /\ (a == sysModules)=false /\
    ∃ xs,KT H kvs xs /\ h.DictOfH (tupleKind (Bm P w)) a xs:=by
  obtain ⟨z,y,xs,r,o,es,ep,h1,h2,h3,h4,h5⟩:=(show ObjOk P w H h a (.dT kvs) from So ok e)
  refine ⟨z,y,xs,r,o,es,ep,h1,h2,h3,h4,fun x hx=>?_,h5⟩
  have all:∀ {l:List (List Key × V)} {m:List (List Key × Addr × Value)},KT H l m->∀ x ∈ m,(tupleKind (Bm P w)).is h x.1 x.2.1:=by
    intro l m q
    induction q with
    | nil=>intro x hx; exact nomatch hx
    | @cons p q ps qs hq t ih=>
      intro x hx
      rcases List.mem_cons.mp hx with e | hx
      . subst e
        exact Kj ok (by rw [← hq.1]; exact hq.2.1)
      . exact ih x hx
  exact all r x hx
theorem WH {kvs:List (List Key × V)} (ok:HOk P w H h) (e:H a=some (.dT kvs)):kvs.length <= sizeLine /\ (a == sysModules)=false /\
    ∃ xs,KT H kvs xs /\ h.DictOfH (tupleKind (Bm P w)) a xs:=NV ok (.inl e)
end
def DGet (H:Hp) (a:Addr) (y:V) (r:Option V):Prop:=
  (∃ kvs k,Rd H a (.dK kvs) /\ y=kV k /\ r=FN kvs k) ∨ ∃ kvs k b,Rd H a (.dT kvs) /\ y=.ref b /\ H b=some (.tup (k.map kV)) /\ r=FN kvs k
def DPut (H:Hp) (a:Addr) (y v:V) (H':Hp):Prop:=
  (∃ kvs k,H a=some (.dK kvs) /\ y=kV k /\ kvs.length < sizeLine /\ H'=upd H a (.dK (E8 kvs k v))) ∨
  ∃ kvs k b,H a=some (.dT kvs) /\ y=.ref b /\ H b=some (.tup (k.map kV)) /\ kvs.length < sizeLine /\ H'=upd H a (.dT (E8 kvs k v))
theorem DGet.k {H:Hp} {a:Addr} {kvs:List (Key × V)} {k:Key} (e:H a=some (.dK kvs)):DGet H a (kV k) (FN kvs k):=.inl ⟨kvs,k,.inl e,rfl,rfl⟩
theorem DPut.k {H:Hp} {a:Addr} {kvs:List (Key × V)} {k:Key} {v:V} (e:H a=some (.dK kvs)) (hl:kvs.length < sizeLine):DPut H a (kV k) v (upd H a (.dK (E8 kvs k v))):=.inl ⟨kvs,k,e,rfl,hl,rfl⟩
section
variable {X:Cx} {pins:List (Addr × Obj)} {σ:St} {H:Hp} {s:Shared} {a:Addr} {y v:V} {u r:Value} {o:Option V} {A:Around} {E:Value->Shared->Prop}
theorem Inv.big (I:Inv X pins σ H s):sysModules < s.heap.objs.size:=by
  have h:mainGlobals < s.heap.objs.size:=(I.mod.glob.keeps I.bk).lt
  exact Nat.lt_trans (by decide) h
theorem Ww {Q:Value->Shared->Prop} (hu:A.units + 1 < cLine) (I:Inv X pins σ H s) (g:DGet H a y o) (ry:RelV y u) (h:∀ s',Inv X pins σ H s'->Q (.bool o.isSome) s') :
    wpAny (model X.prog X.w) A (compareOp .In u (.ref a)) Q E s:=by
  rcases g with ⟨kvs,k,e,ey,l⟩ | ⟨kvs,k,b,e,ey,eb,l⟩
  . subst ey
    obtain ⟨z,hd,vs,rel,dd⟩:=NW I.hok e
    refine wpAny_in_of (Lg ry) hd dd.mapOf ?_
    rw [← (rel.val k).isSome_eq,← l]
    exact h _ (I.tok _)
  . subst ey
    cases (show u=Value.ref b from ry)
    obtain ⟨z,hd,xs,rel,dd⟩:=NV I.hok e
    refine wpAny_in_heap (tupleKind_room_in1 hu) (Kj I.hok eb) hd dd ?_
    have q:=(rel.val k).isSome_eq
    rw [Option.isSome_map] at q
    rw [← q,← l]
    exact h _ (I.tok _)
theorem Kt {h':Heap} {t':Nat} {ob:HO} (I:Inv X pins σ H s) (mu:Mut (H a)) (hs:Heap.SameBut a s.heap h') (he:∃ q,h'.get? a=some q) (new:ObjOk X.prog X.w (upd H a ob) h' a ob) :
    Inv X pins σ (upd H a ob) { s with heap:=h',toks:=t' }:=
  I.write (x:=a) (e:=a) mu (.inl rfl) (fun b q hb z=>(hs.2 b hb).trans z) he new
theorem QY {P:Program} {w:World} {H':Hp} {h':Heap} {kvs:List (Key × V)} {vs:List (Key × Value)} (z:kvs.length <= sizeLine) (hd:(a == sysModules)=false) (rel:KV kvs vs) (dd:h'.DictOf (Bm P w) a vs) :
    ObjOk P w H' h' a (.dK kvs):=⟨z,hd,vs,rel,dd⟩
theorem Oa {H':Hp} {Q:Unit->Shared->Prop} (hu:A.units + 1 < cLine) (I:Inv X pins σ H s) (g:DPut H a y v H') (ry:RelV y u) (rv:RelV v r) (h:∀ s',Inv X pins σ H' s'->Q () s') :
    wpAny (model X.prog X.w) A (setItem (.ref a) u r) Q E s:=by
  rcases g with ⟨kvs,k,e,ey,l,eH⟩ | ⟨kvs,k,b,e,ey,eb,l,eH⟩
  . subst ey eH
    obtain ⟨z,hd,vs,rel,dd⟩:=TB I.hok e
    have hz:vs.length <= sizeLine:=by rw [← rel.length]; exact z
    have hl:(E8 kvs k v).length <= sizeLine:=by have:=Fa kvs k v; omega
    refine wpAny_setItem_pairs (hsz:=hz) (Lg ry) dd fun h' dd' hs=>h _ ?_
    have he:∃ q,h'.get? a=some q:=let ⟨q,_,_,hq,_⟩:=dd'; ⟨q,hq⟩
    exact Kt I (by rw [e]; exact True.intro) hs he (QY hl hd (rel.put k rv) dd')
  . subst ey eH
    cases (show u=Value.ref b from ry)
    obtain ⟨z,hd,xs,rel,dd⟩:=WH I.hok e
    have hz:xs.length <= sizeLine:=by rw [← Paired.length rel]; exact z
    have hl:(E8 kvs k v).length <= sizeLine:=by have:=Fa kvs k v; omega
    refine wpAny_setItem_heap (hsz:=hz) (tupleKind_room_in1 hu) (Kj I.hok eb) dd fun h' dd' hs=>h _ ?_
    obtain ⟨q,es,ep,hq,h2,h3,h4,_,h5⟩:=dd'
    refine Kt I (by rw [e]; exact True.intro) hs ⟨q,hq⟩ ⟨hl,hd,_,(rel.put k eb rv).keeps fun c ys ec=>?_,q,es,ep,hq,h2,h3,h4,h5⟩
    rw [A8 (Vy ec e (fun z=>nomatch z))]
    exact ec
end
section
variable {X:Cx} {pins:List (Addr × Obj)} {σ:St} {H:Hp} {s:Shared} {a:Addr} {kvs:List (Key × V)} {k:Key} {u:Value} {A:Around} {E:Value->Shared->Prop}
end
def U3 (i:Expr):Prop:=∀ ov iv,subscripted i false ov iv=operate [ov,iv] (getItem ov iv)
theorem Qu {prog:Program} {w:World} {A:Around} {E:Value->Shared->Prop} {s:Shared} {env:Env} {value slice:Expr} {pos:Pos} {T id:String} {Q:Value->Shared->Prop}
    (hl:typeLookup (.type T) "__getitem__" = pure (some (.builtin id))) (hs:U3 slice)
    (h:wpAny (model prog w) A (eval value env) (fun o s₁=>wpAny (model prog w) A (eval slice env) (fun i s₂=>s₂.TypeIs o T /\ wpAny (model prog w) A (getItem o i) Q E s₂) E s₁) E s) :
    wpAny (model prog w) A (eval (.Subscript value slice pos) env) Q E s:=by
  refine Subscript_ (wpAny_mono h (fun o s₁ h₁=>wpAny_mono h₁ (fun i s₂ h₂=>?_) fun _ _ x=>x) fun _ _ x=>x)
  obtain ⟨hT,h₂⟩:=h₂
  unfold subscriptTail
  refine wpAny_bind ?_
  rw [getitemInPython_of_ne hT.not_modules]
  refine wpAny_bind (wpAny_specialOf hT hl ?_)
  have fin:wpAny (model prog w) A (subscripted slice false o i) (fun r s₃=>wpAny (model prog w) A (letTemporaryGo value o r >>= fun _=>pure r) Q E s₃) E s₂:=by
    rw [hs o i]
    exact wpAny_operating (wpAny_mono h₂ (fun r s₃ h₃=>wpAny_bind (wpAny_letTemporaryGo (wpAny_pure h₃))) fun _ _ x=>x)
  first
    | exact wpAny_pure (wpAny_bind fin)
    | exact wpAny_bind (wpAny_pure (wpAny_bind fin))
    | exact wpAny_bind fin
def VL (ty td:TE):TE:=fun σ H Q=>ty σ H fun y H1=>td σ H1 fun x H2=>∃ a o,x=.ref a /\ DGet H2 a y o /\ Q (.bl o.isSome) H2
def VQ (td ty tv:TE):TS:=fun D σ H=>tv σ H fun v H1=>td σ H1 fun x H2=>ty σ H2 fun y H3=>∃ a H4,x=.ref a /\ DPut H3 a y v H4 /\ D.nx σ H4
section
variable {X:Cx} {o i e value:Expr} {pos pos' tpos:Pos} {td ty tv:TE}
theorem UC (hu:X.A.units + 1 < cLine) (hi:PE X i ty) (ho:PE X o td):PC X .In i o (VL ty td):=by
  intro pins s σ H Q I h
  refine thn (hi pins s σ H _ I h) fun iv s1 ⟨y,H1,I1,ry,q1⟩=>thn (ho pins s1 σ H1 _ I1 q1) fun u s2 ⟨x,H2,I2,rx,a,ov,ex,g,q2⟩=>?_
  subst ex
  obtain rfl:u=Value.ref a:=rx
  exact Ww hu I2 g ry fun s3 I3=>⟨.bl ov.isSome,H2,I3,rfl,q2⟩
theorem Rb (hu:X.A.units + 1 < cLine) (ho:PE X o td) (hi:PE X i ty) (hv:PE X value tv) (hs:swapsWith value (some (.Subscript o i pos')) pos.line X.env=pure false) :
    PS X (.Assign [.Subscript o i pos'] value pos) (VQ td ty tv):=by
  intro pins s σ H D I h
  refine wpAny_Assign_Subscript (thn (hv pins s σ H _ I h) fun r s1 ⟨v,H1,I1,rv,q1⟩=>thn (ho pins s1 σ H1 _ I1 q1) fun u s2 ⟨x,H2,I2,rx,q2⟩=>thn (hi pins s2 σ H2 _ I2 q2) fun iv s3 ⟨y,H3,I3,ry,a,H4,ex,g,q3⟩=>?_) hs
  subst ex
  obtain rfl:u=Value.ref a:=rx
  exact Oa hu I3 g ry rv fun s4 I4=>⟨σ,H4,I4,q3⟩
end
theorem Ln {P:Program} {w:World} {H:Hp} (h:Heap) (hb:sysModules < h.objs.size):ObjOk P w H (h.push { cls:=.type "dict",data:=.dict #[] }) h.objs.size (.dK []):=
  ⟨Nat.zero_le _,beq_eq_false_iff_ne.mpr (Ne.symm (Nat.ne_of_lt hb)),[],.nil,Heap.DictOf.new h⟩
def TU:TE:=fun _ H Q=>∀ p,H p=none->Q (.ref p) (upd H p (.dK []))
section
variable {X:Cx} {pos:Pos}
theorem Ps:PE X (.Dict [] [] pos) TU:=fun pins s σ H Q I h=>
  wpAny_Dict_empty ⟨.ref s.heap.objs.size,_,I.laid (a:=s.heap.objs.size) (o:=.dK []) (t':=s.toks) (fun _ _ q=>Heap.get?_push_of_some _ q) (Nat.le_refl _) (Ln s.heap I.big),rfl,h _ (I.hok.fresh (Nat.le_refl _))⟩
end
def ME:List (TE × TE)->St->Hp->(List (V × V)->Hp->Prop)->Prop
  | [],_,H,Q=>Q [] H
  | (tk,tv) :: r,σ,H,Q=>tk σ H fun x H1=>tv σ H1 fun y H2=>ME r σ H2 fun ps H3=>Q ((x,y) :: ps) H3
abbrev VV:List (V × V)->List (Value × Value)->Prop:=Paired fun p q=>RelV p.1 q.1 /\ RelV p.2 q.2
def PPs (X:Cx) (pos:Pos) (keys:List (Option Expr)) (values:List Expr) (trs:List (TE × TE)):Prop:=
  ∀ (pins:List (Addr × Obj)) (s:Shared) (σ:St) (H:Hp) (Q:List (V × V)->Hp->Prop),Inv X pins σ H s->ME trs σ H Q->
    wpAny (model X.prog X.w) X.A (evalPairs (pairTrees keys values X.env pos)) (fun vs s'=>∃ ps H',Inv X pins σ H' s' /\ VV ps vs /\ Q ps H') X.xe s
theorem Rc {X:Cx} {pos:Pos}:PPs X pos [] [] []:=fun pins s σ H Q I h=>pairTrees_nil_walk ⟨[],H,I,.nil,h⟩
theorem LQ {X:Cx} {pos:Pos} {k v:Expr} {ks:List (Option Expr)} {vs:List Expr} {tk tv:TE} {trs:List (TE × TE)} (hk:PE X k tk) (hv:PE X v tv) (hr:PPs X pos ks vs trs) :
    PPs X pos (some k :: ks) (v :: vs) ((tk,tv) :: trs):=fun pins s σ H Q I h=>
  pairTrees_cons_walk (thn (hk pins s σ H _ I h) fun u s1 ⟨x,H1,I1,rx,q1⟩=>thn (hv pins s1 σ H1 _ I1 q1) fun w2 s2 ⟨y,H2,I2,ry,q2⟩=>
    thn (hr pins s2 σ H2 _ I2 q2) fun ws s3 ⟨ps,H3,I3,rel,q3⟩=>⟨(x,y) :: ps,H3,I3,.cons ⟨rx,ry⟩ rel,q3⟩)
def GE (kvs more:List (Key × V)):List (Key × V):=more.foldl (fun acc kv=>E8 acc kv.1 kv.2) kvs
theorem KV.merge:∀ {more:List (Key × V)} {rs:List (Key × Value)} {kvs:List (Key × V)} {vs:List (Key × Value)},KV more rs->KV kvs vs->KV (GE kvs more) (merged vs rs):=by
  intro more rs kvs vs r
  unfold KV at r
  induction r generalizing kvs vs with
  | nil=>intro q; exact q
  | @cons p q ps qs h t ih=>
    intro r0
    have e:KV (E8 kvs p.1 p.2) (stored vs q.1 q.2):=by
      have:=r0.put p.1 h.2
      rw [← h.1]; exact this
    exact ih e
theorem F3:∀ (more kvs:List (Key × V)),(GE kvs more).length <= kvs.length + more.length
  | [],kvs=>by show kvs.length <= kvs.length + 0; omega
  | p :: r,kvs=>by
    have h1:=F3 r (E8 kvs p.1 p.2)
    have h2:=Fa kvs p.1 p.2
    show (GE (E8 kvs p.1 p.2) r).length <= _
    rw [List.length_cons]; omega
theorem Iw {P:Program} {w:World}:∀ {kvs:List (Key × V)} {ws:List (Value × Value)},VV (kvs.map fun kv=>(kV kv.1,kv.2)) ws->∃ rs,Carries (Bm P w) ws rs /\ KV kvs rs
  | [],_,r=>by rw [List.map_nil] at r; cases r; exact ⟨[],True.intro,.nil⟩
  | p :: kvs,_,r=>by
    rw [List.map_cons] at r
    cases r with
    | @cons a b as bs h t=>
      obtain ⟨rs,c,q⟩:=Iw (P:=P) (w:=w) t
      obtain ⟨b1,b2⟩:=b
      exact ⟨(p.1,b2) :: rs,⟨Lg h.1,rfl,c⟩,.cons ⟨rfl,h.2⟩ q⟩
def VJ (trs:List (TE × TE)):TE:=fun σ H Q=>∀ p,H p=none->ME trs σ (upd H p (.dK [])) fun ps H2=>H2 p=some (.dK []) /\ ∃ kvs:List (Key × V),ps=kvs.map (fun kv=>(kV kv.1,kv.2)) /\ kvs.length <= 15 /\ Q (.ref p) (upd H2 p (.dK (GE [] kvs)))
theorem Rj {X:Cx} {pos:Pos} {keys:List (Option Expr)} {values:List Expr} {trs:List (TE × TE)} (h:PPs X pos keys values trs) (hall:keys.all (·.isSome)=true) (hl:keys.length=values.length) (h0:keys ≠ [])
    (h15:keys.length <= 15):PE X (.Dict keys values pos) (VJ trs):=by
  intro pins s σ H Q I q
  have hn:=I.hok.fresh (Nat.le_refl s.heap.objs.size)
  have I1:=I.laid (a:=s.heap.objs.size) (o:=.dK []) (h':=s.heap.push { cls:=.type "dict",data:=.dict #[] }) (t':=s.toks) (fun _ _ q=>Heap.get?_push_of_some _ q) (Nat.le_refl _) (Ln s.heap I.big)
  refine wpAny_Dict_walk (knd:=Bm X.prog X.w) hall hl h0 h15 (thn (h pins _ σ _ _ I1 (q _ hn)) fun ws s2 ⟨ps,H2,I2,rel,e,kvs,ep,lk,q2⟩=>?_)
  subst ep
  obtain ⟨rs,c,rk⟩:=Iw (P:=X.prog) (w:=X.w) rel
  obtain ⟨z,hd,vs0,r0,dd⟩:=TB I2.hok e
  cases r0
  refine ⟨rs,c,dd,fun h' dd' hs=>⟨.ref s.heap.objs.size,_,?_,rfl,q2⟩⟩
  have hz:(GE [] kvs).length <= sizeLine:=by
    have h1:=F3 kvs []
    rw [List.length_nil] at h1
    rw [sizeLine_eq]; omega
  have he:∃ q,h'.get? s.heap.objs.size=some q:=let ⟨q,_,_,hq,_⟩:=dd'; ⟨q,hq⟩
  exact Kt I2 (by rw [e]; exact True.intro) hs he (QY hz hd (rk.merge .nil) dd')
structure M1 (X:Cx) (o:Expr) (m:Str) (apos:Pos) (e:Expr) (cpos:Pos):Prop where
  base:attributeBase o m X.env (eval o X.env)=eval o X.env
  few:((backTo cpos (starEach [e] X.env)).all (fun x=>!x.1) && (backToKw cpos (keywordEach [] X.env)).all (fun x=>x.1.isSome)
    && decide (([e]:List Expr).length + ([]:List Keyword).length + (if ([]:List Keyword).isEmpty then 0 else 1) < 30))=true
  line:(apos.endLine == cpos.line)=true
  trees:backTo cpos (starEach [e] X.env)=[(false,eval e X.env)]
structure M2 (X:Cx) (o:Expr) (m:Str) (apos:Pos) (e f:Expr) (cpos:Pos):Prop where
  base:attributeBase o m X.env (eval o X.env)=eval o X.env
  few:((backTo cpos (starEach [e,f] X.env)).all (fun x=>!x.1) && (backToKw cpos (keywordEach [] X.env)).all (fun x=>x.1.isSome)
    && decide (([e,f]:List Expr).length + ([]:List Keyword).length + (if ([]:List Keyword).isEmpty then 0 else 1) < 30))=true
  line:(apos.endLine == cpos.line)=true
  trees:backTo cpos (starEach [e,f] X.env)=[(false,eval e X.env),(false,eval f X.env)]
def IsD (H:Hp) (a:Addr):Prop:=(∃ kvs,Rd H a (.dK kvs)) ∨ ∃ kvs,Rd H a (.dT kvs)
theorem Ul {X:Cx} {pins:List (Addr × Obj)} {σ:St} {H:Hp} {s:Shared} {a:Addr} (I:Inv X pins σ H s) (d:IsD H a) :
    s.TypeIs (.ref a) "dict" /\ (∀ b,Value.ref a=.ref b->∃ ob,s.heap.get? b=some ob /\ ob.dict=none) /\ (a == sysModules)=false:=by
  rcases d with ⟨kvs,e⟩ | ⟨kvs,e⟩
  . obtain ⟨_,hd,vs,_,dd⟩:=NW I.hok e
    refine ⟨dd.typeIs,fun b q=>?_,hd⟩
    cases q
    obtain ⟨ob,_,_,h1,h2,_⟩:=dd
    exact ⟨ob,h1,h2.2.1⟩
  . obtain ⟨_,hd,xs,_,dd⟩:=NV I.hok e
    refine ⟨dd.typeIs,fun b q=>?_,hd⟩
    cases q
    obtain ⟨ob,_,_,h1,h2,_⟩:=dd
    exact ⟨ob,h1,h2.2.1⟩
section
variable {X:Cx} {pins:List (Addr × Obj)} {σ:St} {H:Hp} {s:Shared} {a:Addr} {y d:V} {u r:Value} {o:Option V} {A:Around} {E:Value->Shared->Prop}
theorem Uw {Q:Value->Shared->Prop} (hu:A.units + 1 < cLine) (I:Inv X pins σ H s) (g:DGet H a y o) (ry:RelV y u) (h:∀ w' s',Inv X pins σ H s'->RelV (o.getD .non) w'->Q w' s') :
    wpAny (model X.prog X.w) A (call (.builtin "dict.get") [.ref a,u]) Q E s:=by
  rcases g with ⟨kvs,k,e,ey,l⟩ | ⟨kvs,k,b,e,ey,eb,l⟩
  . subst ey
    obtain ⟨z,hd,vs,rel,dd⟩:=NW I.hok e
    refine call_meetsIn PySem.F.slot_dict_get dd.typeIs PySem.F.entry_dict_get (PySem.F.args_dict_get_2 _ _) (meets_dict_get (Bm X.prog X.w) a (Lg ry) hd) ⟨_,dd.mapOf,h _ _ (I.tok _) ?_⟩
    rw [l]
    exact (rel.val k).getD rfl
  . subst ey
    cases (show u=Value.ref b from ry)
    obtain ⟨z,hd,xs,rel,dd⟩:=NV I.hok e
    refine call_meetsIn PySem.F.slot_dict_get dd.typeIs PySem.F.entry_dict_get (PySem.F.args_dict_get_2 _ _) (meetsH_dict_get (tupleKind (Bm X.prog X.w)) a b hd) ⟨tupleKind_room_in1 hu,k,xs,Kj I.hok eb,dd,h _ _ (I.tok _) ?_⟩
    rw [l]
    exact (rel.val k).getD rfl
end
def TV (td ty:TE):TE:=fun σ H Q=>td σ H fun x H1=>∃ a,x=.ref a /\ IsD H1 a /\ ty σ H1 fun y H2=>∃ o,DGet H2 a y o /\ Q (o.getD .non) H2
section
variable {X:Cx} {o e f:Expr} {apos cpos:Pos} {td ty tx:TE}
theorem Pv (hu:X.A.units + 1 < cLine) (ho:PE X o td) (he:PE X e ty) (m:M1 X o "get" apos e cpos):PE X (.Call (.Attribute o "get" apos) [e] [] cpos) (TV td ty):=by
  intro pins s σ H Q I h
  refine wpAny_Call_method m.base m.few m.line PySem.F.plainAttrs_dict PySem.F.slot_dict_get PySem.F.type_dict_get (thn (ho pins s σ H _ I h) fun u s1 ⟨x,H1,I1,rx,a,ex,d,q1⟩=>?_)
  subst ex
  obtain rfl:u=Value.ref a:=rx
  obtain ⟨t1,t2,_⟩:=Ul I1 d
  refine ⟨t1,t2,?_⟩
  rw [m.trees]
  refine Calls.callWith_builtin rfl (Calls.evalArgs_plain (Calls.spliced_cons (thn (he pins s1 σ H1 _ I1 q1) fun iv s2 ⟨y,H2,I2,ry,ov,g,q2⟩=>Calls.spliced_nil ?_)))
  exact Uw hu I2 g ry fun w' s3 I3 rw'=>⟨_,H2,I3,rw',q2⟩
end
section
variable {X:Cx} {pins:List (Addr × Obj)} {σ:St} {H:Hp} {s:Shared} {a:Addr} {kvs:List (Key × V)} {A:Around} {E:Value->Shared->Prop}
end
section
variable {X:Cx} {pins:List (Addr × Obj)} {σ:St} {H:Hp} {s:Shared} {a:Addr} {y:V} {u:Value} {A:Around} {E:Value->Shared->Prop}
end
end L2
namespace Att
open PySem PySem.W PySem.Calls PyProof.Rows
theorem Hg {P:Params} {h:Heap}:∀ (ns:List Int) (vs:List Value),WellAll P h vs (ns.map WData.int)->IntsAre vs ns:=by
  intro ns
  induction ns with
  | nil=>
    intro vs w
    rw [List.map_nil] at w
    cases w
    exact .nil
  | cons n ns ih=>
    intro vs w
    rw [List.map_cons] at w
    cases w with
    | cons a b=>
      cases a
      exact .cons _ _ (ih _ b)
theorem Nq {l:OpenLaw} {n:Nat} (hn:l.most=some n) {P:Params} {h:Heap} {args:List WData} {vals:List Value}
    (hpre:l.row.toRowW.claim.pre args=true) (hwl:WellAll P h vals args) :
    ∃ a vs ns,vals=[Value.ref a] /\ args=[WData.list (ns.map WData.int)] /\ h.get? a=some { cls:=.type "list",data:=.seq vs.toArray } /\ IntsAre vs ns /\ ns.length <= n:=by
  have hsh:WShape.hasAll [] args [.list .int]=true:=(pre_splitW hpre).1
  have hc:l.pre.holds [] { args:=args }=true:=(pre_splitW hpre).2
  obtain ⟨d,r,rfl,h1,h2⟩:=hasAllW_cons hsh
  obtain rfl:=hasAllW_nil h2
  obtain ⟨xs,rfl,h3⟩:=hasW_list h1
  obtain ⟨ns,rfl⟩:=items_int h3
  have hlen:ns.length <= n:=by
    unfold OpenLaw.pre at hc
    have h4:(WTm.not (.lt (.lit (.int (n:Int))) (.len (.arg 0)))).holds [] { args:=[.list (ns.map .int)] }=true:=by
      have h4:=(holds_andW hc).1
      rw [hn] at h4
      exact h4
    have h5:=condW_of h4 (w_not (w_lt w_lit (w_len_list (w_arg rfl))))
    rw [List.length_map] at h5
    refine Nat.le_of_not_lt fun q=>?_
    have q':(n:Int) < ((ns.length:Nat):Int):=by omega
    first
      | (rw [decide_eq_true q'] at h5; exact absurd h5 (by decide))
      | (simp at h5; omega)
  cases hwl with
  | cons w1 w2=>
    cases w2
    cases w1 with
    | list ho hall=>exact ⟨_,_,ns,rfl,rfl,ho,Hg ns _ hall,hlen⟩
theorem N2 (l:OpenLaw) (args:List WData):l.row.toRowW.claim.post args (.bool true) args=true:=
  postW_of (r:=l.row.toRowW) (X:=(true == true))
    (show WShape.has [] (.bool true) .bool=true by first | rfl | decide | simp [WShape.has,WShape.arms,WShape.armsAll])
    (show (WTm.eq .res (.lit (.bool true))).value [] { args:=args,res:=some (.bool true),after:=args }=some (.bool (true == true)) from w_eq_bool (w_res rfl) w_lit) rfl
theorem L4 {l:OpenLaw} {n:Nat} {q:Program} {loose:List Str} {XP:(Str->Option Value)->Heap->Prop} {YP:World->Heap->Prop} {d:DefRec}
    (hn:l.most=some n) (hdf:d.params.defaults=[])
    (call:∀ (w:World) (s₀ s₁:Shared) (mg mb:Str->Option Value) (fa:Addr) (o:Obj) (pm cd doc:Value) (a:Addr) (vs:List Value) (ns:List Int),
      Ground q loose [] XP w s₀ mg mb s₁.heap->YP w s₁.heap->
      s₁.heap.get? fa=some o->o.data=.func (docDef d.name d.params d.body d.scope pm cd doc)->s₁.heap.CodeRec cd d.name->mg d.name=some (.ref fa)->
      s₁.heap.get? a=some { cls:=.type "list",data:=.seq vs.toArray }->IntsAre vs ns->ns.length <= n->s₁.gens = #[]->
      codeAny (model l.prog w) callerA (.call (.ref fa) ⟨[.ref a],[]⟩) (fun r s'=>r=.ok (.ret (.bool true)) /\ OldK s₁.heap s'.heap /\ s'.os=s₁.os /\ AllBare s'.gens) s₁) :
    WalkO q loose XP YP l.row.toRowW d [] (fun f vs=>PySem.call f vs):=by
  intro w s₀ s₁ mg mb G Y fa o pm cd doc dV kV ho hd hcd hD hmg hg args vals as hpre hlay hrd hwl hlo
  obtain rfl:dV=.none:=Dflts.none hD hdf
  obtain rfl:kV=.none:=Dflts.noKw hD
  obtain ⟨a,vs,ns,rfl,rfl,hobj,hints,hlen⟩:=Nq hn hpre hwl
  refine enter_call (codeAny_mono (call w s₀ s₁ mg mb fa o pm cd doc a vs ns G Y ho (fd_plain hd) hcd hmg hobj hints hlen hg) fun r s' hq=>?_)
  obtain ⟨rfl,h2,h3,h4⟩:=hq
  exact ⟨.inl ⟨.bool true,.bool true,[],rfl,fun _=>rfl,.bool true,N2 l _,fun _=>⟨List.Pairwise.nil,fun _ hm=>(nomatch hm)⟩⟩,h2,h3,h4⟩
section
variable {prog:Program} {w:World} {A:Around} {E:Value->Shared->Prop} {s:Shared} {K:Frag}
end
end Att
namespace L2
open PySem PySem.Spec PyProof.Rows
theorem JU:∀ {vs:List Value} {ns:List Int},IntsAre vs ns->Vals (ns.map V.int) vs
  | _,_,.nil=>.nil
  | _,_,.cons n t h=>.cons ⟨t,rfl⟩ (JU h)
def Sh (H:Hp):Prop:=∀ b,H b=none ∨ ∃ o xs,H b=some (.frz o (.lst xs))
theorem P8 {P:Program} {w:World} {K:PySem.W.Frag} {mg mb:Str->Option Value} {CX:CXT} {k:Nat} {fa a:Addr} {fd:FuncData} {x:Str} {sp:Sp} {s₁:Shared} {vs:List Value} {ns:List Int}
    (KX:K.In s₁.heap) (hns:s₁.heap.Ns mainGlobals mg) (hb:s₁.heap.Ns builtinsNs mb) (hbb:∀ x:Str,x ≠ "__name__" -> mb x=bootBuiltins x) (hlim:s₁.heap.NoLimit) (hg:s₁.gens = #[])
    (ha:s₁.heap.get? a=some { cls:=.type "list",data:=.seq vs.toArray }) (hi:IntsAre vs ns) (hl:ns.length <= sizeLine) (hr:Room k callerA)
    (F:∀ base:Heap,K.In base->base.Ns mainGlobals mg->FnOk P w K mg base CX k fa fd [x] sp) (hbind:∀ (s:Shared) (u:Value),BindsTo s fd ⟨[u],[]⟩ [(x,u)])
    (hsp:∀ H:Hp,Sh H->SqL K H a (ns.map V.int)->sp [.ref a] H (fun v _=>v=.bl true) fun _ _ _=>False)
    (hCX:∀ H e s',CX [] H s₁ (fun _ _ _=>False) e s'->False) :
    codeAny (model P w) callerA (.call (.ref fa) ⟨[.ref a],[]⟩) (fun r s'=>r=.ok (.ret (.bool true)) /\ OldK s₁.heap s'.heap /\ s'.os=s₁.os /\ AllBare s'.gens) s₁:=by
  have rv:=JU hi
  have lenV:=hi.length
  have core:∀ H:Hp,Sh H->SqL K H a (ns.map V.int)->HOk P w H s₁.heap->(∀ b,H b ≠ none->b=a)->(H a ≠ none->K.lookup a=none)->
      codeAny (model P w) callerA (.call (.ref fa) ⟨[.ref a],[]⟩) (fun r s'=>r=.ok (.ret (.bool true)) /\ OldK s₁.heap s'.heap /\ s'.os=s₁.os /\ AllBare s'.gens) s₁:=by
    intro H hO hS hok hA hK
    have base_of:∀ {b:Addr} {o:Obj},s₁.heap.get? b=some o->H b=none->(Kn s₁.heap H).get? b=some o:=fun e n=>QM e n
    have noA:∀ {b:Addr} {o:Obj} {es:Array DictEntry} {ep:Nat},s₁.heap.get? b=some o->o.data=.dict es ep->H b=none:=fun {b o es ep} e d=>by
      cases q:H b with
      | none=>rfl
      | some u=>
        have e':b=a:=hA b (by rw [q]; simp)
        subst e'
        rw [ha] at e; cases e
        have d':Data.seq vs.toArray _=Data.dict es ep:=d
        cases d'
    have nsK:∀ {b:Addr} {m:Str->Option Value},s₁.heap.Ns b m->(Kn s₁.heap H).Ns b m:=fun {b m} ⟨o,es,ep,e,d,r⟩=>⟨o,es,ep,base_of e (noA e d),d,r⟩
    have hKb:K.In (Kn s₁.heap H):=fun b o e=>base_of (KX b o e) (by
      cases q:H b with
      | none=>rfl
      | some u=>
        have e':b=a:=hA b (by rw [q]; simp)
        subst e'
        rw [hK (by rw [q]; simp)] at e; cases e)
    have hM:Mod K mg (Kn s₁.heap H):=⟨hKb,nsK hns,⟨mb,nsK hb,hbb⟩,let ⟨mc,h1,h2⟩:=hlim; ⟨mc,nsK h1,h2⟩⟩
    have e0:Sk P w K mg (Kn s₁.heap H) callerA [] s₁ H:=⟨rfl,hM,fun b o e=>Rr e,Nat.le_of_eq (OU _ _),trivial,fun b hb=>absurd (show b ∈ ([]:List Addr) from hb) (by simp),hok,.of_eq hg⟩
    refine codeAny_mono ((F _ hKb (nsK hns)).run callerA [] s₁ H ⟨[.ref a],[]⟩ [.ref a] [.ref a] _ _ hr e0 (hbind s₁ (.ref a)) (.cons rfl .nil) (hsp H hO hS)) fun r s' h=>?_
    cases r with
    | error e=>exact (hCX H e s' h).elim
    | ok fl=>
      cases fl with
      | next=>exact False.elim h
      | brk=>exact False.elim h
      | cont=>exact False.elim h
      | ret u=>
        obtain ⟨v,H',os,bare,un,hok',r',q⟩:=h
        have q':v=.bl true:=q
        subst q'
        obtain rfl:u=Value.bool true:=r'
        refine ⟨rfl,OldK.of_keep fun b o e=>?_,os,bare⟩
        cases q:H b with
        | none=>exact un.keep b o e q (by intro z; exact absurd (show b ∈ ([]:List Addr) from z) (by simp)) (by simp)
        | some u=>
          rcases hO b with z | ⟨ob,xs,z⟩
          . rw [q] at z; cases z
          . have z2:=un.frzs b ob _ z
            obtain ⟨e1,_⟩:=hok b _ z
            obtain ⟨e2,_⟩:=hok' b _ z2
            rw [e] at e1; cases e1
            exact e2
  cases hk:K.lookup a with
  | some o=>
    have e:=KX a o hk
    rw [ha] at e
    cases e
    refine core (fun _=>none) (fun _=>.inl rfl) (.inr ⟨_,vs.toArray,_,hk,rfl,rfl,rfl,by rw [List.size_toArray,lenV]; exact hl,by simpa using rv⟩) (fun b u z=>by have z':(none:Option HO)=some u:=z; cases z') (fun b z=>absurd rfl z) fun z=>absurd rfl z
  | none=>
    refine core (fun b=>if b=a then some (.frz { cls:=.type "list",data:=.seq vs.toArray } (.lst (ns.map V.int))) else none) (fun b=>?_) (.inl (.inr ⟨{ cls:=.type "list",data:=.seq vs.toArray },if_pos rfl⟩)) (fun b u z=>?_) (fun b z=>?_) fun _=>hk
    . by_cases hb:b=a
      . exact .inr ⟨_,_,if_pos hb⟩
      . exact .inl (if_neg hb)
    . by_cases hb:b=a
      . have z':=(if_pos hb).symm.trans z
        cases z'
        subst hb
        exact ⟨ha,by rw [List.length_map]; exact hl,vs,_,rv,ha⟩
      . have z':=(if_neg hb).symm.trans z
        cases z'
    . by_cases hb:b=a
      . exact hb
      . exact absurd (if_neg hb) z
end L2
namespace L2
open PySem PySem.Spec PyProof.Rows
theorem Qp {l:PySem.W.OpenLaw} {n k:Nat} {q:Program} {loose:List Str} {XP:(Str->Option Value)->Heap->Prop} {YP:World->Heap->Prop} {d:DefRec} {K:Params->PySem.W.Frag} {CX:World->CXT} {sp:World->Sp} {x:Str}
    (hn:l.most=some n) (hn2:n <= sizeLine) (hdf:d.params.defaults=[]) (hr:Room k callerA)
    (hY:∀ (w:World) (h:Heap),YP w h->(K w.params).In h)
    (F:∀ (w:World) (mg:Str->Option Value) (fa:Addr) (h:Heap),(K w.params).In h->h.Ns mainGlobals mg->mg d.name=some (.ref fa)->
      ∃ fd:FuncData,(∀ (s:Shared) (u:Value),BindsTo s fd ⟨[u],[]⟩ [(x,u)]) /\
        ∀ base:Heap,(K w.params).In base->base.Ns mainGlobals mg->FnOk l.prog w (K w.params) mg base (CX w) k fa fd [x] (sp w))
    (hsp:∀ (w:World) (H:Hp) (a:Addr) (ns:List Int),ns.length <= n->Sh H->SqL (K w.params) H a (ns.map V.int)->sp w [.ref a] H (fun v _=>v=.bl true) fun _ _ _=>False)
    (hCX:∀ (w:World) (H:Hp) (s:Shared) (e:Value) (s':Shared),CX w [] H s (fun _ _ _=>False) e s'->False) :
    PySem.W.WalkO q loose XP YP l.row.toRowW d [] (fun f vs=>PySem.call f vs):=by
  refine Att.L4 hn hdf fun w s₀ s₁ mg mb fa o pm cd doc a vs ns G Y ho hd hcd hmg hobj hints hlen hg=>?_
  have KX:=hY w _ Y
  obtain ⟨fd,hb,hF⟩:=F w mg fa _ KX G.T.g hmg
  exact P8 KX G.T.g G.T.b G.T.builtins G.T.nolimit hg hobj hints (Nat.le_trans hlen hn2) hr hF hb (fun H hO hS=>hsp w H a ns hlen hO hS) fun H e s'=>hCX w H s₁ e s'
end L2
namespace L2
open PySem PySem.Spec PyProof.Rows
def Gq (s:Stmt):Arguments:=match s with
  | .FunctionDef _ a _ _ _ _ _ _ _ _=>a
  | _=>{ posonlyargs:=[],args:=[],vararg:=none,kwonlyargs:=[],kw_defaults:=[],kwarg:=none,defaults:=[] }
def Ac (s:Stmt):List Stmt:=match s with
  | .FunctionDef _ _ b _ _ _ _ _ _ _=>b
  | _=>[]
def AJ (s:Stmt):Scope:=match s with
  | .FunctionDef _ _ _ _ _ _ sc _ _ _=>sc
  | _=>{ kind:=.function,names:=[],isGenerator:=false,isCoroutine:=false }
abbrev CX0:CXT:=fun _ _ _ _ _ _=>False
abbrev E0:XK:=fun _ _ _=>False
theorem Vl {X:Cx}:Mr CX0 X E0:=fun _ _ _ _ _ _ _ h=>h.elim
structure Fun (K:PySem.W.Frag) (x qual:Str) (st:Stmt) (f:Addr) (fd:FuncData):Prop where
  ex:∃ (oc:Value) (od:Option Addr) (kV doc pm:Value) (an:Option Addr) (cdv ct:Value) (osl:Array (Option Value)),
    fd=PySem.W.fnOf x qual (Gq st) (Ac st) (AJ st) .none kV doc pm an cdv ct /\ K.lookup f=some ⟨oc,od,.func fd,osl⟩ /\ PySem.W.codeIn K cdv qual=true
  kp:PySem.W.keepIn K (.ref f)=true
section
variable {P:Program} {w:World} {K:PySem.W.Frag} {mg:Str->Option Value} {base:Heap}
theorem Fun.ok {x qual:Str} {st:Stmt} {f:Addr} {fd:FuncData} {N ps:List Str} {k:Nat} {sp:Sp} (F:Fun K x qual st f fd) (S:Ai N ps (AJ st)) (len:∀ vs H Q E,sp vs H Q E->vs.length=ps.length)
    (hbody:∀ (cdv:Value) (A:Around) (outer:List Env) (s:Shared) (H:Hp) (vs:List V) (Q:VK) (E:XK),Room k (A.deeper (envOfC qual (AJ st) s.heap.objs.size f cdv))->sp vs H Q E->
      ∃ t,PSs (BZ CX0 P w K mg base N qual (AJ st) f cdv A outer s H E).nox (Ac st) t /\ t { nx:=fun _ H'=>Q .non H',rt:=Q } (start N vs) H):FnOk P w K mg base CX0 (k + 1) f fd ps sp:=by
  obtain ⟨oc,od,kV,doc,pm,an,cdv,ct,osl,rfl,lk,hcd⟩:=F.ex
  refine WF lk hcd S len fun A outer s H vs Q E hr hsp=>?_
  obtain ⟨t,h,q⟩:=hbody cdv A outer s H vs Q E hr hsp
  exact ⟨t,h.nox,q⟩
theorem Fun.binds {x qual:Str} {st:Stmt} {f:Addr} {fd:FuncData} {ps:List Str} (F:Fun K x qual st f fd)
    (h:∀ (kV doc pm:Value) (an:Option Addr) (cdv ct:Value) (us:List Value),us.length=ps.length->bindArgs (PySem.W.fnOf x qual (Gq st) (Ac st) (AJ st) .none kV doc pm an cdv ct) ⟨us,[]⟩=pure (ps.zip us)):Binds K fd ps []:=by
  obtain ⟨oc,od,kV,doc,pm,an,cdv,ct,osl,rfl,lk,hcd⟩:=F.ex
  exact .all (h kV doc pm an cdv ct)
theorem Up {x qual:Str} {st:Stmt} {f:Addr} {oc:Value} {od an:Option Addr} {osl:Array (Option Value)} {kV doc pm cdv ct:Value} (l:K.lookup f=some ⟨oc,od,.func (PySem.W.fnOf x qual (Gq st) (Ac st) (AJ st) .none kV doc pm an cdv ct),osl⟩)
    (c:PySem.W.codeIn K cdv qual=true) (k:PySem.W.keepIn K (.ref f)=true):Fun K x qual st f (PySem.W.fnOf x qual (Gq st) (Ac st) (AJ st) .none kV doc pm an cdv ct):=⟨⟨oc,od,kV,doc,pm,an,cdv,ct,osl,rfl,l,c⟩,k⟩
end
theorem QL {A:Around} {k:Nat} (hr:Room k A):A.units + 1 < cLine:=Nat.lt_of_le_of_lt (Nat.add_le_add_left (by decide:1 <= 64) _) hr.units
theorem JX {n:Nat} (h:n <= 1000):n < sizeLine:=Nat.lt_of_le_of_lt h (by decide)
section
variable {X:Cx}
end
section
variable {κ:Type} [DecidableEq κ]
end
end L2
namespace L2
open PySem PySem.Spec PyProof.Rows
def Fi (env:Env):List (Str × NameKind)->List (Str × Addr)->List (Str × Addr)
  | [],cs=>cs
  | (n,k) :: r,cs=>Fi env r (if k == .free then (match env.cells.lookup n with | some c=>(n,c) :: cs | none=>cs) else cs)
theorem Dw {env:Env}:∀ (l:List (Str × NameKind)) (cs:List (Str × Addr)),(∀ x ∈ l,x.2=.free->∃ c,env.cells.lookup x.1=some c)->
    (forIn l cs fun (x:Str × NameKind) (r:List (Str × Addr))=>(if (x.2 == NameKind.free)=true then (do let a ← cellOf env x.1; pure (ForInStep.yield ((x.1,a) :: r))) else pure (ForInStep.yield r):Sem (ForInStep (List (Str × Addr)))))=pure (Fi env l cs)
  | [],cs,_=>by rw [List.forIn_nil]; rfl
  | (n,k) :: r,cs,h=>by
    have hr:∀ x ∈ r,x.2=.free->∃ c,env.cells.lookup x.1=some c:=fun x hx=>h x (List.mem_cons_of_mem _ hx)
    rw [List.forIn_cons]
    by_cases hk:k=.free
    . subst hk
      obtain ⟨c,hc⟩:=h (n,.free) List.mem_cons_self rfl
      have e:cellOf env n=pure c:=by unfold cellOf; rw [hc]
      dsimp only
      rw [if_pos (by decide),e,pure_bind,pure_bind]
      dsimp only
      rw [Dw r _ hr]
      show _=pure (Fi env r (if (NameKind.free == NameKind.free)=true then (match env.cells.lookup n with | some c=>(n,c) :: cs | none=>cs) else cs))
      rw [if_pos (by decide),hc]
    . have hb : ¬ (k == NameKind.free)=true:=by simpa using hk
      dsimp only
      rw [if_neg hb,pure_bind]
      dsimp only
      rw [Dw r _ hr]
      show _=pure (Fi env r (if (k == NameKind.free)=true then (match env.cells.lookup n with | some c=>(n,c) :: cs | none=>cs) else cs))
      rw [if_neg hb]
theorem Ev {scope:Scope} {env:Env} (h:∀ x ∈ scope.names,x.2=.free->∃ c,env.cells.lookup x.1=some c):closureFor scope env=pure (Fi env scope.names []):=by
  have e:=Dw (env:=env) scope.names [] h
  unfold closureFor
  dsimp only
  rw [← bind_pure (pure (Fi env scope.names [])),← e]
theorem Fh {env:Env}:∀ (l:List (Str × NameKind)) (cs:List (Str × Addr)),(∀ x c,cs.lookup x=some c->env.cells.lookup x=some c)->∀ x c,(Fi env l cs).lookup x=some c->env.cells.lookup x=some c
  | [],cs,h=>h
  | (n,k) :: r,cs,h=>by
    refine Fh r _ ?_
    intro x c
    by_cases hk:(k == NameKind.free)=true
    . rw [if_pos hk]
      cases hl:env.cells.lookup n with
      | none=>exact h x c
      | some d=>
        intro q
        by_cases hx:x=n
        . subst hx
          rw [List.lookup_cons_self] at q
          rw [hl]; exact q
        . have hb:(x == n)=false:=beq_eq_false_iff_ne.mpr hx
          simp only [List.lookup_cons,hb] at q
          exact h x c q
    . rw [if_neg hk]; exact h x c
theorem Iu {env:Env}:∀ (l:List (Str × NameKind)) (cs:List (Str × Addr)) (x:Str),(cs.lookup x).isSome=true->((Fi env l cs).lookup x).isSome=true
  | [],cs,x,h=>h
  | (n,k) :: r,cs,x,h=>by
    refine Iu r _ x ?_
    by_cases hk:(k == NameKind.free)=true
    . rw [if_pos hk]
      cases hl:env.cells.lookup n with
      | none=>exact h
      | some d=>
        by_cases hx:(x == n)=true
        . simp only [List.lookup_cons,hx,Option.isSome_some]
        . have hb:(x == n)=false:=by simpa using hx
          simp only [List.lookup_cons,hb]; exact h
    . rw [if_neg hk]; exact h
theorem Ls {env:Env}:∀ (l:List (Str × NameKind)) (cs:List (Str × Addr)) (x:Str) (c:Addr),(x,NameKind.free) ∈ l->env.cells.lookup x=some c->((Fi env l cs).lookup x).isSome=true
  | [],cs,x,c,h,_=>by simp at h
  | (n,k) :: r,cs,x,c,h,hc=>by
    rcases List.mem_cons.mp h with e | e
    . obtain ⟨rfl,rfl⟩:=Prod.mk.inj e
      refine Iu r _ _ ?_
      rw [if_pos (by decide),hc]
      simp only [List.lookup_cons_self,Option.isSome_some]
    . exact Ls r _ x c e hc
theorem J2 {env:Env} {l:List (Str × NameKind)} {x:Str} {c:Addr} (h:(x,NameKind.free) ∈ l) (hc:env.cells.lookup x=some c):(Fi env l []).lookup x=some c:=by
  obtain ⟨d,hd⟩:=Option.isSome_iff_exists.mp (Ls l [] x c h hc)
  have:=Fh l [] (fun _ _ z=>by simp at z) x d hd
  rw [hc] at this; cases this
  exact hd
def C6:List (Str × NameKind)->List Str
  | []=>[]
  | (n,.free) :: r=>n :: C6 r
  | _ :: r=>C6 r
theorem GF {x:Str}:∀ {l:List (Str × NameKind)},x ∈ C6 l->(x,NameKind.free) ∈ l
  | [],h=>by simp [C6] at h
  | (n,k) :: r,h=>by
    cases k <;> first
      | (rcases List.mem_cons.mp (show x ∈ n :: C6 r from h) with e | e
         . subst e; exact List.mem_cons_self
         . exact List.mem_cons_of_mem _ (GF e))
      | exact List.mem_cons_of_mem _ (GF (show x ∈ C6 r from h))
theorem Jq {x:Str}:∀ {l:List (Str × NameKind)},(x,NameKind.free) ∈ l->x ∈ C6 l
  | [],h=>by simp at h
  | (n,k) :: r,h=>by
    rcases List.mem_cons.mp h with e | e
    . cases e; exact List.mem_cons_self
    . have ih:=Jq e
      cases k <;> first
        | exact List.mem_cons_of_mem _ ih
        | exact ih
theorem FY {x:Str} (f:Str × NameKind->Str × NameKind) (hf:∀ p,f p=p ∨ p.2=.free /\ f p=(p.1,.cell)):∀ (l:List (Str × NameKind)) (k:NameKind),(l.map f).lookup x=some k->l.lookup x=some k ∨ l.lookup x=some .free /\ k=.cell
  | [],_,h=>nomatch h
  | (y,j) :: l,k,h=>by
    have rest:=FY (x:=x) f hf l k
    rw [List.map_cons] at h
    rcases hf (y,j) with e | ⟨ej,e⟩ <;> rw [e] at h <;> cases he:x == y <;> simp only [List.lookup_cons,he] at h ⊢
    . exact rest h
    . exact .inl h
    . exact rest h
    . cases h
      cases (show j=NameKind.free from ej)
      exact .inr ⟨rfl,rfl⟩
theorem EM {scope:Scope} {env:Env} {x:Str} {k:NameKind} (h:(relabel scope env).names.lookup x=some k):scope.names.lookup x=some k ∨ scope.names.lookup x=some .free /\ k=.cell:=by
  unfold relabel at h
  refine FY _ (fun p=>?_) _ _ h
  obtain ⟨n,j⟩:=p
  dsimp only
  split
  . rename_i hc
    refine .inr ⟨?_,rfl⟩
    simp only [Bool.and_eq_true,beq_iff_eq] at hc
    exact hc.1.1
  . exact .inl rfl
def Jb (ix:List Nat) (σ:St):St:=ix.map fun j=>(σ[j]?).getD none
def cxB (X:Cx) (scope:Scope) (tgs:List Str) (fp:List Addr) (C:Addr) (s:Shared) (H:Hp):Cx:=
  { X with N:=tgs ++ C6 scope.names,s₀:=s,H₀:=H,env:=compEnvC scope (Fi X.env scope.names []) C X.env,outer:=X.stack,ex:=fp,fn:=fun _=>false,pn:=[],xe:=fun _ _=>False }
def U4 {α:Type} (P:α->Prop):List α->Prop
  | []=>True
  | x :: r=>P x /\ U4 P r
theorem JB {α:Type} {P:α->Prop}:∀ {l:List α},U4 P l->∀ x ∈ l,P x
  | [],_,_,h=>by simp at h
  | _ :: _,h,x,hx=>by
    rcases List.mem_cons.mp hx with e | e
    . subst e; exact h.1
    . exact JB h.2 x e
structure BScope (X:Cx) (scope:Scope) (tgs:List Str) (ix:List Nat):Prop where
  kind:scope.kind=.function
  nocell:∀ y ∈ scope.names,y.2 ≠ .cell
  loc:∀ y ∈ scope.names,y.2=.local->scope.names.lookup y.1=some .local
  fre:U4 (fun x=>X.env.kindOf x=some .cell ∨ X.env.kindOf x=some .free) (C6 scope.names)
  ixs:(C6 scope.names).map some=ix.map fun j=>X.N[j]?
  ndl:∀ x ∈ C6 scope.names,scope.names.lookup x=some .free
section
variable {X:Cx} {scope:Scope} {tgs:List Str} {ix:List Nat}
theorem BScope.cells (S:BScope X scope tgs ix) (ok:X.Ok):∀ x ∈ scope.names,x.2=.free->∃ c,X.env.cells.lookup x.1=some c:=fun x hx hk=>by
  obtain ⟨n,k⟩:=x
  subst hk
  exact ok.has n (JB S.fre n (Jq hx))
theorem Inv.cellLt {pins:List (Addr × Obj)} {σ:St} {H:Hp} {s:Shared} (I:Inv X pins σ H s) {x:Str} {c:Addr} (e:X.env.cells.lookup x=some c):c < s.heap.objs.size:=by
  obtain ⟨v,q⟩:=I.cell x c e
  exact q.lt
theorem Inv.track {pins:List (Addr × Obj)} {σ:St} {H:Hp} {s:Shared} {D:Addr} {o:HO} (I:Inv X pins σ H s) (f:F1 X pins H D) (new:ObjOk X.prog X.w (upd H D o) s.heap D o):Inv X pins σ (upd H D o) s:=by
  obtain ⟨f0,f1,f2,f3,f4,f5⟩:=f
  have nD:∀ b u,H b=some u->b ≠ D:=fun b u e z=>by rw [z,f0] at e; cases e
  have:=I.step (h':=s.heap) (H':=upd H D o) (g':=s.gens) (t':=s.toks) (d':=s.drawn) (ch:=[D]) (fun b hb=>?_) (fun b u _ _ _ e _=>e) (fun b u _ _ _ e _=>⟨u.slots,e⟩) (fun b u hb e n=>?_) (fun b u _ e=>⟨u,e⟩)
    (fun b xs e=>?_) (fun b u v e=>?_) (fun b ps e=>?_) (fun m hm=>hm) (fun b u e=>?_) I.bare
  . exact this
  . have e:b=D:=by simpa using hb
    subst e
    exact ⟨f3,f1,f4,f5⟩
  . rw [A8 (fun z=>hb (by simp [z]))]; exact n
  . rw [A8 (nD b _ e)]; exact e
  . rw [A8 (nD b _ e)]; exact e
  . exact ⟨#[],by rw [A8 (nD b _ e),e]; simp⟩
  . by_cases hb:b=D
    . subst hb; rw [Bj] at e; cases e; exact new
    . rw [A8 hb] at e
      exact (I.hok b u e).stay (fun _ _ _ q=>q) (fun c q=>by rw [A8 (nD c _ q)]; exact q) fun c xs q=>by rw [A8 (nD c _ q)]; exact q
theorem QZ {pins:List (Addr × Obj)} {σ:St} {H:Hp} {s:Shared} {fp:List Addr} {C:Addr} (S:BScope X scope tgs ix) (I:Inv X pins σ H s) (hf:∀ b ∈ fp,F1 X pins H b) (hfo:∀ b ∈ fp,b < s.heap.objs.size) (hC:s.heap.objs.size <= C) :
    (cxB X scope tgs fp C s H).Ok:=by
  have sub:∀ x c,(Fi X.env scope.names []).lookup x=some c->X.env.cells.lookup x=some c:=Fh scope.names [] (fun _ _ z=>by simp at z)
  refine ⟨I.ok.mod,S.kind,I.ok.glob,I.ok.blt,hC,fun x y c h1 h2=>I.ok.inj x y c (sub x c h1) (sub y c h2),fun x hx=>?_,fun x c h=>absurd h (by simp [cxB]),I.ok.hd,I.ok.frames,.inl rfl,fun b hb=>⟨?_,fun x c e=>?_⟩,fun b o e=>I.bs b o e,
    Nat.le_trans I.ok.bsz I.sz,fun b o e hb=>?_,fun b hb hz=>?_,I.stack,I.stkFree⟩
  . have hx':(relabel scope X.env).names.lookup x=some .cell ∨ (relabel scope X.env).names.lookup x=some .free:=hx
    have hm:(x,NameKind.free) ∈ scope.names:=by
      rcases hx' with h | h
      . rcases EM h with q | q
        . exact absurd rfl (S.nocell _ (PySem.mem_of_lookup q))
        . exact PySem.mem_of_lookup q.1
      . rcases EM h with q | q
        . exact PySem.mem_of_lookup q
        . exact absurd q.2 (by decide)
    obtain ⟨c,hc⟩:=S.cells I.ok _ hm rfl
    exact ⟨c,J2 hm hc⟩
  . exact fun z=>absurd (hfo b hb) (by rw [z]; exact Nat.not_lt.mpr hC)
  . exact (hf b hb).2.2.2.2.1 x c (sub x c e)
  . obtain ⟨f0,f1,f2,f3,f4,f5⟩:=hf b hb
    rcases f3 with z | z
    . exact I.ok.noex b o e z
    . exact absurd (Heap.lt_size (I.ok.bs b o e).1) (Nat.not_lt.mpr z)
  . obtain ⟨f0,f1,f2,f3,f4,f5⟩:=hf b hb
    rcases List.mem_cons.mp (I.stkSub b hz) with z | z
    . exact f1 z
    . exact f2 z
end
end L2
namespace L2
open PySem PySem.Spec PyProof.Rows
section
variable {X:Cx} {scope:Scope} {tgs:List Str} {ix:List Nat}
abbrev DV (tgs:List Str) (ix:List Nat) (σ:St):St:=List.replicate tgs.length none ++ Jb ix σ
theorem IC {σ:St} {k:Nat} {v:V} (h:(DV tgs ix σ)[k]? = some (some v)):tgs.length <= k /\ ∃ j,ix[k - tgs.length]? = some j /\ σ[j]? = some (some v):=by
  have hk:tgs.length <= k:=by
    rcases Nat.lt_or_ge k tgs.length with z | z
    . rw [List.getElem?_append_left (by simpa using z),List.getElem?_replicate,if_pos z] at h
      cases h
    . exact z
  refine ⟨hk,?_⟩
  rw [List.getElem?_append_right (by simpa using hk),List.length_replicate] at h
  unfold Jb at h
  rw [List.getElem?_map] at h
  cases e:ix[k - tgs.length]? with
  | none=>rw [e] at h; cases h
  | some j=>
    rw [e] at h
    refine ⟨j,rfl,?_⟩
    have h':(σ[j]?).getD none=some v:=Option.some.inj h
    cases q:σ[j]? with
    | none=>rw [q] at h'; cases h'
    | some o=>
      rw [q] at h'
      have h'':o=some v:=h'
      rw [h'']
theorem Me {pins:List (Addr × Obj)} {σ:St} {H:Hp} {s s4:Shared} {fp:List Addr} {C D:Addr} {o:Obj} (S:BScope X scope tgs ix) (I:Inv X pins σ H s) (hf:∀ b ∈ fp,F1 X pins H b) (hfo:∀ b ∈ fp,b < s.heap.objs.size)
    (hC:s.heap.objs.size <= C) (hD:s.heap.objs.size <= D) (hDC:D ≠ C) {m:Str->Option Value} (hn:s4.heap.Ns C m) (hk:∀ b u,s.heap.get? b=some u->s4.heap.get? b=some u) (hos:s4.os=s.os) (hg:s4.gens=s.gens)
    (hDo:s4.heap.get? D=some o) (hcell:∀ v,o.data ≠ .cell v):Inv (cxB X scope tgs fp C s H) [(D,o)] (DV tgs ix σ) H s4:=by
  have ok:=QZ (tgs:=tgs) (ix:=ix) (C:=C) S I hf hfo hC
  have sub:∀ x c,(Fi X.env scope.names []).lookup x=some c->X.env.cells.lookup x=some c:=Fh scope.names [] (fun _ _ z=>by simp at z)
  refine ⟨ok,hos,by rw [hg]; exact I.bare,Un.kept hk,⟨m,hn,fun k x v h1 h2 h3=>?_⟩,fun x c e=>?_,I.hok.fresh hC,fun x c e=>I.freeC x c (sub x c e),fun p hp=>?_,I.hok.kept hk,?_⟩
  . obtain ⟨hkl,j,hj,hσ⟩:=IC h2
    have h1':(C6 scope.names)[k - tgs.length]? = some x:=by
      have:(tgs ++ C6 scope.names)[k]? = some x:=h1
      rwa [List.getElem?_append_right hkl] at this
    have hx:x ∈ C6 scope.names:=List.mem_of_getElem? h1'
    have hXN:X.N[j]? = some x:=by
      have e:=congrArg (fun l=>l[k - tgs.length]?) S.ixs
      simp only [List.getElem?_map,h1',hj,Option.map_some] at e
      exact (Option.some.inj e).symm
    have kx:=JB S.fre x hx
    obtain ⟨m0,hn0,hl⟩:=I.loc
    obtain ⟨u,r,l⟩:=hl j x v hXN hσ (by rcases kx with z | z; exact .inr (.inl z); exact .inr (.inr z))
    refine ⟨u,r,?_⟩
    rcases l with ⟨z,_⟩ | ⟨_,c,hc,q⟩
    . rcases kx with y | y <;> rw [z] at y <;> cases y
    . refine .inr ⟨?_,c,J2 (GF hx) hc,?_⟩
      . have h3':(relabel scope X.env).names.lookup x=some .local ∨ (relabel scope X.env).names.lookup x=some .cell ∨ (relabel scope X.env).names.lookup x=some .free:=h3
        rcases h3' with z | z | z
        . exfalso
          rcases EM z with w | w
          . have lk:scope.names.lookup x=some .local:=w
            have:=S.ndl x hx
            rw [lk] at this; cases this
          . exact absurd w.2 (by decide)
        . exact .inl z
        . exact .inr z
      . obtain ⟨oc,hoc,hd⟩:=q
        exact ⟨oc,hk c oc hoc,hd⟩
  . obtain ⟨v,oc,hoc,hd⟩:=I.cell x c (sub x c e)
    exact ⟨v,oc,hk c oc hoc,hd⟩
  . have e:p=(D,o):=by simpa [cxB] using hp
    subst e
    refine ⟨hDo,I.hok.fresh hD,hDC,fun hz=>?_,hcell⟩
    have hz':D ∈ frs X.stack:=hz
    rcases List.mem_cons.mp (I.stkSub D hz') with z | z
    . exact absurd I.lt (by rw [← z]; exact Nat.not_lt.mpr hD)
    . exact I.nofs hD z
  . show (List.replicate tgs.length none ++ Jb ix σ).length=(tgs ++ C6 scope.names).length
    have e:=congrArg List.length S.ixs
    simp only [List.length_map] at e
    rw [List.length_append,List.length_append,List.length_replicate,e]
    unfold Jb
    rw [List.length_map]
def JD (X:Cx) (ifs:List Expr) (tc:TT):Prop:=
  ∀ (pins:List (Addr × Obj)) (s:Shared) (σ:St) (H:Hp) (Q:Bool->Hp->Prop),Inv X pins σ H s->tc σ H Q->
    wpAny (model X.prog X.w) X.A (forIn ifs true fun c r=>if r=true then do let ok ← isTrue c X.env (eval c X.env); pure (ForInStep.yield ok) else pure (ForInStep.yield r)) (TP X pins σ Q) X.xe s
def VA:TT:=fun _ H Q=>Q true H
theorem Pm:JD X [] VA:=fun pins s σ H Q I h=>wpAny_tests_nil ⟨H,I,h⟩
theorem Pk {c:Expr} {tc:TT} (h:PT X c tc):JD X [c] tc:=fun pins s σ H Q I hw=>wpAny_tests_one (h pins s σ H Q I hw)
def GK (n:Nat) (g:TG):Prop:=∀ x σ H Q,g x σ H Q->g x σ H fun σ2 H2=>Q σ2 H2 /\ σ2.length=σ.length /\ σ2.drop n=σ.drop n
theorem Hr {n i:Nat} (h:i < n):GK n (Ef i):=fun x σ H Q q=>⟨q,by simp,by rw [List.drop_set_of_lt h]⟩
def WQ (tgs:List Str) (ix:List Nat) (g:TG) (tc:TT) (te:TE) (σ:St) (Q:VK) (J:It) (H1:Hp):Prop:=∃ W:Nat->Nat->List V->Hp->Prop,(∃ m,W 0 m [] H1) /\ ∀ i m ys H,W i m ys H->
  (J.stop i H /\ ys.length <= sizeLine /\ ∀ p,H p=none->Q (.ref p) (upd H p (.lst ys))) ∨
  (J.go i H /\ ys.length < sizeLine /\ ∃ N:List V->Hp->Prop,(∀ ys' H',N ys' H'->∃ m',m' < m /\ W (i + 1) m' ys' H') /\ ∀ x H',J.yld i H x H'->g x (DV tgs ix σ) H' fun σ2 H2=>tc σ2 H2 fun b H3=>
    if b=true then te σ2 H3 fun v H4=>N (ys ++ [v]) H4 else N ys H3)
def M4 (tgs:List Str) (ix:List Nat) (wi:TI) (g:TG) (tc:TT) (te:TE):TE:=fun σ H Q=>wi σ H fun J H1=>WQ tgs ix g tc te σ Q J H1
theorem Ml {α:Type} {t:Sem α} {Q Q':α->Shared->Prop} {M:Model} {A:Around} {E:Value->Shared->Prop} {s:Shared} (h:wpAny M A t Q (fun _ _=>False) s) (hQ:∀ a s,Q a s->Q' a s):wpAny M A t Q' E s:=wpAny_mono h hQ fun _ _ x=>x.elim
theorem N6 {α:Type} {u:Sem Unit} {t:Sem α} {P:Unit->Shared->Prop} {Q:α->Shared->Prop} {M:Model} {A:Around} {E:Value->Shared->Prop} {s:Shared} (hu:u=pure ()) (h:wpAny M A u P E s) (k:∀ s',P () s'->wpAny M A t Q E s'):wpAny M A t Q E s:=by
  subst hu
  have z:wpAny M A ((pure ():Sem Unit) >>= fun _=>t) Q E s:=wpAny_bind (wpAny_mono h (fun _ s' p=>k s' p) fun _ _ x=>x)
  exact z
end
end L2
namespace L2
open PySem PySem.Spec PyProof.Rows
section
variable {X:Cx} {scope:Scope} {tgs:List Str} {ix:List Nat}
abbrev Ke (its:List Value) (k:Nat):Obj:={ cls:=.type "list",data:=.seq its.toArray k }
theorem JS {fp:List Addr} {C:Addr} {s0:Shared} {H0:Hp} {pins:List (Addr × Obj)} {σ σ6:St} {H:Hp} {s:Shared} (I:Inv (cxB X scope tgs fp C s0 H0) pins σ6 H s) (l6:σ6.length=(DV tgs ix σ).length)
    (d6:σ6.drop tgs.length=(DV tgs ix σ).drop tgs.length):Inv (cxB X scope tgs fp C s0 H0) pins (DV tgs ix σ) H s:=by
  refine I.weak l6.symm fun k v e=>?_
  obtain ⟨hk,_⟩:=IC e
  have e1:σ6[k]? = (σ6.drop tgs.length)[k - tgs.length]?:=by rw [List.getElem?_drop]; congr 1; omega
  have e2:(DV tgs ix σ)[k]? = ((DV tgs ix σ).drop tgs.length)[k - tgs.length]?:=by rw [List.getElem?_drop]; congr 1; omega
  rw [e1,d6,← e2]
  exact e
theorem Ir {elt tg iter:Expr} {ifs:List Expr} {pos:Pos} {g:TG} {tc:TT} {te:TE} {pins:List (Addr × Obj)} {σ:St} {H2:Hp} {s2:Shared} {it:Addr} {fp:List Addr} {tn:Nat->Heap->Prop} {J:It} {Q:VK}
    (S:BScope X scope tgs ix) (ht:∀ o v,letOwnedTupleGo tg o v=pure ()) (hc:X.calm=true) (hg:∀ fp C s H,PG (cxB X scope tgs fp C s H) tg g) (hgk:GK tgs.length g) (hi:∀ fp C s H,JD (cxB X scope tgs fp C s H) ifs tc) (he:∀ fp C s H,PE (cxB X scope tgs fp C s H) elt te)
    (I2:Inv X pins σ H2 s2) (T:JR X.prog X.w X.K tg J fp it tn) (t0:tn 0 s2.heap) (hf:∀ b ∈ fp,F1 X pins H2 b)
    (W:Nat->Nat->List V->Hp->Prop) (w0:∃ m,W 0 m [] H2)
    (turn:∀ i m ys H,W i m ys H->(J.stop i H /\ ys.length <= sizeLine /\ ∀ p,H p=none->Q (.ref p) (upd H p (.lst ys))) ∨
      (J.go i H /\ ys.length < sizeLine /\ ∃ N:List V->Hp->Prop,(∀ ys' H',N ys' H'->∃ m',m' < m /\ W (i + 1) m' ys' H') /\ ∀ x H',J.yld i H x H'->g x (DV tgs ix σ) H' fun σ2 H2=>tc σ2 H2 fun b H3=>
        if b=true then te σ2 H3 fun v H4=>N (ys ++ [v]) H4 else N ys H3))
    {RR:Value->Addr->Result->Shared->Prop}
    (fin:∀ (D C:Addr) (s':Shared) (H':Hp) (m:Str->Option Value),Inv X pins σ H' s'->Q (.ref D) H'->s'.heap.Ns C m->F1 X pins H' C->RR (.ref D) C (.ok .next) s') :
    wpAny (model X.prog X.w) X.A (newList []) (fun acc s₃=>wpAny (model X.prog X.w) X.A (newFunctionEnv scope X.env.globals (Fi X.env scope.names []) [] X.env.qual none .none (some X.env)) (fun cenv s₄=>
      codeAny (model X.prog X.w) X.A (.compStart (.ListComp elt [⟨tg,iter,ifs,0⟩] scope pos) 0 (.ref it) acc { cenv with scope:=relabel scope X.env }) (RR acc cenv.locals) s₄) X.xe s₃) X.xe s2:=by
  refine wpAny_newObj_type (wpAny_newFunctionEnv S.nocell (by intro y hy; simp at hy) (fun h₁ hns₁ hsb₁=>?_) S.kind)
  dsimp only at hns₁ hsb₁ ⊢
  generalize hH2:s2.heap.push { cls:=.type "list",dict:=none,data:=.seq ([]:List Value).toArray }=G2 at hns₁ hsb₁ ⊢
  have hC:G2.objs.size=s2.heap.objs.size + 1:=by rw [← hH2,Heap.size_push]
  have hCle:s2.heap.objs.size <= G2.objs.size:=by rw [hC]; exact Nat.le_succ _
  have hDC:s2.heap.objs.size ≠ G2.objs.size:=by rw [hC]; exact Nat.ne_of_lt (Nat.lt_succ_self _)
  have below:∀ b,b < s2.heap.objs.size->b ≠ G2.objs.size /\ b ≠ s2.heap.objs.size:=fun b hb=>⟨by rw [hC]; exact Nat.ne_of_lt (Nat.lt_succ_of_lt hb),Nat.ne_of_lt hb⟩
  have old:∀ b o,s2.heap.get? b=some o->h₁.get? b=some o:=fun b o e=>hsb₁.extBut b o (below b (Heap.lt_size e)).1 (Heap.get?_push_of_some _ (hH2 ▸ Heap.get?_push_of_some _ e))
  have hacc:h₁.get? s2.heap.objs.size=some (Ke [] 0):=hsb₁.extBut _ _ hDC (Heap.get?_push_of_some _ (hH2 ▸ Heap.get?_push_size _ rfl))
  have hfo:∀ b ∈ fp,b < s2.heap.objs.size:=fun b hb=>let ⟨o,e,_⟩:=T.obj 0 _ t0 b hb; Heap.lt_size e
  have ok:=QZ (tgs:=tgs) (ix:=ix) (C:=G2.objs.size) S I2 hf hfo hCle
  have sub:∀ x c,(Fi X.env scope.names []).lookup x=some c->X.env.cells.lookup x=some c:=Fh scope.names [] (fun _ _ z=>by simp at z)
  have nDfs:s2.heap.objs.size ∉ frs X.stack:=fun hz=>by
    rcases List.mem_cons.mp (I2.stkSub _ hz) with z | z
    . exact absurd I2.lt (by rw [← z]; exact Nat.lt_irrefl _)
    . exact I2.nofs (Nat.le_refl _) z
  have nDcell:∀ x c,(Fi X.env scope.names []).lookup x=some c->c ≠ s2.heap.objs.size:=fun x c e=>Nat.ne_of_lt (I2.cellLt (sub x c e))
  have ncell:∀ (its:List Value) (k:Nat) (v:Option Value),(Ke its k).data ≠ .cell v:=fun its k v z=>by cases z
  have stat:∀ {Hx:Hp} {o:Obj},(∀ b ∈ fp,Hx b=none)->∀ b ∈ fp,F1 (cxB X scope tgs fp G2.objs.size s2 H2) [(s2.heap.objs.size,o)] Hx b:=fun {Hx o} hn b hb=>
    ⟨hn b hb,(ok.exf b hb).1,ok.exfs b hb,.inl hb,(ok.exf b hb).2,fun p hp z=>by
      have e:p=(s2.heap.objs.size,o):=by simpa [cxB] using hp
      subst e
      exact absurd (hfo b hb) (by rw [← z]; exact Nat.lt_irrefl _)⟩
  have loop:∀ s₃:Shared,s₃={ s2 with heap:=h₁,toks:=s2.toks + ([]:List (Str × Value)).length }->
      codeAny (model X.prog X.w) X.A (.compLoop (.ListComp elt [⟨tg,iter,ifs,0⟩] scope pos) 0 (.ref it) (.ref s2.heap.objs.size) (compEnvC scope (Fi X.env scope.names []) G2.objs.size X.env)) (RR (.ref s2.heap.objs.size) G2.objs.size) s₃:=by
    rintro s₃ rfl
    obtain ⟨m0,w0⟩:=w0
    refine codeAny_compLoop_tests (fun n s=>∃ i ys its k H,Inv (cxB X scope tgs fp G2.objs.size s2 H2) [(s2.heap.objs.size,Ke its k)] (DV tgs ix σ) H s /\ tn i s.heap /\ (∀ b ∈ fp,H b=none) /\ Vals ys its /\ W i n ys H) ?_ m0
      ⟨0,[],[],0,H2,Me S I2 hf hfo hCle (Nat.le_refl _) hDC hns₁ old rfl rfl hacc (ncell _ _),T.keep 0 _ _ t0 fun b _ o e=>old b o e,fun b hb=>(hf b hb).1,.nil,w0⟩ (ht _)
    rintro n s ⟨i,ys,its,k,H,I,st,fr,rv,w⟩
    rcases turn i n ys H w with ⟨stop,hz,q⟩ | ⟨go,hz8,N,hN,step⟩
    . refine thn (T.done (cxB X scope tgs fp G2.objs.size s2 H2) rfl rfl rfl hc i _ s _ H _ I (stat fr) st stop) fun r s1 ⟨hr,I1⟩=>?_
      subst hr
      obtain ⟨pe,pn,_⟩:=I1.pin (s2.heap.objs.size,Ke its k) (List.mem_append_right _ (by simp))
      have J0:Inv X pins σ H s1:=I2.call' I1.os I1.base I1.hok I1.bare fun b hb=>⟨(hf b hb).2.2.2.1,(hf b hb).2.1,(hf b hb).2.2.2.2.1,(hf b hb).2.2.2.2.2⟩
      have J1:Inv X pins σ (upd H s2.heap.objs.size (.lst ys)) s1:=J0.track (I2.fpOk (Nat.le_refl _) pn) ⟨hz,its,k,rv,pe⟩
      obtain ⟨m,hn,_⟩:=I1.loc
      exact fin _ _ s1 _ m J1 (q _ pn) hn (I2.fpOk hCle (by rw [A8 (Ne.symm hDC)]; exact I1.free))
    . refine thn (T.item (cxB X scope tgs fp G2.objs.size s2 H2) rfl rfl rfl hc i _ s _ H _ I (stat fr) st go) fun r s1 ⟨u,hr,h1⟩=>?_
      subst hr
      refine N6 (ht _ _) h1 fun s5 ⟨x,H5,I5,r5,y5,st5,fr5⟩=>?_
      have I5':=I5.pinned (stat fr5) (T.obj _ _ st5)
      refine Ml (hg fp G2.objs.size s2 H2 _ s5 _ H5 x u _ I5' r5 (hgk _ _ _ _ (step x H5 y5))) fun _ s6 ⟨σ6,H6,I6,q6,l6,d6⟩=>?_
      refine Ml (hi fp G2.objs.size s2 H2 _ s6 σ6 H6 _ I6 q6) fun okb s7 ⟨H7,I7,q7⟩=>?_
      cases okb with
      | false=>
        rw [if_neg Bool.false_ne_true] at q7 ⊢
        obtain ⟨m',hm,w7⟩:=hN _ _ q7
        refine ⟨m',hm,i + 1,ys,its,k,H7,JS I7.unpinned l6 d6,T.keep _ _ _ st5 fun b hb o e=>(I7.pin (b,o) (List.mem_append_right _ (List.mem_append_right _ (DY hb e)))).1,fun b hb=>?_,rv,w7⟩
        obtain ⟨o,e,_⟩:=T.obj _ _ st5 b hb
        exact (I7.pin (b,o) (List.mem_append_right _ (List.mem_append_right _ (DY hb e)))).2.1
      | true=>
        rw [if_pos rfl] at q7 ⊢
        refine Ml (he fp G2.objs.size s2 H2 _ s7 σ6 H7 _ I7 q7) fun xv s8 ⟨v,H8,I8,rv8,q8⟩=>?_
        obtain ⟨m',hm,w8⟩:=hN _ _ q8
        obtain ⟨pe,pn,_⟩:=I8.pin (s2.heap.objs.size,Ke its k) (List.mem_append_right _ (List.mem_append_left _ (by simp)))
        have hlen:=rv.length
        refine call_meets PySem.F.slot_list_append ⟨_,pe,rfl⟩ PySem.F.entry_list_append (PySem.F.args_list_append_2 _ _) (PySem.list_append s2.heap.objs.size its.toArray k xv (by rw [List.size_toArray]; omega)) ⟨pe,?_⟩
        have hp:its.toArray.push xv=(its ++ [xv]).toArray:=by simp
        have q':∃ k',(s8.heap.update s2.heap.objs.size (Obj.mapSeq (fun a=>a.push xv))).get? s2.heap.objs.size=some (Ke (its ++ [xv]) k'):=⟨_,by
          unfold Ke
          rw [← hp]
          exact PySem.IsL.update pe (fun a=>a.push xv)⟩
        obtain ⟨k',q'⟩:=q'
        have I9:Inv (cxB X scope tgs fp G2.objs.size s2 H2) [] σ6 H8 { s8 with heap:=s8.heap.update s2.heap.objs.size (Obj.mapSeq (fun a=>a.push xv)) }:=
          (I8.pins_of (pins':=[]) (fun p hp=>absurd hp (by simp))).turned (t':=s8.toks) (fun b o hb e=>(Heap.get?_update_other s8.heap (Obj.mapSeq (fun a=>a.push xv)) (Ne.symm hb)).trans e) pn hDC (.inr (Nat.le_refl _)) nDcell (fun p hp=>absurd hp (by simp [cxB]))
        have I10:Inv (cxB X scope tgs fp G2.objs.size s2 H2) [(s2.heap.objs.size,Ke (its ++ [xv]) k')] σ6 H8 { s8 with heap:=s8.heap.update s2.heap.objs.size (Obj.mapSeq (fun a=>a.push xv)) }:=
          I9.pins_of fun p hp=>by
            have e:p=(s2.heap.objs.size,Ke (its ++ [xv]) k'):=by simpa using hp
            subst e
            exact ⟨q',pn,hDC,nDfs,ncell _ _⟩
        refine ⟨m',hm,i + 1,ys ++ [v],its ++ [xv],k',H8,JS I10 l6 d6,T.keep _ _ _ st5 fun b hb o e=>?_,fun b hb=>?_,rv.append (.cons rv8 .nil),w8⟩
        . exact (Heap.get?_update_other s8.heap (Obj.mapSeq (fun a=>a.push xv)) (Ne.symm (below b (hfo b hb)).2)).trans (I8.pin (b,o) (List.mem_append_right _ (List.mem_append_right _ (DY hb e)))).1
        . obtain ⟨o,e,_⟩:=T.obj _ _ st5 b hb
          exact (I8.pin (b,o) (List.mem_append_right _ (List.mem_append_right _ (DY hb e)))).2.1
  exact codeAny_compStart_list (loop _ rfl) (T.self _ 0 _ _ _ (T.keep 0 _ _ t0 fun b _ o e=>old b o e) (loop _ rfl))
theorem KR {elt tg iter:Expr} {ifs:List Expr} {pos:Pos} {wi:TI} {g:TG} {tc:TT} {te:TE} (S:BScope X scope tgs ix) (hc:X.calm=true) (hi:PI X tg iter wi) (hg:∀ fp C s H,PG (cxB X scope tgs fp C s H) tg g) (hgk:GK tgs.length g)
    (hif:∀ fp C s H,JD (cxB X scope tgs fp C s H) ifs tc) (he:∀ fp C s H,PE (cxB X scope tgs fp C s H) elt te) (hs:∀ x,foldedSetIterable iter X.env x=pure x:=by intro _; rfl) (ht:∀ o v,letOwnedTupleGo tg o v=pure ():=by intro _ _; rfl) :
    PE X (.ListComp elt [⟨tg,iter,ifs,0⟩] scope pos) (M4 tgs ix wi g tc te):=by
  intro pins s σ H Q I h
  rw [eval_ListComp]
  refine wpAny_comprehension_free (use:=none) rfl hs (Ev (S.cells I.ok)) S.kind S.loc ?_
  show wpAny _ _ (eval iter X.env) _ _ s
  refine thn (hi pins s σ H _ I h) fun v s1 h1=>thn h1 fun itv s2 h2=>?_
  obtain ⟨it,fp,tn,J,H2,e,I2,T,t0,f2,W,w0,turn⟩:=h2
  subst e
  refine Ir (RR:=fun acc C=>compPost (model X.prog X.w) X.A X.xe none (EP X pins σ Q) acc C) S ht hc hg hgk hif he I2 T t0 f2 W w0 turn ?_
  intro D C s' H' m J1 q hn fC
  obtain ⟨f0,f1,f2,f3,f4,f5⟩:=fC
  exact ⟨m,hn,fun h' sb=>⟨.ref D,H',J1.turned (t':=s'.toks) (fun b o hb e=>(sb.2 b hb).trans e) f0 f1 f3 f4 f5,rfl,q⟩⟩
theorem MK {i:Nat} {y:Str} {py:Pos} {elt tg iter:Expr} {ifs:List Expr} {pos spos:Pos} {wi:TI} {g:TG} {tc:TT} {te:TE} (hN:X.N.Nodup) (hiN:X.N[i]? = some y) (hy:X.env.scope.names.lookup y=some .local)
    (S:BScope X scope tgs ix) (hc:X.calm=true) (hi:PI X tg iter wi) (hg:∀ fp C s H,PG (cxB X scope tgs fp C s H) tg g) (hgk:GK tgs.length g)
    (hif:∀ fp C s H,JD (cxB X scope tgs fp C s H) ifs tc) (he:∀ fp C s H,PE (cxB X scope tgs fp C s H) elt te)
    (hsw:swapsWith (.ListComp elt [⟨tg,iter,ifs,0⟩] scope pos) (some (.Name y py)) spos.line X.env=pure true:=by rfl) (hs:∀ x,foldedSetIterable iter X.env x=pure x:=by intro _; rfl) (ht:∀ o v,letOwnedTupleGo tg o v=pure ():=by intro _ _; rfl) :
    PS X (.Assign [.Name y py] (.ListComp elt [⟨tg,iter,ifs,0⟩] scope pos) spos) (Qt (M4 tgs ix wi g tc te) (Ef i)):=by
  intro pins s σ H D0 I h
  rw [exec_Assign_Name_used _ _ _ _ hsw]
  refine wpAny_bind (wpAny_standAt (wpAny_bind ?_))
  show wpAny _ X.A (do let _ ← comprehension (.ListComp elt [⟨tg,iter,ifs,0⟩] scope pos) scope X.env _ (newList []) false (eval iter X.env) (some (assign (.Name y py) X.env))) _ _ s
  refine wpAny_bind (wpAny_mono (wpAny_comprehension_free (use:=some (assign (.Name y py) X.env)) (Q:=fun _ s'=>SP X pins D0 .next s') rfl hs (Ev (S.cells I.ok)) S.kind S.loc ?_) (fun _ s' hq=>wpAny_pure (wpAny_pure hq)) fun _ _ e=>e)
  refine thn (hi pins s σ H _ I h) fun v s1 h1=>thn h1 fun itv s2 h2=>?_
  obtain ⟨it,fp,tn,J,H2,e,I2,T,t0,f2,W,w0,turn⟩:=h2
  subst e
  refine Ir (Q:=fun x H1=>Ef i x σ H1 D0.nx) (RR:=fun acc C=>compPost (model X.prog X.w) X.A X.xe (some (assign (.Name y py) X.env)) (fun _ s'=>SP X pins D0 .next s') acc C) S ht hc hg hgk hif he I2 T t0 f2 W w0 turn ?_
  intro D C s' H' m J1 q hn fC
  obtain ⟨f0,f1,f2,f3,f4,f5⟩:=fC
  show wpAny _ X.A (assign (.Name y py) X.env (.ref D)) _ _ _
  refine wpAny_assign_Name (JW (v:=.ref D) J1 hN hiN (.inl hy) rfl (fun s'' I'' hsb=>?_) (.inr hy))
  obtain ⟨a,sb,ha⟩:=hsb
  have hCa:C ≠ a:=by
    rcases ha with z | z
    . rw [z]; exact f1
    . exact Ne.symm (f4 y a z)
  exact ⟨m,hn.sameBut sb hCa,fun h' sb'=>⟨_,H',I''.turned (t':=s''.toks) (fun b o hb e=>(sb'.2 b hb).trans e) f0 f1 f3 f4 f5,q⟩⟩
end
end L2
namespace L2
open PySem PySem.Spec PyProof.Rows
section
variable {X:Cx}
theorem Lx:CH X (.builtin "isinstance") (fun xs H Q=>∃ x T t b,xs=[x,.ty T] /\ Gw X.K H x t /\ PySem.W.kitOne X.K t (.type T)=some b /\ Q (.bl b) H):=by
  intro pins s σ H xs us Q I r h
  obtain ⟨x,T,t,b,rfl,ty,e,q⟩:=h
  obtain ⟨u,w',rfl,rx,ry⟩:=Os r
  cases ry
  exact OR I rx ty e fun tk=>⟨.bl b,H,I.tok tk,rfl,q⟩
end
section
variable {prog:Program} {w:World} {A:Around} {E:Value->Shared->Prop} {s:Shared}
end
end L2
namespace L2
open PySem PySem.Spec PyProof.Rows
section
variable {prog:Program} {w:World} {A:Around} {R:Result->Shared->Prop}
end
section
variable {X:Cx}
end
end L2
namespace L2
open PySem PySem.Spec PyProof.Rows
def Its (x:Str):It:=⟨fun i _=>i < x.cps.size,fun i H v H'=>H'=H /\ ∃ c,x.cps[i]? = some c /\ v=.str ⟨#[c]⟩,fun i _=>i=x.cps.size⟩
theorem Vp {tg:Expr} {it:Addr} {x:Str} {u:Tok}:letOwnedTupleGo tg (.ref it) (.str x u)=pure ():=by
  unfold letOwnedTupleGo
  cases tg <;> rfl
theorem K7 {P:Program} {w:World} {K:PySem.W.Frag} {tg:Expr} (it:Addr) (ty:String) (x:Str) (t:Tok)
    (W:∀ A:Around,A.handled=none->Walks P w A it [it] [it] x.cps.size (SignAt x) (fun i h=>h.IsStrIter it ty x t i)) (sf:∀ (A:Around) (i:Nat) (s:Shared) (Q:Value->Shared->Prop) (E:Value->Shared->Prop),s.heap.IsStrIter it ty x t i->Q (.ref it) s->wpAny (model P w) A (pyIter (.ref it)) Q E s) :
    JR P w K tg (Its x) [it] it (fun i h=>h.IsStrIter it ty x t i) where
  mem:=by simp
  obj:=fun i h st b hb=>by
    have e:b=it:=by simpa using hb
    subst e
    obtain ⟨o,e,c,d⟩:=st
    exact ⟨o,e,fun v z=>by rw [d] at z; cases z⟩
  keep:=fun i h h' st k=>by
    obtain ⟨o,e,r⟩:=st
    exact ⟨o,k it (by simp) o e,r⟩
  item:=by
    intro X hP hw hK hc i pins s σ H E I hf st hg
    subst hP hw hK
    obtain ⟨f0,f1,f2,f3,f4,f5⟩:=hf it (by simp)
    refine (W X.A (I.ok.hd hc)).item i s _ _ hg st fun v h' tk hv st' kk=>?_
    obtain ⟨c,u,hcu,rfl⟩:=hv
    have I1:Inv X pins σ H { s with heap:=h',toks:=tk }:=I.turned (fun b o hb e=>kk b o (by simpa using hb) e) f0 f1 f3 f4 f5
    exact ⟨_,rfl,wpAny_of_eq Vp ⟨.str ⟨#[c]⟩,H,I1,⟨u,rfl⟩,⟨rfl,c,hcu,rfl⟩,st',fun b hb=>(hf b hb).1⟩⟩
  done:=by
    intro X hP hw hK hc i pins s σ H E I hf st hg
    subst hP hw hK
    obtain ⟨f0,f1,f2,f3,f4,f5⟩:=hf it (by simp)
    have hi:i=x.cps.size:=hg
    subst hi
    exact (W X.A (I.ok.hd hc)).done s _ _ st fun h' tk kk=>⟨rfl,I.turned (fun b o hb e=>kk b o (by simpa using hb) e) f0 f1 f3 f4 f5⟩
  self:=fun A i s Q E st h=>sf A i s Q E st h
def Ws (tl:TE):TI:=fun σ H R=>tl σ H fun v H1=>∃ x,v=.str x /\ R (Its x) H1
theorem T0 {X:Cx} {tg l:Expr} {tl:TE} (hl:PE X l tl):PI X tg l (Ws tl):=by
  intro pins s σ H R I h
  refine thn (hl pins s σ H _ I h) fun v s1 ⟨y,H1,I1,r1,q1⟩=>?_
  obtain ⟨x,e,q⟩:=q1
  subst e
  obtain ⟨t,rfl⟩:=r1
  have fp:∀ b ∈ [s1.heap.objs.size],F1 X pins H1 b:=fun b hb=>by
    have e:b=s1.heap.objs.size:=by simpa using hb
    subst e
    exact I1.fpOk (Nat.le_refl _) (I1.hok.fresh (Nat.le_refl _))
  cases ha:x.cps.all (· < 128) with
  | false=>
    refine wpAny_pyIter_wide ha ?_
    exact ⟨s1.heap.objs.size,[s1.heap.objs.size],_,Its x,H1,rfl,I1.kept (t':=s1.toks) fun b o e=>Heap.get?_push_of_some _ e,K7 _ "str_iterator" x t (fun A hA=>Walks.strWide hA _ x t) (fun _ _ _ _ _ st h=>wpAny_pyIter_striter_wide st h),⟨_,Heap.get?_push_size _ rfl,rfl,rfl⟩,fp,q⟩
  | true=>
    refine wpAny_pyIter_ascii ha ?_
    exact ⟨s1.heap.objs.size,[s1.heap.objs.size],_,Its x,H1,rfl,I1.kept (t':=s1.toks) fun b o e=>Heap.get?_push_of_some _ e,K7 _ "str_ascii_iterator" x t (fun A hA=>Walks.strAscii hA _ x t) (fun _ _ _ _ _ st h=>wpAny_pyIter_striter_ascii st h),⟨_,Heap.get?_push_size _ rfl,rfl,rfl⟩,fp,q⟩
theorem MG {α:Type} (d:α) (bs:List α):(List.range bs.length).map (fun i=>bs.getD i d)=bs:=by
  apply List.ext_getElem
  . simp
  . intro i h1 h2
    simp [List.getD,h2]
theorem Nx (bs:List Bool):((List.range bs.length).all fun i=>bs.getD i true)=bs.all id:=by
  conv=>rhs; rw [← MG true bs]
  rw [List.all_map]; rfl
section
variable {X:Cx}
theorem K9 {P:Program} {w:World} {A:Around} {bs:List Bool} {its:List Value} (r:Vals (bs.map V.bl) its):TruthOf P w A (fun i v=>its.toArray[i]? = some v) (fun i=>bs.getD i true):=by
  intro i v s Q E hP hQ
  have hi:its[i]? = some v:=by simpa using hP
  have hlt:i < its.length:=(List.getElem?_eq_some_iff.mp hi).1
  have hl:=r.length
  rw [List.length_map] at hl
  have hb:(bs.map V.bl)[i]? = some (V.bl (bs.getD i true)):=by
    rw [List.getElem?_map,List.getElem?_eq_getElem (show i < bs.length by omega)]
    simp [List.getD,show i < bs.length by omega]
  obtain ⟨u,hu,ru⟩:=r.get hb
  rw [hi] at hu; cases hu
  cases ru
  exact wpAny_truthy_bool hQ
theorem Mo (hc:X.calm=true) {pins:List (Addr × Obj)} {s:Shared} {σ:St} {H:Hp} {a:Addr} {bs:List Bool} {Q:VK} {c:Bool} {f:(Nat->Bool)->List Nat->Bool} (I:Inv X pins σ H s) (ha:SqL X.K H a (bs.map V.bl)) (hf:f (fun i=>bs.getD i true) (List.range bs.length)=c) (q:Q (.bl c) H) :
    wpAny (model X.prog X.w) X.A.in1 (pyIter (.ref a)) (fun it s₂=>∃ I fp wr n P St tr,it=.ref I /\ Walks X.prog X.w X.A.in1 I fp wr n P St /\ St 0 s₂.heap /\ TruthOf X.prog X.w X.A.in1 P tr /\
      ∀ h' tk,(∀ b o,b ∉ wr->s₂.heap.get? b=some o->h'.get? b=some o)->EP X pins σ Q (.bool (f tr (List.range n))) { s₂ with heap:=h',toks:=tk }) X.xe s:=by
  obtain ⟨its,r,p,hz⟩:=I.list ha
  refine wpAny_pyIter_list p.isList ?_
  have hlt:a < s.heap.objs.size:=by
    obtain ⟨o,n,e,_⟩:=p
    exact Heap.lt_size e
  have I1:Inv X pins σ H { s with heap:=s.heap.push { cls:=.type "list_iterator",data:=.fields #[.ref a,.int 0 0] } }:=I.kept (t':=s.toks) fun b o e=>Heap.get?_push_of_some _ e
  obtain ⟨f0,f1,f2,f3,f4,f5⟩:=I.fpOk (H':=H) (Nat.le_refl _) (I.hok.fresh (Nat.le_refl _))
  refine ⟨s.heap.objs.size,_,_,_,_,_,_,rfl,Walks.list (prog:=X.prog) (w:=X.w) (A:=X.A.in1) (show X.A.handled=none from I.ok.hd hc) s.heap.objs.size a (Nat.ne_of_lt hlt) its.toArray,⟨⟨_,Heap.get?_push_size _ rfl,rfl,rfl⟩,p.isList.push _⟩,K9 r,fun h' tk kk=>?_⟩
  have hl:=r.length
  rw [List.length_map] at hl
  rw [List.size_toArray,← hl,hf]
  exact ⟨.bl c,H,I1.turned (t':=tk) (fun b o hb e=>kk b o (by simpa using hb) e) f0 f1 f3 f4 f5,rfl,q⟩
theorem Oi (hc:X.calm=true):CH X (.builtin "all") (fun xs H Q=>∃ (a:Addr) (bs:List Bool),xs=[.ref a] /\ SqL X.K H a (bs.map V.bl) /\ Q (.bl (bs.all id)) H):=by
  intro pins s σ H xs us Q I r h
  obtain ⟨a,bs,rfl,ha,q⟩:=h
  obtain ⟨u,rfl,ru⟩:=FM r
  cases ru
  exact call_all_walk (Mo (f:=fun tr l=>l.all tr) hc I ha (Nx bs) q)
end
mutual
inductive DatV (K:PySem.W.Frag) (H:Hp):V->PyData->Prop
  | non:DatV K H .non .none
  | bl (b:Bool):DatV K H (.bl b) (.bool b)
  | int (i:Int):DatV K H (.int i) (.int i)
  | str (x:Str):DatV K H (.str x) (.str x)
  | tup {a:Addr} {xs:List V} {ds:List PyData}:SqT K H a xs->DatVs K H xs ds->DatV K H (.ref a) (.tuple ds)
  | lst {a:Addr} {xs:List V} {ds:List PyData}:SqL K H a xs->DatVs K H xs ds->DatV K H (.ref a) (.list ds)
inductive DatVs (K:PySem.W.Frag) (H:Hp):List V->List PyData->Prop
  | nil:DatVs K H [] []
  | cons {v:V} {d:PyData} {vs:List V} {ds:List PyData}:DatV K H v d->DatVs K H vs ds->DatVs K H (v :: vs) (d :: ds)
end
section
variable {X:Cx} {pins:List (Addr × Obj)} {σ:St} {H:Hp} {s:Shared}
mutual
theorem DatV.reads (I:Inv X pins σ H s):∀ {v:V} {d:PyData},DatV X.K H v d->∀ {u:Value},RelV v u->∃ as,Reads s.heap u d as
  | _,_,.non,_,r=>by cases r; exact ⟨[],.none⟩
  | _,_,.bl b,_,r=>by cases r; exact ⟨[],.bool b⟩
  | _,_,.int i,_,r=>by obtain ⟨t,rfl⟩:=r; exact ⟨[],.int i t⟩
  | _,_,.str x,_,r=>by obtain ⟨t,rfl⟩:=r; exact ⟨[],.str x t⟩
  | _,_,.tup hq hs,_,r=>by
    cases r
    obtain ⟨its,rv,⟨o,e,c,n,d⟩,_⟩:=I.tuple hq
    obtain ⟨as,ra⟩:=DatVs.reads I hs rv
    exact ⟨_,.tuple e c d (by simpa using ra)⟩
  | _,_,.lst hq hs,_,r=>by
    cases r
    obtain ⟨its,rv,⟨o,n,e,c,_,d⟩,_⟩:=I.list hq
    obtain ⟨as,ra⟩:=DatVs.reads I hs rv
    exact ⟨_,.list e c d (by simpa using ra)⟩
theorem DatVs.reads (I:Inv X pins σ H s):∀ {vs:List V} {ds:List PyData},DatVs X.K H vs ds->∀ {us:List Value},Vals vs us->∃ as,ReadsAll s.heap us ds as
  | _,_,.nil,_,.nil=>⟨[],.nil⟩
  | _,_,.cons h t,_,.cons r rr=>by
    obtain ⟨a,ra⟩:=DatV.reads I h r
    obtain ⟨b,rb⟩:=DatVs.reads I t rr
    exact ⟨_,.cons ra rb⟩
end
end
section
variable {X:Cx}
theorem UN (hu:X.A.units + 64 < cLine):OpR X (compareOp .Eq) (fun x y H Q=>∃ d d',DatV X.K H x d /\ DatV X.K H y d' /\ SeqAt.shaped d=true /\ SeqAt.shaped d'=true /\ Q (.bl (PyData.eqv d d')) H):=by
  intro pins s σ H x y v u Q I rx ry h
  obtain ⟨d,d',h1,h2,s1,s2,q⟩:=h
  obtain ⟨as,ra⟩:=h1.reads I rx
  obtain ⟨bs,rb⟩:=h2.reads I ry
  exact SeqAt.compareEq_shaped ra rb s1 s2 hu ⟨.bl _,H,I,rfl,q⟩
theorem UJ (hu:X.A.units + 64 < cLine):OpR X (compareOp .NotEq) (fun x y H Q=>∃ d d',DatV X.K H x d /\ DatV X.K H y d' /\ SeqAt.shaped d=true /\ SeqAt.shaped d'=true /\ Q (.bl (!PyData.eqv d d')) H):=by
  intro pins s σ H x y v u Q I rx ry h
  obtain ⟨d,d',h1,h2,s1,s2,q⟩:=h
  obtain ⟨as,ra⟩:=h1.reads I rx
  obtain ⟨bs,rb⟩:=h2.reads I ry
  exact SeqAt.compareNe_shaped ra rb s1 s2 hu ⟨.bl _,H,I,rfl,q⟩
theorem PU {A:Around} {k:Nat} (hr:Room k A):A.units + 64 < cLine:=hr.units
end
end L2
namespace L2
open PySem PySem.Spec PyProof.Rows
theorem Inv.turnedL {X:Cx} {pins:List (Addr × Obj)} {σ:St} {H:Hp} {s:Shared} {h':Heap} {t':Nat} {ch:List Addr} (I:Inv X pins σ H s) (k:∀ b o,b ∉ ch->s.heap.get? b=some o->h'.get? b=some o) (hf:∀ b ∈ ch,F1 X pins H b):Inv X pins σ H { s with heap:=h',toks:=t' }:=by
  have nit:∀ b u,H b=some u->b ∉ ch:=fun b u e z=>by rw [(hf b z).1] at e; cases e
  refine I.step (g':=s.gens) (d':=s.drawn) (ch:=ch) (fun b hb=>⟨(hf b hb).2.2.2.1,(hf b hb).2.1,(hf b hb).2.2.2.2.1,(hf b hb).2.2.2.2.2⟩) (fun b o _ _ hc e _=>k b o hc e) (fun b o _ _ hc e _=>⟨o.slots,k b o hc e⟩) (fun _ _ _ _ n=>n)
    (fun b o hc e=>⟨o,k b o hc e⟩) (fun _ _ e=>e) (fun _ _ _ e=>e) (fun b ps e=>⟨#[],by rw [e]; simp⟩) (fun m hm=>?_) (fun b u e=>?_) I.bare
  . obtain ⟨o,es,ep,ho,r⟩:=hm
    exact ⟨o,es,ep,k _ o (fun z=>(hf _ z).2.1 rfl) ho,r⟩
  . refine (I.hok b u e).stay (fun c v hc q=>k c v ?_ q) (fun _ q=>q) fun _ _ q=>q
    rcases hc with z | z
    . rw [z]; exact nit b u e
    . exact nit c _ z
def ItP (K:PySem.W.Frag) (n:Nat) (src:Nat->List V) (Cond:PySem.W.Frag->Hp->Prop):It:=
  ⟨fun i H=>i < n /\ Cond K H,fun i H v H'=>∃ T,H T=none /\ v=.ref T /\ H'=upd H T (.tup (src i)),fun i H=>i=n /\ Cond K H⟩
theorem F7 {P:Program} {w:World} {K:PySem.W.Frag} {es:List Expr} {k0:Nat} {pos:Pos} {I0:Addr} {ι:Type} {fp wr:List Addr} {n:Nat} {src:Nat->List V} {good:ι->Prop} {Pt:ι->Nat->Array Value->Prop} {Sw:ι->Nat->Heap->Prop} {Mid:ι->Nat->Addr->Heap->Prop} {tn:Nat->Heap->Prop} {Cond:PySem.W.Frag->Hp->Prop}
    (W:∀ A:Around,A.handled=none->∀ z,good z->WalksT P w A I0 fp wr n (Pt z) (Sw z) (Mid z)) (hmem:I0 ∈ wr) (hPt:∀ z i vals,good z->Pt z i vals->Vals (src i) vals.toList) (hlen:∀ i,(src i).length <= sizeLine)
    (obj:∀ i h,tn i h->∀ b ∈ wr,∃ o,h.get? b=some o /\ ∀ v,o.data ≠ .cell v)
    (keep:∀ i h h',tn i h->(∀ b ∈ wr,∀ o,h.get? b=some o->h'.get? b=some o)->tn i h')
    (into:∀ (X:Cx) (pins:List (Addr × Obj)) (σ:St) (H:Hp) (s:Shared) (i:Nat),X.prog=P->X.w=w->X.K=K->Inv X pins σ H s->Cond K H->tn i s.heap->∃ z,good z /\ Sw z i s.heap) (out:∀ z i h,Sw z i h->tn i h)
    (self:∀ (A:Around) (i:Nat) (s:Shared) (Q:Value->Shared->Prop) (E:Value->Shared->Prop),tn i s.heap->Q (.ref I0) s->wpAny (model P w) A (pyIter (.ref I0)) Q E s) :
    JR P w K (.Tuple es k0 pos) (ItP K n src Cond) wr I0 tn where
  mem:=hmem
  obj:=obj
  keep:=keep
  item:=by
    intro X hP hw hK hc i pins s σ H E I hf st hg
    obtain ⟨hi,hcond⟩:=hg
    obtain ⟨z,gz,sz⟩:=into X pins σ H s i hP hw hK I hcond st
    have W':=W X.A (I.ok.hd hc) z gz
    refine W'.item i s _ _ hi sz fun T vals h' tk hp hT ht hm kk=>⟨_,rfl,?_⟩
    have I1:Inv X pins σ H { s with heap:=h',toks:=tk }:=I.turnedL kk hf
    refine W'.go es k0 pos i T _ _ _ hm fun h2 st2 kk2=>?_
    have I2:Inv X pins σ H { s with heap:=h2,toks:=tk }:=I1.turnedL (t':=tk) kk2 hf
    have hn:H T=none:=I.hok.fresh hT
    have ht2:IsTup h2 T vals:=by
      obtain ⟨o,e,r⟩:=ht
      exact ⟨o,kk2 T o (W'.apart i T _ hm) e,r⟩
    refine ⟨.ref T,upd H T (.tup (src i)),I2.track (I.fpOk hT hn) ⟨hlen i,vals.toList,hPt z i vals gz hp,by simpa using ht2⟩,rfl,⟨T,hn,rfl,rfl⟩,out z _ _ st2,fun b hb=>?_⟩
    have hbT:b ≠ T:=fun z=>W'.apart i T _ hm (by rw [← z]; exact hb)
    rw [A8 hbT]
    exact (hf b hb).1
  done:=by
    intro X hP hw hK hc i pins s σ H E I hf st hg
    obtain ⟨hi,hcond⟩:=hg
    subst hi
    obtain ⟨z,gz,sz⟩:=into X pins σ H s i hP hw hK I hcond st
    exact (W X.A (I.ok.hd hc) z gz).done s _ _ sz fun h' tk kk=>⟨rfl,I.turnedL kk hf⟩
  self:=self
def Ff (xs:List V) (i:Nat):List V:=[.int i,xs.getD i .non]
theorem Iq {xs:List V} {its:List Value} (r:Vals xs its) {i:Nat} {vals:Array Value} (h:∃ t x,its.toArray[i]? = some x /\ vals = #[.int i t,x]):Vals (Ff xs i) vals.toList:=by
  obtain ⟨t,x,hx,rfl⟩:=h
  have hx':its[i]? = some x:=by simpa using hx
  have hlt:i < its.length:=(List.getElem?_eq_some_iff.mp hx').1
  have hl:=r.length
  have hv:xs[i]? = some (xs.getD i .non):=by
    rw [List.getElem?_eq_getElem (by omega)]
    simp [List.getD,show i < xs.length by omega]
  obtain ⟨u,hu,ru⟩:=r.get hv
  rw [hx'] at hu; cases hu
  exact .cons ⟨t,rfl⟩ (.cons ru .nil)
theorem NU {P:Program} {w:World} {e it:Addr} {f:Nat->Heap->Prop} (A:Around) (i:Nat) (s:Shared) (Q:Value->Shared->Prop) (E:Value->Shared->Prop) (st:(∃ old,IsEnum s.heap e it i old) /\ f i s.heap) (h:Q (.ref e) s):wpAny (model P w) A (pyIter (.ref e)) Q E s:=by
  obtain ⟨⟨old,he⟩,_⟩:=st
  exact wpAny_pyIter_enum he h
theorem QW {e it:Addr} {h:Heap} {i:Nat} {o:Obj} (he:∃ old,IsEnum h e it i old) (ho:h.get? it=some o) (hd:∃ vs,o.data=.fields vs):∀ b ∈ [e,it],∃ o,h.get? b=some o /\ ∀ v,o.data ≠ .cell v:=fun b hb=>by
  rcases List.mem_cons.mp hb with z | z
  . subst z
    obtain ⟨old,he⟩:=he
    exact ⟨_,he,fun v q=>by cases q⟩
  . rw [List.mem_singleton.mp z]
    obtain ⟨vs,hd⟩:=hd
    exact ⟨o,ho,fun v q=>by rw [hd] at q; cases q⟩
theorem MD {P:Program} {w:World} {K:PySem.W.Frag} {es:List Expr} {k0:Nat} {pos:Pos} (a e it:Addr) (xs:List V) (hei:e ≠ it) (hea:e ≠ a) (hai:a ≠ it) :
    JR P w K (.Tuple es k0 pos) (ItP K xs.length (Ff xs) fun K H=>SqL K H a xs) [e,it] e (fun i h=>(∃ old,IsEnum h e it i old) /\ h.IsListIter it a i):=
  F7 (ι:=List Value) (good:=fun its=>Vals xs its) (Pt:=fun its i vals=>∃ t x,its.toArray[i]? = some x /\ vals = #[.int i t,x]) (Sw:=fun its i h=>(∃ old,IsEnum h e it i old) /\ h.IsListIter it a i /\ h.IsList a its.toArray)
    (fun A hA its r=>by
      have hl:xs.length=its.toArray.size:=by rw [List.size_toArray]; exact r.length
      rw [hl]
      exact WalksT.enumerateD (Draws.list (show A.in1.handled=none from hA) it a hai its.toArray) e hei (by simp [hei,hea]) (by simp))
    (by simp) (fun its i vals r h=>Iq r h) (fun i=>(by show 2 <= sizeLine; decide))
    (fun i h st=>by obtain ⟨o,ho,_,hd⟩:=st.2; exact QW st.1 ho ⟨_,hd⟩)
    (fun i h h' st k=>⟨by obtain ⟨old,q⟩:=st.1; exact ⟨old,k e (by simp) _ q⟩,st.2.at fun o q=>k it (by simp) o q⟩)
    (fun X pins σ H s i hP hw hK I hc st=>by
      subst hK
      obtain ⟨its,r,p,_⟩:=I.list hc
      exact ⟨its,r,st.1,st.2,p.isList⟩)
    (fun z i h st=>⟨st.1,st.2.1⟩) (fun A i s Q E st h=>NU (f:=fun i h=>h.IsListIter it a i) A i s Q E st h)
end L2
namespace L2
open PySem PySem.Spec PyProof.Rows
open AutoSeq1 (wpAny_loadPart')
section
variable {X:Cx} {es:List Expr} {k0:Nat} {tpos:Pos}
def Uo (K:PySem.W.Frag) (ta:TA):TI:=fun σ H R=>ta σ H fun vs H1=>∃ a xs,vs=[.ref a] /\ SqL K H1 a xs /\ R (ItP K xs.length (Ff xs) fun K H=>SqL K H a xs) H1
theorem J3:bootBuiltins "enumerate" = some (.type "enumerate"):=by decide +kernel
theorem O4 {pins:List (Addr × Obj)} {σ:St} {H:Hp} {s:Shared} (I:Inv X pins σ H s):∀ b ∈ [s.heap.objs.size + 1,s.heap.objs.size],F1 X pins H b:=fun b hb=>by
  have hb':b=s.heap.objs.size + 1 ∨ b=s.heap.objs.size:=by simpa using hb
  rcases hb' with e | e <;> subst e
  . exact I.fpOk (Nat.le_succ _) (I.hok.fresh (Nat.le_succ _))
  . exact I.fpOk (Nat.le_refl _) (I.hok.fresh (Nat.le_refl _))
theorem Pq {a:Expr} {ta:TA} {p pos:Pos} (hg:Gl X "enumerate") (hm:X.mg "enumerate" = none) (ha:PA X [a] ta) (hs:starEach [a] X.env=[(false,eval a X.env)]:=by rfl):PI X (.Tuple es k0 tpos) (.Call (.Name "enumerate" p) [a] [] pos) (Uo X.K ta):=by
  intro pins s σ H R I h
  refine Call_ (Fb I hg hm J3 (PyProof.Rows.callWith_type1 (thn (ha pos pins s σ H _ I h) fun us s1 ⟨vs,H1,I1,r1,q1⟩=>?_) hs rfl))
  obtain ⟨l,xs,e,hq,q⟩:=q1
  subst e
  obtain ⟨u,rfl,ru⟩:=FM r1
  cases ru
  obtain ⟨its,rv,pl,hz⟩:=I1.list hq
  have hlt:l < s1.heap.objs.size:=by obtain ⟨o,n,e,_⟩:=pl; exact Heap.lt_size e
  refine call_enumerate_list pl.isList fun h' he hit hsz kk=>wpAny_pyIter_enum he ?_
  exact ⟨s1.heap.objs.size + 1,[s1.heap.objs.size + 1,s1.heap.objs.size],_,_,H1,rfl,I1.kept (t':=s1.toks) kk,MD l _ _ xs (Nat.succ_ne_self _) (Nat.ne_of_gt (Nat.lt_succ_of_lt hlt)) (Nat.ne_of_lt hlt),⟨⟨_,he⟩,hit⟩,O4 I1,q⟩
end
end L2
namespace L2
open PySem PySem.Spec PyProof.Rows
def KGet (P:Params) (K:PySem.W.Frag) (a:Addr) (y:V) (r:Option V):Prop:=
  ∃ x es n r',y=.str x /\ K.lookup a=some ⟨.type "dict",none,.dict es n,#[]⟩ /\ PySem.W.KeysLit P es.toList /\ PySem.W.nsIn K a x=some r' /\ RelO r r' /\ (a == sysModules)=false
section
variable {X:Cx} {pins:List (Addr × Obj)} {σ:St} {H:Hp} {s:Shared} {a:Addr} {y v:V} {u r:Value} {o:Option V} {A:Around} {E:Value->Shared->Prop}
theorem KGet.typeIs (I:Inv X pins σ H s) (g:KGet X.w.params X.K a y o):s.TypeIs (.ref a) "dict" := by
  obtain ⟨x,es,n,r',_,hl,_⟩:=g
  exact ⟨_,I.kIn a _ hl,rfl⟩
theorem OQ {Q:Value->Shared->Prop} (I:Inv X pins σ H s) (g:KGet X.w.params X.K a y (some v)) (ry:RelV y u) (h:∀ w' s',Inv X pins σ H s'->RelV v w'->Q w' s') :
    wpAny (model X.prog X.w) A (getItem (.ref a) u) Q E s:=by
  obtain ⟨x,es,n,r',e,hl,hk,hn,ro,_⟩:=g
  subst e
  obtain ⟨t,rfl⟩:=ry
  obtain ⟨w',rfl,rw'⟩:=RelO.some_of ro
  exact wpAny_getItem_of (strKind_is X.prog X.w x t) (PySem.W.mapOf_K (prog:=X.prog) (fun a o q=>I.kIn a o q) hl hk) (PySem.W.find_K hl hn) (h w' _ (I.tok _) rw')
theorem Wr {Q:Value->Shared->Prop} (I:Inv X pins σ H s) (g:KGet X.w.params X.K a y o) (ry:RelV y u) (h:∀ s',Inv X pins σ H s'->Q (.bool o.isSome) s') :
    wpAny (model X.prog X.w) A (compareOp .In u (.ref a)) Q E s:=by
  obtain ⟨x,es,n,r',e,hl,hk,hn,ro,lo⟩:=g
  subst e
  obtain ⟨t,rfl⟩:=ry
  refine wpAny_in_of (strKind_is X.prog X.w x t) lo (PySem.W.mapOf_K (prog:=X.prog) (fun a o q=>I.kIn a o q) hl hk) ?_
  rw [PySem.W.find_K hl hn,← ro.isSome_eq]
  exact h _ (I.tok _)
end
def VG (P:Params) (K:PySem.W.Frag) (td ty:TE):TE:=fun σ H Q=>td σ H fun x H1=>ty σ H1 fun y H2=>∃ a v,x=.ref a /\ KGet P K a y (some v) /\ Q v H2
def VF (P:Params) (K:PySem.W.Frag) (ty td:TE):TE:=fun σ H Q=>ty σ H fun y H1=>td σ H1 fun x H2=>∃ a o,x=.ref a /\ KGet P K a y o /\ Q (.bl o.isSome) H2
section
variable {X:Cx} {o i e value:Expr} {pos pos' tpos:Pos} {td ty tv:TE}
theorem Ri (ho:PE X o td) (hi:PE X i ty) (hs:U3 i):PE X (.Subscript o i pos) (VG X.w.params X.K td ty):=by
  intro pins s σ H Q I h
  refine Qu PySem.F.slot_dict_getitem.lookup hs (thn (ho pins s σ H _ I h) fun u s1 ⟨x,H1,I1,rx,q1⟩=>thn (hi pins s1 σ H1 _ I1 q1) fun iv s2 ⟨y,H2,I2,ry,a,v,ex,g,q2⟩=>?_)
  subst ex
  obtain rfl:u=Value.ref a:=rx
  exact ⟨g.typeIs I2,OQ I2 g ry fun w' s3 I3 rw'=>⟨v,H2,I3,rw',q2⟩⟩
theorem UB (hi:PE X i ty) (ho:PE X o td):PC X .In i o (VF X.w.params X.K ty td):=by
  intro pins s σ H Q I h
  refine thn (hi pins s σ H _ I h) fun iv s1 ⟨y,H1,I1,ry,q1⟩=>thn (ho pins s1 σ H1 _ I1 q1) fun u s2 ⟨x,H2,I2,rx,a,ov,ex,g,q2⟩=>?_
  subst ex
  obtain rfl:u=Value.ref a:=rx
  exact Wr I2 g ry fun s3 I3=>⟨.bl ov.isSome,H2,I3,rfl,q2⟩
end
end L2
namespace L2
open PySem PySem.Spec PyProof.Rows
def Wc (tv:TE):TE:=fun σ H Q=>tv σ H fun v H1=>(∃ x,v=.str x /\ x.length <= sizeLine /\ Q (.str x) H1) ∨ ∃ a:Int,v=.int a /\ a.natAbs.log2 < 1920 /\ Q (.str (toString a)) H1
def My:List TE->Str->TE
  | [],out=>fun _ H Q=>out.length <= sizeLine /\ Q (.str out) H
  | t :: r,out=>fun σ H Q=>t σ H fun v H1=>∃ y,v=.str y /\ (out ++ y).length <= sizeLine /\ My r (out ++ y) σ H1 Q
def PJ (X:Cx) (es:List Expr) (ts:List TE):Prop:=
  ∀ (out:Str) (pins:List (Addr × Obj)) (s:Shared) (σ:St) (H:Hp) (Q:VK),Inv X pins σ H s->My ts out σ H Q->wpAny (model X.prog X.w) X.A (joinParts out (evalEach es X.env)) (EP X pins σ Q) X.xe s
section
variable {X:Cx} {value e e2:Expr} {es:List Expr} {pos:Pos} {tv t t2:TE} {ts:List TE}
theorem T8 (hv:PE X value tv):PE X (.FormattedValue value (-1) none pos) (Wc tv):=by
  intro pins s σ H Q I h
  refine FormattedValue_plain (thn (hv pins s σ H _ I h) fun u s1 ⟨v,H1,I1,r,q⟩=>?_)
  rcases q with ⟨x,e,hz,q⟩ | ⟨a,e,hz,q⟩
  . subst e
    obtain ⟨t,rfl⟩:=r
    exact formatField_str (fun t' tk=>⟨.str x,H1,I1.tok _,⟨t',rfl⟩,q⟩) hz
  . subst e
    obtain ⟨t,rfl⟩:=r
    exact formatField_int_small hz ⟨.str (toString a),H1,I1.tok _,⟨_,rfl⟩,q⟩
theorem Ty:PJ X [] []:=fun out pins s σ H Q I h=>joinParts_nil ⟨.str out,H,I.tok _,⟨_,rfl⟩,h.2⟩ h.1
theorem Rg (he:PE X e t) (hr:PJ X es ts):PJ X (e :: es) (t :: ts):=fun out pins s σ H Q I h=>by
  show wpAny _ _ (joinParts out (eval e X.env :: evalEach es X.env)) _ _ _
  refine joinParts_cons (thn (he pins s σ H _ I h) fun u s1 ⟨v,H1,I1,r,y,e,hz,q⟩=>?_)
  subst e
  obtain ⟨tk,rfl⟩:=r
  exact ⟨hz,hr _ pins s1 σ H1 Q I1 q⟩
theorem N5 (h:PJ X (e :: e2 :: es) (t :: t2 :: ts)):PE X (.JoinedStr (e :: e2 :: es) pos) (My (t :: t2 :: ts) Str.empty):=fun pins s σ H Q I q=>JoinedStr_many (h Str.empty pins s σ H Q I q)
end
end L2
namespace Mi
open PySem L2
inductive D where
  | non | bl (b:Bool) | int (i:Int) | str (x:Str) | ty (n:String) | scr (ns:List Int) | tup (xs:List D) | lst (xs:List D) | ref (n:Nat)
inductive MO where
  | lst (xs:List D) | dK (kvs:List (Key × D))
abbrev Mh:=List MO
abbrev M (α:Type):=Mh->Option (α × Mh)
abbrev Sl:=List (Option D)
def ret {α:Type} (a:α):M α:=fun μ=>some (a,μ)
def bnd {α β:Type} (m:M α) (f:α->M β):M β:=fun μ=>match m μ with
  | some (a,μ1)=>f a μ1
  | none=>none
def BP {α:Type}:M α:=fun _=>none
theorem AK {α β:Type} {m:M α} {f:α->M β} {μ:Mh} {r:β × Mh} (h:bnd m f μ=some r):∃ a μ1,m μ=some (a,μ1) /\ f a μ1=some r:=by
  unfold bnd at h
  cases e:m μ with
  | none=>rw [e] at h; cases h
  | some p=>obtain ⟨a,μ1⟩:=p; rw [e] at h; exact ⟨a,μ1,rfl,h⟩
@[simp] theorem WR {α β:Type} (a:α) (f:α->M β):bnd (ret a) f=f a:=rfl
theorem AQ {α β:Type} {m:M α} {f:α->M β} {μ μ1:Mh} {a:α} (h:m μ=some (a,μ1)):bnd m f μ=f a μ1:=by unfold bnd; rw [h]
def ScrAt (K:PySem.W.Frag) (H:Hp) (a:Addr) (xs:List V):Prop:=
  (∃ o,H a=some (.frz o (.lst xs))) ∨ ∃ (o:Obj) (its:Array Value) (n:Nat),K.lookup a=some o /\ o.cls=.type "list" /\ o.dict=none /\ o.data=.seq its n /\ its.size <= sizeLine /\ Vals xs its.toList
theorem ScrAt.sq {K:PySem.W.Frag} {H:Hp} {a:Addr} {xs:List V} (h:ScrAt K H a xs):SqL K H a xs:=h.elim (fun z=>.inl (.inr z)) .inr
mutual
def Is (K:PySem.W.Frag) (ι:Nat->Addr) (k:Nat) (H:Hp):D->V->Prop
  | .non,v=>v=.non
  | .bl b,v=>v=.bl b
  | .int i,v=>v=.int i
  | .str x,v=>v=.str x
  | .ty n,v=>v=.ty n
  | .scr ns,v=>∃ p,v=.ref p /\ ScrAt K H p (ns.map V.int)
  | .tup ds,v=>∃ p vs,v=.ref p /\ SqT K H p vs /\ IsL K ι k H ds vs
  | .lst ds,v=>∃ p vs,v=.ref p /\ H p=some (.lst vs) /\ (∀ n,n < k->ι n ≠ p) /\ IsL K ι k H ds vs
  | .ref n,v=>n < k /\ v=.ref (ι n)
def IsL (K:PySem.W.Frag) (ι:Nat->Addr) (k:Nat) (H:Hp):List D->List V->Prop
  | [],vs=>vs=[]
  | d :: ds,vs=>∃ v vs',vs=v :: vs' /\ Is K ι k H d v /\ IsL K ι k H ds vs'
end
section
variable {K:PySem.W.Frag} {ι ι' ι2:Nat->Addr} {k k' k2:Nat} {H H' H2:Hp}
theorem IsL.length:∀ {ds:List D} {vs:List V},IsL K ι k H ds vs->vs.length=ds.length
  | [],_,h=>by unfold IsL at h; subst h; rfl
  | _ :: _,_,h=>by
    unfold IsL at h
    obtain ⟨v,vs',rfl,_,h⟩:=h
    simp only [List.length_cons,IsL.length h]
theorem IsL.get:∀ {ds:List D} {vs:List V} {i:Nat} {d:D},IsL K ι k H ds vs->ds[i]? = some d->∃ v,vs[i]? = some v /\ Is K ι k H d v
  | [],_,_,_,_,e=>by simp at e
  | _ :: _,_,0,_,h,e=>by
    unfold IsL at h
    obtain ⟨v,vs',rfl,h1,_⟩:=h
    simp at e; subst e
    exact ⟨v,rfl,h1⟩
  | _ :: _,_,i + 1,d,h,e=>by
    unfold IsL at h
    obtain ⟨v,vs',rfl,_,h⟩:=h
    obtain ⟨u,e1,e2⟩:=IsL.get (i:=i) (d:=d) h (by simpa using e)
    exact ⟨u,by simpa using e1,e2⟩
theorem IsL.append:∀ {ds es:List D} {vs us:List V},IsL K ι k H ds vs->IsL K ι k H es us->IsL K ι k H (ds ++ es) (vs ++ us)
  | [],_,_,_,h,q=>by unfold IsL at h; subst h; exact q
  | _ :: _,_,_,_,h,q=>by
    unfold IsL at h
    obtain ⟨v,vs',rfl,h1,h⟩:=h
    show IsL K ι k H (_ :: (_ ++ _)) _
    unfold IsL
    exact ⟨v,_,rfl,h1,IsL.append h q⟩
theorem IsL.take:∀ (n:Nat) {ds:List D} {vs:List V},IsL K ι k H ds vs->IsL K ι k H (ds.take n) (vs.take n)
  | 0,ds,vs,_=>by rw [List.take_zero,List.take_zero]; unfold IsL; rfl
  | n + 1,[],_,h=>by unfold IsL at h; subst h; simp only [List.take_nil]; unfold IsL; rfl
  | n + 1,_ :: _,_,h=>by
    unfold IsL at h
    obtain ⟨v,vs',rfl,h1,h⟩:=h
    simp only [List.take_succ_cons]
    unfold IsL
    exact ⟨v,_,rfl,h1,IsL.take n h⟩
theorem IsL.drop:∀ (n:Nat) {ds:List D} {vs:List V},IsL K ι k H ds vs->IsL K ι k H (ds.drop n) (vs.drop n)
  | 0,_,_,h=>h
  | n + 1,[],_,h=>by unfold IsL at h; subst h; simp only [List.drop_nil]; unfold IsL; rfl
  | n + 1,_ :: _,_,h=>by
    unfold IsL at h
    obtain ⟨v,vs',rfl,h1,h⟩:=h
    simp only [List.drop_succ_cons]
    exact IsL.drop n h
theorem IsL.cons {d:D} {ds:List D} {v:V} {vs:List V} (h:Is K ι k H d v) (t:IsL K ι k H ds vs):IsL K ι k H (d :: ds) (v :: vs):=by
  unfold IsL
  exact ⟨v,vs,rfl,h,t⟩
theorem IsL.nil:IsL K ι k H [] []:=by unfold IsL; rfl
theorem IsL.one {d:D} {v:V} (h:Is K ι k H d v):IsL K ι k H [d] [v]:=.cons h .nil
theorem IsL.set {d:D} {v:V} (h1:Is K ι k H d v):∀ {ds:List D} {vs:List V} (i:Nat),IsL K ι k H ds vs->IsL K ι k H (ds.set i d) (vs.set i v)
  | [],_,_,h=>by unfold IsL at h; subst h; exact .nil
  | _ :: _,_,0,h=>by
    unfold IsL at h
    obtain ⟨v,vs',rfl,_,h⟩:=h
    exact .cons h1 h
  | _ :: _,_,i + 1,h=>by
    unfold IsL at h
    obtain ⟨v,vs',rfl,h0,h⟩:=h
    exact .cons h0 (IsL.set h1 i h)
theorem IsL.ofInts:∀ (ns:List Int),IsL K ι k H (ns.map D.int) (ns.map V.int)
  | []=>.nil
  | n :: r=>.cons (by unfold Is; rfl) (IsL.ofInts r)
def QK:HO->Bool
  | .lst _=>true
  | .dK _=>true
  | _=>false
def Muts (ι:Nat->Addr) (k:Nat) (H:Hp):Prop:=∀ n,n < k->∃ o,H (ι n)=some o /\ QK o=true
structure Ext (ι:Nat->Addr) (k:Nat) (H:Hp) (ι':Nat->Addr) (k':Nat) (H':Hp):Prop where
  le:k <= k'
  agree:∀ n,n < k->ι' n=ι n
  fresh:∀ n,k <= n->n < k'->H (ι' n)=none
  keep:∀ p o,H p=some o->(∀ n,n < k->ι n ≠ p)->H' p=some o
  was:Muts ι k H
  there:Muts ι k H'
theorem Ext.refl (h:Muts ι k H):Ext ι k H ι k H:=⟨Nat.le_refl _,fun _ _=>rfl,fun n h1 h2=>absurd h1 (by omega),fun _ _ e _=>e,h,h⟩
theorem Ext.trans (a:Ext ι k H ι' k' H') (b:Ext ι' k' H' ι2 k2 H2):Ext ι k H ι2 k2 H2 where
  le:=Nat.le_trans a.le b.le
  agree:=fun n h=>(b.agree n (Nat.lt_of_lt_of_le h a.le)).trans (a.agree n h)
  fresh:=fun n h1 h2=>by
    rcases Nat.lt_or_ge n k' with z | z
    . rw [b.agree n z]; exact a.fresh n h1 z
    . have q:=b.fresh n z h2
      cases e:H (ι2 n) with
      | none=>rfl
      | some o=>
        by_cases hx:∃ m,m < k /\ ι m=ι2 n
        . obtain ⟨m,hm,e2⟩:=hx
          obtain ⟨o',q',_⟩:=a.there m hm
          rw [e2,q] at q'; cases q'
        . have:=a.keep _ o e (fun m hm e2=>hx ⟨m,hm,e2⟩)
          rw [q] at this; cases this
  keep:=fun p o e hn=>b.keep p o (a.keep p o e hn) (fun n hlt e2=>by
    rcases Nat.lt_or_ge n k with z | z
    . rw [a.agree n z] at e2; exact hn n z e2
    . have:=a.fresh n z hlt
      rw [e2,e] at this; cases this)
  was:=a.was
  there:=fun n h=>by
    have:=b.there n (Nat.lt_of_lt_of_le h a.le)
    rw [a.agree n h] at this; exact this
theorem Ext.out (a:Ext ι k H ι' k' H') {p:Addr} {o:HO} (e:H p=some o) (hn:∀ n,n < k->ι n ≠ p):∀ n,n < k'->ι' n ≠ p:=fun n h e2=>by
  rcases Nat.lt_or_ge n k with z | z
  . rw [a.agree n z] at e2; exact hn n z e2
  . have:=a.fresh n z h
    rw [e2,e] at this; cases this
theorem Muts.ne (a:Muts ι k H) {p:Addr} {o:HO} (e:H p=some o) (hm:QK o=false):∀ n,n < k->ι n ≠ p:=fun n hn e2=>by
  obtain ⟨o',q,h⟩:=a n hn
  rw [e2,e] at q; cases q
  rw [hm] at h; cases h
theorem GS {p:Addr} {vs:List V} (a:Ext ι k H ι' k' H') (h:SqT K H p vs):SqT K H' p vs:=by
  rcases h with h | h
  . rcases h with h | ⟨o,h⟩
    . exact .inl (.inl (a.keep p _ h (a.was.ne h rfl)))
    . exact .inl (.inr ⟨o,a.keep p _ h (a.was.ne h rfl)⟩)
  . exact .inr h
theorem KG {p:Addr} {vs:List V} (a:Ext ι k H ι' k' H') (h:ScrAt K H p vs):ScrAt K H' p vs:=by
  rcases h with ⟨o,h⟩ | h
  . exact .inl ⟨o,a.keep p _ h (a.was.ne h rfl)⟩
  . exact .inr h
mutual
theorem Is.ext (a:Ext ι k H ι' k' H'):∀ {d:D} {v:V},Is K ι k H d v->Is K ι' k' H' d v
  | .non,_,h=>by unfold Is at h ⊢; exact h
  | .bl _,_,h=>by unfold Is at h ⊢; exact h
  | .int _,_,h=>by unfold Is at h ⊢; exact h
  | .str _,_,h=>by unfold Is at h ⊢; exact h
  | .ty _,_,h=>by unfold Is at h ⊢; exact h
  | .scr ns,_,h=>by
    unfold Is at h ⊢
    obtain ⟨p,rfl,h⟩:=h
    exact ⟨p,rfl,KG a h⟩
  | .tup ds,_,h=>by
    unfold Is at h ⊢
    obtain ⟨p,vs,rfl,h1,h2⟩:=h
    exact ⟨p,vs,rfl,GS a h1,IsL.ext a h2⟩
  | .lst ds,_,h=>by
    unfold Is at h ⊢
    obtain ⟨p,vs,rfl,h1,hn,h2⟩:=h
    exact ⟨p,vs,rfl,a.keep p _ h1 hn,a.out h1 hn,IsL.ext a h2⟩
  | .ref n,_,h=>by
    unfold Is at h ⊢
    obtain ⟨h,rfl⟩:=h
    exact ⟨Nat.lt_of_lt_of_le h a.le,by rw [a.agree n h]⟩
theorem IsL.ext (a:Ext ι k H ι' k' H'):∀ {ds:List D} {vs:List V},IsL K ι k H ds vs->IsL K ι' k' H' ds vs
  | [],_,h=>by unfold IsL at h ⊢; exact h
  | _ :: _,_,h=>by
    unfold IsL at h ⊢
    obtain ⟨v,vs',rfl,h1,h2⟩:=h
    exact ⟨v,vs',rfl,Is.ext a h1,IsL.ext a h2⟩
end
def KVs (K:PySem.W.Frag) (ι:Nat->Addr) (k:Nat) (H:Hp):List (Key × D)->List (Key × V)->Prop
  | [],r=>r=[]
  | (y,d) :: l,r=>∃ v r',r=(y,v) :: r' /\ Is K ι k H d v /\ KVs K ι k H l r'
theorem KVs.ext (a:Ext ι k H ι' k' H'):∀ {l:List (Key × D)} {r:List (Key × V)},KVs K ι k H l r->KVs K ι' k' H' l r
  | [],_,h=>h
  | (_,_) :: _,_,h=>by
    obtain ⟨v,r',rfl,h1,h2⟩:=h
    exact ⟨v,r',rfl,h1.ext a,h2.ext a⟩
def ObjIs (K:PySem.W.Frag) (ι:Nat->Addr) (k:Nat) (H:Hp):MO->HO->Prop
  | .lst ds,o=>∃ vs,o=.lst vs /\ IsL K ι k H ds vs
  | .dK l,o=>∃ r,o=.dK r /\ KVs K ι k H l r
structure RelH (K:PySem.W.Frag) (ι:Nat->Addr) (μ:Mh) (H:Hp):Prop where
  inj:∀ i j,i < μ.length->j < μ.length->ι i=ι j->i=j
  obj:∀ n o,μ[n]? = some o->∃ u,H (ι n)=some u /\ ObjIs K ι μ.length H o u
theorem ObjIs.mut {o:MO} {u:HO} (h:ObjIs K ι k H o u):QK u=true:=by
  cases o with
  | lst ds=>obtain ⟨vs,rfl,_⟩:=h; rfl
  | dK l=>obtain ⟨r,rfl,_⟩:=h; rfl
theorem ObjIs.ext (a:Ext ι k H ι' k' H') {o:MO} {u:HO} (h:ObjIs K ι k H o u):ObjIs K ι' k' H' o u:=by
  cases o with
  | lst ds=>obtain ⟨vs,rfl,h⟩:=h; exact ⟨vs,rfl,h.ext a⟩
  | dK l=>obtain ⟨r,rfl,h⟩:=h; exact ⟨r,rfl,h.ext a⟩
theorem RelH.muts {μ:Mh} (r:RelH K ι μ H):Muts ι μ.length H:=fun n hn=>by
  obtain ⟨u,e,h⟩:=r.obj n μ[n] (by simp [hn])
  exact ⟨u,e,h.mut⟩
theorem RelH.ext0 {μ:Mh} (r:RelH K ι μ H):Ext ι μ.length H ι μ.length H:=Ext.refl r.muts
theorem RelH.laid {μ:Mh} (r:RelH K ι μ H) {p:Addr} (o:HO) (hp:H p=none):Ext ι μ.length H ι μ.length (upd H p o) /\ RelH K ι μ (upd H p o):=by
  have kp:∀ q u,H q=some u->upd H p o q=some u:=fun q u e=>by rw [A8 (C3 e hp)]; exact e
  have a:Ext ι μ.length H ι μ.length (upd H p o):=⟨Nat.le_refl _,fun _ _=>rfl,fun n h1 h2=>absurd h1 (by omega),fun q u e _=>kp q u e,r.muts,fun n hn=>by
    obtain ⟨u,e,h⟩:=r.muts n hn
    exact ⟨u,kp _ _ e,h⟩⟩
  refine ⟨a,r.inj,fun n o' e=>?_⟩
  obtain ⟨u,e1,h⟩:=r.obj n o' e
  exact ⟨u,kp _ _ e1,h.ext a⟩
theorem RelH.grown {μ:Mh} (r:RelH K ι μ H) {p:Addr} {o:HO} {m:MO} (hp:H p=none) (h:ObjIs K ι μ.length H m o) :
    ∃ ι',Ext ι μ.length H ι' (μ ++ [m]).length (upd H p o) /\ RelH K ι' (μ ++ [m]) (upd H p o) /\ ι' μ.length=p:=by
  have kp:∀ q u,H q=some u->upd H p o q=some u:=fun q u e=>by rw [A8 (C3 e hp)]; exact e
  let ι':Nat->Addr:=fun n=>if n=μ.length then p else ι n
  have e0:ι' μ.length=p:=if_pos rfl
  have e1:∀ n,n < μ.length->ι' n=ι n:=fun n hn=>if_neg (by omega)
  have a:Ext ι μ.length H ι' (μ ++ [m]).length (upd H p o):=⟨by simp,e1,fun n h1 h2=>by
      have:n=μ.length:=by simp at h2; omega
      rw [this,e0]; exact hp,fun q u e _=>kp q u e,r.muts,fun n hn=>by
    obtain ⟨u,e,h⟩:=r.muts n hn
    exact ⟨u,kp _ _ e,h⟩⟩
  refine ⟨ι',a,⟨fun i j hi hj e=>?_,fun n o' e=>?_⟩,e0⟩
  . simp at hi hj
    have old:∀ i,i < μ.length->ι' i ≠ p:=fun i hi e=>by
      obtain ⟨u,q,_⟩:=r.muts i hi
      rw [← e1 i hi,e,hp] at q; cases q
    rcases Nat.lt_or_ge i μ.length with zi | zi <;> rcases Nat.lt_or_ge j μ.length with zj | zj
    . rw [e1 i zi,e1 j zj] at e; exact r.inj i j zi zj e
    . have:j=μ.length:=by omega
      subst this; rw [e0] at e; exact absurd e (old i zi)
    . have:i=μ.length:=by omega
      subst this; rw [e0] at e; exact absurd e.symm (old j zj)
    . omega
  . rcases Nat.lt_or_ge n μ.length with z | z
    . rw [List.getElem?_append_left z] at e
      obtain ⟨u,q,hq⟩:=r.obj n o' e
      exact ⟨u,by rw [e1 n z]; exact kp _ _ q,hq.ext a⟩
    . have hn:n=μ.length:=by
        have:=(List.getElem?_eq_some_iff.mp e).1
        simp at this; omega
      subst hn
      rw [List.getElem?_append_right (Nat.le_refl _),Nat.sub_self] at e
      simp at e; subst e
      exact ⟨o,by rw [e0,Bj],h.ext a⟩
theorem RelH.changed {μ:Mh} (r:RelH K ι μ H) {n:Nat} {o:HO} {m:MO} (hn:n < μ.length) (h:ObjIs K ι μ.length H m o) :
    Ext ι μ.length H ι (μ.set n m).length (upd H (ι n) o) /\ RelH K ι (μ.set n m) (upd H (ι n) o):=by
  have ne:∀ i,i < μ.length->i ≠ n->ι i ≠ ι n:=fun i hi hne e=>hne (r.inj i n hi hn e)
  have a:Ext ι μ.length H ι (μ.set n m).length (upd H (ι n) o):=⟨by simp,fun _ _=>rfl,fun i h1 h2=>by simp at h2; omega,fun q u e hq=>by rw [A8 (fun z=>hq n hn z.symm)]; exact e,r.muts,fun i hi=>by
    by_cases z:i=n
    . subst z; exact ⟨o,Bj,h.mut⟩
    . obtain ⟨u,e,hu⟩:=r.muts i hi
      exact ⟨u,by rw [A8 (ne i hi z)]; exact e,hu⟩⟩
  refine ⟨a,fun i j hi hj=>r.inj i j (by simpa using hi) (by simpa using hj),fun i o' e=>?_⟩
  by_cases z:i=n
  . subst z
    rw [List.getElem?_set_self hn] at e
    cases e
    exact ⟨o,Bj,h.ext a⟩
  . rw [List.getElem?_set_ne (Ne.symm z)] at e
    have hi:i < μ.length:=(List.getElem?_eq_some_iff.mp e).1
    obtain ⟨u,q,hq⟩:=r.obj i o' e
    exact ⟨u,by rw [A8 (ne i hi z)]; exact q,hq.ext a⟩
structure RelS (K:PySem.W.Frag) (ι:Nat->Addr) (k:Nat) (H:Hp) (τ:Sl) (σ:St):Prop where
  len:σ.length=τ.length
  get:∀ (i:Nat) (d:D),τ[i]? = some (some d)->∃ v,σ[i]? = some (some v) /\ Is K ι k H d v
theorem RelS.ext {τ:Sl} {σ:St} (a:Ext ι k H ι' k' H') (r:RelS K ι k H τ σ):RelS K ι' k' H' τ σ:=⟨r.len,fun i d e=>by
  obtain ⟨v,e1,h⟩:=r.get i d e
  exact ⟨v,e1,h.ext a⟩⟩
theorem RelS.set {τ:Sl} {σ:St} (r:RelS K ι k H τ σ) {d:D} {v:V} (i:Nat) (h:Is K ι k H d v):RelS K ι k H (τ.set i (some d)) (σ.set i (some v)):=⟨by simp [r.len],fun j e q=>by
  by_cases z:i=j
  . subst z
    have hi:i < τ.length:=by
      have:=(List.getElem?_eq_some_iff.mp q).1
      simpa using this
    rw [List.getElem?_set_self hi] at q
    cases q
    exact ⟨v,List.getElem?_set_self (by rw [r.len]; exact hi),h⟩
  . rw [List.getElem?_set_ne z] at q
    obtain ⟨u,e1,hu⟩:=r.get j e q
    exact ⟨u,by rw [List.getElem?_set_ne z]; exact e1,hu⟩⟩
end
end Mi
namespace Mi
open PySem L2
inductive Fl where
  | next | brk | cont | rt (d:D)
abbrev Aft (K:PySem.W.Frag) (ι:Nat->Addr) (μ:Mh) (H:Hp) (μ':Mh) (φ:(Nat->Addr)->Hp->Prop):Prop:=
  ∀ ι' H',Ext ι μ.length H ι' μ'.length H'->RelH K ι' μ' H'->φ ι' H'
def tE (K:PySem.W.Frag) (m:Sl->M D):TE:=fun σ H Q=>∃ ι μ τ d μ',RelH K ι μ H /\ RelS K ι μ.length H τ σ /\ m τ μ=some (d,μ') /\
  Aft K ι μ H μ' fun ι' H'=>∀ v,Is K ι' μ'.length H' d v->Q v H'
def tT (K:PySem.W.Frag) (m:Sl->M Bool):TT:=fun σ H Q=>∃ ι μ τ b μ',RelH K ι μ H /\ RelS K ι μ.length H τ σ /\ m τ μ=some (b,μ') /\
  Aft K ι μ H μ' fun _ H'=>Q b H'
def tL (K:PySem.W.Frag) (m:Sl->M (List D)):TA:=fun σ H Q=>∃ ι μ τ ds μ',RelH K ι μ H /\ RelS K ι μ.length H τ σ /\ m τ μ=some (ds,μ') /\
  Aft K ι μ H μ' fun ι' H'=>∀ vs,IsL K ι' μ'.length H' ds vs->Q vs H'
def FlP (K:PySem.W.Frag) (Dn:Mt) (ι':Nat->Addr) (k:Nat) (H':Hp) (τ':Sl) (σ':St):Fl->Prop
  | .next=>Dn.nx σ' H'
  | .brk=>Dn.bk σ' H'
  | .cont=>Dn.ct σ' H'
  | .rt d=>∀ v,Is K ι' k H' d v->Dn.rt v H'
def tSt (K:PySem.W.Frag) (m:Sl->M (Fl × Sl)):TS:=fun Dn σ H=>∃ ι μ τ f τ' μ',RelH K ι μ H /\ RelS K ι μ.length H τ σ /\ m τ μ=some ((f,τ'),μ') /\
  Aft K ι μ H μ' fun ι' H'=>∀ σ',RelS K ι' μ'.length H' τ' σ'->FlP K Dn ι' μ'.length H' τ' σ' f
structure RE (X:Cx) (e:Expr) (m:Sl->M D):Prop where
  pe:PE X e (tE X.K m)
structure RT (X:Cx) (e:Expr) (m:Sl->M Bool):Prop where
  pe:PT X e (tT X.K m)
structure RW (X:Cx) (e:Expr) (m:Sl->M Bool):Prop where
  pe:PW X e (tT X.K m)
structure RA (X:Cx) (es:List Expr) (m:Sl->M (List D)):Prop where
  pe:PA X es (tL X.K m)
structure RS (X:Cx) (st:Stmt) (m:Sl->M (Fl × Sl)):Prop where
  pe:PS X st (tSt X.K m)
structure RSs (X:Cx) (st:List Stmt) (m:Sl->M (Fl × Sl)):Prop where
  pe:PSs X st (tSt X.K m)
section
variable {X:Cx} {e a b c:Expr} {es:List Expr} {pos:Pos}
theorem PE.wk {t t':TE} (h:PE X e t) (w:∀ σ H Q,t' σ H Q->t σ H Q):PE X e t':=fun pins s σ H Q I q=>h pins s σ H Q I (w σ H Q q)
theorem RE.wk {m:Sl->M D} {t:TE} (h:PE X e t) (w:∀ σ H Q,tE X.K m σ H Q->t σ H Q):RE X e m:=⟨PE.wk h w⟩
theorem PT.wk {t t':TT} (h:PT X e t) (w:∀ σ H Q,t' σ H Q->t σ H Q):PT X e t':=fun pins s σ H Q I q=>h pins s σ H Q I (w σ H Q q)
theorem RT.wk {m:Sl->M Bool} {t:TT} (h:PT X e t) (w:∀ σ H Q,tT X.K m σ H Q->t σ H Q):RT X e m:=⟨PT.wk h w⟩
theorem PW.wk {t t':TT} (h:PW X e t) (w:∀ σ H Q,t' σ H Q->t σ H Q):PW X e t':=fun wh pins s σ H Q I q=>h wh pins s σ H Q I (w σ H Q q)
theorem RW.wk {m:Sl->M Bool} {t:TT} (h:PW X e t) (w:∀ σ H Q,tT X.K m σ H Q->t σ H Q):RW X e m:=⟨PW.wk h w⟩
theorem PA.wk {t t':TA} (h:PA X es t) (w:∀ σ H Q,t' σ H Q->t σ H Q):PA X es t':=fun p pins s σ H Q I q=>h p pins s σ H Q I (w σ H Q q)
theorem RA.wk {m:Sl->M (List D)} {t:TA} (h:PA X es t) (w:∀ σ H Q,tL X.K m σ H Q->t σ H Q):RA X es m:=⟨PA.wk h w⟩
theorem PS.wk {st:Stmt} {t t':TS} (h:PS X st t) (w:∀ D σ H,t' D σ H->t D σ H):PS X st t':=fun pins s σ H D I q=>h pins s σ H D I (w D σ H q)
theorem RS.wk {m:Sl->M (Fl × Sl)} {st:Stmt} {t:TS} (h:PS X st t) (w:∀ D σ H,tSt X.K m D σ H->t D σ H):RS X st m:=⟨PS.wk h w⟩
theorem PSs.wk {st:List Stmt} {t t':TS} (h:PSs X st t) (w:∀ D σ H,t' D σ H->t D σ H):PSs X st t':=fun pins s σ H D I q=>h pins s σ H D I (w D σ H q)
theorem RSs.wk {m:Sl->M (Fl × Sl)} {st:List Stmt} {t:TS} (h:PSs X st t) (w:∀ D σ H,tSt X.K m D σ H->t D σ H):RSs X st m:=⟨PSs.wk h w⟩
theorem OpR.wk {f:Value->Value->Sem Value} {r r':R2} (h:OpR X f r) (w:∀ x y H Q,r' x y H Q->r x y H Q):OpR X f r':=fun pins s σ H x y v u Q I rx ry q=>h pins s σ H x y v u Q I rx ry (w x y H Q q)
def Km:Expr->Bool
  | .Starred _ _=>true
  | _=>false
theorem BS {e:Expr} {es:List Expr} {env:Env} (h:Km e=false):starEach (e :: es) env=(false,eval e env) :: starEach es env:=by
  cases e <;> first | rfl | cases h
theorem CK {pos:Pos} {env:Env}:∀ {es:List Expr},(es.all fun e=>!Km e)=true->(backTo pos (starEach es env)).any (·.1)=false
  | [],_=>rfl
  | e :: es,h=>by
    rw [List.all_cons,Bool.and_eq_true] at h
    have h1:Km e=false:=by simpa using h.1
    have ih:=CK (pos:=pos) (env:=env) h.2
    rw [BS h1]
    unfold backTo at ih ⊢
    simpa using ih
def AC (i:Nat):Sl->M D:=fun τ μ=>match τ[i]? with
  | some (some d)=>some (d,μ)
  | _=>none
def mC (d:D):Sl->M D:=fun _=>ret d
theorem AD (i:Nat) {x:Str} (hN:X.N[i]? = some x:=by rfl) (hv:Vis X.env.scope x:=by first | exact Or.inl rfl | exact Or.inr (Or.inl rfl) | exact Or.inr (Or.inr rfl)) (hd:(x == ("__debug__" : Str))=false:=by decide)
    (hcd:(x == ("__classdict__" : Str))=false:=by decide):RE X (.Name x pos) (AC i):=RE.wk (T2 hN hv hd hcd) fun σ H Q h=>by
  obtain ⟨ι,μ,τ,d,μ',R,S,e,q⟩:=h
  unfold AC at e
  split at e
  . rename_i d' ed
    cases e
    obtain ⟨v,e1,h1⟩:=S.get i _ ed
    exact ⟨v,e1,q ι H R.ext0 R v h1⟩
  . cases e
theorem Nw {t:TE} {d:D} {v:V} (h:PE X e (tC v)) (hd:∀ ι k H,Is X.K ι k H d v):RE X e (mC d):=RE.wk h fun σ H Q h=>by
  obtain ⟨ι,μ,τ,d,μ',R,S,e,q⟩:=h
  cases e
  exact q ι H R.ext0 R v (hd _ _ _)
theorem AG {i j}:RE X (.Constant (.int i) j pos) (mC (.int i)):=Nw (t:=fun _ _ _=>True) T7 fun _ _ _=>by unfold Is; rfl
theorem Ja {i j}:RE X (.Constant (.bool i) j pos) (mC (.bl i)):=Nw (t:=fun _ _ _=>True) Vk fun _ _ _=>by unfold Is; rfl
theorem PZ {j}:RE X (.Constant .none j pos) (mC .non):=Nw (t:=fun _ _ _=>True) T6 fun _ _ _=>by unfold Is; rfl
theorem AT {i j}:RE X (.Constant (.str i) j pos) (mC (.str i)):=Nw (t:=fun _ _ _=>True) IT fun _ _ _=>by unfold Is; rfl
theorem Q4 {x:Str} {v:V} {u:Value} {d:D} (hm:X.mg x=some u) (r:RelV v u) (hd:∀ ι k H,Is X.K ι k H d v) (hg:Gl X x:=by rfl) (hdb:(x == ("__debug__" : Str))=false:=by decide):RE X (.Name x pos) (mC d):=
  Nw (t:=fun _ _ _=>True) (Hj hg hm r hdb) hd
def mOp (g:D->D->M D) (ma mb:Sl->M D):Sl->M D:=fun τ=>bnd (ma τ) fun x=>bnd (mb τ) fun y=>g x y
def mUn (g:D->M D) (ma:Sl->M D):Sl->M D:=fun τ=>bnd (ma τ) g
def rM (K:PySem.W.Frag) (g:D->D->M D):R2:=fun x y H Q=>∃ ι μ a b d μ',RelH K ι μ H /\ Is K ι μ.length H a x /\ Is K ι μ.length H b y /\ g a b μ=some (d,μ') /\
  Aft K ι μ H μ' fun ι' H'=>∀ v,Is K ι' μ'.length H' d v->Q v H'
def rM1 (K:PySem.W.Frag) (g:D->M D):V->Hp->VK->Prop:=fun x H Q=>∃ ι μ a d μ',RelH K ι μ H /\ Is K ι μ.length H a x /\ g a μ=some (d,μ') /\
  Aft K ι μ H μ' fun ι' H'=>∀ v,Is K ι' μ'.length H' d v->Q v H'
def rMA (K:PySem.W.Frag) (g:List D->M D):List V->Hp->VK->Prop:=fun xs H Q=>∃ ι μ as d μ',RelH K ι μ H /\ IsL K ι μ.length H as xs /\ g as μ=some (d,μ') /\
  Aft K ι μ H μ' fun ι' H'=>∀ v,Is K ι' μ'.length H' d v->Q v H'
theorem M0 {K:PySem.W.Frag} {g:D->D->M D} {ma mb:Sl->M D} {σ:St} {H:Hp} {Q:VK} (h:tE K (mOp g ma mb) σ H Q):tOp (rM K g) (tE K ma) (tE K mb) σ H Q:=by
  obtain ⟨ι,μ,τ,d,μ',R,S,e,q⟩:=h
  obtain ⟨x,μ1,e1,e⟩:=AK e
  obtain ⟨y,μ2,e2,e3⟩:=AK e
  refine ⟨ι,μ,τ,x,μ1,R,S,e1,fun ι1 H1 E1 R1 v1 i1=>?_⟩
  refine ⟨ι1,μ1,τ,y,μ2,R1,S.ext E1,e2,fun ι2 H2 E2 R2 v2 i2=>?_⟩
  exact ⟨ι2,μ2,x,y,d,μ',R2,i1.ext E2,i2,e3,fun ι3 H3 E3 R3 v3 i3=>q ι3 H3 ((E1.trans E2).trans E3) R3 v3 i3⟩
theorem VH {K:PySem.W.Frag} {g:D->M D} {ma:Sl->M D} {σ:St} {H:Hp} {Q:VK} (h:tE K (mUn g ma) σ H Q):tUn (rM1 K g) (tE K ma) σ H Q:=by
  obtain ⟨ι,μ,τ,d,μ',R,S,e,q⟩:=h
  obtain ⟨x,μ1,e1,e⟩:=AK e
  refine ⟨ι,μ,τ,x,μ1,R,S,e1,fun ι1 H1 E1 R1 v1 i1=>?_⟩
  exact ⟨ι1,μ1,x,d,μ',R1,i1,e,fun ι3 H3 E3 R3 v3 i3=>q ι3 H3 (E1.trans E3) R3 v3 i3⟩
theorem Aj {op:Operator} {g:D->D->M D} {ma mb:Sl->M D} (ho:OpR X (binaryOp op) (rM X.K g)) (ha:RE X a ma) (hb:RE X b mb):RE X (.BinOp a op b pos) (mOp g ma mb):=RE.wk (Vi ho ha.pe hb.pe) fun _ _ _ h=>M0 h
theorem HQ {op:UnaryOp} {g:D->M D} {ma:Sl->M D} (ho:UnR X (unaryOp op) (rM1 X.K g)) (ha:RE X a ma):RE X (.UnaryOp op a pos) (mUn g ma):=RE.wk (Vg ho ha.pe) fun _ _ _ h=>VH h
theorem CS {op:CmpOp} {g:D->D->M D} {ma mb:Sl->M D} (ho:OpR X (compareOp op) (rM X.K g)) (ha:RE X a ma) (hb:RE X b mb) (hm:behindInMarks op b=false:=by first | exact P3 _ | rfl):RE X (.Compare a [op] [b] pos) (mOp g ma mb):=
  RE.wk (Rk ho ha.pe hb.pe hm) fun _ _ _ h=>M0 h
theorem AW {g:D->D->M D} {ma mb:Sl->M D} (ho:IxR X (rM X.K g)) (ha:RE X a ma) (hb:RE X b mb) (hs:Nc b:=by exact fun _ _=>rfl):RE X (.Subscript a b pos) (mOp g ma mb):=RE.wk (Vj ho ha.pe hb.pe hs) fun _ _ _ h=>M0 h
def asB:D->M Bool
  | .bl b=>ret b
  | _=>BP
def AY (m:Sl->M D):Sl->M Bool:=fun τ=>bnd (m τ) asB
theorem Mw {K:PySem.W.Frag} {m:Sl->M D} {σ:St} {H:Hp} {Q:Bool->Hp->Prop} (h:tT K (AY m) σ H Q):tE K m σ H fun x H'=>∃ k,x=.bl k /\ Q k H':=by
  obtain ⟨ι,μ,τ,b,μ',R,S,e,q⟩:=h
  obtain ⟨x,μ1,e1,e⟩:=AK e
  refine ⟨ι,μ,τ,x,μ1,R,S,e1,fun ι1 H1 E1 R1 v1 i1=>?_⟩
  cases x with
  | bl k=>
    cases e
    unfold Is at i1
    exact ⟨b,i1,q ι1 H1 E1 R1⟩
  | _=>cases e
theorem Aq {op:CmpOp} {g:D->D->M D} {ma mb:Sl->M D} (ho:OpR X (compareOp op) (rM X.K g)) (ha:RE X a ma) (hb:RE X b mb) (hm:behindInMarks op b=false:=by first | exact P3 _ | rfl):RT X (.Compare a [op] [b] pos) (AY (mOp g ma mb)):=
  RT.wk (RX ho ha.pe hb.pe hm) fun σ H Q h=>M0 (Q:=fun x H'=>∃ k,x=.bl k /\ Q k H') (Mw h)
theorem F9 {m:Sl->M D} (h:RE X e m) (he:∀ whole,isTrue e X.env whole=(do let v ← whole; standAt e.pos; holding [v] (truthy v)):=by intro _; rfl):RT X e (AY m):=
  RT.wk (Ts h.pe he) fun _ _ _ q=>Mw q
def FX (ma mb:Sl->M Bool):Sl->M Bool:=fun τ=>bnd (ma τ) fun x=>if x=true then mb τ else ret false
def mOr (ma mb:Sl->M Bool):Sl->M Bool:=fun τ=>bnd (ma τ) fun x=>if x=true then ret true else mb τ
def Gg (ma:Sl->M Bool):Sl->M Bool:=fun τ=>bnd (ma τ) fun x=>ret (!x)
theorem KI {ma:Sl->M Bool} (ha:RT X a ma):RT X (.UnaryOp .Not a pos) (Gg ma):=RT.wk (Tt ha.pe) fun σ H Q h=>by
  obtain ⟨ι,μ,τ,b,μ',R,S,e,q⟩:=h
  obtain ⟨x,μ1,e1,e⟩:=AK e
  cases e
  exact ⟨ι,μ,τ,x,_,R,S,e1,q⟩
theorem Fo {ma:Sl->M Bool} (ha:RT X a ma):RW X (.BoolOp .And [a] pos) ma:=⟨RK ha.pe⟩
theorem II {ma:Sl->M Bool} (ha:RT X a ma):RW X (.BoolOp .Or [a] pos) ma:=⟨Tm ha.pe⟩
theorem G4 {rest:List Expr} {ma mb:Sl->M Bool} (ha:RT X a ma) (hb:RW X (.BoolOp .And (b :: rest) pos) mb):RW X (.BoolOp .And (a :: b :: rest) pos) (FX ma mb):=RW.wk (Tn ha.pe hb.pe) fun σ H Q h=>by
  obtain ⟨ι,μ,τ,z,μ',R,S,e,q⟩:=h
  obtain ⟨x,μ1,e1,e⟩:=AK e
  refine ⟨ι,μ,τ,x,μ1,R,S,e1,fun ι1 H1 E1 R1=>?_⟩
  cases x with
  | true=>exact ⟨ι1,μ1,τ,z,μ',R1,S.ext E1,e,fun ι2 H2 E2 R2=>q ι2 H2 (E1.trans E2) R2⟩
  | false=>cases e; exact q ι1 H1 E1 R1
theorem JY {rest:List Expr} {ma mb:Sl->M Bool} (ha:RT X a ma) (hb:RW X (.BoolOp .Or (b :: rest) pos) mb):RW X (.BoolOp .Or (a :: b :: rest) pos) (mOr ma mb):=RW.wk (Vb ha.pe hb.pe) fun σ H Q h=>by
  obtain ⟨ι,μ,τ,z,μ',R,S,e,q⟩:=h
  obtain ⟨x,μ1,e1,e⟩:=AK e
  refine ⟨ι,μ,τ,x,μ1,R,S,e1,fun ι1 H1 E1 R1=>?_⟩
  cases x with
  | true=>cases e; exact q ι1 H1 E1 R1
  | false=>exact ⟨ι1,μ1,τ,z,μ',R1,S.ext E1,e,fun ι2 H2 E2 R2=>q ι2 H2 (E1.trans E2) R2⟩
theorem RW.rt {m:Sl->M Bool} (h:RW X e m):RT X e m:=⟨h.pe.pt⟩
def FG (ma mb:Sl->M D):Sl->M D:=fun τ=>bnd (ma τ) fun x=>bnd (asB x) fun c=>if c=true then mb τ else ret (.bl false)
def MU (ma mb:Sl->M D):Sl->M D:=fun τ=>bnd (ma τ) fun x=>bnd (asB x) fun c=>if c=true then ret (.bl true) else mb τ
def Lb (ma:Sl->M D):Sl->M D:=fun τ=>bnd (ma τ) fun x=>bnd (asB x) fun c=>ret (.bl (!c))
theorem Gu {x:D} {μ μ1:Mh} {c:Bool} (h:asB x μ=some (c,μ1)):x=.bl c /\ μ1=μ:=by
  cases x with
  | bl k=>cases h; exact ⟨rfl,rfl⟩
  | _=>cases h
theorem GA {op} {m:Sl->M D} (h:RE X a m):RE X (.BoolOp op [a] pos) m:=⟨T4 h.pe⟩
theorem E7 {rest:List Expr} {ma mb:Sl->M D} (ha:RE X a ma) (hb:RE X (.BoolOp .And (b :: rest) pos) mb):RE X (.BoolOp .And (a :: b :: rest) pos) (FG ma mb):=RE.wk (UA ha.pe hb.pe) fun σ H Q h=>by
  obtain ⟨ι,μ,τ,z,μ',R,S,e,q⟩:=h
  obtain ⟨x,μ1,e1,e⟩:=AK e
  obtain ⟨c,μ2,e2,e⟩:=AK e
  obtain ⟨rfl,rfl⟩:=Gu e2
  refine ⟨ι,μ,τ,_,μ2,R,S,e1,fun ι1 H1 E1 R1 v1 i1=>⟨c,by unfold Is at i1; exact i1,?_⟩⟩
  cases c with
  | true=>exact ⟨ι1,μ2,τ,z,μ',R1,S.ext E1,e,fun ι2 H2 E2 R2=>q ι2 H2 (E1.trans E2) R2⟩
  | false=>cases e; exact q ι1 H1 E1 R1 _ (by unfold Is; rfl)
theorem VS {rest:List Expr} {ma mb:Sl->M D} (ha:RE X a ma) (hb:RE X (.BoolOp .Or (b :: rest) pos) mb):RE X (.BoolOp .Or (a :: b :: rest) pos) (MU ma mb):=RE.wk (Vh ha.pe hb.pe) fun σ H Q h=>by
  obtain ⟨ι,μ,τ,z,μ',R,S,e,q⟩:=h
  obtain ⟨x,μ1,e1,e⟩:=AK e
  obtain ⟨c,μ2,e2,e⟩:=AK e
  obtain ⟨rfl,rfl⟩:=Gu e2
  refine ⟨ι,μ,τ,_,μ2,R,S,e1,fun ι1 H1 E1 R1 v1 i1=>⟨c,by unfold Is at i1; exact i1,?_⟩⟩
  cases c with
  | true=>cases e; exact q ι1 H1 E1 R1 _ (by unfold Is; rfl)
  | false=>exact ⟨ι1,μ2,τ,z,μ',R1,S.ext E1,e,fun ι2 H2 E2 R2=>q ι2 H2 (E1.trans E2) R2⟩
theorem Te {ma:Sl->M D} (ha:RE X a ma):RE X (.UnaryOp .Not a pos) (Lb ma):=RE.wk (T5 ha.pe) fun σ H Q h=>by
  obtain ⟨ι,μ,τ,z,μ',R,S,e,q⟩:=h
  obtain ⟨x,μ1,e1,e⟩:=AK e
  obtain ⟨c,μ2,e2,e⟩:=AK e
  obtain ⟨rfl,rfl⟩:=Gu e2
  cases e
  exact ⟨ι,μ,τ,_,_,R,S,e1,fun ι1 H1 E1 R1 v1 i1=>⟨c,by unfold Is at i1; exact i1,q ι1 H1 E1 R1 _ (by unfold Is; rfl)⟩⟩
def GG (g g':D->D->M D) (ma mb mc:Sl->M D):Sl->M D:=fun τ=>bnd (ma τ) fun x=>bnd (mb τ) fun y=>bnd (g x y) fun z=>bnd (asB z) fun k=>if k=true then bnd (mc τ) fun w=>g' y w else ret (.bl false)
def AH:Sl->M (List D):=fun _=>ret []
def AB (m:Sl->M D) (r:Sl->M (List D)):Sl->M (List D):=fun τ=>bnd (m τ) fun x=>bnd (r τ) fun xs=>ret (x :: xs)
theorem AF:RA X [] AH:=RA.wk MN fun σ H Q h=>by
  obtain ⟨ι,μ,τ,z,μ',R,S,e,q⟩:=h
  cases e
  exact q ι H R.ext0 R [] .nil
theorem AA {m:Sl->M D} {r:Sl->M (List D)} (h:RE X e m) (hr:RA X es r) (hs:starEach (e :: es) X.env=(false,eval e X.env) :: starEach es X.env:=by exact BS rfl):RA X (e :: es) (AB m r):=RA.wk (KS h.pe hr.pe hs) fun σ H Q h=>by
  obtain ⟨ι,μ,τ,z,μ',R,S,e,q⟩:=h
  obtain ⟨x,μ1,e1,e⟩:=AK e
  obtain ⟨xs,μ2,e2,e⟩:=AK e
  cases e
  exact ⟨ι,μ,τ,x,μ1,R,S,e1,fun ι1 H1 E1 R1 v1 i1=>⟨ι1,μ1,τ,xs,_,R1,S.ext E1,e2,fun ι2 H2 E2 R2 vs i2=>q ι2 H2 (E1.trans E2) R2 _ (.cons (i1.ext E2) i2)⟩⟩
def lim (n:Nat):M Unit:=fun μ=>if n <= sizeLine then some ((),μ) else none
theorem DO {n:Nat} {μ μ1:Mh} {u:Unit} (h:lim n μ=some (u,μ1)):n <= sizeLine /\ μ1=μ:=by
  unfold lim at h
  split at h
  . rename_i hn; cases h; exact ⟨hn,rfl⟩
  . cases h
def Aw (ds:List D):M D:=bnd (lim ds.length) fun _=>ret (.tup ds)
def A7 (ds:List D):M D:=bnd (lim ds.length) fun _=>ret (.lst ds)
def DX (ds:List D):M D:=bnd (lim ds.length) fun _=>fun μ=>some (.ref μ.length,μ ++ [.lst ds])
def AE (f:List D->M D) (m:Sl->M (List D)):Sl->M D:=fun τ=>bnd (m τ) f
theorem NF {K:PySem.W.Frag} {ι:Nat->Addr} {μ μ':Mh} {H:Hp} {ds:List D} {vs:List V} {d:D} {Q:VK} (R:RelH K ι μ H) (i:IsL K ι μ.length H ds vs) (e:Aw ds μ=some (d,μ')) (q:Aft K ι μ H μ' fun ι' H'=>∀ v,Is K ι' μ'.length H' d v->Q v H') :
    vs.length <= sizeLine /\ ∀ p,H p=none->Q (.ref p) (upd H p (.tup vs)):=by
  obtain ⟨u,μ1,e1,e2⟩:=AK e
  clear e
  obtain ⟨hl,e3⟩:=DO e1
  cases e2
  cases e3
  refine ⟨by rw [i.length]; exact hl,fun p hp=>?_⟩
  obtain ⟨E1,R1⟩:=R.laid (.tup vs) hp
  exact q ι _ E1 R1 _ (by unfold Is; exact ⟨p,vs,rfl,SqT.of Bj,i.ext E1⟩)
theorem Dz {K:PySem.W.Frag} {ι:Nat->Addr} {μ μ':Mh} {H:Hp} {ds:List D} {vs:List V} {d:D} {Q:VK} (R:RelH K ι μ H) (i:IsL K ι μ.length H ds vs) (e:A7 ds μ=some (d,μ')) (q:Aft K ι μ H μ' fun ι' H'=>∀ v,Is K ι' μ'.length H' d v->Q v H') :
    vs.length <= sizeLine /\ ∀ p,H p=none->Q (.ref p) (upd H p (.lst vs)):=by
  obtain ⟨u,μ1,e1,e2⟩:=AK e
  clear e
  obtain ⟨hl,e3⟩:=DO e1
  cases e2
  cases e3
  refine ⟨by rw [i.length]; exact hl,fun p hp=>?_⟩
  obtain ⟨E1,R1⟩:=R.laid (.lst vs) hp
  have ho:∀ n,n < μ.length->ι n ≠ p:=fun n hn z=>by
    obtain ⟨o,e,_⟩:=R.muts n hn
    rw [z,hp] at e; cases e
  exact q ι _ E1 R1 _ (by unfold Is; exact ⟨p,vs,rfl,Bj,ho,i.ext E1⟩)
theorem KZ {K:PySem.W.Frag} {ι:Nat->Addr} {μ μ':Mh} {H:Hp} {ds:List D} {vs:List V} {d:D} {Q:VK} (R:RelH K ι μ H) (i:IsL K ι μ.length H ds vs) (e:DX ds μ=some (d,μ')) (q:Aft K ι μ H μ' fun ι' H'=>∀ v,Is K ι' μ'.length H' d v->Q v H') :
    vs.length <= sizeLine /\ ∀ p,H p=none->Q (.ref p) (upd H p (.lst vs)):=by
  obtain ⟨u,μ1,e1,e2⟩:=AK e
  clear e
  obtain ⟨hl,e3⟩:=DO e1
  cases e2
  cases e3
  refine ⟨by rw [i.length]; exact hl,fun p hp=>?_⟩
  obtain ⟨ι',E1,R1,e0⟩:=R.grown (m:=.lst ds) hp ⟨vs,rfl,i⟩
  exact q ι' _ E1 R1 _ (by unfold Is; exact ⟨by simp,by rw [e0]⟩)
theorem Fm {K:PySem.W.Frag} {f:List D->M D} {m:Sl->M (List D)} {σ:St} {H:Hp} {Q:VK} {R:List V->Hp->Prop} (h:tE K (AE f m) σ H Q)
    (hf:∀ ι μ μ' H ds vs d,RelH K ι μ H->IsL K ι μ.length H ds vs->f ds μ=some (d,μ')->(Aft K ι μ H μ' fun ι' H'=>∀ v,Is K ι' μ'.length H' d v->Q v H')->R vs H):tL K m σ H R:=by
  obtain ⟨ι,μ,τ,z,μ',S1,S,e,q⟩:=h
  obtain ⟨ds,μ1,e1,e⟩:=AK e
  exact ⟨ι,μ,τ,ds,μ1,S1,S,e1,fun ι1 H1 E1 R1 vs iv=>hf ι1 μ1 μ' H1 ds vs z R1 iv e fun ι2 H2 E2 R2=>q ι2 H2 (E1.trans E2) R2⟩
theorem Au {x1} {m:Sl->M (List D)} (h:RA X es m):RE X (.Tuple es x1 pos) (AE Aw m):=RE.wk (T3 h.pe) fun _ _ _ q=>Fm q fun _ _ _ _ _ _ _ R i e q=>NF R i e q
theorem B9 {m:Sl->M (List D)} (h:RA X es m):RE X (.List es pos) (AE A7 m):=RE.wk (Pr h.pe) fun _ _ _ q=>Fm q fun _ _ _ _ _ _ _ R i e q=>Dz R i e q
theorem CC {m:Sl->M (List D)} (h:RA X es m):RE X (.List es pos) (AE DX m):=RE.wk (Pr h.pe) fun _ _ _ q=>Fm q fun _ _ _ _ _ _ _ R i e q=>KZ R i e q
theorem Af {id:String} {x:Str} {g:List D->M D} {m:Sl->M (List D)} {p:Pos} (hc:CH X (.builtin id) (rMA X.K g)) (hm:X.mg x=none) (hv:bootBuiltins x=some (.builtin id)) (ha:RA X (e :: es) m) (hg:Gl X x:=by rfl) (hn:x ≠ "__name__" := by decide) (hdb:(x == ("__debug__" : Str))=false:=by decide)
    (he:starEach (e :: es) X.env=(false,eval e X.env) :: starEach es X.env:=by exact BS rfl) (hpl:(backTo pos (starEach es X.env)).any (·.1)=false:=by exact CK rfl):RE X (.Call (.Name x p) (e :: es) [] pos) (AE g m):=
  RE.wk (LS hc hg hm hv ha.pe hn hdb he hpl) fun _ _ _ q=>Fm q fun ι μ μ' H ds vs d R i e q=>⟨ι,μ,ds,d,μ',R,i,e,q⟩
theorem BJ {T:String} {x:Str} {g:List D->M D} {m:Sl->M (List D)} {p:Pos} (hc:CH X (.type T) (rMA X.K g)) (hm:X.mg x=none) (hv:bootBuiltins x=some (.type T)) (ha:RA X (e :: es) m) (hg:Gl X x:=by rfl) (hn:x ≠ "__name__" := by decide) (hdb:(x == ("__debug__" : Str))=false:=by decide)
    (he:starEach (e :: es) X.env=(false,eval e X.env) :: starEach es X.env:=by exact BS rfl) (hpl:(backTo pos (starEach es X.env)).any (·.1)=false:=by exact CK rfl):RE X (.Call (.Name x p) (e :: es) [] pos) (AE g m):=
  RE.wk (Jc hc hg hm hv ha.pe hn hdb he hpl) fun _ _ _ q=>Fm q fun ι μ μ' H ds vs d R i e q=>⟨ι,μ,ds,d,μ',R,i,e,q⟩
def spM (K:PySem.W.Frag) (n:Nat) (φ:List D->M D):Sp:=fun vs H Q _=>vs.length=n /\ rMA K φ vs H Q
theorem Q7 {n k:Nat} {φ:List D->M D} {f:Addr} {fd:FuncData} {ps:List Str} {x:Str} {m:Sl->M (List D)} {p:Pos} (F:FnOk X.prog X.w X.K X.mg X.base CX0 k f fd ps (spM X.K n φ)) (hr:Room k X.A) (hm:X.mg x=some (.ref f)) (hk:PySem.W.keepIn X.K (.ref f)=true) (hb:Binds X.K fd ps [])
    (hφ:∀ ds μ r,φ ds μ=some r->ds.length=n) (ha:RA X (e :: es) m) (hg:Gl X x:=by rfl) (hdb:(x == ("__debug__" : Str))=false:=by decide) (he:starEach (e :: es) X.env=(false,eval e X.env) :: starEach es X.env:=by exact BS rfl) (hpl:(backTo pos (starEach es X.env)).any (·.1)=false:=by exact CK rfl) :
    RE X (.Call (.Name x p) (e :: es) [] pos) (AE φ m):=
  RE.wk (Rl F hr hg hm hk hb .nil Vl ha.pe hdb he hpl) fun _ _ _ q=>Fm q fun ι μ μ' H ds vs d R i e q=>by
    rw [List.append_nil]
    exact ⟨by rw [i.length]; exact hφ ds μ _ e,ι,μ,ds,d,μ',R,i,e,q⟩
end
end Mi
namespace Mi
open PySem L2
section
variable {X:Cx} {e a b c tg iter:Expr} {es:List Expr} {pos:Pos} {st:Stmt} {rest body:List Stmt}
def BI:Sl->M (Fl × Sl):=fun τ=>ret (.next,τ)
def AU (m1 m2:Sl->M (Fl × Sl)):Sl->M (Fl × Sl):=fun τ=>bnd (m1 τ) fun r=>match r.1 with
  | .next=>m2 r.2
  | f=>ret (f,r.2)
theorem Ar:RSs X [] BI:=RSs.wk RZ fun Dn σ H h=>by
  obtain ⟨ι,μ,τ,f,τ',μ',R,S,e,q⟩:=h
  cases e
  exact q ι H R.ext0 R σ S
theorem AI {m1 m2:Sl->M (Fl × Sl)} (h1:RS X st m1) (h2:RSs X rest m2):RSs X (st :: rest) (AU m1 m2):=RSs.wk (Pi h1.pe h2.pe) fun Dn σ H h=>by
  obtain ⟨ι,μ,τ,f,τ',μ',R,S,e,q⟩:=h
  obtain ⟨⟨f1,τ1⟩,μ1,e1,e⟩:=AK e
  refine ⟨ι,μ,τ,f1,τ1,μ1,R,S,e1,fun ι1 H1 E1 R1 σ1 S1=>?_⟩
  cases f1 with
  | next=>exact ⟨ι1,μ1,τ1,f,τ',μ',R1,S1,e,fun ι2 H2 E2 R2=>q ι2 H2 (E1.trans E2) R2⟩
  | brk=>cases e; exact q ι1 H1 E1 R1 σ1 S1
  | cont=>cases e; exact q ι1 H1 E1 R1 σ1 S1
  | rt d=>cases e; exact q ι1 H1 E1 R1 σ1 S1
theorem AO {m:Sl->M (Fl × Sl)} (h:RS X st m):RSs X [st] m:=⟨RY h.pe⟩
def AZ (m:Sl->M D):Sl->M (Fl × Sl):=fun τ=>bnd (m τ) fun _=>ret (.next,τ)
theorem Ab {m:Sl->M D} (h:RE X e m) (hs:swapsWith e none pos.line X.env=pure false:=by rfl):RS X (.Expr e pos) (AZ m):=RS.wk (Ra h.pe hs) fun Dn σ H h=>by
  obtain ⟨ι,μ,τ,f,τ',μ',R,S,e,q⟩:=h
  obtain ⟨x,μ1,e1,e⟩:=AK e
  cases e
  exact ⟨ι,μ,_,x,_,R,S,e1,fun ι1 H1 E1 R1 v i1=>q ι1 H1 E1 R1 σ (S.ext E1)⟩
def A5 (m:Sl->M D):Sl->M (Fl × Sl):=fun τ=>bnd (m τ) fun d=>ret (.rt d,τ)
theorem Am {m:Sl->M D} (h:RE X e m):RS X (.Return (some e) pos) (A5 m):=RS.wk (Tv h.pe) fun Dn σ H h=>by
  obtain ⟨ι,μ,τ,f,τ',μ',R,S,e,q⟩:=h
  obtain ⟨x,μ1,e1,e⟩:=AK e
  cases e
  exact ⟨ι,μ,_,x,_,R,S,e1,fun ι1 H1 E1 R1 v i1=>q ι1 H1 E1 R1 σ (S.ext E1) v i1⟩
def sIf (mc:Sl->M Bool) (m1 m2:Sl->M (Fl × Sl)):Sl->M (Fl × Sl):=fun τ=>bnd (mc τ) fun x=>if x=true then m1 τ else m2 τ
theorem BK {mc:Sl->M Bool} {m1 m2:Sl->M (Fl × Sl)} (hc:RT X c mc) (h1:RSs X body m1) (h2:RSs X rest m2):RS X (.If c body rest pos) (sIf mc m1 m2):=RS.wk (Vf hc.pe h1.pe h2.pe) fun Dn σ H h=>by
  obtain ⟨ι,μ,τ,f,τ',μ',R,S,e,q⟩:=h
  obtain ⟨x,μ1,e1,e⟩:=AK e
  refine ⟨ι,μ,τ,x,μ1,R,S,e1,fun ι1 H1 E1 R1=>?_⟩
  cases x with
  | true=>exact ⟨ι1,μ1,τ,f,τ',μ',R1,S.ext E1,e,fun ι2 H2 E2 R2=>q ι2 H2 (E1.trans E2) R2⟩
  | false=>exact ⟨ι1,μ1,τ,f,τ',μ',R1,S.ext E1,e,fun ι2 H2 E2 R2=>q ι2 H2 (E1.trans E2) R2⟩
def PM:Sl->M (Fl × Sl):=fun _=>BP
theorem PP:RS X st PM:=RS.wk Pj fun Dn σ H h=>by
  obtain ⟨ι,μ,τ,f,τ',μ',R,S,e,q⟩:=h
  cases e
def tG (K:PySem.W.Frag) (bf:D->Sl->M Sl):TG:=fun v σ H Q=>∃ ι μ τ d τ' μ',RelH K ι μ H /\ RelS K ι μ.length H τ σ /\ Is K ι μ.length H d v /\ bf d τ μ=some (τ',μ') /\
  Aft K ι μ H μ' fun ι' H'=>∀ σ',RelS K ι' μ'.length H' τ' σ'->Q σ' H'
structure RG (X:Cx) (tg:Expr) (bf:D->Sl->M Sl):Prop where
  pe:PG X tg (tG X.K bf)
theorem PG.wk {t t':TG} (h:PG X tg t) (w:∀ v σ H Q,t' v σ H Q->t v σ H Q):PG X tg t':=fun pins s σ H v u Q I r q=>h pins s σ H v u Q I r (w v σ H Q q)
theorem RG.wk {bf:D->Sl->M Sl} {t:TG} (h:PG X tg t) (w:∀ v σ H Q,tG X.K bf v σ H Q->t v σ H Q):RG X tg bf:=⟨PG.wk h w⟩
def AN (i:Nat):D->Sl->M Sl:=fun d τ=>ret (τ.set i (some d))
theorem Mz {K:PySem.W.Frag} {i:Nat} {v:V} {σ:St} {H:Hp} {Q:St->Hp->Prop} (h:tG K (AN i) v σ H Q):Ef i v σ H Q:=by
  obtain ⟨ι,μ,τ,d,τ',μ',R,S,i1,e,q⟩:=h
  cases e
  exact q ι H R.ext0 R _ (S.set i i1)
theorem B3 (i:Nat) {x:Str} (hN:X.N.Nodup) (hi:X.N[i]? = some x:=by rfl) (hx:Loc X.env.scope x:=by first | exact Or.inl rfl | exact Or.inr rfl) (hf:X.fn x=true ∨ X.env.scope.names.lookup x=some .local:=by first | exact .inl rfl | exact .inr rfl | assumption):RG X (.Name x pos) (AN i):=
  RG.wk (Ao hN hi hx hf) fun _ _ _ _ h=>Mz h
def JA:List Nat->List D->Sl->M Sl
  | [],[],τ=>ret τ
  | i :: is,d :: ds,τ=>bnd (AN i d τ) fun τ1=>JA is ds τ1
  | _,_,_=>BP
def EV (is:List Nat):D->Sl->M Sl
  | .tup ds,τ=>if ds.length=is.length then JA is ds τ else BP
  | _,_=>BP
def Kp:List Nat->TGs
  | []=>WE
  | i :: is=>S8 (Ef i) (Kp is)
theorem HH {K:PySem.W.Frag}:∀ {is:List Nat} {ds:List D} {vs:List V} {τ τ':Sl} {σ:St} {ι:Nat->Addr} {μ μ':Mh} {H:Hp} {Q:St->Hp->Prop},RelH K ι μ H->RelS K ι μ.length H τ σ->IsL K ι μ.length H ds vs->JA is ds τ μ=some (τ',μ')->
    (μ'=μ->∀ σ',RelS K ι μ.length H τ' σ'->Q σ' H)->Kp is vs σ H Q
  | [],[],_,_,_,_,_,_,_,_,_,R,S,i,e,q=>by
    cases e
    unfold IsL at i; subst i
    exact ⟨rfl,q rfl _ S⟩
  | _ :: is,_ :: ds,_,τ,τ',σ,ι,μ,μ',H,Q,R,S,i,e,q=>by
    unfold IsL at i
    obtain ⟨v,vs',rfl,i1,i2⟩:=i
    exact ⟨v,vs',rfl,HH (is:=is) (ds:=ds) R (S.set _ i1) i2 e q⟩
  | [],_ :: _,_,_,_,_,_,_,_,_,_,_,_,_,e,_=>by cases e
  | _ :: _,[],_,_,_,_,_,_,_,_,_,_,_,_,e,_=>by cases e
theorem EL {is:List Nat} {k:Nat} (hc:X.calm=true) (h:PGs X es (Kp is)) (hn:(assignEach es X.env).length=is.length:=by rfl) (hst:(assignEach es X.env).findIdx? (·.1)=none:=by rfl):RG X (.Tuple es k pos) (EV is):=
  RG.wk (MM hc h hn hst) fun v σ H Q h=>by
    obtain ⟨ι,μ,τ,d,τ',μ',R,S,i1,e,q⟩:=h
    cases d with
    | tup ds=>
      unfold Is at i1
      obtain ⟨p,vs,rfl,h1,h2⟩:=i1
      have e':(if ds.length=is.length then JA is ds τ else BP) μ=some (τ',μ'):=e
      by_cases hl:ds.length=is.length
      . rw [if_pos hl] at e'
        have e:=e'
        refine ⟨p,vs,rfl,h1,by rw [h2.length,hl],HH R S h2 e fun z σ' S'=>?_⟩
        subst z
        exact q ι H R.ext0 R σ' S'
      . rw [if_neg hl] at e'; cases e'
    | _=>cases e
def An (m:Sl->M D) (bf:D->Sl->M Sl):Sl->M (Fl × Sl):=fun τ=>bnd (m τ) fun d=>bnd (bf d τ) fun τ'=>ret (.next,τ')
theorem Mx {K:PySem.W.Frag} {m:Sl->M D} {bf:D->Sl->M Sl} {g:TG} {Dn:Mt} {σ:St} {H:Hp} (hg:∀ v H Q,tG K bf v σ H Q->g v σ H Q) (h:tSt K (An m bf) Dn σ H):Qt (tE K m) g Dn σ H:=by
  obtain ⟨ι,μ,τ,f,τ',μ',R,S,e,q⟩:=h
  obtain ⟨x,μ1,e1,e⟩:=AK e
  obtain ⟨τ1,μ2,e2,e⟩:=AK e
  cases e
  exact ⟨ι,μ,τ,x,μ1,R,S,e1,fun ι1 H1 E1 R1 v i1=>hg _ _ _ ⟨ι1,μ1,τ,x,_,_,R1,S.ext E1,i1,e2,fun ι2 H2 E2 R2 σ' S'=>q ι2 H2 (E1.trans E2) R2 σ' S'⟩⟩
theorem Ad (i:Nat) {x:Str} {m:Sl->M D} {pos':Pos} (hN:X.N.Nodup) (he:RE X e m) (hi:X.N[i]? = some x:=by rfl) (hx:Loc X.env.scope x:=by first | exact Or.inl rfl | exact Or.inr rfl) (hs:swapsWith e (some (.Name x pos')) pos.line X.env=pure false:=by rfl) (hf:X.fn x=true ∨ X.env.scope.names.lookup x=some .local:=by first | exact .inl rfl | exact .inr rfl | assumption) :
    RS X (.Assign [.Name x pos'] e pos) (An m (AN i)):=RS.wk (Tu hN hi hx he.pe hs hf) fun _ _ _ h=>Mx (fun _ _ _ q=>Mz q) h
theorem FT {m:Sl->M D} {bf:D->Sl->M Sl} (he:RE X e m) (hg:RG X tg bf) (hs:swapsWithSole [tg] e pos.line X.env=pure false:=by rfl) (hw:swappedStores [tg] e X.env=pure none:=by rfl)
    (h1:(assignEach [tg] X.env).map (·.2)=[assign tg X.env]:=by rfl):RS X (.Assign [tg] e pos) (An m bf):=RS.wk (Tx he.pe hg.pe hs hw h1) fun _ _ _ h=>Mx (fun _ _ _ q=>q) h
def ItM (K:PySem.W.Frag) (J:It) (ds:List D) (ι:Nat->Addr) (μ:Mh) (H:Hp):Prop:=∀ ι' (μ':Mh) H',Ext ι μ.length H ι' μ'.length H'->RelH K ι' μ' H'->
  (∀ i,i < ds.length->J.go i H') /\ J.stop ds.length H' /\ ∀ (i:Nat) x H2 d,ds[i]? = some d->J.yld i H' x H2->Ext ι' μ'.length H' ι' μ'.length H2 /\ RelH K ι' μ' H2 /\ Is K ι' μ'.length H2 d x
theorem ItM.ext {K:PySem.W.Frag} {J:It} {ds:List D} {ι ι':Nat->Addr} {μ μ':Mh} {H H':Hp} (h:ItM K J ds ι μ H) (E:Ext ι μ.length H ι' μ'.length H'):ItM K J ds ι' μ' H':=fun ι2 μ2 H2 E2 R2=>h ι2 μ2 H2 (E.trans E2) R2
def tI (K:PySem.W.Frag) (m:Sl->M (List D)):TI:=fun σ H R=>∃ ι μ τ ds μ',RelH K ι μ H /\ RelS K ι μ.length H τ σ /\ m τ μ=some (ds,μ') /\
  Aft K ι μ H μ' fun ι' H'=>∀ J,ItM K J ds ι' μ' H'->R J H'
structure RI (X:Cx) (tg iter:Expr) (m:Sl->M (List D)):Prop where
  pe:PI X tg iter (tI X.K m)
theorem PI.wk {t t':TI} (h:PI X tg iter t) (w:∀ σ H R,t' σ H R->t σ H R):PI X tg iter t':=fun pins s σ H R I q=>h pins s σ H R I (w σ H R q)
theorem RI.wk {m:Sl->M (List D)} {t:TI} (h:PI X tg iter t) (w:∀ σ H R,tI X.K m σ H R->t σ H R):RI X tg iter m:=⟨PI.wk h w⟩
theorem PI.or {t t':TI} (h:PI X tg iter t) (h':PI X tg iter t'):PI X tg iter (fun σ H R=>t σ H R ∨ t' σ H R):=fun pins s σ H R I q=>q.elim (h pins s σ H R I) (h' pins s σ H R I)
def Nb:D->M (List D)
  | .lst ds=>ret ds
  | .tup ds=>ret ds
  | .scr ns=>ret (ns.map D.int)
  | _=>BP
def EU (m:Sl->M D):Sl->M (List D):=fun τ=>bnd (m τ) Nb
theorem Lh {K:PySem.W.Frag} {ι:Nat->Addr} {μ:Mh} {H:Hp} {p:Addr} {vs:List V} {ds:List D} (st:∀ ι' (μ':Mh) H',Ext ι μ.length H ι' μ'.length H'->RelH K ι' μ' H'->SqL K H' p vs) (i:IsL K ι μ.length H ds vs):ItM K (Itl K p) ds ι μ H:=by
  intro ι' μ' H' E R
  have h:=st ι' μ' H' E R
  have hl:=i.length
  refine ⟨fun j hj=>⟨vs,vs[j],h,by simp⟩,⟨vs,h,by omega⟩,fun j x H2 d hd y=>?_⟩
  obtain ⟨e,y⟩:=y
  subst e
  obtain ⟨v,ev,iv⟩:=(i.ext E).get hd
  have:=y vs h
  rw [ev] at this; cases this
  exact ⟨R.ext0,R,iv⟩
theorem SM {K:PySem.W.Frag} {ι:Nat->Addr} {μ:Mh} {H:Hp} {p:Addr} {vs:List V} {ds:List D} (h:SqT K H p vs) (i:IsL K ι μ.length H ds vs):ItM K (Itt K p) ds ι μ H:=by
  intro ι' μ' H' E R
  have h:=GS E h
  have hl:=i.length
  refine ⟨fun j hj=>⟨vs,vs[j],h,by simp⟩,⟨vs,h,by omega⟩,fun j x H2 d hd y=>?_⟩
  obtain ⟨e,y⟩:=y
  subst e
  obtain ⟨v,ev,iv⟩:=(i.ext E).get hd
  have:=y vs h
  rw [ev] at this; cases this
  exact ⟨R.ext0,R,iv⟩
theorem Q2 {m:Sl->M D} {σ:St} {H:Hp} {R:It->Hp->Prop} {K:PySem.W.Frag} (q:tI K (EU m) σ H R):S6 K (tE K m) σ H R ∨ WA K (tE K m) σ H R:=by
  obtain ⟨ι,μ,τ,ds,μ',R0,S,e,q⟩:=q
  obtain ⟨x,μ1,e1,e⟩:=AK e
  cases x with
  | lst es=>
    cases e
    refine .inl ⟨ι,μ,τ,_,_,R0,S,e1,fun ι1 H1 E1 R1 v i1=>?_⟩
    unfold Is at i1
    obtain ⟨p,vs,rfl,h1,hn,h2⟩:=i1
    exact ⟨p,rfl,⟨vs,SqL.of h1⟩,q ι1 H1 E1 R1 _ (Lh (fun ι' μ' H' E _=>SqL.of (E.keep p _ h1 hn)) h2)⟩
  | tup es=>
    cases e
    refine .inr ⟨ι,μ,τ,_,_,R0,S,e1,fun ι1 H1 E1 R1 v i1=>?_⟩
    unfold Is at i1
    obtain ⟨p,vs,rfl,h1,h2⟩:=i1
    exact ⟨p,rfl,⟨vs,h1⟩,q ι1 H1 E1 R1 _ (SM h1 h2)⟩
  | scr ns=>
    cases e
    refine .inl ⟨ι,μ,τ,_,_,R0,S,e1,fun ι1 H1 E1 R1 v i1=>?_⟩
    unfold Is at i1
    obtain ⟨p,rfl,h1⟩:=i1
    exact ⟨p,rfl,⟨_,h1.sq⟩,q ι1 H1 E1 R1 _ (Lh (fun ι' μ' H' E _=>(KG E h1).sq) (IsL.ofInts ns))⟩
  | non=>cases e
  | bl _=>cases e
  | int _=>cases e
  | str _=>cases e
  | ty _=>cases e
  | ref _=>cases e
theorem DL {m:Sl->M D} (h:RE X e m):RI X tg e (EU m):=RI.wk (PI.or (ND h.pe) (Tz h.pe)) fun _ _ _ q=>Q2 q
def GY (lo hi:Int):List D:=(List.range (hi - lo).toNat).map fun (j:Nat)=>D.int (lo + (j:Int))
def Sn:List D->M (List D)
  | [.int j]=>fun μ=>if -(2 ^ 62) <= j /\ j < 2 ^ 62 then some (GY 0 j,μ) else none
  | _=>BP
def PV:List D->M (List D)
  | [.int i,.int j]=>fun μ=>if -(2 ^ 62) <= i /\ i < 2 ^ 62 /\ -(2 ^ 62) <= j /\ j < 2 ^ 62 then some (GY i j,μ) else none
  | _=>BP
def Ds (m:Sl->M (List D)):Sl->M (List D):=fun τ=>bnd (m τ) Sn
def NG (m:Sl->M (List D)):Sl->M (List D):=fun τ=>bnd (m τ) PV
theorem NR {K:PySem.W.Frag} {ι:Nat->Addr} {μ:Mh} {H:Hp} {lo hi:Int}:ItM K (Itr lo (hi - lo).toNat) (GY lo hi) ι μ H:=by
  intro ι' μ' H' E R
  have hl:(GY lo hi).length=(hi - lo).toNat:=by simp [GY]
  rw [hl]
  refine ⟨fun j hj=>hj,Nat.le_refl _,fun j x H2 d hd y=>?_⟩
  obtain ⟨e,y⟩:=y
  subst e
  unfold GY at hd
  rw [List.getElem?_map] at hd
  cases q:(List.range (hi - lo).toNat)[j]? with
  | none=>rw [q] at hd; cases hd
  | some z=>
    rw [q] at hd
    have hz:z=j:=by
      have:=(List.getElem?_eq_some_iff.mp q).2
      simpa using this.symm
    subst hz
    cases hd
    exact ⟨R.ext0,R,by unfold Is; exact y⟩
theorem C9 {a:Expr} {m:Sl->M (List D)} {p:Pos} (hm:X.mg "range" = none) (ha:RA X [a] m) (hg:Gl X "range" := by rfl) (hs:starEach [a] X.env=[(false,eval a X.env)]:=by rfl):RI X tg (.Call (.Name "range" p) [a] [] pos) (Ds m):=
  RI.wk (N4 hg hm ha.pe hs) fun σ H R q=>by
    obtain ⟨ι,μ,τ,ds,μ',R0,S,e,q⟩:=q
    obtain ⟨xs,μ1,e1,e⟩:=AK e
    refine ⟨ι,μ,τ,xs,μ1,R0,S,e1,fun ι1 H1 E1 R1 vs i1=>?_⟩
    unfold Sn at e
    split at e
    . rename_i j
      split at e
      . rename_i hb
        cases e
        unfold IsL Is at i1
        obtain ⟨v,vs',rfl,rfl,i2⟩:=i1
        unfold IsL at i2
        subst i2
        refine ⟨j,rfl,hb.1,hb.2,q ι1 H1 E1 R1 _ ?_⟩
        have:=NR (K:=X.K) (ι:=ι1) (μ:=μ') (H:=H1) (lo:=0) (hi:=j)
        rw [Int.sub_zero] at this
        exact this
      . cases e
    . cases e
theorem Nr {a b:Expr} {m:Sl->M (List D)} {p:Pos} (hm:X.mg "range" = none) (ha:RA X [a,b] m) (hg:Gl X "range" := by rfl) (hs:starEach [a,b] X.env=[(false,eval a X.env),(false,eval b X.env)]:=by rfl) (hs2:starEach [b] X.env=[(false,eval b X.env)]:=by rfl):RI X tg (.Call (.Name "range" p) [a,b] [] pos) (NG m):=
  RI.wk (N3 hg hm ha.pe hs hs2) fun σ H R q=>by
    obtain ⟨ι,μ,τ,ds,μ',R0,S,e,q⟩:=q
    obtain ⟨xs,μ1,e1,e⟩:=AK e
    refine ⟨ι,μ,τ,xs,μ1,R0,S,e1,fun ι1 H1 E1 R1 vs i1=>?_⟩
    unfold PV at e
    split at e
    . rename_i i j
      split at e
      . rename_i hb
        cases e
        unfold IsL Is at i1
        obtain ⟨v,vs',rfl,rfl,i2⟩:=i1
        unfold IsL Is at i2
        obtain ⟨v,vs',rfl,rfl,i2⟩:=i2
        unfold IsL at i2
        subst i2
        exact ⟨i,j,rfl,hb,q ι1 H1 E1 R1 _ NR⟩
      . cases e
    . cases e
def Bh (bf:D->Sl->M Sl) (mb:Sl->M (Fl × Sl)):List D->Sl->M (Fl × Sl)
  | [],τ=>ret (.next,τ)
  | x :: xs,τ=>bnd (bf x τ) fun τ1=>bnd (mb τ1) fun r=>match r.1 with
    | .next=>Bh bf mb xs r.2
    | .cont=>Bh bf mb xs r.2
    | .brk=>ret (.next,r.2)
    | .rt d=>ret (.rt d,r.2)
def Cs (src:Sl->M (List D)) (bf:D->Sl->M Sl) (mb:Sl->M (Fl × Sl)):Sl->M (Fl × Sl):=fun τ=>bnd (src τ) fun ds=>Bh bf mb ds τ
theorem BT {src:Sl->M (List D)} {bf:D->Sl->M Sl} {mb:Sl->M (Fl × Sl)} (hp:PassesOwn (model X.prog X.w) X.A X.env X.xe) (hc:X.calm=true) (hi:RI X tg iter src) (hg:RG X tg bf) (hb:RSs X body mb)
    (hs:∀ x,foldedSetIterable iter X.env x=pure x:=by intro _; rfl):RS X (.For tg iter body [] pos) (Cs src bf mb):=RS.wk (Tw hp hc hi.pe hg.pe hb.pe hs) fun Dn σ H h=>by
  obtain ⟨ι,μ,τ,f,τ',μ',R,S,e,q⟩:=h
  obtain ⟨ds,μ1,e1,e⟩:=AK e
  refine ⟨ι,μ,τ,ds,μ1,R,S,e1,fun ι1 H1 E1 R1 J it=>?_⟩
  let W:Nat->Nat->St->Hp->Prop:=fun i m σ H=>m=ds.length - i /\ i <= ds.length /\ ∃ ι μ τ f τ' μ',RelH X.K ι μ H /\ RelS X.K ι μ.length H τ σ /\ ItM X.K J ds ι μ H /\ Bh bf mb (ds.drop i) τ μ=some ((f,τ'),μ') /\
    Aft X.K ι μ H μ' fun ι' H'=>∀ σ',RelS X.K ι' μ'.length H' τ' σ'->FlP X.K Dn ι' μ'.length H' τ' σ' f
  refine ⟨W,⟨ds.length,by simp,Nat.zero_le _,ι1,μ1,τ,f,τ',μ',R1,S.ext E1,it,e,fun ι2 H2 E2 R2=>q ι2 H2 (E1.trans E2) R2⟩,?_⟩
  rintro i m σ H ⟨hm,hil,ι,μ,τ,f,τ',μ',R,S,it,e,q⟩
  obtain ⟨go,stop,yl⟩:=it ι μ H R.ext0 R
  by_cases hlt:i < ds.length
  . refine .inr ⟨go i hlt,fun σ' H'=>W (i + 1) (ds.length - (i + 1)) σ' H',fun σ' H' z=>⟨_,by omega,z⟩,fun x H2 y=>?_⟩
    have hd:ds[i]? = some ds[i]:=by simp [hlt]
    obtain ⟨E2,R2,ix⟩:=yl i x H2 _ hd y
    rw [List.drop_eq_getElem_cons hlt] at e
    obtain ⟨τ1,μ1,e1,e⟩:=AK e
    obtain ⟨⟨f2,τ2⟩,μ2,e2,e⟩:=AK e
    refine ⟨ι,μ,τ,_,τ1,μ1,R2,S.ext E2,ix,e1,fun ι3 H3 E3 R3 σ3 S3=>?_⟩
    refine ⟨ι3,μ1,τ1,f2,τ2,μ2,R3,S3,e2,fun ι4 H4 E4 R4 σ4 S4=>?_⟩
    have E14:=(E2.trans E3).trans E4
    cases f2 with
    | next=>exact ⟨rfl,hlt,ι4,μ2,τ2,f,τ',μ',R4,S4,it.ext E14,e,fun ι5 H5 E5 R5=>q ι5 H5 (E14.trans E5) R5⟩
    | cont=>exact ⟨rfl,hlt,ι4,μ2,τ2,f,τ',μ',R4,S4,it.ext E14,e,fun ι5 H5 E5 R5=>q ι5 H5 (E14.trans E5) R5⟩
    | brk=>cases e; exact q ι4 H4 E14 R4 σ4 S4
    | rt d=>cases e; exact q ι4 H4 E14 R4 σ4 S4
  . have hi':i=ds.length:=by omega
    subst hi'
    rw [List.drop_length] at e
    cases e
    exact .inl ⟨stop,q ι H R.ext0 R σ S⟩
end
end Mi
namespace Mi
open PySem L2
section
variable {X:Cx} {scope:Scope} {tgs:List Str} {ix:List Nat} {elt tg iter:Expr} {pos:Pos}
def Po (ix:List Nat) (τ:Sl):Sl:=ix.map fun j=>(τ[j]?).getD none
def BX (n:Nat) (ix:List Nat) (τ:Sl):Sl:=List.replicate n none ++ Po ix τ
def CZ (bf:D->Sl->M Sl) (mc:Sl->M Bool) (me:Sl->M D) (τ0:Sl):List D->List D->M (List D)
  | [],ys=>ret ys
  | x :: xs,ys=>bnd (bf x τ0) fun τ1=>bnd (mc τ1) fun c=>if c=true then bnd (me τ1) fun y=>CZ bf mc me τ0 xs (ys ++ [y]) else CZ bf mc me τ0 xs ys
def Bg (n:Nat) (ix:List Nat) (src:Sl->M (List D)) (bf:D->Sl->M Sl) (mc:Sl->M Bool) (me:Sl->M D) (fin:List D->M D):Sl->M D:=fun τ=>bnd (src τ) fun ds=>bnd (lim ds.length) fun _=>bnd (CZ bf mc me (BX n ix τ) ds []) fin
def Bo:Sl->M Bool:=fun _=>ret true
theorem RelS.block {K:PySem.W.Frag} {ι:Nat->Addr} {k:Nat} {H:Hp} {τ:Sl} {σ:St} (S:RelS K ι k H τ σ):RelS K ι k H (BX tgs.length ix τ) (DV tgs ix σ):=by
  refine ⟨by simp [BX,DV,Po,Jb],fun i d e=>?_⟩
  unfold BX at e
  have hk:tgs.length <= i:=by
    rcases Nat.lt_or_ge i tgs.length with z | z
    . rw [List.getElem?_append_left (by simpa using z),List.getElem?_replicate,if_pos z] at e
      cases e
    . exact z
  rw [List.getElem?_append_right (by simpa using hk),List.length_replicate] at e
  unfold Po at e
  rw [List.getElem?_map] at e
  cases q:ix[i - tgs.length]? with
  | none=>rw [q] at e; cases e
  | some j=>
    rw [q] at e
    have e':(τ[j]?).getD none=some d:=Option.some.inj e
    cases q2:τ[j]? with
    | none=>rw [q2] at e'; cases e'
    | some o=>
      rw [q2] at e'
      have e'':o=some d:=e'
      subst e''
      obtain ⟨v,ev,iv⟩:=S.get j d q2
      refine ⟨v,?_,iv⟩
      unfold DV
      rw [List.getElem?_append_right (by simpa using hk),List.length_replicate]
      unfold Jb
      rw [List.getElem?_map,q,Option.map_some,ev]
      rfl
theorem KD {K:PySem.W.Frag} {n:Nat} {src:Sl->M (List D)} {i:Nat} {mc:Sl->M Bool} {me:Sl->M D} {fin:List D->M D} {σ:St} {H:Hp} {Q:VK} (hn:tgs.length=n) (hf:∀ ι μ μ' H ds vs d (Q:VK),RelH K ι μ H->IsL K ι μ.length H ds vs->fin ds μ=some (d,μ')->(Aft K ι μ H μ' fun ι' H'=>∀ v,Is K ι' μ'.length H' d v->Q v H')->
      vs.length <= sizeLine /\ ∀ p,H p=none->Q (.ref p) (upd H p (.lst vs)))
    (h:tE K (Bg n ix src (AN i) mc me fin) σ H Q):M4 tgs ix (tI K src) (Ef i) (tT K mc) (tE K me) σ H Q:=by
  subst hn
  obtain ⟨ι,μ,τ,d,μ',R,S,e,q⟩:=h
  obtain ⟨ds,μ1,e1,e5⟩:=AK e
  obtain ⟨u,μ2,e2,e6⟩:=AK e5
  obtain ⟨zs,μ3,e3,e7⟩:=AK e6
  obtain ⟨hl,e4⟩:=DO e2
  clear e e5 e6
  subst e4
  refine ⟨ι,μ,τ,ds,_,R,S,e1,fun ι1 H1 E1 R1 J it=>?_⟩
  refine ⟨fun i' m ys H=>m=ds.length - i' /\ i' <= ds.length /\ ys.length <= i' /\ ∃ (ι:Nat->Addr) (μ:Mh) (as:List D),RelH K ι μ H /\ RelS K ι μ.length H τ σ /\ ItM K J ds ι μ H /\ IsL K ι μ.length H as ys /\ CZ (AN i) mc me (BX tgs.length ix τ) (ds.drop i') as μ=some (zs,μ3) /\
    Aft K ι μ H μ' fun ι' H'=>∀ v,Is K ι' μ'.length H' d v->Q v H',⟨ds.length,by simp,Nat.zero_le _,Nat.le_refl _,ι1,_,[],R1,S.ext E1,it,.nil,e3,fun ι2 H2 E2 R2=>q ι2 H2 (E1.trans E2) R2⟩,?_⟩
  rintro i' m ys H ⟨hm,hil,hyl,ι,μ,as,R,S,it,ia,e3,q⟩
  obtain ⟨go,stop,yl⟩:=it ι μ H R.ext0 R
  by_cases hlt:i' < ds.length
  . refine .inr ⟨go i' hlt,by omega,fun ys' H'=>ys'.length <= i' + 1 /\ ∃ (ι:Nat->Addr) (μ:Mh) (as:List D),RelH K ι μ H' /\ RelS K ι μ.length H' τ σ /\ ItM K J ds ι μ H' /\ IsL K ι μ.length H' as ys' /\ CZ (AN i) mc me (BX tgs.length ix τ) (ds.drop (i' + 1)) as μ=some (zs,μ3) /\
      Aft K ι μ H' μ' fun ι' H'=>∀ v,Is K ι' μ'.length H' d v->Q v H',fun ys' H' z=>⟨_,(by omega:ds.length - (i' + 1) < m),rfl,hlt,z⟩,fun x H2 y=>?_⟩
    have hd:ds[i']? = some ds[i']:=by simp [hlt]
    obtain ⟨E2,R2,ix2⟩:=yl i' x H2 _ hd y
    rw [List.drop_eq_getElem_cons hlt] at e3
    obtain ⟨τ1,μ1,e1,e3⟩:=AK e3
    cases e1
    obtain ⟨cc,μ2,e2,e3⟩:=AK e3
    have S2:=(S.ext E2).block (tgs:=tgs) (ix:=ix)
    show tT K mc _ H2 _
    refine ⟨ι,_,_,cc,μ2,R2,S2.set i ix2,e2,fun ι3 H3 E3 R3=>?_⟩
    have E13:=E2.trans E3
    cases cc with
    | false=>
      exact ⟨by omega,ι3,μ2,as,R3,S.ext E13,it.ext E13,ia.ext E13,e3,fun ι5 H5 E5 R5=>q ι5 H5 (E13.trans E5) R5⟩
    | true=>
      obtain ⟨y',μ4,e4,e3⟩:=AK e3
      refine ⟨ι3,μ2,_,y',μ4,R3,(S2.set i ix2).ext E3,e4,fun ι4 H4 E4 R4 v iv=>?_⟩
      have E14:=E13.trans E4
      exact ⟨by simp; omega,ι4,μ4,as ++ [y'],R4,S.ext E14,it.ext E14,(ia.ext E14).append (.one iv),e3,fun ι5 H5 E5 R5=>q ι5 H5 (E14.trans E5) R5⟩
  . have hi':i'=ds.length:=by omega
    subst hi'
    rw [List.drop_length] at e3
    cases e3
    obtain ⟨z1,z2⟩:=hf ι _ μ' H _ ys d Q R ia e7 q
    exact .inl ⟨stop,z1,z2⟩
theorem Hi {n:Nat} {ifs:List Expr} {src:Sl->M (List D)} {i:Nat} {mc:Sl->M Bool} {me:Sl->M D} (S:BScope X scope tgs ix) (hc:X.calm=true) (hi:RI X tg iter src) (hg:∀ fp C s H,PG (cxB X scope tgs fp C s H) tg (Ef i)) (hif:∀ fp C s H,JD (cxB X scope tgs fp C s H) ifs (tT X.K mc)) (he:∀ fp C s H,RE (cxB X scope tgs fp C s H) elt me)
    (hin:i < tgs.length:=by decide) (hn:tgs.length=n:=by rfl) (hs:∀ x,foldedSetIterable iter X.env x=pure x:=by intro _; rfl) (ht:∀ o v,letOwnedTupleGo tg o v=pure ():=by intro _ _; rfl):RE X (.ListComp elt [⟨tg,iter,ifs,0⟩] scope pos) (Bg n ix src (AN i) mc me A7):=
  RE.wk (KR (te:=tE X.K me) S hc hi.pe hg (Hr hin) hif (fun fp C s H=>(he fp C s H).pe) hs ht) fun _ _ _ h=>KD hn (fun _ _ _ _ _ _ _ _ R i e q=>Dz R i e q) h
theorem Dq {K:PySem.W.Frag}:JD X [] (tT K Bo):=fun pins s σ H Q I h=>by
  obtain ⟨ι,μ,τ,b,μ',R,S,e,q⟩:=h
  cases e
  exact Pm pins s σ H Q I (q ι H R.ext0 R)
theorem GZ {c:Expr} {mc:Sl->M Bool} (h:RT X c mc):JD X [c] (tT X.K mc):=Pk h.pe
theorem E6 (k:Nat) {n:Nat} {y:Str} {py spos:Pos} {ifs:List Expr} {src:Sl->M (List D)} {i:Nat} {mc:Sl->M Bool} {me:Sl->M D} {fin:List D->M D} (hN:X.N.Nodup) (S:BScope X scope tgs ix) (hc:X.calm=true) (hi:RI X tg iter src) (hg:∀ fp C s H,PG (cxB X scope tgs fp C s H) tg (Ef i)) (hif:∀ fp C s H,JD (cxB X scope tgs fp C s H) ifs (tT X.K mc)) (he:∀ fp C s H,RE (cxB X scope tgs fp C s H) elt me)
    (hfin:∀ ι μ μ' H ds vs d (Q:VK),RelH X.K ι μ H->IsL X.K ι μ.length H ds vs->fin ds μ=some (d,μ')->(Aft X.K ι μ H μ' fun ι' H'=>∀ v,Is X.K ι' μ'.length H' d v->Q v H')->vs.length <= sizeLine /\ ∀ p,H p=none->Q (.ref p) (upd H p (.lst vs)))
    (hiN:X.N[k]? = some y:=by rfl) (hy:X.env.scope.names.lookup y=some .local:=by rfl) (hin:i < tgs.length:=by decide) (hn:tgs.length=n:=by rfl)
    (hsw:swapsWith (.ListComp elt [⟨tg,iter,ifs,0⟩] scope pos) (some (.Name y py)) spos.line X.env=pure true:=by rfl) (hs:∀ x,foldedSetIterable iter X.env x=pure x:=by intro _; rfl) (ht:∀ o v,letOwnedTupleGo tg o v=pure ():=by intro _ _; rfl) :
    RS X (.Assign [.Name y py] (.ListComp elt [⟨tg,iter,ifs,0⟩] scope pos) spos) (An (Bg n ix src (AN i) mc me fin) (AN k)):=
  RS.wk (MK (te:=tE X.K me) hN hiN hy S hc hi.pe hg (Hr hin) hif (fun fp C s H=>(he fp C s H).pe) hsw hs ht) fun Dn σ H h=>by
    obtain ⟨ι,μ,τ,f,τ',μ',R,S,e,q⟩:=h
    obtain ⟨x,μ1,e1,e⟩:=AK e
    obtain ⟨τ1,μ2,e2,e⟩:=AK e
    cases e2
    cases e
    refine KD hn hfin ⟨ι,μ,τ,x,_,R,S,e1,fun ι1 H1 E1 R1 v i1=>?_⟩
    exact q ι1 H1 E1 R1 _ ((S.ext E1).set k i1)
mutual
def Cl (k:Nat):D->Prop
  | .tup ds=>ClL k ds
  | .lst ds=>ClL k ds
  | .ref n=>n < k
  | _=>True
def ClL (k:Nat):List D->Prop
  | []=>True
  | d :: ds=>Cl k d /\ ClL k ds
end
def ClO (k:Nat):MO->Prop
  | .lst ds=>ClL k ds
  | .dK l=>ClL k (l.map (·.2))
section
variable {K:PySem.W.Frag} {ι:Nat->Addr} {k k':Nat} {H:Hp}
mutual
theorem Is.down (hk:k <= k'):∀ {d:D} {v:V},Cl k d->Is K ι k' H d v->Is K ι k H d v
  | .non,_,_,h=>by unfold Is at h ⊢; exact h
  | .bl _,_,_,h=>by unfold Is at h ⊢; exact h
  | .int _,_,_,h=>by unfold Is at h ⊢; exact h
  | .str _,_,_,h=>by unfold Is at h ⊢; exact h
  | .ty _,_,_,h=>by unfold Is at h ⊢; exact h
  | .scr _,_,_,h=>by unfold Is at h ⊢; exact h
  | .tup ds,_,c,h=>by
    unfold Is at h ⊢
    obtain ⟨p,vs,e,h1,h2⟩:=h
    exact ⟨p,vs,e,h1,IsL.down hk (by unfold Cl at c; exact c) h2⟩
  | .lst ds,_,c,h=>by
    unfold Is at h ⊢
    obtain ⟨p,vs,e,h1,hn,h2⟩:=h
    exact ⟨p,vs,e,h1,fun n z=>hn n (Nat.lt_of_lt_of_le z hk),IsL.down hk (by unfold Cl at c; exact c) h2⟩
  | .ref n,_,c,h=>by
    unfold Is at h ⊢
    exact ⟨by unfold Cl at c; exact c,h.2⟩
theorem IsL.down (hk:k <= k'):∀ {ds:List D} {vs:List V},ClL k ds->IsL K ι k' H ds vs->IsL K ι k H ds vs
  | [],_,_,h=>by unfold IsL at h ⊢; exact h
  | _ :: _,_,c,h=>by
    unfold IsL at h ⊢
    unfold ClL at c
    obtain ⟨v,vs',e,h1,h2⟩:=h
    exact ⟨v,vs',e,Is.down hk c.1 h1,IsL.down hk c.2 h2⟩
end
mutual
theorem Is.cl:∀ {d:D} {v:V},Is K ι k H d v->Cl k d
  | .non,_,_=>by unfold Cl; trivial
  | .bl _,_,_=>by unfold Cl; trivial
  | .int _,_,_=>by unfold Cl; trivial
  | .str _,_,_=>by unfold Cl; trivial
  | .ty _,_,_=>by unfold Cl; trivial
  | .scr _,_,_=>by unfold Cl; trivial
  | .tup ds,_,h=>by
    unfold Is at h; unfold Cl
    obtain ⟨p,vs,e,h1,h2⟩:=h
    exact IsL.cl h2
  | .lst ds,_,h=>by
    unfold Is at h; unfold Cl
    obtain ⟨p,vs,e,h1,hn,h2⟩:=h
    exact IsL.cl h2
  | .ref n,_,h=>by
    unfold Is at h; unfold Cl
    exact h.1
theorem IsL.cl:∀ {ds:List D} {vs:List V},IsL K ι k H ds vs->ClL k ds
  | [],_,_=>by unfold ClL; trivial
  | _ :: _,_,h=>by
    unfold IsL at h; unfold ClL
    obtain ⟨v,vs',e,h1,h2⟩:=h
    exact ⟨Is.cl h1,IsL.cl h2⟩
end
theorem KVs.cl:∀ {l:List (Key × D)} {r:List (Key × V)},KVs K ι k H l r->ClL k (l.map (·.2))
  | [],_,_=>by unfold List.map ClL; trivial
  | (_,_) :: _,_,h=>by
    obtain ⟨v,r',e,h1,h2⟩:=h
    rw [List.map_cons]
    unfold ClL
    exact ⟨h1.cl,KVs.cl h2⟩
theorem KVs.down (hk:k <= k'):∀ {l:List (Key × D)} {r:List (Key × V)},ClL k (l.map (·.2))->KVs K ι k' H l r->KVs K ι k H l r
  | [],_,_,h=>h
  | (_,_) :: _,_,c,h=>by
    rw [List.map_cons] at c
    unfold ClL at c
    obtain ⟨v,r',e,h1,h2⟩:=h
    exact ⟨v,r',e,h1.down hk c.1,KVs.down hk c.2 h2⟩
theorem ObjIs.cl {o:MO} {u:HO} (h:ObjIs K ι k H o u):ClO k o:=by
  cases o with
  | lst ds=>obtain ⟨vs,_,h⟩:=h; exact h.cl
  | dK l=>obtain ⟨r,_,h⟩:=h; exact h.cl
theorem ObjIs.down (hk:k <= k') {o:MO} {u:HO} (c:ClO k o) (h:ObjIs K ι k' H o u):ObjIs K ι k H o u:=by
  cases o with
  | lst ds=>obtain ⟨vs,e,h⟩:=h; exact ⟨vs,e,h.down hk c⟩
  | dK l=>obtain ⟨r,e,h⟩:=h; exact ⟨r,e,h.down hk c⟩
end
def W3 (μ2 μ':Mh) (d' d:D):Prop:=(d'=d /\ Cl μ'.length d) ∨ ∃ n ds,d'=.ref n /\ μ2[n]? = some (.lst ds) /\ μ'.length <= n /\ d=.lst ds /\ ClL μ'.length ds
structure Hc (μ μ2 μ':Mh) (d' d:D):Prop where
  grow:∃ g,μ2=μ' ++ g
  le:μ.length <= μ'.length
  old:∀ (n:Nat) (o:MO),μ'[n]? = some o->μ[n]? = some o ∨ ClO μ'.length o
  conv:W3 μ2 μ' d' d
def He:Fl->D
  | .rt d=>d
  | _=>.non
theorem O6 {K:PySem.W.Frag} {ι ι2:Nat->Addr} {μ μ2 μ':Mh} {H H2:Hp} {d' d:D} (R:RelH K ι μ H) (E:Ext ι μ.length H ι2 μ2.length H2) (R2:RelH K ι2 μ2 H2) (t:Hc μ μ2 μ' d' d) :
    Ext ι μ.length H ι2 μ'.length H2 /\ RelH K ι2 μ' H2 /\ ∀ v,Is K ι2 μ2.length H2 d' v->Is K ι2 μ'.length H2 d v:=by
  obtain ⟨⟨g,hg⟩,le,old,conv⟩:=t
  have hle:μ'.length <= μ2.length:=by rw [hg]; simp
  have hget:∀ (n:Nat) (o:MO),μ'[n]? = some o->μ2[n]? = some o:=fun n o e=>by
    rw [hg,List.getElem?_append_left (List.getElem?_eq_some_iff.mp e).1]; exact e
  refine ⟨⟨le,E.agree,fun n h1 h2=>E.fresh n h1 (Nat.lt_of_lt_of_le h2 hle),E.keep,E.was,E.there⟩,⟨fun i j hi hj=>R2.inj i j (Nat.lt_of_lt_of_le hi hle) (Nat.lt_of_lt_of_le hj hle),fun n o e=>?_⟩,fun v iv=>?_⟩
  . obtain ⟨u,q,hq⟩:=R2.obj n o (hget n o e)
    refine ⟨u,q,hq.down hle ?_⟩
    rcases old n o e with z | z
    . obtain ⟨u0,_,h0⟩:=R.obj n o z
      have c:=h0.cl
      cases o with
      | lst ds=>exact clL_mono le c
      | dK l=>exact clL_mono le c
    . exact z
  . rcases conv with ⟨rfl,c⟩ | ⟨n,ds,rfl,hn,hle2,rfl,c⟩
    . exact iv.down hle c
    . obtain ⟨u,q,vs,rfl,il⟩:=R2.obj n _ hn
      have hn2:n < μ2.length:=(List.getElem?_eq_some_iff.mp hn).1
      unfold Is at iv ⊢
      refine ⟨ι2 n,vs,iv.2,q,fun m hm z=>?_,il.down hle c⟩
      have:=R2.inj m n (Nat.lt_of_lt_of_le hm hle) hn2 z
      omega
where
  cl_mono {k k':Nat} (h:k <= k'):∀ {d:D},Cl k d->Cl k' d
    | .non,_=>by unfold Cl; trivial
    | .bl _,_=>by unfold Cl; trivial
    | .int _,_=>by unfold Cl; trivial
    | .str _,_=>by unfold Cl; trivial
    | .ty _,_=>by unfold Cl; trivial
    | .scr _,_=>by unfold Cl; trivial
    | .tup ds,c=>by unfold Cl at c ⊢; exact clL_mono h c
    | .lst ds,c=>by unfold Cl at c ⊢; exact clL_mono h c
    | .ref n,c=>by unfold Cl at c ⊢; exact Nat.lt_of_lt_of_le c h
  clL_mono {k k':Nat} (h:k <= k'):∀ {ds:List D},ClL k ds->ClL k' ds
    | [],_=>by unfold ClL; trivial
    | _ :: _,c=>by unfold ClL at c ⊢; exact ⟨cl_mono h c.1,clL_mono h c.2⟩
def BW (n:Nat) (ds:List D):Sl:=ds.map some ++ List.replicate (n - ds.length) none
theorem RelS.start {K:PySem.W.Frag} {ι:Nat->Addr} {k:Nat} {H:Hp} {N:List Str} {ds:List D} {vs:List V} (i:IsL K ι k H ds vs):RelS K ι k H (BW N.length ds) (L2.start N vs):=by
  have hl:=i.length
  refine ⟨by simp [BW,L2.start,hl],fun j d e=>?_⟩
  unfold BW at e
  unfold L2.start
  rcases Nat.lt_or_ge j ds.length with z | z
  . rw [List.getElem?_append_left (by simpa using z),List.getElem?_map] at e
    rw [List.getElem?_append_left (by simpa [hl] using z),List.getElem?_map]
    cases q:ds[j]? with
    | none=>rw [q] at e; cases e
    | some d0=>
      rw [q] at e
      cases e
      obtain ⟨v,ev,iv⟩:=i.get q
      exact ⟨v,by rw [ev]; rfl,iv⟩
  . rw [List.getElem?_append_right (by simpa using z),List.getElem?_replicate] at e
    split at e <;> cases e
theorem Js {P:Program} {w:World} {K:PySem.W.Frag} {mg:Str->Option Value} {base:Heap} {x qual:Str} {st:Stmt} {f:Addr} {fd:FuncData} {N ps:List Str} {k n:Nat} {φ:List D->M D} {mb:Sl->M (Fl × Sl)} (F:Fun K x qual st f fd) (S:Ai N ps (AJ st)) (hn:ps.length=n:=by rfl)
    (body:∀ (cdv:Value) (A:Around) (outer:List Env) (s:Shared) (H:Hp) (E:XK),Room k (A.deeper (PyProof.Rows.envOfC qual (AJ st) s.heap.objs.size f cdv))->RSs (BZ CX0 P w K mg base N qual (AJ st) f cdv A outer s H E).nox (Ac st) mb)
    (run:∀ ds μ d μ',φ ds μ=some (d,μ')->∃ fl τ2 μ2,mb (BW N.length ds) μ=some ((fl,τ2),μ2) /\ (fl=.next ∨ ∃ d,fl=.rt d) /\ Hc μ μ2 μ' (He fl) d):FnOk P w K mg base CX0 (k + 1) f fd ps (spM K n φ):=by
  refine F.ok S (fun vs H Q E h=>by rw [hn]; exact h.1) (fun cdv A outer s H vs Q E hr h=>⟨_,(body cdv A outer s H E hr).pe,?_⟩)
  obtain ⟨hl,ι,μ,ds,d,μ',R,i,e,q⟩:=h
  obtain ⟨fl,τ2,μ2,e2,hfl,t⟩:=run ds μ d μ' e
  refine ⟨ι,μ,_,fl,τ2,μ2,R,RelS.start i,e2,fun ι2 H2 E2 R2 σ2 S2=>?_⟩
  obtain ⟨E3,R3,c⟩:=O6 R E2 R2 t
  rcases hfl with rfl | ⟨d0,rfl⟩
  . exact q ι2 H2 E3 R3 _ (c _ (by unfold He Is; rfl))
  . exact fun v iv=>q ι2 H2 E3 R3 v (c v iv)
end
end Mi
namespace Mi
open PySem L2
def CB:D->M (List D)
  | .lst ds=>ret ds
  | .scr ns=>ret (ns.map D.int)
  | .ref n=>fun μ=>match μ[n]? with
    | some (.lst ds)=>some (ds,μ)
    | _=>none
  | _=>BP
section
variable {K:PySem.W.Frag} {ι:Nat->Addr} {μ μ':Mh} {H:Hp} {d a b:D} {v x y:V} {ds:List D}
theorem Cj (R:RelH K ι μ H) (i:Is K ι μ.length H d v) (e:CB d μ=some (ds,μ')):μ'=μ /\ ∃ p vs,v=.ref p /\ SqL K H p vs /\ IsL K ι μ.length H ds vs:=by
  cases d with
  | lst es=>
    cases e
    unfold Is at i
    obtain ⟨p,vs,rfl,h1,hn,h2⟩:=i
    exact ⟨rfl,p,vs,rfl,SqL.of h1,h2⟩
  | scr ns=>
    cases e
    unfold Is at i
    obtain ⟨p,rfl,h1⟩:=i
    exact ⟨rfl,p,_,rfl,h1.sq,IsL.ofInts ns⟩
  | ref n=>
    unfold Is at i
    obtain ⟨hn,rfl⟩:=i
    have e':(match μ[n]? with | some (.lst ds)=>some (ds,μ) | _=>none)=some (ds,μ'):=e
    split at e'
    . rename_i es hq
      cases e'
      obtain ⟨u,h1,vs,rfl,h2⟩:=R.obj n _ hq
      exact ⟨rfl,_,vs,rfl,SqL.of h1,h2⟩
    . cases e'
  | _=>cases e
theorem CA {i:Int} (h:Is K ι μ.length H (.int i) v):v=.int i:=by unfold Is at h; exact h
theorem C4 {i:Str} (h:Is K ι μ.length H (.str i) v):v=.str i:=by unfold Is at h; exact h
theorem QJ {i:Bool} (h:Is K ι μ.length H (.bl i) v):v=.bl i:=by unfold Is at h; exact h
theorem Md (h:Is K ι μ.length H .non v):v=.non:=by unfold Is at h; exact h
theorem V8 {n:String} (h:Is K ι μ.length H (.ty n) v):v=.ty n:=by unfold Is at h; exact h
theorem ofI {k:Nat} (i:Int):Is K ι k H (.int i) (.int i):=by unfold Is; rfl
theorem ofS {k:Nat} (i:Str):Is K ι k H (.str i) (.str i):=by unfold Is; rfl
theorem ofB {k:Nat} (i:Bool):Is K ι k H (.bl i) (.bl i):=by unfold Is; rfl
theorem ofN {k:Nat}:Is K ι k H .non .non:=by unfold Is; rfl
theorem FL {d:D} {vs:List V} {k:Nat} (h:IsL K ι k H [d] vs):∃ v,vs=[v] /\ Is K ι k H d v:=by
  unfold IsL at h
  obtain ⟨v,vs',rfl,h1,h2⟩:=h
  unfold IsL at h2
  subst h2
  exact ⟨v,rfl,h1⟩
theorem SO {d d':D} {vs:List V} {k:Nat} (h:IsL K ι k H [d,d'] vs):∃ v v',vs=[v,v'] /\ Is K ι k H d v /\ Is K ι k H d' v':=by
  unfold IsL at h
  obtain ⟨v,vs',rfl,h1,h2⟩:=h
  obtain ⟨v',rfl,h3⟩:=FL h2
  exact ⟨v,v',rfl,h1,h3⟩
theorem Uz {i:Int} {vs:List V} {k:Nat} (h:IsL K ι k H ds vs) (e:atI ds i=some d):∃ v,atI vs i=some v /\ Is K ι k H d v:=by
  unfold atI at e ⊢
  rw [h.length]
  cases q:ixN ds.length i with
  | none=>rw [q] at e; cases e
  | some j=>
    rw [q] at e
    exact h.get e
theorem Qa {vs:List V} {k:Nat} {lo hi:Option Int} (h:IsL K ι k H ds vs):IsL K ι k H ((ds.drop (HT.sIx ds.length 0 lo)).take (HT.sIx ds.length ds.length hi - HT.sIx ds.length 0 lo)) (Lp vs lo hi):=by
  unfold Lp
  rw [h.length]
  exact (h.drop _).take _
end
def Lk (C:Int->Int->Prop) [∀ i j,Decidable (C i j)] (g:Int->Int->D):D->D->M D
  | .int i,.int j=>fun μ=>if C i j then some (g i j,μ) else none
  | _,_=>BP
def Br:D->D->M D:=Lk (fun _ _=>True) fun i j=>.int (i - j)
def G8:D->D->M D:=Lk (fun _ j=>0 < j /\ j < 1073741824) fun i j=>.int (i / j)
def HR:D->D->M D:=Lk (fun _ j=>0 < j) fun i j=>.int (i % j)
def Pg:D->D->M D:=Lk (fun i j=>0 <= j /\ j <= 1000000 /\ i.natAbs < 2 ^ 64) fun i j=>.int (i ^ j.toNat)
def GB:D->D->M D:=Lk (fun _ _=>True) fun i j=>.bl (decide (i < j))
def LP:D->D->M D:=Lk (fun _ _=>True) fun i j=>.bl (decide (i <= j))
def KO:D->D->M D:=Lk (fun _ _=>True) fun i j=>.bl (decide (j < i))
section
variable {X:Cx}
theorem GC {f:Value->Value->Sem Value} {C:Int->Int->Prop} [∀ i j,Decidable (C i j)] {g:Int->Int->D} {gv:Int->Int->V} (hg:∀ i j ι k H,Is X.K ι k H (g i j) (gv i j)) (ho:OpR X f (rI C gv)):OpR X f (rM X.K (Lk C g)):=OpR.wk ho fun x y H Q h=>by
  obtain ⟨ι,μ,a,b,d,μ',R,ia,ib,e,q⟩:=h
  cases a with
  | int i=>
    cases b with
    | int j=>
      have e':(if C i j then some (g i j,μ) else none)=some (d,μ'):=e
      split at e'
      . rename_i hc
        cases e'
        exact ⟨i,j,CA ia,CA ib,hc,q ι H R.ext0 R _ (hg i j _ _ _)⟩
      . cases e'
    | _=>cases e
  | _=>cases e
theorem OpR.ofI0 {f:Value->Value->Sem Value} {gv:Int->Int->V} (ho:OpR X f (rI0 gv)):OpR X f (rI (fun _ _=>True) gv):=OpR.wk ho fun x y H Q h=>by
  obtain ⟨i,j,h1,h2,_,q⟩:=h
  exact ⟨i,j,h1,h2,q⟩
theorem Dr:OpR X (binaryOp .Sub) (rM X.K Br):=GC (fun _ _ _ _ _=>ofI _) (OpR.ofI0 UG)
theorem KY:OpR X (binaryOp .FloorDiv) (rM X.K G8):=GC (fun _ _ _ _ _=>ofI _) Rp
theorem Jd:OpR X (binaryOp .Mod) (rM X.K HR):=GC (fun _ _ _ _ _=>ofI _) UL
theorem Vw:OpR X (binaryOp .Pow) (rM X.K Pg):=GC (fun _ _ _ _ _=>ofI _) UI
theorem OB:OpR X (compareOp .Lt) (rM X.K GB):=GC (fun _ _ _ _ _=>ofB _) (OpR.ofI0 Vq)
theorem OC:OpR X (compareOp .LtE) (rM X.K LP):=GC (fun _ _ _ _ _=>ofB _) (OpR.ofI0 Vr)
theorem Ru:OpR X (compareOp .Gt) (rM X.K KO):=GC (fun _ _ _ _ _=>ofB _) (OpR.ofI0 Vs)
def EY:D->M D
  | .int i=>ret (.int (-i))
  | _=>BP
theorem HW:UnR X (unaryOp .USub) (rM1 X.K EY):=fun pins s σ H x v Q I r h=>by
  obtain ⟨ι,μ,a,d,μ',R,ia,e,q⟩:=h
  cases a with
  | int i=>
    cases e
    have z:=CA ia
    subst z
    exact TL pins s σ H _ v Q I r ⟨i,rfl,q ι H R.ext0 R _ (ofI _)⟩
  | _=>cases e
def DM:D->D->M D
  | .int i,.int j=>ret (.int (i + j))
  | .str i,.str j=>bnd (lim (i.length + j.length)) fun _=>ret (.str (i ++ j))
  | .lst a,.lst b=>A7 (a ++ b)
  | .tup [],.tup b=>BP
  | .tup (a :: as),.tup b=>Aw (a :: as ++ b)
  | _,_=>BP
theorem FU:OpR X (binaryOp .Add) (rM X.K DM):=fun pins s σ H x y v u Q I rx ry h=>by
  obtain ⟨ι,μ,a,b,d,μ',R,ia,ib,e,q⟩:=h
  unfold DM at e
  split at e
  . cases e
    cases CA ia
    cases CA ib
    exact UP pins s σ H _ _ v u Q I rx ry ⟨_,_,rfl,rfl,q ι H R.ext0 R _ (ofI _)⟩
  . obtain ⟨_,μ1,e1,e2⟩:=AK e
    obtain ⟨hl,rfl⟩:=DO e1
    cases e2
    cases C4 ia
    cases C4 ib
    exact MR pins s σ H _ _ v u Q I rx ry ⟨_,_,rfl,rfl,hl,q ι H R.ext0 R _ (ofS _)⟩
  . unfold Is at ia ib
    obtain ⟨p,vs,rfl,h1,hn,h2⟩:=ia
    obtain ⟨p',vs',rfl,h1',hn',h2'⟩:=ib
    obtain ⟨hl,w⟩:=Dz R (h2.append h2') e q
    exact UO pins s σ H _ _ v u Q I rx ry ⟨p,p',vs,vs',rfl,rfl,h1,h1',by rw [← List.length_append]; exact hl,w⟩
  . cases e
  . rename_i a as bs
    unfold Is at ia ib
    obtain ⟨p,vs,rfl,h1,h2⟩:=ia
    obtain ⟨p',vs',rfl,h1',h2'⟩:=ib
    obtain ⟨hl,w⟩:=NF R (h2.append h2') e q
    refine Rq pins s σ H _ _ v u Q I rx ry ⟨p,p',vs,vs',rfl,rfl,h1,h1',fun z=>?_,by rw [← List.length_append]; exact hl,fun z=>?_,fun _=>w⟩
    . have:=h2.length
      rw [z] at this; cases this
    . subst z
      have hb:bs=[]:=by
        have:=h2'.length
        cases bs with
        | nil=>rfl
        | cons _ _=>cases this
      subst hb
      obtain ⟨_,μ1,e1,e2⟩:=AK e
      obtain ⟨hl,rfl⟩:=DO e1
      cases e2
      exact q ι H R.ext0 R _ (by unfold Is; exact ⟨p,vs,rfl,h1,by rw [List.append_nil]; exact h2⟩)
  . cases e
def Er:D->D->M D
  | .int i,.int j=>fun μ=>if (-(2 ^ 64) < i /\ i < 2 ^ 64) ∨ (-(2 ^ 64) < j /\ j < 2 ^ 64) then some (.int (i * j),μ) else none
  | .lst a,.int j=>fun μ=>if -(2 ^ 63) <= j /\ j < 2 ^ 63 /\ a.length * j.toNat <= sizeLine then A7 (List.replicate j.toNat a).flatten μ else none
  | _,_=>BP
theorem IsL.rep {K:PySem.W.Frag} {ι:Nat->Addr} {k:Nat} {H:Hp} {ds:List D} {vs:List V} (h:IsL K ι k H ds vs):∀ n:Nat,IsL K ι k H (List.replicate n ds).flatten (List.replicate n vs).flatten
  | 0=>.nil
  | n + 1=>by
    rw [List.replicate_succ,List.replicate_succ,List.flatten_cons,List.flatten_cons]
    exact h.append (IsL.rep h n)
theorem IV:OpR X (binaryOp .Mult) (rM X.K Er):=fun pins s σ H x y v u Q I rx ry h=>by
  obtain ⟨ι,μ,a,b,d,μ',R,ia,ib,e,q⟩:=h
  unfold Er at e
  split at e
  . split at e
    . rename_i hc
      cases e
      cases CA ia
      cases CA ib
      exact UK pins s σ H _ _ v u Q I rx ry ⟨_,_,rfl,rfl,hc,q ι H R.ext0 R _ (ofI _)⟩
    . cases e
  . split at e
    . rename_i hc
      cases CA ib
      unfold Is at ia
      obtain ⟨p,vs,rfl,h1,hn,h2⟩:=ia
      obtain ⟨hl,w⟩:=Dz R (h2.rep _) e q
      exact UH pins s σ H _ _ v u Q I rx ry ⟨p,_,vs,rfl,rfl,h1,hc.1,hc.2.1,by rw [h2.length]; exact hc.2.2,w⟩
    . cases e
  . cases e
mutual
def toP (μ:Mh):D->Option PyData
  | .non=>some .none
  | .bl b=>some (.bool b)
  | .int i=>some (.int i)
  | .str x=>some (.str x)
  | .ty _=>none
  | .scr ns=>some (.list (ns.map PyData.int))
  | .tup ds=>(Ek μ ds).map PyData.tuple
  | .lst ds=>(Ek μ ds).map PyData.list
  | .ref _=>none
def Ek (μ:Mh):List D->Option (List PyData)
  | []=>some []
  | d :: ds=>(toP μ d).bind fun p=>(Ek μ ds).map (p :: ·)
end
def IB (μ:Mh):D->Option PyData
  | .ref n=>match μ[n]? with
    | some (.lst ds)=>(Ek μ ds).map PyData.list
    | _=>none
  | d=>toP μ d
section
variable {K:PySem.W.Frag} {ι:Nat->Addr} {μ:Mh} {H:Hp} {k:Nat}
theorem NX:∀ (ns:List Int),DatVs K H (ns.map V.int) (ns.map PyData.int)
  | []=>.nil
  | n :: r=>.cons (.int n) (NX r)
mutual
theorem Is.dat:∀ {d:D} {v:V} {p:PyData},Is K ι k H d v->toP μ d=some p->DatV K H v p
  | .non,_,_,h,e=>by unfold Is at h; unfold toP at e; cases e; subst h; exact .non
  | .bl b,_,_,h,e=>by unfold Is at h; unfold toP at e; cases e; subst h; exact .bl b
  | .int b,_,_,h,e=>by unfold Is at h; unfold toP at e; cases e; subst h; exact .int b
  | .str b,_,_,h,e=>by unfold Is at h; unfold toP at e; cases e; subst h; exact .str b
  | .ty b,_,_,h,e=>by unfold toP at e; cases e
  | .scr ns,_,_,h,e=>by
    unfold Is at h; unfold toP at e; cases e
    obtain ⟨p,rfl,h⟩:=h
    exact .lst h.sq (NX ns)
  | .tup ds,_,_,h,e=>by
    unfold Is at h; unfold toP at e
    obtain ⟨p,vs,rfl,h1,h2⟩:=h
    cases q:Ek μ ds with
    | none=>rw [q] at e; cases e
    | some ps=>rw [q] at e; cases e; exact .tup h1 (IsL.dat h2 q)
  | .lst ds,_,_,h,e=>by
    unfold Is at h; unfold toP at e
    obtain ⟨p,vs,rfl,h1,_,h2⟩:=h
    cases q:Ek μ ds with
    | none=>rw [q] at e; cases e
    | some ps=>rw [q] at e; cases e; exact .lst (SqL.of h1) (IsL.dat h2 q)
  | .ref n,_,_,h,e=>by unfold toP at e; cases e
theorem IsL.dat:∀ {ds:List D} {vs:List V} {ps:List PyData},IsL K ι k H ds vs->Ek μ ds=some ps->DatVs K H vs ps
  | [],_,_,h,e=>by unfold IsL at h; unfold Ek at e; cases e; subst h; exact .nil
  | d :: ds,_,_,h,e=>by
    unfold IsL at h; unfold Ek at e
    obtain ⟨v,vs',rfl,h1,h2⟩:=h
    cases q:toP μ d with
    | none=>rw [q] at e; cases e
    | some p=>
      rw [q] at e
      cases q2:Ek μ ds with
      | none=>rw [q2] at e; cases e
      | some ps=>rw [q2] at e; cases e; exact .cons (Is.dat h1 q) (IsL.dat h2 q2)
end
theorem Se (R:RelH K ι μ H) {d:D} {v:V} {p:PyData} (h:Is K ι μ.length H d v) (e:IB μ d=some p):DatV K H v p:=by
  cases d with
  | ref n=>
    unfold Is at h
    obtain ⟨_,rfl⟩:=h
    have e':(match μ[n]? with | some (.lst ds)=>(Ek μ ds).map PyData.list | _=>none)=some p:=e
    split at e'
    . rename_i ds hq
      obtain ⟨u,h1,vs,rfl,h2⟩:=R.obj n _ hq
      cases q:Ek μ ds with
      | none=>rw [q] at e'; cases e'
      | some ps=>rw [q] at e'; cases e'; exact .lst (SqL.of h1) (IsL.dat h2 q)
    . cases e'
  | _=>exact Is.dat (μ:=μ) h e
end
def F2 (neg:Bool) (a b:D):M D:=fun μ=>match IB μ a,IB μ b with
  | some p,some q=>if SeqAt.shaped p=true /\ SeqAt.shaped q=true then some (.bl (if neg then !PyData.eqv p q else PyData.eqv p q),μ) else none
  | _,_=>none
def BM:D->D->M D:=F2 false
def Bl:D->D->M D:=F2 true
theorem IR {neg:Bool} {a b d:D} {μ μ':Mh} (e:F2 neg a b μ=some (d,μ')):∃ p q,IB μ a=some p /\ IB μ b=some q /\ SeqAt.shaped p=true /\ SeqAt.shaped q=true /\ d=.bl (if neg then !PyData.eqv p q else PyData.eqv p q) /\ μ'=μ:=by
  unfold F2 at e
  split at e
  . rename_i p q e1 e2
    split at e
    . rename_i h
      cases e
      exact ⟨p,q,e1,e2,h.1,h.2,rfl,rfl⟩
    . cases e
  . cases e
theorem DW {k:Nat} (hr:Room k X.A):OpR X (compareOp .Eq) (rM X.K BM):=OpR.wk (UN (PU hr)) fun x y H Q h=>by
  obtain ⟨ι,μ,a,b,d,μ',R,ia,ib,e,q⟩:=h
  obtain ⟨p,p',e1,e2,s1,s2,rfl,rfl⟩:=IR e
  exact ⟨p,p',Se R ia e1,Se R ib e2,s1,s2,q ι H R.ext0 R _ (ofB _)⟩
theorem Gd {k:Nat} (hr:Room k X.A):OpR X (compareOp .NotEq) (rM X.K Bl):=OpR.wk (UJ (PU hr)) fun x y H Q h=>by
  obtain ⟨ι,μ,a,b,d,μ',R,ia,ib,e,q⟩:=h
  obtain ⟨p,p',e1,e2,s1,s2,rfl,rfl⟩:=IR e
  exact ⟨p,p',Se R ia e1,Se R ib e2,s1,s2,q ι H R.ext0 R _ (ofB _)⟩
def isN:D->Bool
  | .non=>true
  | _=>false
def Ph (neg:Bool):D->D->M D
  | a,.non=>ret (.bl (if neg then !isN a else isN a))
  | _,_=>BP
theorem NS {K:PySem.W.Frag} {ι:Nat->Addr} {k:Nat} {H:Hp} {a:D} {x:V} (h:Is K ι k H a x):decide (x=V.non)=isN a:=by
  cases a with
  | non=>unfold Is at h; subst h; rfl
  | bl b=>unfold Is at h; subst h; rfl
  | int b=>unfold Is at h; subst h; rfl
  | str b=>unfold Is at h; subst h; rfl
  | ty b=>unfold Is at h; subst h; rfl
  | scr ns=>unfold Is at h; obtain ⟨p,rfl,_⟩:=h; rfl
  | tup ns=>unfold Is at h; obtain ⟨p,o,rfl,_⟩:=h; rfl
  | lst ns=>unfold Is at h; obtain ⟨p,o,rfl,_⟩:=h; rfl
  | ref ns=>unfold Is at h; obtain ⟨_,rfl⟩:=h; rfl
theorem Wm:OpR X (compareOp .Is) (rM X.K (Ph false)):=OpR.wk UM fun x y H Q h=>by
  obtain ⟨ι,μ,a,b,d,μ',R,ia,ib,e,q⟩:=h
  cases b with
  | non=>cases e; exact ⟨Md ib,by rw [NS ia]; exact q ι H R.ext0 R _ (ofB _)⟩
  | _=>cases e
theorem Rt:OpR X (compareOp .IsNot) (rM X.K (Ph true)):=OpR.wk Ro fun x y H Q h=>by
  obtain ⟨ι,μ,a,b,d,μ',R,ia,ib,e,q⟩:=h
  cases b with
  | non=>cases e; exact ⟨Md ib,by rw [NS ia]; exact q ι H R.ext0 R _ (ofB _)⟩
  | _=>cases e
def Ha:D->Option V
  | .non=>some .non
  | .bl b=>some (.bl b)
  | .int i=>some (.int i)
  | .str x=>some (.str x)
  | _=>none
def Fd:List D->Option (List V)
  | []=>some []
  | d :: ds=>(Ha d).bind fun v=>(Fd ds).map (v :: ·)
section
variable {K:PySem.W.Frag} {ι:Nat->Addr} {H:Hp} {k:Nat}
theorem Ij {d:D} {v x:V} (h:Is K ι k H d x) (e:Ha d=some v):x=v /\ Dx v=true:=by
  cases d with
  | non=>cases e; unfold Is at h; exact ⟨h,rfl⟩
  | bl b=>cases e; unfold Is at h; exact ⟨h,rfl⟩
  | int b=>cases e; unfold Is at h; exact ⟨h,rfl⟩
  | str b=>cases e; unfold Is at h; exact ⟨h,rfl⟩
  | _=>cases e
theorem HI:∀ {ds:List D} {vs xs:List V},IsL K ι k H ds xs->Fd ds=some vs->xs=vs /\ vs.all Dx=true
  | [],_,_,h,e=>by cases e; unfold IsL at h; exact ⟨h,rfl⟩
  | d :: ds,_,_,h,e=>by
    unfold IsL at h
    obtain ⟨v,vs',rfl,h1,h2⟩:=h
    unfold Fd at e
    cases q:Ha d with
    | none=>rw [q] at e; cases e
    | some w=>
      rw [q] at e
      cases q2:Fd ds with
      | none=>rw [q2] at e; cases e
      | some ws=>
        rw [q2] at e; cases e
        obtain ⟨rfl,f1⟩:=Ij h1 q
        obtain ⟨rfl,f2⟩:=HI h2 q2
        exact ⟨rfl,by rw [List.all_cons,f1,f2]; rfl⟩
end
def Ba:D->M (List D)
  | .tup ds=>ret ds
  | d=>CB d
theorem Ew {K:PySem.W.Frag} {ι:Nat->Addr} {μ μ':Mh} {H:Hp} {d:D} {v:V} {ds:List D} (R:RelH K ι μ H) (i:Is K ι μ.length H d v) (e:Ba d μ=some (ds,μ')):μ'=μ /\ ∃ p vs,v=.ref p /\ (SqL K H p vs ∨ SqT K H p vs) /\ IsL K ι μ.length H ds vs:=by
  cases d with
  | tup es=>
    cases e
    unfold Is at i
    obtain ⟨p,vs,rfl,h1,h2⟩:=i
    exact ⟨rfl,p,vs,rfl,.inr h1,h2⟩
  | lst es=>obtain ⟨h,p,vs,a,b,c⟩:=Cj R i e; exact ⟨h,p,vs,a,.inl b,c⟩
  | scr es=>obtain ⟨h,p,vs,a,b,c⟩:=Cj R i e; exact ⟨h,p,vs,a,.inl b,c⟩
  | ref es=>obtain ⟨h,p,vs,a,b,c⟩:=Cj R i e; exact ⟨h,p,vs,a,.inl b,c⟩
  | _=>cases e
def HY (neg:Bool) (a b:D):M D:=bnd (Ba b) fun ds=>fun μ=>match Ha a,Fd ds with
  | some x,some xs=>some (.bl (if neg then !inV x xs else inV x xs),μ)
  | _,_=>none
def Dv (neg:Bool):D->D->M D
  | .str i,.str j=>ret (.bl (if neg then !(!(Builtin.Str.occurrences j i 0 j.length 1).isEmpty) else !(Builtin.Str.occurrences j i 0 j.length 1).isEmpty))
  | a,b=>HY neg a b
theorem Pe {K:PySem.W.Frag} {neg:Bool} {x y:V} {H:Hp} {Q:VK} {ι:Nat->Addr} {μ μ':Mh} {a b d:D} (R:RelH K ι μ H) (ia:Is K ι μ.length H a x) (ib:Is K ι μ.length H b y) (e:HY neg a b μ=some (d,μ')) (q:Aft K ι μ H μ' fun ι' H'=>∀ v,Is K ι' μ'.length H' d v->Q v H'):rIn K neg x y H Q:=by
  obtain ⟨ds,μ1,e1,e2⟩:=AK e
  obtain ⟨hm,p,vs,rfl,h1,h2⟩:=Ew R ib e1
  subst hm
  split at e2
  . rename_i w ws q1 q2
    cases e2
    obtain ⟨rfl,f1⟩:=Ij ia q1
    obtain ⟨rfl,f2⟩:=HI h2 q2
    exact ⟨p,_,rfl,h1,f1,f2,q ι H R.ext0 R _ (ofB _)⟩
  . cases e2
theorem LT:OpR X (compareOp .In) (rM X.K (Dv false)):=fun pins s σ H x y v u Q I rx ry h=>by
  obtain ⟨ι,μ,a,b,d,μ',R,ia,ib,e,q⟩:=h
  unfold Dv at e
  split at e
  . cases e
    cases C4 ia
    cases C4 ib
    exact N8 pins s σ H _ _ v u Q I rx ry ⟨_,_,rfl,rfl,q ι H R.ext0 R _ (ofB _)⟩
  . exact N9 pins s σ H _ _ v u Q I rx ry (Pe R ia ib e q)
theorem Rs:OpR X (compareOp .NotIn) (rM X.K (Dv true)):=fun pins s σ H x y v u Q I rx ry h=>by
  obtain ⟨ι,μ,a,b,d,μ',R,ia,ib,e,q⟩:=h
  unfold Dv at e
  split at e
  . cases e
    cases C4 ia
    cases C4 ib
    exact KU pins s σ H _ _ v u Q I rx ry ⟨_,_,rfl,rfl,q ι H R.ext0 R _ (ofB _)⟩
  . exact KW pins s σ H _ _ v u Q I rx ry (Pe R ia ib e q)
def ixD (ds:List D) (i:Int):M D:=fun μ=>(atI ds i).map fun d=>(d,μ)
def AS:D->D->M D
  | .str z,.int i=>fun μ=>if z.length <= sizeLine then (atI z.cps.toList i).map fun c=>(.str ⟨#[c]⟩,μ) else none
  | a,.int i=>bnd (Ba a) fun ds=>ixD ds i
  | _,_=>BP
theorem Ag:IxR X (rM X.K AS):=fun va sl pins s σ H x y v u Q I rx ry h hsl=>by
  obtain ⟨ι,μ,a,b,d,μ',R,ia,ib,e,q⟩:=h
  unfold AS at e
  split at e
  . split at e
    . rename_i z i hl
      cases C4 ia
      cases CA ib
      cases qq:atI z.cps.toList i with
      | none=>rw [qq] at e; cases e
      | some c=>
        rw [qq] at e; cases e
        exact Mc va sl pins s σ H _ _ v u Q I rx ry (.inr (.inr ⟨z,i,c,rfl,rfl,hl,qq,q ι H R.ext0 R _ (ofS _)⟩)) hsl
    . cases e
  . cases CA ib
    obtain ⟨ds,μ1,e1,e2⟩:=AK e
    obtain ⟨hm,p,vs,rfl,h1,h2⟩:=Ew R ia e1
    subst hm
    rename_i i _
    unfold ixD at e2
    cases qq:atI ds i with
    | none=>rw [qq] at e2; cases e2
    | some c=>
      rw [qq] at e2; cases e2
      obtain ⟨w,ew,iw⟩:=Uz h2 qq
      rcases h1 with h1 | h1
      . exact Mc va sl pins s σ H _ _ v u Q I rx ry (.inl ⟨p,vs,i,w,rfl,rfl,h1,ew,q ι H R.ext0 R _ iw⟩) hsl
      . exact Mc va sl pins s σ H _ _ v u Q I rx ry (.inr (.inl ⟨p,vs,i,w,rfl,rfl,h1,ew,q ι H R.ext0 R _ iw⟩)) hsl
  . cases e
def BO:List D->M D
  | [.str z]=>fun μ=>if z.length <= sizeLine then some (.int z.length,μ) else none
  | [.ref n]=>fun μ=>match μ[n]? with
    | some (.lst ds)=>some (.int ds.length,μ)
    | _=>none
  | [d]=>bnd (Ba d) fun ds=>ret (.int ds.length)
  | _=>BP
theorem B2:CH X (.builtin "len") (rMA X.K BO):=fun pins s σ H xs us Q I r h=>by
  obtain ⟨ι,μ,as,d,μ',R,ia,e,q⟩:=h
  refine Qf pins s σ H xs us Q I r ?_
  unfold BO at e
  split at e
  . rename_i z
    obtain ⟨v,rfl,i1⟩:=FL ia
    split at e
    . rename_i hl
      cases e
      cases C4 i1
      exact ⟨_,_,rfl,⟨hl,rfl⟩,q ι H R.ext0 R _ (ofI _)⟩
    . cases e
  . rename_i n
    obtain ⟨v,rfl,i1⟩:=FL ia
    unfold Is at i1
    obtain ⟨_,rfl⟩:=i1
    split at e
    . rename_i ds hq
      cases e
      obtain ⟨u,h1,vs,rfl,h2⟩:=R.obj n _ hq
      exact ⟨_,_,rfl,.inl ⟨vs,SqL.of h1,rfl⟩,by rw [h2.length]; exact q ι H R.ext0 R _ (ofI _)⟩
    . cases e
  . obtain ⟨v,rfl,i1⟩:=FL ia
    obtain ⟨ds,μ1,e1,e2⟩:=AK e
    obtain ⟨hm,p,vs,rfl,h1,h2⟩:=Ew R i1 e1
    subst hm
    cases e2
    rw [← h2.length] at q
    rcases h1 with h1 | h1
    . exact ⟨_,_,rfl,.inl ⟨vs,h1,rfl⟩,q ι H R.ext0 R _ (ofI _)⟩
    . exact ⟨_,_,rfl,.inr ⟨vs,h1,rfl⟩,q ι H R.ext0 R _ (ofI _)⟩
  . cases e
def Fg (ds:List D) (lo hi:Option Int):List D:=(ds.drop (HT.sIx ds.length 0 lo)).take (HT.sIx ds.length ds.length hi - HT.sIx ds.length 0 lo)
def Pf (lo hi:Option Int):D->M D
  | .tup ds=>if HT.sIx ds.length 0 lo=0 /\ HT.sIx ds.length ds.length hi=ds.length then BP else ret (.tup (Fg ds lo hi))
  | d=>bnd (CB d) fun ds=>ret (.lst (Fg ds lo hi))
def rMS (K:PySem.W.Frag):V->Option Int->Option Int->Hp->VK->Prop:=fun x lo hi H Q=>∃ ι μ a d μ',RelH K ι μ H /\ Is K ι μ.length H a x /\ Pf lo hi a μ=some (d,μ') /\
  Aft K ι μ H μ' fun ι' H'=>∀ v,Is K ι' μ'.length H' d v->Q v H'
theorem Vz {K:PySem.W.Frag} {ι:Nat->Addr} {μ:Mh} {H:Hp} {ds:List D} {vs:List V} {Q:VK} (R:RelH K ι μ H) (i:IsL K ι μ.length H ds vs) (q:Aft K ι μ H μ fun ι' H'=>∀ v,Is K ι' μ.length H' (.lst ds) v->Q v H') (p:Addr) (hp:H p=none):Q (.ref p) (upd H p (.lst vs)):=by
  obtain ⟨E1,R1⟩:=R.laid (.lst vs) hp
  have ho:∀ n,n < μ.length->ι n ≠ p:=fun n hn z=>by
    obtain ⟨o,e,_⟩:=R.muts n hn
    rw [z,hp] at e; cases e
  exact q ι _ E1 R1 _ (by unfold Is; exact ⟨p,vs,rfl,Bj,ho,i.ext E1⟩)
theorem Sy {K:PySem.W.Frag} {ι:Nat->Addr} {μ:Mh} {H:Hp} {ds:List D} {vs:List V} {Q:VK} (R:RelH K ι μ H) (i:IsL K ι μ.length H ds vs) (q:Aft K ι μ H μ fun ι' H'=>∀ v,Is K ι' μ.length H' (.tup ds) v->Q v H') (p:Addr) (hp:H p=none):Q (.ref p) (upd H p (.tup vs)):=by
  obtain ⟨E1,R1⟩:=R.laid (.tup vs) hp
  exact q ι _ E1 R1 _ (by unfold Is; exact ⟨p,vs,rfl,SqT.of Bj,i.ext E1⟩)
theorem Vv:SlR X (rMS X.K):=fun pins s σ H x v vl vu lo hi sl Q I rx hs pl pu h=>by
  obtain ⟨ι,μ,a,d,μ',R,ia,e,q⟩:=h
  refine (SlR.or Qw TW) pins s σ H x v vl vu lo hi sl Q I rx hs pl pu ?_
  unfold Pf at e
  split at e
  . rename_i ds
    unfold Is at ia
    obtain ⟨p,vs,rfl,h1,h2⟩:=ia
    split at e
    . cases e
    . rename_i hc
      cases e
      exact .inr ⟨p,vs,rfl,h1,by rw [h2.length]; exact hc,fun p hp=>Sy R (Qa h2) q p hp⟩
  . obtain ⟨ds,μ1,e1,e2⟩:=AK e
    obtain ⟨hm,p,vs,rfl,h1,h2⟩:=Cj R ia e1
    subst hm
    cases e2
    exact .inl ⟨p,vs,rfl,h1,fun p hp=>Vz R (Qa h2) q p hp⟩
def mSl (me:Sl->M D) (ml mh:Sl->M (Option Int)):Sl->M D:=fun τ=>bnd (me τ) fun x=>bnd (ml τ) fun l=>bnd (mh τ) fun h=>Pf l h x
def Ay:Sl->M (Option Int):=fun _=>ret none
def asI:D->M (Option Int)
  | .int i=>ret (some i)
  | _=>BP
def BA (m:Sl->M D):Sl->M (Option Int):=fun τ=>bnd (m τ) asI
def tPt (K:PySem.W.Frag) (m:Sl->M (Option Int)):TO:=fun σ H Q=>∃ ι μ τ b μ',RelH K ι μ H /\ RelS K ι μ.length H τ σ /\ m τ μ=some (b,μ') /\ Aft K ι μ H μ' fun _ H'=>Q b H'
structure RO (X:Cx) (e:Option Expr) (m:Sl->M (Option Int)):Prop where
  pe:PO X e (tPt X.K m)
theorem PO.wk {e:Option Expr} {t t':TO} (h:PO X e t) (w:∀ σ H Q,t' σ H Q->t σ H Q):PO X e t':=fun pins s σ H Q I q=>h pins s σ H Q I (w σ H Q q)
theorem RO.wk {e:Option Expr} {m:Sl->M (Option Int)} {t:TO} (h:PO X e t) (w:∀ σ H Q,tPt X.K m σ H Q->t σ H Q):RO X e m:=⟨PO.wk h w⟩
theorem BF:RO X none Ay:=RO.wk Rf fun σ H Q h=>by
  obtain ⟨ι,μ,τ,b,μ',R,S,e,q⟩:=h
  cases e
  exact q ι H R.ext0 R
theorem BE {e:Expr} {m:Sl->M D} (h:RE X e m):RO X (some e) (BA m):=RO.wk (Re h.pe) fun σ H Q h=>by
  obtain ⟨ι,μ,τ,b,μ',R,S,e,q⟩:=h
  obtain ⟨x,μ1,e1,e⟩:=AK e
  refine ⟨ι,μ,τ,x,μ1,R,S,e1,fun ι1 H1 E1 R1 v i1=>?_⟩
  cases x with
  | int i=>cases e; exact ⟨i,CA i1,q ι1 H1 E1 R1⟩
  | _=>cases e
theorem PY {e:Expr} {lo hi:Option Expr} {me:Sl->M D} {ml mh:Sl->M (Option Int)} {pos p2:Pos} (he:RE X e me) (hl:RO X lo ml) (hh:RO X hi mh):RE X (.Subscript e (.Slice lo hi none p2) pos) (mSl me ml mh):=RE.wk (LR Vv he.pe hl.pe hh.pe) fun σ H Q h=>by
  obtain ⟨ι,μ,τ,z,μ',R,S,e,q⟩:=h
  obtain ⟨x,μ1,e1,e⟩:=AK e
  obtain ⟨l,μ2,e2,e⟩:=AK e
  obtain ⟨u,μ3,e3,e⟩:=AK e
  refine ⟨ι,μ,τ,x,μ1,R,S,e1,fun ι1 H1 E1 R1 v i1=>⟨ι1,μ1,τ,l,μ2,R1,S.ext E1,e2,fun ι2 H2 E2 R2=>⟨ι2,μ2,τ,u,μ3,R2,S.ext (E1.trans E2),e3,fun ι3 H3 E3 R3=>?_⟩⟩⟩
  have E23:=E2.trans E3
  exact ⟨ι3,μ3,x,z,μ',R3,i1.ext E23,e,fun ι4 H4 E4 R4=>q ι4 H4 ((E1.trans E23).trans E4) R4⟩
def tyD (μ:Mh):D->Option String
  | .non=>some "NoneType"
  | .bl _=>some "bool"
  | .int _=>some "int"
  | .str _=>some "str"
  | .tup _=>some "tuple"
  | .lst _=>some "list"
  | .scr _=>none
  | .ref n=>match μ[n]? with
    | some (.lst _)=>some "list"
    | some (.dK _)=>some "dict"
    | none=>none
  | .ty _=>none
def Ee (t T:String):Option Bool:=
  if t ∈ ["NoneType", "bool", "int", "str", "tuple", "list", "dict"] /\ T ∈ ["bool", "int", "str", "tuple", "list", "dict"] then some (t == T || (t == "bool" && T == "int")) else none
theorem SI {K:PySem.W.Frag} {t T:String} {b:Bool} (h:Ee t T=some b):PySem.W.kitOne K (.type t) (.type T)=some b:=by
  unfold Ee at h
  split at h
  . rename_i hm
    obtain ⟨h1,h2⟩:=hm
    simp only [List.mem_cons,List.not_mem_nil,or_false] at h1 h2
    rcases h1 with rfl | rfl | rfl | rfl | rfl | rfl | rfl <;> rcases h2 with rfl | rfl | rfl | rfl | rfl | rfl <;> (cases h; kernel_rfl)
  . cases h
def CW:List D->M D
  | [a,.ty T]=>fun μ=>match tyD μ a with
    | some t=>(Ee t T).map fun b=>(.bl b,μ)
    | none=>none
  | _=>BP
theorem Fj:CH X (.builtin "isinstance") (rMA X.K CW):=fun pins s σ H xs us Q I r h=>by
  obtain ⟨ι,μ,as,d,μ',R,ia,e,q⟩:=h
  unfold CW at e
  split at e
  . rename_i a T
    obtain ⟨v,v',rfl,i1,i2⟩:=SO ia
    cases V8 i2
    split at e
    . rename_i t ht
      cases hk:Ee t T with
      | none=>rw [hk] at e; cases e
      | some b=>
        rw [hk] at e; cases e
        have kit:=SI (K:=X.K) hk
        have fin:=q ι H R.ext0 R _ (ofB b)
        have byTy:Gw X.K H v (.type t)->wpAny (model X.prog X.w) X.A (call (.builtin "isinstance") us) (EP X pins σ Q) X.xe s:=fun ty=>
          Lx pins s σ H _ us Q I r ⟨v,T,_,b,rfl,ty,kit,fin⟩
        cases a with
        | non=>cases ht; cases Md i1; exact byTy .non
        | bl x=>cases ht; cases QJ i1; exact byTy (.bl x)
        | int x=>cases ht; cases CA i1; exact byTy (.int x)
        | str x=>cases ht; cases C4 i1; exact byTy (.str x)
        | ty n=>cases ht
        | lst ds=>cases ht; unfold Is at i1; obtain ⟨p,vs,rfl,h1,_⟩:=i1; exact byTy (.lst h1)
        | scr ns=>cases ht
        | ref n=>
          unfold Is at i1
          obtain ⟨_,rfl⟩:=i1
          have ht:(match μ[n]? with | some (.lst _)=>some "list" | some (.dK _)=>some "dict" | none=>none)=some t:=ht
          split at ht
          . rename_i ds hq; cases ht; obtain ⟨u,h1,vs,rfl,h2⟩:=R.obj n _ hq; exact byTy (.lst h1)
          . rename_i ds hq; cases ht; obtain ⟨u,h1,vs,rfl,h2⟩:=R.obj n _ hq; exact byTy (.dK h1)
          . cases ht
        | tup ds=>
          cases ht
          unfold Is at i1
          obtain ⟨p,vs,rfl,h1,h2⟩:=i1
          obtain ⟨its,_,⟨o,g1,g2,_⟩,_⟩:=I.tuple h1
          obtain ⟨u1,u2,rfl,r1,r2⟩:=Vals.two r
          cases r1
          cases r2
          exact PySem.W.kia_one PySem.W.kitx_tuple I.kIn ⟨o,g1,g2⟩ kit (fun z=>nomatch z) fun tk=>⟨.bl b,H,I.tok _,rfl,fin⟩
    . cases e
  . cases e
def Ie:List D->M D
  | [.int i]=>ret (.int i)
  | [.bl b]=>ret (.int (if b then 1 else 0))
  | _=>BP
theorem Qh:CH X (.type "int") (rMA X.K Ie):=fun pins s σ H xs us Q I r h=>by
  obtain ⟨ι,μ,as,d,μ',R,ia,e,q⟩:=h
  refine Oh pins s σ H xs us Q I r ?_
  unfold Ie at e
  split at e
  . obtain ⟨v,rfl,i1⟩:=FL ia; cases e; cases CA i1; exact .inl ⟨_,rfl,q ι H R.ext0 R _ (ofI _)⟩
  . obtain ⟨v,rfl,i1⟩:=FL ia; cases e; cases QJ i1; exact .inr ⟨_,rfl,q ι H R.ext0 R _ (ofI _)⟩
  . cases e
def R6:List D->M D
  | [.int i,.int j]=>ret (.int (if j > i then j else i))
  | _=>BP
def LY:List D->M D
  | [.int i,.int j]=>ret (.int (if j < i then j else i))
  | _=>BP
theorem WL (hc:X.calm=true):CH X (.builtin "max") (rMA X.K R6):=fun pins s σ H xs us Q I r h=>by
  obtain ⟨ι,μ,as,d,μ',R,ia,e,q⟩:=h
  refine Of hc pins s σ H xs us Q I r ?_
  unfold R6 at e
  split at e
  . obtain ⟨v,w,rfl,i1,i2⟩:=SO ia; cases e; cases CA i1; cases CA i2; exact ⟨_,_,rfl,q ι H R.ext0 R _ (ofI _)⟩
  . cases e
theorem Qg (hc:X.calm=true):CH X (.builtin "min") (rMA X.K LY):=fun pins s σ H xs us Q I r h=>by
  obtain ⟨ι,μ,as,d,μ',R,ia,e,q⟩:=h
  refine Od hc pins s σ H xs us Q I r ?_
  unfold LY at e
  split at e
  . obtain ⟨v,w,rfl,i1,i2⟩:=SO ia; cases e; cases CA i1; cases CA i2; exact ⟨_,_,rfl,q ι H R.ext0 R _ (ofI _)⟩
  . cases e
def Bu:List D->M D
  | [.tup ds]=>ret (.tup ds)
  | [d]=>bnd (CB d) fun ds=>ret (.tup ds)
  | _=>BP
theorem EE:CH X (.type "tuple") (rMA X.K Bu):=fun pins s σ H xs us Q I r h=>by
  obtain ⟨ι,μ,as,d,μ',R,ia,e,q⟩:=h
  unfold Bu at e
  split at e
  . obtain ⟨v,rfl,i1⟩:=FL ia
    cases e
    have i2:=i1
    unfold Is at i1
    obtain ⟨p,vs,rfl,h1,h2⟩:=i1
    exact Lw pins s σ H _ us Q I r ⟨p,vs,rfl,h1,q ι H R.ext0 R _ i2⟩
  . obtain ⟨v,rfl,i1⟩:=FL ia
    obtain ⟨ds,μ1,e1,e2⟩:=AK e
    obtain ⟨hm,p,vs,rfl,h1,h2⟩:=Cj R i1 e1
    subst hm
    cases e2
    obtain ⟨u,rfl,ru⟩:=Vals.one r
    cases ru
    obtain ⟨its,rv,pl,hz⟩:=I.list h1
    refine PySem.call_tuple_list pl.isList (fun h' hk=>?_) (by rw [List.size_toArray,← rv.length]; exact hz)
    have I1:Inv X pins σ H { s with heap:=h' }:=I.kept (t':=s.toks) hk
    have I2:Inv X pins σ (upd H h'.objs.size (.tup vs)) { s with heap:=h'.push { cls:=.type "tuple",data:=.seq its.toArray } }:=I1.laid (t':=s.toks) (o:=.tup vs) (fun b ob q=>Heap.get?_push_of_some _ q) (Nat.le_refl _) ⟨hz,its,rv,PyProof.Rows.IsTup.new _ _⟩
    exact ⟨.ref h'.objs.size,_,I2,rfl,Sy R h2 q _ (I1.hok.fresh (Nat.le_refl _))⟩
  . cases e
end
end Mi
namespace Mi
open PySem L2
section
variable {X:Cx} {e a b c o i f tg:Expr} {es:List Expr} {pos apos cpos:Pos}
theorem O9 {K:PySem.W.Frag} {g g':D->D->M D} {ma mb mc:Sl->M D} {σ:St} {H:Hp} {Q:VK} (h:tE K (GG g g' ma mb mc) σ H Q):PB (rM K g) (rM K g') (tE K ma) (tE K mb) (tE K mc) σ H Q:=by
  obtain ⟨ι,μ,τ,d,μ',R,S,e,q⟩:=h
  obtain ⟨x,μ1,e1,ee1⟩:=AK e
  obtain ⟨y,μ2,e2,ee2⟩:=AK ee1
  obtain ⟨z,μ3,e3,ee3⟩:=AK ee2
  obtain ⟨k,μ4,e4,ee4⟩:=AK ee3
  obtain ⟨hz,hm⟩:=Gu e4
  subst hm
  subst hz
  refine ⟨ι,μ,τ,x,μ1,R,S,e1,fun ι1 H1 E1 R1 v1 i1=>⟨ι1,μ1,τ,y,μ2,R1,S.ext E1,e2,fun ι2 H2 E2 R2 v2 i2=>?_⟩⟩
  refine ⟨ι2,μ2,x,y,_,_,R2,i1.ext E2,i2,e3,fun ι3 H3 E3 R3 v3 i3=>⟨k,QJ i3,?_⟩⟩
  have E13:=(E1.trans E2).trans E3
  cases k with
  | false=>cases ee4; exact q ι3 H3 E13 R3 _ (ofB _)
  | true=>
    obtain ⟨w,μ5,e5,ee5⟩:=AK ee4
    exact ⟨ι3,_,τ,w,μ5,R3,S.ext E13,e5,fun ι4 H4 E4 R4 v4 i4=>⟨ι4,μ5,y,w,d,μ',R4,i2.ext (E3.trans E4),i4,ee5,fun ι5 H5 E5 R5=>q ι5 H5 ((E13.trans E4).trans E5) R5⟩⟩
theorem IK {op op':CmpOp} {g g':D->D->M D} {ma mb mc:Sl->M D} (ho:OpR X (compareOp op) (rM X.K g)) (ho':OpR X (compareOp op') (rM X.K g')) (ha:RE X a ma) (hb:RE X b mb) (hc:RE X c mc) (hm:lastMarks [op,op'] [b,c]=false:=by with_unfolding_all rfl) :
    RE X (.Compare a [op,op'] [b,c] pos) (GG g g' ma mb mc):=RE.wk (Px ho ho' ha.pe hb.pe hc.pe hm) fun _ _ _ h=>O9 h
theorem EX {x:Str} {n:String} (hm:X.mg x=none) (hv:bootBuiltins x=some (.type n)) (hg:Gl X x:=by rfl) (hn:x ≠ "__name__" := by decide) (hdb:(x == ("__debug__" : Str))=false:=by decide):RE X (.Name x pos) (mC (.ty n)):=
  Nw (t:=fun _ _ _=>True) (Rm (v:=.ty n) hg hm hv rfl hn hdb) fun _ _ _=>by unfold Is; rfl
def C5 (d:D):M Unit:=bnd (CB d) fun _=>ret ()
def A2 (g:D->List D->M D) (mo:Sl->M D) (ma:Sl->M (List D)):Sl->M D:=fun τ=>bnd (mo τ) fun x=>bnd (C5 x) fun _=>bnd (ma τ) fun xs=>g x xs
def rMM (K:PySem.W.Frag) (g:D->List D->M D):V->List V->Hp->VK->Prop:=fun x xs H Q=>∃ ι μ a as d μ',RelH K ι μ H /\ Is K ι μ.length H a x /\ IsL K ι μ.length H as xs /\ g a as μ=some (d,μ') /\
  Aft K ι μ H μ' fun ι' H'=>∀ v,Is K ι' μ'.length H' d v->Q v H'
theorem HZ {K:PySem.W.Frag} {ι:Nat->Addr} {μ μ':Mh} {H:Hp} {d:D} {v:V} {u:Unit} (R:RelH K ι μ H) (i:Is K ι μ.length H d v) (e:C5 d μ=some (u,μ')):μ'=μ /\ tyV K "list" v H:=by
  obtain ⟨ds,μ1,e1,ee1⟩:=AK e
  cases ee1
  obtain ⟨hm,p,vs,rfl,h1,h2⟩:=Cj R i e1
  exact ⟨hm,.inl ⟨rfl,vs,h1⟩⟩
theorem HF {μ μ':Mh} {d:D} {u:Unit} (e:C5 d μ=some (u,μ')):μ'=μ:=by
  obtain ⟨ds,μ1,e1,ee1⟩:=AK e
  cases ee1
  cases d with
  | lst _=>cases e1; rfl
  | scr _=>cases e1; rfl
  | ref n=>
    have e1:(match μ[n]? with | some (.lst ds)=>some (ds,μ) | _=>none)=some (ds,μ'):=e1
    split at e1
    . cases e1; rfl
    . cases e1
  | _=>cases e1
theorem O7 {K:PySem.W.Frag} {g:D->List D->M D} {mo:Sl->M D} {ma:Sl->M (List D)} {σ:St} {H:Hp} {Q:VK} (h:tE K (A2 g mo ma) σ H Q):tBM K "list" (rMM K g) (tE K mo) (tL K ma) σ H Q:=by
  obtain ⟨ι,μ,τ,d,μ',R,S,e,q⟩:=h
  obtain ⟨x,μ1,e1,ee1⟩:=AK e
  obtain ⟨u,μ2,e2,ee2⟩:=AK ee1
  obtain ⟨as,μ3,e3,ee3⟩:=AK ee2
  have hm:=HF e2
  subst hm
  refine ⟨ι,μ,τ,x,_,R,S,e1,fun ι1 H1 E1 R1 v1 i1=>⟨(HZ R1 i1 e2).2,?_⟩⟩
  refine ⟨ι1,_,τ,as,μ3,R1,S.ext E1,e3,fun ι2 H2 E2 R2 vs i2=>?_⟩
  exact ⟨ι2,μ3,x,as,d,μ',R2,i1.ext E2,i2,ee3,fun ι3 H3 E3 R3=>q ι3 H3 ((E1.trans E2).trans E3) R3⟩
theorem Bb {name:Str} {id:String} {g:D->List D->M D} {mo:Sl->M D} {ma:Sl->M (List D)} (slot:Slot "list" name id) (hty:typeOf (.builtin id)=pure (.type "method_descriptor")) (hm:MtR X id (rMM X.K g)) (ho:RE X o mo) (ha:RA X (e :: es) ma)
    (hbase:attributeBase o name X.env (eval o X.env)=eval o X.env:=by rfl)
    (hfew:((backTo cpos (starEach (e :: es) X.env)).all (fun x=>!x.1) && (backToKw cpos (keywordEach [] X.env)).all (fun x=>x.1.isSome)
      && decide ((e :: es).length + ([]:List Keyword).length + (if ([]:List Keyword).isEmpty then 0 else 1) < 30))=true:=by rfl)
    (hline:(apos.endLine == cpos.line)=true:=by rfl) (hs:starEach (e :: es) X.env=(false,eval e X.env) :: starEach es X.env:=by exact BS rfl) (hplain:(backTo cpos (starEach es X.env)).any (·.1)=false:=by exact CK rfl) :
    RE X (.Call (.Attribute o name apos) (e :: es) [] cpos) (A2 g mo ma):=RE.wk (Sr PySem.F.plainAttrs_list slot hty hm ho.pe ha.pe hbase hfew hline hs hplain) fun _ _ _ h=>O7 h
def JI (n:Nat) (k:List D->Option (D × List D)):M D:=fun μ=>match μ[n]? with
  | some (.lst ds)=>(k ds).map fun r=>(r.1,μ.set n (.lst r.2))
  | _=>none
theorem G1 {n:Nat} {k:List D->Option (D × List D)} {μ μ':Mh} {d:D} (e:JI n k μ=some (d,μ')):∃ ds es,μ[n]? = some (.lst ds) /\ k ds=some (d,es) /\ μ'=μ.set n (.lst es):=by
  unfold JI at e
  split at e
  . rename_i ds hq
    cases hk:k ds with
    | none=>rw [hk] at e; cases e
    | some r=>rw [hk] at e; cases e; exact ⟨ds,r.2,hq,hk,rfl⟩
  . cases e
theorem KC {K:PySem.W.Frag} {ι:Nat->Addr} {μ:Mh} {H:Hp} {n:Nat} {d:D} {es:List D} {ws:List V} {v:V} {Q:VK} {ds:List D} (R:RelH K ι μ H) (hn:μ[n]? = some (.lst ds)) (iw:IsL K ι μ.length H es ws) (iv:Is K ι μ.length H d v)
    (q:Aft K ι μ H (μ.set n (.lst es)) fun ι' H'=>∀ v,Is K ι' (μ.set n (.lst es)).length H' d v->Q v H'):Q v (upd H (ι n) (.lst ws)):=by
  have hlt:n < μ.length:=(List.getElem?_eq_some_iff.mp hn).1
  obtain ⟨E1,R1⟩:=R.changed (m:=.lst es) (o:=.lst ws) hlt ⟨ws,rfl,iw⟩
  exact q ι _ E1 R1 v (iv.ext E1)
def Ck:D->List D->M D
  | .ref n,[d]=>JI n fun ds=>if ds.length < sizeLine then some (.non,ds ++ [d]) else none
  | _,_=>BP
theorem B8:MtR X "list.append" (rMM X.K Ck):=fun pins s σ H x xs v us Q I rx rs h=>by
  obtain ⟨ι,μ,a,as,d,μ',R,ia,ib,e,q⟩:=h
  unfold Ck at e
  split at e
  . rename_i n y
    obtain ⟨ds,es,h1,h2,rfl⟩:=G1 e
    split at h2
    . rename_i hl
      cases h2
      obtain ⟨w,rfl,iw⟩:=FL ib
      unfold Is at ia
      obtain ⟨_,rfl⟩:=ia
      obtain ⟨u,g1,vs,rfl,g2⟩:=R.obj n _ h1
      exact OE pins s σ H _ _ v us Q I rx rs ⟨_,vs,w,rfl,rfl,g1,by rw [g2.length]; exact hl,KC R h1 (g2.append (.one iw)) ofN q⟩
    . cases h2
  . cases e
def QQ:D->List D->M D
  | .ref n,[.lst zs]=>JI n fun ds=>if ds.length + zs.length <= sizeLine then some (.non,ds ++ zs) else none
  | _,_=>BP
theorem La:MtR X "list.extend" (rMM X.K QQ):=fun pins s σ H x xs v us Q I rx rs h=>by
  obtain ⟨ι,μ,a,as,d,μ',R,ia,ib,e,q⟩:=h
  unfold QQ at e
  split at e
  . rename_i n zs
    obtain ⟨ds,es,h1,h2,rfl⟩:=G1 e
    split at h2
    . rename_i hl
      cases h2
      obtain ⟨w,rfl,iw⟩:=FL ib
      unfold Is at ia iw
      obtain ⟨_,rfl⟩:=ia
      obtain ⟨p,ws,rfl,k1,_,k2⟩:=iw
      obtain ⟨u,g1,vs,rfl,g2⟩:=R.obj n _ h1
      exact OD pins s σ H _ _ v us Q I rx rs ⟨_,p,vs,ws,rfl,rfl,g1,k1,by rw [g2.length,k2.length]; exact hl,KC R h1 (g2.append k2) ofN q⟩
    . cases h2
  . cases e
def W6:D->List D->M D
  | .ref n,[.int i,d]=>JI n fun ds=>if 0 <= i /\ i < 2 ^ 62 /\ ds.length < sizeLine then some (.non,ds.take i.toNat ++ d :: ds.drop i.toNat) else none
  | _,_=>BP
def KF:D->D->D->M Unit
  | .ref n,.int k,d=>fun μ=>match μ[n]? with
    | some (.lst ds)=>(ixN ds.length k).map fun j=>((),μ.set n (.lst (ds.set j d)))
    | _=>none
  | _,_,_=>BP
def Hh (mo mi:Sl->M D):D->Sl->M Sl:=fun d τ=>bnd (mo τ) fun x=>bnd (mi τ) fun y=>bnd (KF x y d) fun _=>ret τ
theorem Np {x y d:D} {μ μ':Mh} {u:Unit} (e:KF x y d μ=some (u,μ')):∃ n k ds j,x=.ref n /\ y=.int k /\ μ[n]? = some (.lst ds) /\ ixN ds.length k=some j /\ μ'=μ.set n (.lst (ds.set j d)):=by
  unfold KF at e
  split at e
  . rename_i n k
    split at e
    . rename_i ds hq
      cases hk:ixN ds.length k with
      | none=>rw [hk] at e; cases e
      | some j=>rw [hk] at e; cases e; exact ⟨n,k,ds,j,rfl,rfl,hq,hk,rfl⟩
    . cases e
  . cases e
theorem G5 {mo mi:Sl->M D} (ho:RE X o mo) (hi:RE X i mi)
    (ha:∀ v,assign (.Subscript o i pos) X.env v=(do
      let ov ← holding [v] (eval o X.env)
      let iv ← holding [v,ov] (eval i X.env)
      standAt pos
      holding [v,ov,iv] (setItem ov iv v)
      release [v,ov,iv] []):=by intro _; rfl):RG X (.Subscript o i pos) (Hh mo mi):=RG.wk (T1 ho.pe hi.pe PL ha) fun v σ H Q h=>by
  obtain ⟨ι,μ,τ,d,τ',μ',R,S,i1,e,q⟩:=h
  obtain ⟨x,μ1,e1,ee1⟩:=AK e
  obtain ⟨y,μ2,e2,ee2⟩:=AK ee1
  obtain ⟨u,μ3,e3,ee3⟩:=AK ee2
  cases ee3
  refine ⟨ι,μ,_,x,μ1,R,S,e1,fun ι1 H1 E1 R1 v1 j1=>⟨ι1,μ1,_,y,μ2,R1,S.ext E1,e2,fun ι2 H2 E2 R2 v2 j2=>?_⟩⟩
  obtain ⟨n,k,ds,j,rfl,rfl,g1,g2,rfl⟩:=Np e3
  have E12:=E1.trans E2
  have j1':=j1.ext E2
  unfold Is at j1'
  obtain ⟨hlt,rfl⟩:=j1'
  cases CA j2
  obtain ⟨w,k1,vs,rfl,k2⟩:=R2.obj n _ g1
  obtain ⟨E3,R3⟩:=R2.changed (m:=.lst (ds.set j d)) (o:=.lst (vs.set j v)) hlt ⟨_,rfl,k2.set (i1.ext E12) j⟩
  exact ⟨_,vs,k,j,rfl,rfl,k1,by rw [k2.length]; exact g2,q ι2 _ (E12.trans E3) R3 σ (S.ext (E12.trans E3))⟩
def Mb:D->Option Key
  | .int i=>some (.inl i)
  | .str x=>some (.inr x)
  | _=>none
def FE:D->M (Nat × List (Key × D))
  | .ref n=>fun μ=>match μ[n]? with
    | some (.dK l)=>some ((n,l),μ)
    | _=>none
  | _=>BP
def ET (l:List (Key × D)) (k:Key):Option D:=(l.find? fun kv=>decide (kv.1=k)).map (·.2)
def KP (l:List (Key × D)) (k:Key) (d:D):List (Key × D):=
  if (l.any fun kv=>decide (kv.1=k))=true then l.map (fun kv=>if kv.1=k then (kv.1,d) else kv) else l ++ [(k,d)]
def Vx:Sl->M D:=fun _ μ=>some (.ref μ.length,μ ++ [.dK []])
theorem Q6:RE X (.Dict [] [] pos) Vx:=RE.wk Ps fun σ H Q h=>by
  obtain ⟨ι,μ,τ,d,μ',R,S,e,q⟩:=h
  cases e
  intro p hp
  obtain ⟨ι',E1,R1,e0⟩:=R.grown (m:=.dK []) (o:=.dK []) hp ⟨[],rfl,rfl⟩
  exact q ι' _ E1 R1 _ (by unfold Is; exact ⟨by simp,by rw [e0]⟩)
section
variable {K:PySem.W.Frag} {ι:Nat->Addr} {k:Nat} {H:Hp}
theorem KVs.val:∀ {l:List (Key × D)} {r:List (Key × V)} (y:Key),KVs K ι k H l r->(ET l y=none /\ FN r y=none) ∨ ∃ d v,ET l y=some d /\ FN r y=some v /\ Is K ι k H d v
  | [],_,y,h=>by cases h; exact .inl ⟨rfl,rfl⟩
  | (z,d) :: l,_,y,h=>by
    obtain ⟨v,r',rfl,h1,h2⟩:=h
    by_cases hz:z=y
    . subst hz
      exact .inr ⟨d,v,by simp [ET],by simp [FN],h1⟩
    . have:=KVs.val y h2
      simpa [ET,FN,List.find?_cons,hz] using this
theorem KVs.any:∀ {l:List (Key × D)} {r:List (Key × V)} (y:Key),KVs K ι k H l r->(l.any fun kv=>decide (kv.1=y))=(r.any fun kv=>decide (kv.1=y))
  | [],_,y,h=>by cases h; rfl
  | (z,d) :: l,_,y,h=>by
    obtain ⟨v,r',rfl,h1,h2⟩:=h
    rw [List.any_cons,List.any_cons,KVs.any y h2]
theorem KVs.length:∀ {l:List (Key × D)} {r:List (Key × V)},KVs K ι k H l r->r.length=l.length
  | [],_,h=>by cases h; rfl
  | (z,d) :: l,_,h=>by
    obtain ⟨v,r',rfl,h1,h2⟩:=h
    rw [List.length_cons,List.length_cons,KVs.length h2]
theorem KVs.app:∀ {l:List (Key × D)} {r:List (Key × V)} {y:Key} {d:D} {v:V},KVs K ι k H l r->Is K ι k H d v->KVs K ι k H (l ++ [(y,d)]) (r ++ [(y,v)])
  | [],_,y,d,v,h,h1=>by cases h; exact ⟨v,[],rfl,h1,rfl⟩
  | (z,e) :: l,_,y,d,v,h,h1=>by
    obtain ⟨w,r',rfl,h2,h3⟩:=h
    exact ⟨w,_,rfl,h2,KVs.app h3 h1⟩
theorem KVs.mapPut:∀ {l:List (Key × D)} {r:List (Key × V)} {y:Key} {d:D} {v:V},KVs K ι k H l r->Is K ι k H d v->KVs K ι k H (l.map fun kv=>if kv.1=y then (kv.1,d) else kv) (r.map fun kv=>if kv.1=y then (kv.1,v) else kv)
  | [],_,y,d,v,h,h1=>by cases h; rfl
  | (z,e) :: l,_,y,d,v,h,h1=>by
    obtain ⟨w,r',rfl,h2,h3⟩:=h
    rw [List.map_cons,List.map_cons]
    by_cases hz:z=y
    . subst hz
      simp only [if_true]
      exact ⟨v,_,rfl,h1,KVs.mapPut h3 h1⟩
    . simp only [hz,if_false]
      exact ⟨w,_,rfl,h2,KVs.mapPut h3 h1⟩
theorem KVs.put {l:List (Key × D)} {r:List (Key × V)} {y:Key} {d:D} {v:V} (h:KVs K ι k H l r) (h1:Is K ι k H d v):KVs K ι k H (KP l y d) (E8 r y v):=by
  unfold KP E8
  rw [h.any y]
  split
  . exact h.mapPut h1
  . exact h.app h1
theorem Kk {d:D} {y:Key} {v:V} (h:Is K ι k H d v) (e:Mb d=some y):v=kV y:=by
  cases d with
  | int i=>cases e; unfold Is at h; exact h
  | str i=>cases e; unfold Is at h; exact h
  | _=>cases e
theorem Ei {μ μ':Mh} {d:D} {v:V} {r:Nat × List (Key × D)} (R:RelH K ι μ H) (i:Is K ι μ.length H d v) (e:FE d μ=some (r,μ')):μ'=μ /\ d=.ref r.1 /\ μ[r.1]? = some (.dK r.2) /\ v=.ref (ι r.1) /\ ∃ kvs,H (ι r.1)=some (.dK kvs) /\ KVs K ι μ.length H r.2 kvs:=by
  cases d with
  | ref n=>
    have e:(match μ[n]? with | some (.dK l)=>some ((n,l),μ) | _=>none)=some (r,μ'):=e
    split at e
    . rename_i l hq
      cases e
      unfold Is at i
      obtain ⟨u,h1,kvs,rfl,h2⟩:=R.obj n _ hq
      exact ⟨rfl,rfl,hq,i.2,kvs,h1,h2⟩
    . cases e
  | _=>cases e
end
def Mg (d y:D):M D:=bnd (FE d) fun r=>fun μ=>(Mb y).map fun k=>((ET r.2 k).getD .non,μ)
def HG (d:D):M Unit:=bnd (FE d) fun _=>ret ()
def Ej (mo mi:Sl->M D):Sl->M D:=fun τ=>bnd (mo τ) fun x=>bnd (HG x) fun _=>bnd (mi τ) fun y=>Mg x y
theorem OV {μ μ':Mh} {d:D} {u:Unit} (e:HG d μ=some (u,μ')):μ'=μ /\ ∃ r,FE d μ=some (r,μ):=by
  obtain ⟨r,μ1,e1,ee1⟩:=AK e
  cases ee1
  cases d with
  | ref n=>
    have e2:(match μ[n]? with | some (.dK l)=>some ((n,l),μ) | _=>none)=some (r,μ'):=e1
    split at e2
    . cases e2; exact ⟨rfl,_,e1⟩
    . cases e2
  | _=>cases e1
theorem LJ {mo mi:Sl->M D} {k:Nat} (hr:Room k X.A) (ho:RE X o mo) (hi:RE X e mi) (m:M1 X o "get" apos e cpos:=by exact ⟨rfl,rfl,rfl,rfl⟩):RE X (.Call (.Attribute o "get" apos) [e] [] cpos) (Ej mo mi):=RE.wk (Pv (QL hr) ho.pe hi.pe m) fun σ H Q h=>by
  obtain ⟨ι,μ,τ,d,μ',R,S,e,q⟩:=h
  obtain ⟨x,μ1,e1,ee1⟩:=AK e
  obtain ⟨u,μ4,e4,ee2⟩:=AK ee1
  obtain ⟨y,μ2,e2,ee3⟩:=AK ee2
  obtain ⟨r,μ3,e3,ee4⟩:=AK ee3
  obtain ⟨hm,r0,e5⟩:=OV e4
  subst hm
  refine ⟨ι,μ,τ,x,_,R,S,e1,fun ι1 H1 E1 R1 v1 i1=>?_⟩
  obtain ⟨_,_,_,rfl,kvs0,g0,_⟩:=Ei R1 i1 e5
  refine ⟨_,rfl,.inl ⟨kvs0,.inl g0⟩,ι1,_,τ,y,μ2,R1,S.ext E1,e2,fun ι2 H2 E2 R2 v2 i2=>?_⟩
  obtain ⟨hm,hx,g1,hv,kvs,g2,g3⟩:=Ei R2 (i1.ext E2) e3
  subst hm
  cases hk:Mb y with
  | none=>rw [hk] at ee4; cases ee4
  | some ky=>
    rw [hk] at ee4
    cases ee4
    cases Kk i2 hk
    have hv':ι1 r0.1=ι2 r.1:=V.ref.inj hv
    rw [hv']
    refine ⟨FN kvs ky,DGet.k g2,?_⟩
    rcases g3.val ky with ⟨z1,z2⟩ | ⟨dd,vv,z1,z2,z3⟩
    . rw [z2]; rw [z1] at q; exact q ι2 H2 (E1.trans E2) R2 _ ofN
    . rw [z2]; rw [z1] at q; exact q ι2 H2 (E1.trans E2) R2 vv z3
def OZ (neg:Bool) (y d:D):M D:=bnd (FE d) fun r=>fun μ=>(Mb y).map fun k=>(.bl (if neg then !(ET r.2 k).isSome else (ET r.2 k).isSome),μ)
theorem TR {K:PySem.W.Frag} {mi mo:Sl->M D} {σ:St} {H:Hp} {Q:VK} (h:tE K (mOp (OZ false) mi mo) σ H Q):VL (tE K mi) (tE K mo) σ H Q:=by
  obtain ⟨ι,μ,τ,d,μ',R,S,e,q⟩:=h
  obtain ⟨y,μ1,e1,ee1⟩:=AK e
  obtain ⟨x,μ2,e2,ee2⟩:=AK ee1
  obtain ⟨r,μ3,e3,ee3⟩:=AK ee2
  refine ⟨ι,μ,τ,y,μ1,R,S,e1,fun ι1 H1 E1 R1 v1 i1=>⟨ι1,μ1,τ,x,μ2,R1,S.ext E1,e2,fun ι2 H2 E2 R2 v2 i2=>?_⟩⟩
  obtain ⟨hm,_,g1,rfl,kvs,g2,g3⟩:=Ei R2 i2 e3
  subst hm
  cases hk:Mb y with
  | none=>rw [hk] at ee3; cases ee3
  | some ky=>
    rw [hk] at ee3
    cases ee3
    cases Kk (i1.ext E2) hk
    refine ⟨_,FN kvs ky,rfl,DGet.k g2,?_⟩
    rcases g3.val ky with ⟨z1,z2⟩ | ⟨dd,vv,z1,z2,z3⟩
    . rw [z2]; rw [z1] at q; exact q ι2 H2 (E1.trans E2) R2 _ (ofB _)
    . rw [z2]; rw [z1] at q; exact q ι2 H2 (E1.trans E2) R2 _ (ofB _)
theorem Th {mo mi:Sl->M D} {k:Nat} (hr:Room k X.A) (hi:RE X i mi) (ho:RE X o mo) (h1:behindInMarks .In o=false:=by first | exact nobehind _ (by decide) (by decide) | rfl):RE X (.Compare i [.In] [o] pos) (mOp (OZ false) mi mo):=RE.wk (Pw (UC (QL hr) hi.pe ho.pe) h1) fun _ _ _ h=>TR h
def LI (mo mi mv:Sl->M D):Sl->M (Fl × Sl):=fun τ=>bnd (mv τ) fun v=>bnd (mo τ) fun x=>bnd (mi τ) fun y=>bnd (FE x) fun r=>fun μ=>match Mb y with
  | some k=>if r.2.length < sizeLine then some ((.next,τ),μ.set r.1 (.dK (KP r.2 k v))) else none
  | none=>none
theorem Q1 {value:Expr} {pos':Pos} {mo mi mv:Sl->M D} {k:Nat} (hr:Room k X.A) (ho:RE X o mo) (hi:RE X i mi) (hv:RE X value mv) (hs:swapsWith value (some (.Subscript o i pos')) pos.line X.env=pure false:=by rfl):RS X (.Assign [.Subscript o i pos'] value pos) (LI mo mi mv):=RS.wk (Rb (QL hr) ho.pe hi.pe hv.pe hs) fun Dn σ H h=>by
  obtain ⟨ι,μ,τ,f,τ',μ',R,S,e,q⟩:=h
  obtain ⟨v,μ1,e1,ee1⟩:=AK e
  obtain ⟨x,μ2,e2,ee2⟩:=AK ee1
  obtain ⟨y,μ3,e3,ee3⟩:=AK ee2
  obtain ⟨r,μ4,e4,ee4⟩:=AK ee3
  refine ⟨ι,μ,τ,v,μ1,R,S,e1,fun ι1 H1 E1 R1 v1 i1=>⟨ι1,μ1,τ,x,μ2,R1,S.ext E1,e2,fun ι2 H2 E2 R2 v2 i2=>⟨ι2,μ2,τ,y,μ3,R2,S.ext (E1.trans E2),e3,fun ι3 H3 E3 R3 v3 i3=>?_⟩⟩⟩
  obtain ⟨hm,hx,g1,hv2,kvs,g2,g3⟩:=Ei R3 (i2.ext E3) e4
  subst hm
  have E13:=(E1.trans E2).trans E3
  cases hk:Mb y with
  | none=>rw [hk] at ee4; cases ee4
  | some ky=>
    rw [hk] at ee4
    have ee4:(if r.2.length < sizeLine then some ((Fl.next,τ),List.set μ4 r.1 (MO.dK (KP r.2 ky v))) else none)=some ((f,τ'),μ'):=ee4
    split at ee4
    . rename_i hl
      cases ee4
      cases Kk i3 hk
      have hlt:r.1 < List.length μ4:=(List.getElem?_eq_some_iff.mp g1).1
      obtain ⟨E4,R4⟩:=R3.changed (m:=.dK (KP r.2 ky v)) (o:=.dK (E8 kvs ky v1)) hlt ⟨_,rfl,g3.put (i1.ext (E2.trans E3))⟩
      exact ⟨_,_,hv2,DPut.k g2 (by rw [g3.length]; exact hl),q ι3 _ (E13.trans E4) R4 σ (S.ext (E13.trans E4))⟩
    . cases ee4
def WN:D->M (List D)
  | .str x=>ret (x.cps.toList.map fun c=>.str ⟨#[c]⟩)
  | _=>BP
def P6 (m:Sl->M D):Sl->M (List D):=fun τ=>bnd (m τ) WN
theorem SN {K:PySem.W.Frag} {ι:Nat->Addr} {μ:Mh} {H:Hp} {x:Str}:ItM K (Its x) (x.cps.toList.map fun c=>.str ⟨#[c]⟩) ι μ H:=by
  intro ι' μ' H' E R
  have hl:(x.cps.toList.map fun c=>D.str ⟨#[c]⟩).length=x.cps.size:=by simp
  rw [hl]
  refine ⟨fun j hj=>hj,rfl,fun j v H2 d hd y=>?_⟩
  obtain ⟨e,c,hc,y⟩:=y
  subst e
  rw [List.getElem?_map,Array.getElem?_toList,hc] at hd
  cases hd
  exact ⟨R.ext0,R,by unfold Is; exact y⟩
theorem Tc {m:Sl->M D} (h:RE X e m):RI X tg e (P6 m):=RI.wk (T0 h.pe) fun σ H R q=>by
  obtain ⟨ι,μ,τ,ds,μ',R0,S,e,q⟩:=q
  obtain ⟨x,μ1,e1,ee1⟩:=AK e
  refine ⟨ι,μ,τ,x,μ1,R0,S,e1,fun ι1 H1 E1 R1 v i1=>?_⟩
  cases x with
  | str x=>cases ee1; exact ⟨x,C4 i1,q ι1 H1 E1 R1 _ SN⟩
  | _=>cases ee1
def B1:Nat->List D->List D
  | _,[]=>[]
  | k,d :: ds=>.tup [.int k,d] :: B1 (k + 1) ds
theorem Jx:∀ (k:Nat) (ds:List D),(B1 k ds).length=ds.length
  | _,[]=>rfl
  | k,_ :: ds=>by unfold B1; simp [Jx (k + 1) ds]
theorem Jy:∀ (k:Nat) (ds:List D) (j:Nat),(B1 k ds)[j]? = (ds[j]?).map fun d=>.tup [.int ((k + j:Nat):Int),d]
  | _,[],j=>by simp [B1]
  | k,d :: ds,0=>by simp [B1]
  | k,d :: ds,j + 1=>by
    unfold B1
    rw [List.getElem?_cons_succ,List.getElem?_cons_succ,Jy (k + 1) ds j]
    have:k + 1 + j=k + (j + 1):=by omega
    rw [this]
def NT:List D->M (List D)
  | [.lst ds]=>ret ds
  | [.scr ns]=>ret (ns.map D.int)
  | _=>BP
def Sv (m:Sl->M (List D)):Sl->M (List D):=fun τ=>bnd (m τ) fun as=>bnd (NT as) fun ds=>ret (B1 0 ds)
theorem Ib {K:PySem.W.Frag} {ι:Nat->Addr} {μ:Mh} {H:Hp} {vs:List V} {ds:List D} {Cond:PySem.W.Frag->Hp->Prop} (st:∀ ι' (μ':Mh) H',Ext ι μ.length H ι' μ'.length H'->RelH K ι' μ' H'->Cond K H') (i:IsL K ι μ.length H ds vs) :
    ItM K (ItP K vs.length (Ff vs) Cond) (B1 0 ds) ι μ H:=by
  intro ι' μ' H' E R
  have h:=st ι' μ' H' E R
  rw [Jx,← i.length]
  refine ⟨fun j hj=>⟨hj,h⟩,⟨rfl,h⟩,fun j x H2 d hd y=>?_⟩
  obtain ⟨T,hT,rfl,rfl⟩:=y
  obtain ⟨E2,R2⟩:=R.laid (.tup (Ff vs j)) hT
  refine ⟨E2,R2,?_⟩
  rw [Jy] at hd
  cases q:ds[j]? with
  | none=>rw [q] at hd; cases hd
  | some d0=>
    rw [q] at hd
    cases hd
    obtain ⟨w,ew,iw⟩:=(i.ext E).get q
    have e0:vs.getD j V.non=w:=by simp [List.getD,ew]
    have es:Ff vs j=[.int j,w]:=by unfold Ff; rw [e0]
    have key:IsL K ι' (List.length μ') (upd H' T (.tup (Ff vs j))) [.int ((0 + j:Nat):Int),d0] [.int j,w]:=.cons (by unfold Is; simp) (.one (iw.ext E2))
    unfold Is
    exact ⟨T,_,rfl,SqT.of Bj,(congrArg (IsL K ι' (List.length μ') (upd H' T (.tup (Ff vs j))) [.int ((0 + j:Nat):Int),d0]) es).mpr key⟩
theorem PX {p tpos:Pos} {k0:Nat} {m:Sl->M (List D)} (hm:X.mg "enumerate" = none) (ha:RA X [a] m) (hg:Gl X "enumerate" := by rfl) (hs:starEach [a] X.env=[(false,eval a X.env)]:=by rfl):RI X (.Tuple es k0 tpos) (.Call (.Name "enumerate" p) [a] [] pos) (Sv m):=
  RI.wk (Pq hg hm ha.pe hs) fun σ H R q=>by
    obtain ⟨ι,μ,τ,ds,μ',R0,S,e,q⟩:=q
    obtain ⟨xs,μ1,e1,ee1⟩:=AK e
    obtain ⟨zs,μ2,e2,ee2⟩:=AK ee1
    cases ee2
    refine ⟨ι,μ,τ,xs,μ1,R0,S,e1,fun ι1 H1 E1 R1 vs i1=>?_⟩
    unfold NT at e2
    split at e2
    . cases e2
      obtain ⟨v,rfl,i2⟩:=FL i1
      unfold Is at i2
      obtain ⟨p,ws,rfl,h1,hn,h2⟩:=i2
      exact ⟨p,ws,rfl,SqL.of h1,q ι1 H1 E1 R1 _ (Ib (fun ι' μ' H' E _=>SqL.of (E.keep p _ h1 hn)) h2)⟩
    . cases e2
      obtain ⟨v,rfl,i2⟩:=FL i1
      unfold Is at i2
      obtain ⟨p,rfl,h1⟩:=i2
      exact ⟨p,_,rfl,h1.sq,q ι1 H1 E1 R1 _ (Ib (fun ι' μ' H' E _=>(KG E h1).sq) (IsL.ofInts _))⟩
    . cases e2
def Kv:List D->Option (List Bool)
  | []=>some []
  | .bl b :: ds=>(Kv ds).map (b :: ·)
  | _=>none
theorem NZ {K:PySem.W.Frag} {ι:Nat->Addr} {k:Nat} {H:Hp}:∀ {ds:List D} {vs:List V} {bs:List Bool},IsL K ι k H ds vs->Kv ds=some bs->vs=bs.map V.bl
  | [],_,_,h,e=>by cases e; unfold IsL at h; exact h
  | .bl b :: ds,_,_,h,e=>by
    unfold IsL at h
    obtain ⟨v,vs',rfl,h1,h2⟩:=h
    unfold Kv at e
    cases q:Kv ds with
    | none=>rw [q] at e; cases e
    | some bs=>
      rw [q] at e; cases e
      unfold Is at h1
      rw [h1,NZ h2 q]; rfl
  | .non :: _,_,_,_,e=>by cases e
  | .int _ :: _,_,_,_,e=>by cases e
  | .str _ :: _,_,_,_,e=>by cases e
  | .ty _ :: _,_,_,_,e=>by cases e
  | .scr _ :: _,_,_,_,e=>by cases e
  | .tup _ :: _,_,_,_,e=>by cases e
  | .lst _ :: _,_,_,_,e=>by cases e
  | .ref _ :: _,_,_,_,e=>by cases e
def Sg:List D->M D
  | [.lst ds]=>fun μ=>(Kv ds).map fun bs=>(.bl (bs.all id),μ)
  | _=>BP
theorem WM (hc:X.calm=true):CH X (.builtin "all") (rMA X.K Sg):=fun pins s σ H xs us Q I r h=>by
  obtain ⟨ι,μ,as,d,μ',R,ia,e,q⟩:=h
  refine Oi hc pins s σ H xs us Q I r ?_
  unfold Sg at e
  split at e
  . rename_i ds
    cases hb:Kv ds with
    | none=>rw [hb] at e; cases e
    | some bs=>
      rw [hb] at e; cases e
      obtain ⟨v,rfl,i1⟩:=FL ia
      unfold Is at i1
      obtain ⟨p,vs,rfl,h1,_,h2⟩:=i1
      exact ⟨p,bs,rfl,SqL.of (by rw [← NZ h2 hb]; exact h1),q ι H R.ext0 R _ (ofB _)⟩
  . cases e
end
end Mi
namespace Mi
open PySem L2
theorem Av:bootBuiltins "len" = some (.builtin "len"):=by decide +kernel
theorem BD:bootBuiltins "isinstance" = some (.builtin "isinstance"):=by decide +kernel
theorem L0:bootBuiltins "max" = some (.builtin "max"):=by decide +kernel
theorem Iz:bootBuiltins "min" = some (.builtin "min"):=by decide +kernel
theorem Qk:bootBuiltins "all" = some (.builtin "all"):=by decide +kernel
theorem Gs:bootBuiltins "int" = some (.type "int"):=by decide +kernel
theorem Lz:bootBuiltins "str" = some (.type "str"):=by decide +kernel
theorem Oj:bootBuiltins "bool" = some (.type "bool"):=by decide +kernel
theorem BU:bootBuiltins "tuple" = some (.type "tuple"):=by decide +kernel
theorem Fx:bootBuiltins "list" = some (.type "list"):=by decide +kernel
theorem Qj:bootBuiltins "set" = some (.type "set"):=by decide +kernel
structure Fn (P:Program) (w:World) (K:PySem.W.Frag) (mg:Str->Option Value) (base:Heap) (x:Str) (ps:List Str) (k:Nat) (φ:List D->M D):Prop where
  len:∀ ds μ r,φ ds μ=some r->ds.length=ps.length
  ex:∃ f fd,FnOk P w K mg base CX0 k f fd ps (spM K ps.length φ) /\ mg x=some (.ref f) /\ PySem.W.keepIn K (.ref f)=true /\ Binds K fd ps []
def Glo (K:PySem.W.Frag) (mg:Str->Option Value) (x:Str) (d:D):Prop:=∃ u v,mg x=some u /\ RelV v u /\ ∀ ι k H,Is K ι k H d v
section
variable {X:Cx} {e:Expr} {es:List Expr} {pos p:Pos}
theorem AV {x:Str} {ps:List Str} {k j:Nat} {φ:List D->M D} {m:Sl->M (List D)} (F:Fn X.prog X.w X.K X.mg X.base x ps k φ) (hr:Room j X.A) (ha:RA X (e :: es) m) (hkj:k <= j:=by decide) (hg:Gl X x:=by rfl) (hdb:(x == ("__debug__" : Str))=false:=by decide)
    (he:starEach (e :: es) X.env=(false,eval e X.env) :: starEach es X.env:=by exact BS rfl) (hpl:(backTo pos (starEach es X.env)).any (·.1)=false:=by exact CK rfl):RE X (.Call (.Name x p) (e :: es) [] pos) (AE φ m):=by
  obtain ⟨len,f,fd,F,hm,hk,hb⟩:=F
  exact Q7 F (hr.mono hkj) hm hk hb len ha hg hdb he hpl
theorem EW {x:Str} {d:D} (h:Glo X.K X.mg x d) (hg:Gl X x:=by rfl) (hdb:(x == ("__debug__" : Str))=false:=by decide):RE X (.Name x pos) (mC d):=by
  obtain ⟨u,v,hm,r,hd⟩:=h
  exact Q4 hm r hd hg hdb
end
theorem Uq {P:Program} {w:World} {K:PySem.W.Frag} {mg:Str->Option Value} {base:Heap} {x qual:Str} {st:Stmt} {f:Addr} {fd:FuncData} {N ps:List Str} {k:Nat} {φ:List D->M D} {mb:Sl->M (Fl × Sl)} (F:Fun K x qual st f fd) (S:Ai N ps (AJ st)) (hm:mg x=some (.ref f)) (hb:Binds K fd ps [])
    (body:∀ (cdv:Value) (A:Around) (outer:List Env) (s:Shared) (H:Hp) (E:XK),Room k (A.deeper (PyProof.Rows.envOfC qual (AJ st) s.heap.objs.size f cdv))->RSs (BZ CX0 P w K mg base N qual (AJ st) f cdv A outer s H E).nox (Ac st) mb)
    (len:∀ ds μ r,φ ds μ=some r->ds.length=ps.length)
    (run:∀ ds μ d μ',φ ds μ=some (d,μ')->∃ fl τ2 μ2,mb (BW N.length ds) μ=some ((fl,τ2),μ2) /\ (fl=.next ∨ ∃ d,fl=.rt d) /\ Hc μ μ2 μ' (He fl) d):Fn P w K mg base x ps (k + 1) φ:=
  ⟨len,f,fd,Js F S rfl body run,hm,F.kp,hb⟩
theorem F8 {μ g:Mh} {d:D} (h:Cl μ.length d):Hc μ (μ ++ g) μ d d:=⟨⟨g,rfl⟩,Nat.le_refl _,fun _ _ e=>.inl e,.inl ⟨rfl,h⟩⟩
end Mi
namespace Mi
open PySem L2
section
variable {X:Cx} {e a b c o i:Expr} {es:List Expr} {pos p apos cpos:Pos}
structure On (w:World) (K:PySem.W.Frag) (mg:Str->Option Value) (x:Str) (t:Str->Option D):Prop where
  ex:∃ ad,mg x=some (.ref ad) /\ ∀ y:Str,∃ r,KGet w.params K ad (.str y) r /\ ((t y=none /\ r=none) ∨ ∃ d v,t y=some d /\ r=some v /\ ∀ ι k H,Is K ι k H d v)
def NO (t:Str->Option D):D->M D
  | .str y=>fun μ=>(t y).map fun d=>(d,μ)
  | _=>BP
def SJ (t:Str->Option D):D->M D
  | .str y=>fun μ=>some (.bl (t y).isSome,μ)
  | _=>BP
theorem NA {x:Str} {t:Str->Option D} {mi:Sl->M D} (k:On X.w X.K X.mg x t) (hi:RE X i mi) (hg:Gl X x:=by rfl) (hdb:(x == ("__debug__" : Str))=false:=by decide) (hs:U3 i:=by exact fun _ _=>rfl):RE X (.Subscript (.Name x p) i pos) (mUn (NO t) mi):=by
  obtain ⟨ad,hm,kk⟩:=k
  refine RE.wk (Ri (Hj (v:=.ref ad) hg hm rfl hdb) hi.pe hs) fun σ H Q h=>?_
  obtain ⟨ι,μ,τ,d,μ',R,S,e,q⟩:=h
  obtain ⟨y,μ1,e1,e2⟩:=AK e
  refine ⟨ι,μ,τ,y,μ1,R,S,e1,fun ι1 H1 E1 R1 v1 i1=>?_⟩
  cases y with
  | str y=>
    cases C4 i1
    obtain ⟨r,g,z⟩:=kk y
    rcases z with ⟨z1,_⟩ | ⟨d0,v0,z1,rfl,z3⟩
    . have e3:(t y).map (fun d=>(d,μ1))=some (d,μ'):=e2
      rw [z1] at e3; cases e3
    . have e3:(t y).map (fun d=>(d,μ1))=some (d,μ'):=e2
      rw [z1] at e3; cases e3
      exact ⟨ad,v0,rfl,g,q ι1 H1 E1 R1 v0 (z3 _ _ _)⟩
  | _=>cases e2
theorem TQ {K:PySem.W.Frag} {w:World} {t:Str->Option D} {mi:Sl->M D} {ad:Addr} {σ:St} {H:Hp} {Q:VK} (kk:∀ y:Str,∃ r,KGet w.params K ad (.str y) r /\ ((t y=none /\ r=none) ∨ ∃ d v,t y=some d /\ r=some v /\ ∀ ι k H,Is K ι k H d v))
    (h:tE K (mUn (SJ t) mi) σ H Q):VF w.params K (tE K mi) (tC (.ref ad)) σ H Q:=by
  obtain ⟨ι,μ,τ,d,μ',R,S,e,q⟩:=h
  obtain ⟨y,μ1,e1,e2⟩:=AK e
  refine ⟨ι,μ,τ,y,μ1,R,S,e1,fun ι1 H1 E1 R1 v1 i1=>?_⟩
  cases y with
  | str y=>
    cases C4 i1
    obtain ⟨r,g,z⟩:=kk y
    cases e2
    rcases z with ⟨z1,rfl⟩ | ⟨d0,v0,z1,rfl,z3⟩
    . exact ⟨ad,none,rfl,g,by rw [z1] at q; exact q ι1 H1 E1 R1 _ (ofB _)⟩
    . exact ⟨ad,some v0,rfl,g,by rw [z1] at q; exact q ι1 H1 E1 R1 _ (ofB _)⟩
  | _=>cases e2
theorem Tf {x:Str} {t:Str->Option D} {mi:Sl->M D} (k:On X.w X.K X.mg x t) (hi:RE X i mi) (hg:Gl X x:=by rfl) (hdb:(x == ("__debug__" : Str))=false:=by decide) (h1:behindInMarks .In (.Name x p)=false:=by first | exact nobehind _ (by decide) (by decide) | rfl):RE X (.Compare i [.In] [.Name x p] pos) (mUn (SJ t) mi):=by
  obtain ⟨ad,hm,kk⟩:=k
  exact RE.wk (Pw (UB hi.pe (Hj (v:=.ref ad) hg hm rfl hdb)) h1) fun σ H Q h=>TQ kk h
def Wv:D->M D
  | .str x=>fun μ=>if x.length <= sizeLine then some (.str x,μ) else none
  | _=>BP
def SA (m:Sl->M D):Sl->M D:=mUn Wv m
theorem Tg {m:Sl->M D} (h:RE X e m):RE X (.FormattedValue e (-1) none pos) (SA m):=RE.wk (T8 h.pe) fun σ H Q h=>by
  obtain ⟨ι,μ,τ,d,μ',R,S,e,q⟩:=h
  obtain ⟨y,μ1,e1,e2⟩:=AK e
  refine ⟨ι,μ,τ,y,μ1,R,S,e1,fun ι1 H1 E1 R1 v1 i1=>?_⟩
  cases y with
  | str y=>
    have e3:(if y.length <= sizeLine then some (D.str y,μ1) else none)=some (d,μ'):=e2
    split at e3
    . rename_i hl
      cases e3
      exact .inl ⟨y,C4 i1,hl,q ι1 H1 E1 R1 _ (ofS _)⟩
    . cases e3
  | _=>cases e2
def HE:List (Sl->M D)->Str->Sl->M D
  | [],out=>fun _=>bnd (lim out.length) fun _=>ret (.str out)
  | m :: r,out=>fun τ=>bnd (m τ) fun d=>match d with
    | .str y=>bnd (lim (out ++ y).length) fun _=>HE r (out ++ y) τ
    | _=>BP
def NH (ms:List (Sl->M D)):Sl->M D:=HE ms Str.empty
structure RJ (X:Cx) (es:List Expr) (ms:List (Sl->M D)):Prop where
  pe:PJ X es (ms.map (tE X.K))
theorem Tb:RJ X [] []:=⟨Ty⟩
theorem M8 {m:Sl->M D} {ms:List (Sl->M D)} (h:RE X e m) (hr:RJ X es ms):RJ X (e :: es) (m :: ms):=⟨Rg h.pe hr.pe⟩
theorem M3 {K:PySem.W.Frag}:∀ {ms:List (Sl->M D)} {out:Str} {σ:St} {H:Hp} {Q:VK},tE K (HE ms out) σ H Q->My (ms.map (tE K)) out σ H Q
  | [],out,σ,H,Q,h=>by
    obtain ⟨ι,μ,τ,d,μ',R,S,e,q⟩:=h
    obtain ⟨_,μ1,e1,e2⟩:=AK e
    obtain ⟨hl,hm⟩:=DO e1
    subst hm
    cases e2
    exact ⟨hl,q ι H R.ext0 R _ (ofS _)⟩
  | m :: ms,out,σ,H,Q,h=>by
    obtain ⟨ι,μ,τ,d,μ',R,S,e,q⟩:=h
    obtain ⟨y,μ1,e1,e2⟩:=AK e
    refine ⟨ι,μ,τ,y,μ1,R,S,e1,fun ι1 H1 E1 R1 v1 i1=>?_⟩
    cases y with
    | str y=>
      obtain ⟨_,μ2,e3,e4⟩:=AK e2
      obtain ⟨hl,hm⟩:=DO e3
      subst hm
      exact ⟨y,C4 i1,hl,M3 ⟨ι1,_,τ,d,μ',R1,S.ext E1,e4,fun ι2 H2 E2 R2=>q ι2 H2 (E1.trans E2) R2⟩⟩
    | _=>cases e2
theorem Nv {e2:Expr} {m m2:Sl->M D} {ms:List (Sl->M D)} (h:RJ X (e :: e2 :: es) (m :: m2 :: ms)):RE X (.JoinedStr (e :: e2 :: es) pos) (NH (m :: m2 :: ms)):=RE.wk (N5 h.pe) fun σ H Q h=>M3 h
end
end Mi
namespace L2
open PySem PySem.Spec PyProof.Rows Sem
section
variable {prog:Program} {w:World} {A:Around} {E:Value->Shared->Prop} {s:Shared}
theorem C1 {M:Model} {A:Around} {α:Type} {c:Prop} [Decidable c] {a b:Sem α} {Q:α->Shared->Prop} {E:Value->Shared->Prop} {s:Shared} (h : ¬ c) (hb:wpAny M A b Q E s):wpAny M A (if c then a else b) Q E s:=by
  rw [if_neg h]; exact hb
theorem K8 {it t:Addr} {i:Nat} {items:Array Value} {Q:Value->Shared->Prop} (hh:A.handled=none) (hit:s.heap.IsTupleIter it t i) (ht:s.heap.IsTuple t items)
    (more:∀ x h',items[i]? = some x->h'.IsTupleIter it t (i + 1)->Heap.SameBut it s.heap h'->Q x { s with heap:=h' })
    (over:items[i]? = none->∀ h' e,Heap.ExtBut it s.heap h'->(∃ o,h'.get? e=some o /\ o.cls=.type "StopIteration")->E (.ref e) { s with heap:=h' }) :
    wpAny (model prog w) A (Builtin.SmallTypes.nextOf (.ref it)) Q E s:=by
  have ty:=hit.typeIs
  obtain ⟨o,at_it,hc,hd⟩:=hit
  obtain ⟨ot,at_t,_,n,hdt⟩:=ht
  have put:∀ (k:Nat) (v:Value),(s.heap.update it (Obj.mapFields (fun fs=>fs.set! k v))).get? it=some (Obj.mapFields (fun fs=>fs.set! k v) o):=fun k v=>Heap.get?_update_self _ at_it (Obj.isFreed_of_fields (Obj.data_mapFields hd _))
  unfold Builtin.SmallTypes.nextOf
  refine wpAny_bind (wpAny_callSpecial?_slot ty F.slot_tuple_iterator_next (wpAny_call_entry F.slot_tuple_iterator_next ty F.entry_tuple_iterator_next ?_ (F.args_tuple_iterator_next_1 _)))
  have notNone : ¬ (Value.ref t == Value.none)=true:=Bool.false_ne_true
  refine wpAny_bind (m:=field (.ref it) 0) (wpAny_field at_it hd (x:=.ref t) rfl ?_)
  refine C1 notNone ?_
  refine wpAny_bind (m:=field (.ref it) 1) (wpAny_field at_it hd (x:=.int i 0) rfl (wpAny_bind (m:=seqItems? (.ref t)) (wpAny_seqItems at_t hdt ?_)))
  have ei:((i:Int)).toNat=i:=Int.toNat_natCast i
  cases hx:items[i]? with
  | some x=>
    dsimp only
    rw [ei,hx]
    refine wpAny_bind (wpAny_setField at_it hd (by simp) (wpAny_pure ⟨x,rfl,wpAny_pure (more x _ hx ⟨_,put _ _,?_,?_⟩ (Heap.SameBut.update ..))⟩))
    . exact (Obj.cls_mapFields ..).trans hc
    . rw [Obj.data_mapFields hd]
      rfl
  | none=>
    dsimp only
    rw [ei,hx]
    refine wpAny_bind (wpAny_rule (wpAny_bind (wpAny_setField at_it hd (by simp) ?_)))
    have first:firstArgMember (.type "StopIteration") []=pure Value.none:=by first | rfl | (unfold firstArgMember; rfl)
    unfold Builtin.SmallTypes.stopIteration newExc newTuple
    refine wpAny_bind (wpAny_bind (wpAny_newObj_type (wpAny_bind (wpAny_of_eq first (wpAny_newObj_type (wpAny_raiseNew_none hh ?_) (by size_fits)))) (by size_fits)))
    exact over hx _ _ (((Heap.SameBut.update ..).extBut.push _).push _) ⟨_,Heap.get?_push_size _ rfl,rfl⟩
theorem HL (hh:A.handled=none) (it t:Addr) (hne:t ≠ it) (items:Array Value) :
    Draws prog w A it [it,t] items.size (fun i v=>items[i]? = some v) (fun i h=>h.IsTupleIter it t i /\ h.IsTuple t items):=by
  refine ⟨fun i h st=>?_,fun i h h' st k=>⟨?_,?_⟩,fun i s Q E hi st q=>?_,fun s Q E st q=>?_⟩
  . obtain ⟨⟨o,e,_⟩,_⟩:=st
    exact ⟨o,e⟩
  . obtain ⟨⟨o,e,r⟩,_⟩:=st
    exact ⟨o,k it (by simp) o e,r⟩
  . obtain ⟨_,⟨o,e,r⟩⟩:=st
    exact ⟨o,k t (by simp) o e,r⟩
  . exact K8 hh st.1 st.2 (fun x h' hx st' sb=>q x h' s.toks hx ⟨st',st.2.extBut sb.extBut hne⟩ sb) fun no=>absurd no (by simp [hi])
  . exact K8 hh st.1 st.2 (fun x h' hx=>absurd hx (by simp)) fun _ h' e eb so=>q h' e eb so
abbrev Gp (it:Addr):Obj:={ cls:=.type "enumerate",data:=.fields #[.none,.bool false,.ref it,rawInt 0,.none,.none] }
theorem QV (v:Value) (ob:Obj) (good:Heap->Prop) (hv:∀ (prog:Program) (w:World) (A:Around) (E:Value->Shared->Prop) (s:Shared) (Q:Value->Shared->Prop),good s.heap->Q (.ref s.heap.objs.size) { s with heap:=s.heap.push ob }->wpAny (model prog w) A (pyIter v) Q E s) :
    Meets (Builtin.«enumerate.__new__» ⟨[.type "enumerate",v],[]⟩) (fun _ R s=>good s.heap /\ R (.ok (.ret (.ref (s.heap.push ob).objs.size))) { s with heap:=(s.heap.push ob).push (Gp s.heap.objs.size) }):=by
  refine .of_wp fun prog w A R s ⟨g,q⟩=>?_
  have own:=sub_enumerate
  have walk:∀ (A:Around) (E:Value->Shared->Prop) (Q:Value->Shared->Prop),Q (.ref s.heap.objs.size) { s with heap:=s.heap.push ob }->wpAny (model prog w) A (pyIter v) Q E s:=fun A E Q z=>hv prog w A E s Q g z
  obtain ⟨hp,gs,dr,tk,os⟩:=s
  wp_walk
  refine wpAny_stack_any fun st=>wpAny_pure ?_
  split
  . rename_i c _ _ _ _ _
    cases (c == Value.type "enumerate") <;> (wp_walk using walk; exact ⟨_,rfl,q⟩)
  . wp_walk using walk
    exact ⟨_,rfl,q⟩
end
end L2
namespace L2
open PySem PySem.Spec PyProof.Rows
theorem MC {P:Program} {w:World} {K:PySem.W.Frag} {es:List Expr} {k0:Nat} {pos:Pos} (a e it:Addr) (xs:List V) (hei:e ≠ it) (hea:e ≠ a) (hai:a ≠ it) :
    JR P w K (.Tuple es k0 pos) (ItP K xs.length (Ff xs) fun K H=>SqT K H a xs) [e,it] e (fun i h=>(∃ old,IsEnum h e it i old) /\ h.IsTupleIter it a i):=by
  refine F7 (ι:=List Value) (fp:=[e,it,a]) (Mid:=fun its i T h=>(∃ x,IsEnumOut h e it ((i:Int) + 1) x T) /\ (h.IsTupleIter it a (i + 1) /\ h.IsTuple a its.toArray) /\ T ≠ e /\ T ≠ it) (good:=fun its=>Vals xs its) (Pt:=fun its i vals=>∃ t x,its.toArray[i]? = some x /\ vals = #[.int i t,x]) (Sw:=fun its i h=>(∃ old,IsEnum h e it i old) /\ h.IsTupleIter it a i /\ h.IsTuple a its.toArray)
    (fun A hA its r=>?walk) List.mem_cons_self (fun its i vals r h=>Iq r h) (fun i=>(by show 2 <= sizeLine; decide)) (fun i h st=>?obj) (fun i h h' st k=>?keep) (fun X pins σ H s i hP hw hK I hc st=>?into) (fun z i h st=>⟨st.1,st.2.1⟩) (fun A i s Q E st h=>?self)
  case walk=>
    have hl:xs.length=its.toArray.size:=by rw [List.size_toArray]; exact r.length
    have D:=HL (prog:=P) (w:=w) (A:=A.in1) hA it a hai its.toArray
    rw [hl]
    exact WalksT.enumerateD D e hei (by simp [hei,hea]) (by simp)
  case obj=>
    obtain ⟨o,ho,_,hd⟩:=st.2
    exact QW st.1 ho ⟨_,hd⟩
  case keep=>
    obtain ⟨⟨old,q⟩,o,ho,r⟩:=st
    exact ⟨⟨old,k e (by simp) _ q⟩,o,k it (by simp) o ho,r⟩
  case into=>
    subst hK
    obtain ⟨its,r,p,_⟩:=I.tuple hc
    exact ⟨its,r,st.1,st.2,p⟩
  case self=>exact NU (f:=fun i h=>h.IsTupleIter it a i) A i s Q E st h
section
variable {X:Cx} {es:List Expr} {k0:Nat} {tpos:Pos}
def Um (K:PySem.W.Frag) (ta:TA):TI:=fun σ H R=>ta σ H fun vs H1=>∃ a xs,vs=[.ref a] /\ SqT K H1 a xs /\ R (ItP K xs.length (Ff xs) fun K H=>SqT K H a xs) H1
theorem Pp {a:Expr} {ta:TA} {p pos:Pos} (hg:Gl X "enumerate") (hm:X.mg "enumerate" = none) (ha:PA X [a] ta) (hs:starEach [a] X.env=[(false,eval a X.env)]:=by rfl):PI X (.Tuple es k0 tpos) (.Call (.Name "enumerate" p) [a] [] pos) (Um X.K ta):=by
  intro pins s σ H R I h
  refine Call_ (Fb I hg hm J3 (PyProof.Rows.callWith_type1 (thn (ha pos pins s σ H _ I h) fun us s1 ⟨vs,H1,I1,r1,q1⟩=>?_) hs rfl))
  obtain ⟨l,xs,ev,hq,q⟩:=q1
  subst ev
  obtain ⟨u,eu,ru⟩:=FM r1
  subst eu
  cases ru
  obtain ⟨its,rv,pl,hz⟩:=I1.tuple hq
  have lt:l < s1.heap.objs.size:=by obtain ⟨o,e,_⟩:=pl; exact Heap.lt_size e
  have new:=QV (.ref l) { cls:=.type "tuple_iterator",data:=.fields #[.ref l,.int 0 0] } (fun h=>h.IsTuple l its.toArray) (fun _ _ _ _ _ _ g z=>wpAny_pyIter_tuple g z)
  refine callType_new F.called_enumerate (by decide) (F.typeCall_enumerate_1 _) (F.newCall_enumerate_1 _) (fun obj=>F.args_object_init_2 obj _) F.entry_enumerate_new new ⟨pl,?_⟩
  generalize hG:s1.heap.push { cls:=.type "tuple_iterator",data:=.fields #[.ref l,.int 0 0] }=G
  have hsz:G.objs.size=s1.heap.objs.size + 1:=by rw [← hG]; exact Heap.size_push ..
  have at_e:(G.push (Gp s1.heap.objs.size)).get? (s1.heap.objs.size + 1)=some (Gp s1.heap.objs.size):=by rw [← hsz]; exact Heap.get?_push_size _ rfl
  have he:IsEnum (G.push (Gp s1.heap.objs.size)) (s1.heap.objs.size + 1) s1.heap.objs.size 0 .none:=at_e
  have at_i:(G.push (Gp s1.heap.objs.size)).IsTupleIter s1.heap.objs.size l 0:=⟨_,Heap.get?_push_of_some _ (hG ▸ Heap.get?_push_size _ rfl),rfl,rfl⟩
  show _ /\ _
  rw [hsz]
  refine ⟨⟨_,at_e,rfl⟩,wpAny_pyIter_enum he ?_⟩
  refine ⟨s1.heap.objs.size + 1,[s1.heap.objs.size + 1,s1.heap.objs.size],fun i h=>(∃ old,IsEnum h (s1.heap.objs.size + 1) s1.heap.objs.size i old) /\ h.IsTupleIter s1.heap.objs.size l i,_,H1,rfl,I1.kept (t':=s1.toks) fun b o x=>Heap.get?_push_of_some _ (hG ▸ Heap.get?_push_of_some _ x),?_,⟨⟨_,he⟩,at_i⟩,O4 I1,q⟩
  exact MC l _ _ xs (Nat.succ_ne_self _) (Nat.ne_of_gt (Nat.lt_succ_of_lt lt)) (Nat.ne_of_lt lt)
end
end L2
namespace Mi
open PySem L2
section
variable {X:Cx} {a:Expr} {es:List Expr} {pos:Pos}
def O5:List D->M (List D)
  | [.tup ds]=>ret ds
  | _=>BP
def FA (m:Sl->M (List D)):Sl->M (List D):=fun τ=>bnd (m τ) fun as=>bnd (O5 as) fun ds=>ret (B1 0 ds)
theorem EK {p tpos:Pos} {k0:Nat} {m:Sl->M (List D)} (hm:X.mg "enumerate" = none) (ha:RA X [a] m) (hg:Gl X "enumerate" := by rfl) (hs:starEach [a] X.env=[(false,eval a X.env)]:=by exact BS rfl):RI X (.Tuple es k0 tpos) (.Call (.Name "enumerate" p) [a] [] pos) (FA m):=
  RI.wk (Pp hg hm ha.pe hs) fun σ H R q=>by
    obtain ⟨ι,μ,τ,ds,μ',R0,S,e,q⟩:=q
    obtain ⟨xs,μ1,e1,e2⟩:=AK e
    obtain ⟨zs,μ2,e3,e4⟩:=AK e2
    cases e4
    refine ⟨ι,μ,τ,xs,μ1,R0,S,e1,fun ι1 H1 E1 R1 vs i1=>?_⟩
    unfold O5 at e3
    split at e3
    . cases e3
      obtain ⟨v,rfl,i2⟩:=FL i1
      unfold Is at i2
      obtain ⟨p,ws,rfl,h1,h2⟩:=i2
      exact ⟨p,ws,rfl,h1,q ι1 H1 E1 R1 _ (Ib (fun ι' μ' H' E _=>GS E h1) h2)⟩
    . cases e3
end
end Mi
namespace L2
open PySem PySem.Spec PyProof.Rows Sem
def TwoAt (h:Heap) (T:Addr) (a b:Value):Prop:=∃ n,h.get? T=some { cls:=.type "tuple",data:=.seq #[a,b] n }
abbrev DU (TI TO:Addr) (f0:Value):Obj:={ cls:=.type "zip",data:=.fields #[f0,.bool false,.bool false,.ref TI,.ref TO] }
theorem TwoAt.keep {h h':Heap} {T:Addr} {a b:Value} (x:TwoAt h T a b) (k:∀ o,h.get? T=some o->h'.get? T=some o):TwoAt h' T a b:=by
  obtain ⟨n,e⟩:=x
  exact ⟨n,k _ e⟩
section
variable {prog:Program} {w:World} {A:Around} {E:Value->Shared->Prop} {s:Shared}
theorem Mv {T:Addr} {a b x c d:Value} {k:Nat} {Q:Unit->Shared->Prop} (t:TwoAt s.heap T a b) (sh:(#[a,b]:Array Value).setIfInBounds k x = #[c,d]) (h:∀ h',TwoAt h' T c d->Heap.SameBut T s.heap h'->Q () { s with heap:=h' }) :
    wpAny (model prog w) A (updateSeq T fun xs=>xs.setIfInBounds k x) Q E s:=by
  obtain ⟨n,e⟩:=t
  refine wpAny_updateSeq e rfl (h _ ⟨n,?_⟩ (Heap.SameBut.update ..)) (by simp [sizeLine]) (by simp [sizeLine])
  rw [Heap.get?_update_self _ e rfl]
  show some ({ cls:=.type "tuple",data:=.seq ((#[a,b]:Array Value).setIfInBounds k x) (if (((#[a,b]:Array Value).setIfInBounds k x).size == (#[a,b]:Array Value).size)=true then n else n + 1) }:Obj)=_
  rw [sh]
  rfl
structure JC (z TI TO i1 i2:Addr) (f1 f2:List Addr):Prop where
  zTI:z ≠ TI
  zTO:z ≠ TO
  io:TI ≠ TO
  z1:z ∉ f1
  z2:z ∉ f2
  o1:TO ∉ f1
  o2:TO ∉ f2
  n1:TI ≠ i1
  n2:TI ≠ i2
  m1:i1 ∈ f1
  m2:i2 ∈ f2
  x12:i1 ∉ f2
  x21:i2 ∉ f1
theorem Op {z TI TO i1 i2:Addr} {n k:Nat} {a b:Value} {P1 P2:Nat->Value->Prop} {S1 S2:Nat->Heap->Prop} {f1 f2:List Addr} {Q:Value->Shared->Prop} (ap:JC z TI TO i1 i2 f1 f2)
    (D1:Draws prog w A.in1 i1 f1 n P1 S1) (D2:Draws prog w A.in1 i2 f2 n P2 S2) (hk:k < n)
    (hz:s.heap.get? z=some (DU TI TO .none)) (hI:TwoAt s.heap TI (.ref i1) (.ref i2)) (hO:TwoAt s.heap TO a b) (s1:S1 k s.heap) (s2:S2 k s.heap)
    (q:∀ x y T h' tk,P1 k x->P2 k y->s.heap.objs.size <= T->h'.IsTuple T #[x,y]->h'.get? z=some (DU TI TO (rawInt T))->TwoAt h' TI (.ref i1) (.ref i2)->TwoAt h' TO x y->S1 (k + 1) h'->S2 (k + 1) h'->(∀ c o,c ≠ z->c ≠ TO->c ≠ i1->c ≠ i2->s.heap.get? c=some o->h'.get? c=some o)->Q (.ref T) { s with heap:=h',toks:=tk }) :
    wpAny (model prog w) A.in1 (Builtin.«zip.__next__» ⟨[.ref z],[]⟩) (fun fin s'=>∃ v,fin=.done (.ret v) /\ Q v s') E s:=by
  obtain ⟨nI,eI⟩:=id hI
  refine wpAny_bind (m:=field (.ref z) 2) (wpAny_field hz rfl (x:=.bool false) rfl ?_)
  refine wpAny_bind (m:=field (.ref z) 3) (wpAny_field hz rfl (x:=.ref TI) rfl ?_)
  refine wpAny_bind (m:=seqItems? (.ref TI)) (wpAny_seqItems eI rfl ?_)
  refine C1 (by simp) ?_
  refine wpAny_bind (m:=Builtin.SmallTypes.ownedTupleIsFree (.ref z)) ?_
  unfold Builtin.SmallTypes.ownedTupleIsFree
  refine wpAny_bind (m:=field (.ref z) 0) (wpAny_field hz rfl (x:=.none) rfl (wpAny_pure ?_))
  rw [if_pos rfl]
  refine wpAny_bind (wpAny_rule ?_)
  refine wpAny_bind (m:=field (.ref z) 4) (wpAny_field hz rfl (x:=.ref TO) rfl ?_)
  refine wpAny_bind (wpAny_setField_rec hz (by simp) fun h1 z1 b1=>?_)
  have k1:∀ c o,c ≠ z->s.heap.get? c=some o->h1.get? c=some o:=fun c o hc e=>(b1.2 c hc).trans e
  have z1':h1.get? z=some (DU TI TO .ellipsis):=z1
  have hI1:=hI.keep (h':=h1) fun o e=>k1 TI o ap.zTI.symm e
  have hO1:=hO.keep (h':=h1) fun o e=>k1 TO o ap.zTO.symm e
  have s11:=D1.frame _ _ h1 s1 fun c hc o e=>k1 c o (fun y=>ap.z1 (y ▸ hc)) e
  have s21:=D2.frame _ _ h1 s2 fun c hc o e=>k1 c o (fun y=>ap.z2 (y ▸ hc)) e
  refine wpAny_bind (m:=forIn [(Value.ref i1,0),(Value.ref i2,1)] _ _) ?_
  rw [List.forIn_cons]
  refine wpAny_bind (wpAny_bind (wpAny_onRaise (wpAny_bind (D1.item k { s with heap:=h1 } _ _ hk s11 fun x h2 t2 px s12 b2=>wpAny_pure ?_))))
  have k2:∀ c o,c ≠ i1->h1.get? c=some o->h2.get? c=some o:=fun c o hc e=>(b2.2 c hc).trans e
  have ne1:∀ {c:Addr},c ∉ f1->c ≠ i1:=fun hc y=>hc (y ▸ ap.m1)
  have ne2:∀ {c:Addr},c ∉ f2->c ≠ i2:=fun hc y=>hc (y ▸ ap.m2)
  have hO2:=hO1.keep (h':=h2) fun o e=>k2 TO o (ne1 ap.o1) e
  have hI2:=hI1.keep (h':=h2) fun o e=>k2 TI o ap.n1 e
  have z2:=k2 z _ (ne1 ap.z1) z1'
  have s22:=D2.frame _ _ h2 s21 fun c hc o e=>k2 c o (fun y=>ap.x12 (y ▸ hc)) e
  obtain ⟨nO,eO⟩:=id hO2
  refine wpAny_bind (m:=seqItems? (.ref TO)) (wpAny_seqItems eO rfl ?_)
  refine wpAny_bind (Mv (s:={ s with heap:=h2,toks:=t2 }) (c:=x) (d:=b) hO2 rfl fun h3 hO3 b3=>wpAny_bind (wpAny_letGo (wpAny_pure ?_)))
  have k3:∀ c o,c ≠ TO->h2.get? c=some o->h3.get? c=some o:=fun c o hc e=>(b3.2 c hc).trans e
  have hI3:=hI2.keep (h':=h3) fun o e=>k3 TI o ap.io e
  have z3:=k3 z _ ap.zTO z2
  have s13:=D1.frame _ _ h3 s12 fun c hc o e=>k3 c o (fun y=>ap.o1 (y ▸ hc)) e
  have s23:=D2.frame _ _ h3 s22 fun c hc o e=>k3 c o (fun y=>ap.o2 (y ▸ hc)) e
  show wpAny _ _ (forIn [(Value.ref i2,1)] _ _) _ _ _
  rw [List.forIn_cons]
  refine wpAny_bind (wpAny_bind (wpAny_onRaise (wpAny_bind (D2.item k { s with heap:=h3,toks:=t2 } _ _ hk s23 fun y h4 t4 py s24 b4=>wpAny_pure ?_))))
  have k4:∀ c o,c ≠ i2->h3.get? c=some o->h4.get? c=some o:=fun c o hc e=>(b4.2 c hc).trans e
  have hO4:=hO3.keep (h':=h4) fun o e=>k4 TO o (ne2 ap.o2) e
  have hI4:=hI3.keep (h':=h4) fun o e=>k4 TI o ap.n2 e
  have z4:=k4 z _ (ne2 ap.z2) z3
  have s14:=D1.frame _ _ h4 s13 fun c hc o e=>k4 c o (fun y=>ap.x21 (y ▸ hc)) e
  obtain ⟨nO4,eO4⟩:=id hO4
  refine wpAny_bind (m:=seqItems? (.ref TO)) (wpAny_seqItems eO4 rfl ?_)
  refine wpAny_bind (Mv (s:={ s with heap:=h4,toks:=t4 }) (c:=x) (d:=y) hO4 rfl fun h5 hO5 b5=>wpAny_bind (wpAny_letGo (wpAny_pure ?_)))
  have k5:∀ c o,c ≠ TO->h4.get? c=some o->h5.get? c=some o:=fun c o hc e=>(b5.2 c hc).trans e
  have hI5:=hI4.keep (h':=h5) fun o e=>k5 TI o ap.io e
  have z5:=k5 z _ ap.zTO z4
  have s15:=D1.frame _ _ h5 s14 fun c hc o e=>k5 c o (fun y=>ap.o1 (y ▸ hc)) e
  have s25:=D2.frame _ _ h5 s24 fun c hc o e=>k5 c o (fun y=>ap.o2 (y ▸ hc)) e
  show wpAny _ _ (forIn [] _ _) _ _ _
  rw [List.forIn_nil]
  refine wpAny_pure ?_
  obtain ⟨nO5,eO5⟩:=id hO5
  refine wpAny_bind (m:=seqItems? (.ref TO)) (wpAny_seqItems eO5 rfl ?_)
  refine wpAny_bind (wpAny_newTuple ?_ (by simp [sizeLine]))
  have kp:∀ c o,h5.get? c=some o->(h5.push { cls:=.type "tuple",data:=.seq #[x,y] }).get? c=some o:=fun c o e=>Heap.get?_push_of_some _ e
  unfold Builtin.SmallTypes.ownedTupleHandOut
  refine wpAny_bind (wpAny_bind (wpAny_setField_rec (s:={ s with heap:=h5.push { cls:=.type "tuple",data:=.seq #[x,y] },toks:=t4 }) (kp z _ z5) (by simp) fun h6 z6 b6=>wpAny_setField_rec (s:={ s with heap:=h6,toks:=t4 }) z6 (by simp) fun h7 z7 b7=>wpAny_pure ⟨_,rfl,?_⟩))
  have sz:h5.objs.size=s.heap.objs.size:=by rw [b5.1,b4.1,b3.1,b2.1,b1.1]
  have zlt:z < h5.objs.size:=Heap.lt_size z5
  have k7:∀ c o,c ≠ z->h5.get? c=some o->h7.get? c=some o:=fun c o hc e=>(b7.2 c hc).trans ((b6.2 c hc).trans (kp c o e))
  refine q x y h5.objs.size h7 t4 px py (by rw [sz]; exact Nat.le_refl _) ?_ z7 (hI5.keep fun o e=>k7 TI o ap.zTI.symm e) (hO5.keep fun o e=>k7 TO o ap.zTO.symm e) (D1.frame _ _ h7 s15 fun c hc o e=>k7 c o (fun y=>ap.z1 (y ▸ hc)) e) (D2.frame _ _ h7 s25 fun c hc o e=>k7 c o (fun y=>ap.z2 (y ▸ hc)) e) ?_
  . refine ⟨{ cls:=.type "tuple",data:=.seq #[x,y] },?_,rfl,0,rfl⟩
    have ne:h5.objs.size ≠ z:=Nat.ne_of_gt zlt
    exact (b7.2 _ ne).trans ((b6.2 _ ne).trans (Heap.get?_push_size _ rfl))
  . intro c o c1 c2 c3 c4 e
    exact k7 c o c1 (k5 c o c2 (k4 c o c4 (k3 c o c2 (k2 c o c3 (k1 c o c1 e)))))
theorem Oo {z TI TO i1 i2:Addr} {n:Nat} {a b:Value} {P1:Nat->Value->Prop} {S1:Nat->Heap->Prop} {f1 f2:List Addr} {Q:PySem.Fin->Shared->Prop} (ap:JC z TI TO i1 i2 f1 f2) (D1:Draws prog w A.in1 i1 f1 n P1 S1)
    (hz:s.heap.get? z=some (DU TI TO .none)) (hI:TwoAt s.heap TI (.ref i1) (.ref i2)) (hO:TwoAt s.heap TO a b) (s1:S1 n s.heap)
    (q:∀ h' e,(∀ c o,c ≠ z->c ≠ i1->s.heap.get? c=some o->h'.get? c=some o)->(∃ o,h'.get? e=some o /\ o.cls=.type "StopIteration")->E (.ref e) { s with heap:=h' }) :
    wpAny (model prog w) A.in1 (Builtin.«zip.__next__» ⟨[.ref z],[]⟩) Q E s:=by
  obtain ⟨nI,eI⟩:=id hI
  refine wpAny_bind (m:=field (.ref z) 2) (wpAny_field hz rfl (x:=.bool false) rfl (wpAny_bind (m:=field (.ref z) 3) (wpAny_field hz rfl (x:=.ref TI) rfl (wpAny_bind (m:=seqItems? (.ref TI)) (wpAny_seqItems eI rfl ?_)))))
  refine C1 (by simp) (wpAny_bind (m:=Builtin.SmallTypes.ownedTupleIsFree (.ref z)) ?_)
  unfold Builtin.SmallTypes.ownedTupleIsFree
  refine wpAny_bind (m:=field (.ref z) 0) (wpAny_field hz rfl (x:=.none) rfl (wpAny_pure ?_))
  rw [if_pos rfl]
  refine wpAny_bind (wpAny_rule (wpAny_bind (m:=field (.ref z) 4) (wpAny_field hz rfl (x:=.ref TO) rfl (wpAny_bind (wpAny_setField_rec hz (by simp) fun h1 z1 b1=>?_)))))
  have s11:=D1.frame _ _ h1 s1 fun c hc o e=>(b1.2 c (fun y=>ap.z1 (y ▸ hc))).trans e
  refine wpAny_bind (m:=forIn [(Value.ref i1,0),(Value.ref i2,1)] _ _) ?_
  rw [List.forIn_cons]
  refine wpAny_bind (wpAny_bind (wpAny_onRaise (wpAny_bind (D1.done { s with heap:=h1 } _ _ s11 fun h2 e eb so=>?_))))
  have zne:z ≠ i1:=fun y=>ap.z1 (y ▸ ap.m1)
  have z2:h2.get? z=some (DU TI TO .ellipsis):=eb z _ zne z1
  obtain ⟨oe,he,hce⟩:=so
  refine wpAny_setField_rec (s:={ s with heap:=h2 }) z2 (by simp) fun h3 z3 b3=>q h3 e (fun c o c1 c2 x=>(b3.2 c c1).trans (eb c o c2 ((b1.2 c c1).trans x))) ⟨oe,?_,hce⟩
  have ez:e ≠ z:=fun y=>by
    rw [y,z2] at he
    cases he
    exact absurd (Value.type.inj (show Value.type "zip" = Value.type "StopIteration" from hce)) (by decide)
  exact (b3.2 e ez).trans he
theorem Hv {z TI TO:Addr} {f0:Value} {Q:Value->Shared->Prop} (hz:s.heap.get? z=some (DU TI TO f0)) (h:Q (.ref z) s):wpAny (model prog w) A (pyIter (.ref z)) Q E s:=wpAny_pyIter_zip hz h
theorem Nh (hh:A.handled=none) {z TI TO i1 i2:Addr} {n:Nat} {P1 P2:Nat->Value->Prop} {S1 S2:Nat->Heap->Prop} {f1 f2:List Addr} (ap:JC z TI TO i1 i2 f1 f2)
    (D1:Draws prog w A.in1 i1 f1 n P1 S1) (D2:Draws prog w A.in1 i2 f2 n P2 S2) :
    WalksT prog w A z (z :: TI :: TO :: (f1 ++ f2)) [z,TI,TO,i1,i2] n (fun k vals=>∃ x y,P1 k x /\ P2 k y /\ vals = #[x,y])
      (fun k h=>h.get? z=some (DU TI TO .none) /\ TwoAt h TI (.ref i1) (.ref i2) /\ (∃ a b,TwoAt h TO a b) /\ S1 k h /\ S2 k h)
      (fun k T h=>h.get? z=some (DU TI TO (rawInt T)) /\ TwoAt h TI (.ref i1) (.ref i2) /\ (∃ a b,TwoAt h TO a b) /\ S1 (k + 1) h /\ S2 (k + 1) h /\ T ≠ z /\ T ≠ TI /\ T ≠ TO /\ T ≠ i1 /\ T ≠ i2) where
  sub:=fun c hc=>by
    have hc':c=z ∨ c=TI ∨ c=TO ∨ c=i1 ∨ c=i2:=by simpa using hc
    rcases hc' with e | e | e | e | e <;> subst e
    . simp
    . simp
    . simp
    . simp [ap.m1]
    . simp [ap.m2]
  frame:=fun k h h' st kp=>by
    obtain ⟨a1,a2,⟨a,b,a3⟩,a4,a5⟩:=st
    exact ⟨kp z (by simp) _ a1,a2.keep fun o e=>kp TI (by simp) o e,⟨a,b,a3.keep fun o e=>kp TO (by simp) o e⟩,D1.frame _ _ _ a4 fun c hc o e=>kp c (by simp [hc]) o e,D2.frame _ _ _ a5 fun c hc o e=>kp c (by simp [hc]) o e⟩
  item:=fun k s Q E hk st q=>by
    obtain ⟨a1,a2,⟨a,b,a3⟩,a4,a5⟩:=st
    have ty:s.TypeIs (.ref z) "zip" := ⟨_,a1,rfl⟩
    unfold pyNext
    refine wpAny_bind (wpAny_attempt (wpAny_callSpecial?_slot (name:=Str.ofString "__next__") ty F.slot_zip_next (wpAny_call_entry F.slot_zip_next ty F.entry_zip_next (Op ap D1 D2 hk a1 a2 a3 a4 a5 fun x y T h' tk px py hT tup b1 b2 b3 b4 b5 kp=>?_) (F.args_zip_next_1 _))))
    have lt:∀ {c:Addr} {o:Obj},s.heap.get? c=some o->T ≠ c:=fun e=>Nat.ne_of_gt (Nat.lt_of_lt_of_le (Heap.lt_size e) hT)
    obtain ⟨o1,e1⟩:=D1.live _ _ a4
    obtain ⟨o2,e2⟩:=D2.live _ _ a5
    obtain ⟨n3,e3⟩:=a3
    obtain ⟨n4,e4⟩:=id a2
    refine wpAny_pure (q T #[x,y] h' tk ⟨x,y,px,py,rfl⟩ hT tup ⟨b1,b2,⟨x,y,b3⟩,b4,b5,lt a1,lt e4,lt e3,lt e1,lt e2⟩ fun c o hc e=>?_)
    exact kp c o (fun z=>hc (by simp [z])) (fun z=>hc (by simp [z])) (fun z=>hc (by simp [z])) (fun z=>hc (by simp [z])) e
  go:=fun es k0 pos k T s Q E st q=>by
    obtain ⟨a1,a2,a3,a4,a5,t1,t5,t2,t3,t4⟩:=st
    refine wpAny_letOwnedTupleGo_zip a1 fun h' hz' sb=>?_
    have kp:∀ c o,c ≠ z->s.heap.get? c=some o->h'.get? c=some o:=fun c o hc e=>(sb.2 c hc).trans e
    obtain ⟨a,b,a3⟩:=a3
    refine q h' ⟨hz',a2.keep fun o e=>kp TI o ap.zTI.symm e,⟨a,b,a3.keep fun o e=>kp TO o ap.zTO.symm e⟩,D1.frame _ _ _ a4 fun c hc o e=>kp c o (fun y=>ap.z1 (y ▸ hc)) e,D2.frame _ _ _ a5 fun c hc o e=>kp c o (fun y=>ap.z2 (y ▸ hc)) e⟩ fun c o hc e=>kp c o (fun y=>hc (by simp [y])) e
  apart:=fun k T h st hT=>by
    obtain ⟨_,_,_,_,_,t1,t5,t2,t3,t4⟩:=st
    have hT':T=z ∨ T=TI ∨ T=TO ∨ T=i1 ∨ T=i2:=by simpa using hT
    rcases hT' with e | e | e | e | e
    . exact t1 e
    . exact t5 e
    . exact t2 e
    . exact t3 e
    . exact t4 e
  done:=fun s Q E st q=>by
    obtain ⟨a1,a2,⟨a,b,a3⟩,a4,a5⟩:=st
    have ty:s.TypeIs (.ref z) "zip" := ⟨_,a1,rfl⟩
    unfold pyNext
    refine wpAny_bind (wpAny_attempt (wpAny_callSpecial?_slot (name:=Str.ofString "__next__") ty F.slot_zip_next (wpAny_call_entry F.slot_zip_next ty F.entry_zip_next (Oo ap D1 a1 a2 a3 a4 fun h' e kp so=>?_) (F.args_zip_next_1 _))))
    obtain ⟨o,ho,hc⟩:=so
    refine wpAny_bind (wpAny_isInstance (T := "StopIteration") (b:=true) ⟨o,ho,hc⟩ isSubtype_stop (wpAny_pure (q h' s.toks fun c o hc e=>?_)))
    exact kp c o (fun y=>hc (by simp [y])) (fun y=>hc (by simp [y])) e
  self:=fun k s Q E st h=>Hv st.1 h
end
end L2
namespace L2
open PySem PySem.Spec PyProof.Rows
abbrev G3 (a b:Value):Obj:={ cls:=.type "tuple",data:=.seq #[a,b] }
abbrev zh2 (h:Heap) (o1 o2:Obj):Heap:=(h.push o1).push o2
abbrev zh4 (h:Heap) (o1 o2:Obj):Heap:=((zh2 h o1 o2).push (G3 (.ref h.objs.size) (.ref (h.push o1).objs.size))).push (G3 .none .none)
abbrev zh5 (h:Heap) (o1 o2:Obj):Heap:=(zh4 h o1 o2).push (DU (zh2 h o1 o2).objs.size ((zh2 h o1 o2).push (G3 (.ref h.objs.size) (.ref (h.push o1).objs.size))).objs.size .none)
theorem Qm (v1 v2:Value) (o1 o2:Obj) (g1 g2:Heap->Prop) (g2p:∀ h,g2 h->g2 (h.push o1))
    (w1:∀ (prog:Program) (w:World) (A:Around) (E:Value->Shared->Prop) (s:Shared) (Q:Value->Shared->Prop),g1 s.heap->Q (.ref s.heap.objs.size) { s with heap:=s.heap.push o1 }->wpAny (model prog w) A (pyIter v1) Q E s)
    (w2:∀ (prog:Program) (w:World) (A:Around) (E:Value->Shared->Prop) (s:Shared) (Q:Value->Shared->Prop),g2 s.heap->Q (.ref s.heap.objs.size) { s with heap:=s.heap.push o2 }->wpAny (model prog w) A (pyIter v2) Q E s) :
    Meets (Builtin.«zip.__new__» ⟨[.type "zip",v1,v2],[]⟩) (fun _ R s=>g1 s.heap /\ g2 s.heap /\ R (.ok (.ret (.ref (zh4 s.heap o1 o2).objs.size))) { s with heap:=zh5 s.heap o1 o2 }):=by
  refine .of_wp fun prog w A R s ⟨x1,x2,q⟩=>?_
  have own:=sub_zip
  have walk1:∀ (A:Around) (E:Value->Shared->Prop) (Q:Value->Shared->Prop),Q (.ref s.heap.objs.size) { s with heap:=s.heap.push o1 }->wpAny (model prog w) A (pyIter v1) Q E s:=fun A E Q z=>w1 prog w A E s Q x1 z
  have walk2:∀ (A:Around) (E:Value->Shared->Prop) (Q:Value->Shared->Prop),Q (.ref (s.heap.push o1).objs.size) { s with heap:=zh2 s.heap o1 o2 }->wpAny (model prog w) A (pyIter v2) Q E { s with heap:=s.heap.push o1 }:=fun A E Q z=>w2 prog w A E { s with heap:=s.heap.push o1 } Q (g2p _ x2) z
  obtain ⟨hp,gs,dr,tk,os⟩:=s
  wp_walk using walk1,walk2
  exact ⟨_,rfl,q⟩
def J9 (xs ys:List V) (i:Nat):List V:=[xs.getD i .non,ys.getD i .non]
theorem Nd {xs ys:List V} {its jts:List Value} (r:Vals xs its) (r2:Vals ys jts) {i:Nat} {vals:Array Value} (h:∃ x y,its.toArray[i]? = some x /\ jts.toArray[i]? = some y /\ vals = #[x,y]):Vals (J9 xs ys i) vals.toList:=by
  obtain ⟨x,y,hx,hy,rfl⟩:=h
  have one:∀ {zs:List V} {us:List Value} {u:Value},Vals zs us->us.toArray[i]? = some u->RelV (zs.getD i .non) u:=fun {zs us u} rz hu=>by
    have hu':us[i]? = some u:=by simpa using hu
    have hl:=rz.length
    have lt:i < zs.length:=by have:=(List.getElem?_eq_some_iff.mp hu').1; omega
    obtain ⟨u',e1,e2⟩:=rz.get (show zs[i]? = some zs[i] by simp [lt])
    rw [hu'] at e1; cases e1
    simpa [List.getD,lt] using e2
  exact .cons (one r hx) (.cons (one r2 hy) .nil)
theorem Nk {P:Program} {w:World} {K:PySem.W.Frag} {es:List Expr} {k0:Nat} {pos:Pos} (a b z TI TO i1 i2:Addr) (xs ys:List V) (hl:ys.length=xs.length) (ap:JC z TI TO i1 i2 [i1,a] [i2,b]) (h1:a ≠ i1) (h2:b ≠ i2) :
    JR P w K (.Tuple es k0 pos) (ItP K xs.length (J9 xs ys) fun K H=>SqT K H a xs /\ SqT K H b ys) [z,TI,TO,i1,i2] z (fun i h=>h.get? z=some (DU TI TO .none) /\ TwoAt h TI (.ref i1) (.ref i2) /\ (∃ c d,TwoAt h TO c d) /\ h.IsTupleIter i1 a i /\ h.IsTupleIter i2 b i):=by
  refine F7 (ι:=List Value × List Value) (good:=fun p=>Vals xs p.1 /\ Vals ys p.2) (Pt:=fun p i vals=>∃ x y,p.1.toArray[i]? = some x /\ p.2.toArray[i]? = some y /\ vals = #[x,y])
    (Sw:=fun p i h=>h.get? z=some (DU TI TO .none) /\ TwoAt h TI (.ref i1) (.ref i2) /\ (∃ c d,TwoAt h TO c d) /\ (h.IsTupleIter i1 a i /\ h.IsTuple a p.1.toArray) /\ (h.IsTupleIter i2 b i /\ h.IsTuple b p.2.toArray))
    (Mid:=fun p i T h=>h.get? z=some (DU TI TO (rawInt T)) /\ TwoAt h TI (.ref i1) (.ref i2) /\ (∃ c d,TwoAt h TO c d) /\ (h.IsTupleIter i1 a (i + 1) /\ h.IsTuple a p.1.toArray) /\ (h.IsTupleIter i2 b (i + 1) /\ h.IsTuple b p.2.toArray) /\ T ≠ z /\ T ≠ TI /\ T ≠ TO /\ T ≠ i1 /\ T ≠ i2)
    (fp:=z :: TI :: TO :: ([i1,a] ++ [i2,b]))
    (fun A hA p r=>?walk) List.mem_cons_self (fun p i vals r h=>Nd r.1 r.2 h) (fun i=>(by show 2 <= sizeLine; decide)) (fun i h st=>?obj) (fun i h h' st k=>?keep) (fun X pins σ H s i hP hw hK I hc st=>?into) (fun p i h st=>⟨st.1,st.2.1,st.2.2.1,st.2.2.2.1.1,st.2.2.2.2.1⟩) (fun A i s Q E st h=>Hv st.1 h)
  case walk=>
    have l1:p.1.toArray.size=xs.length:=by rw [List.size_toArray]; exact r.1.length.symm
    have l2:p.2.toArray.size=xs.length:=by rw [List.size_toArray,← hl]; exact r.2.length.symm
    have D1:=HL (prog:=P) (w:=w) (A:=A.in1) hA i1 a h1 p.1.toArray
    have D2:=HL (prog:=P) (w:=w) (A:=A.in1) hA i2 b h2 p.2.toArray
    rw [l1] at D1
    rw [l2] at D2
    exact Nh hA ap D1 D2
  case obj=>
    intro c hc
    obtain ⟨a1,⟨n1,a2⟩,⟨c0,d0,n2,a3⟩,⟨o4,a4,_,d4⟩,⟨o5,a5,_,d5⟩⟩:=st
    have hc':c=z ∨ c=TI ∨ c=TO ∨ c=i1 ∨ c=i2:=by simpa using hc
    rcases hc' with e | e | e | e | e <;> subst e
    . exact ⟨_,a1,fun v q=>by cases q⟩
    . exact ⟨_,a2,fun v q=>by cases q⟩
    . exact ⟨_,a3,fun v q=>by cases q⟩
    . exact ⟨_,a4,fun v q=>by rw [d4] at q; cases q⟩
    . exact ⟨_,a5,fun v q=>by rw [d5] at q; cases q⟩
  case keep=>
    obtain ⟨a1,a2,⟨c0,d0,a3⟩,⟨o4,a4,r4⟩,⟨o5,a5,r5⟩⟩:=st
    exact ⟨k z (by simp) _ a1,a2.keep fun o e=>k TI (by simp) o e,⟨c0,d0,a3.keep fun o e=>k TO (by simp) o e⟩,⟨o4,k i1 (by simp) o4 a4,r4⟩,⟨o5,k i2 (by simp) o5 a5,r5⟩⟩
  case into=>
    subst hK
    obtain ⟨c1,c2⟩:=hc
    obtain ⟨a1,a2,a3,a4,a5⟩:=st
    obtain ⟨its,r,p,_⟩:=I.tuple c1
    obtain ⟨jts,r2,p2,_⟩:=I.tuple c2
    exact ⟨(its,jts),⟨r,r2⟩,a1,a2,a3,⟨a4,p⟩,⟨a5,p2⟩⟩
section
variable {X:Cx} {es:List Expr} {k0:Nat} {tpos:Pos}
theorem Qi:bootBuiltins "zip" = some (.type "zip"):=by decide +kernel
def V9 (K:PySem.W.Frag) (ta:TA):TI:=fun σ H R=>ta σ H fun vs H1=>∃ a b xs ys,vs=[.ref a,.ref b] /\ SqT K H1 a xs /\ SqT K H1 b ys /\ ys.length=xs.length /\ R (ItP K xs.length (J9 xs ys) fun K H=>SqT K H a xs /\ SqT K H b ys) H1
end
end L2
namespace L2
open PySem PySem.Spec PyProof.Rows
section
variable {X:Cx} {es:List Expr} {k0:Nat} {tpos:Pos}
theorem nin {n l c:Nat} (h1:c ≠ n) (h2:c ≠ l):c ∉ ([n,l]:List Nat):=fun h=>by
  have h':c=n ∨ c=l:=by simpa using h
  exact h'.elim h1 h2
theorem zap (n l m:Nat) (hl:l < n) (hm:m < n):JC (n + 4) (n + 2) (n + 3) n (n + 1) [n,l] [n + 1,m] where
  zTI:=(by omega : ¬ (n + 4:Nat)=n + 2)
  zTO:=(by omega : ¬ (n + 4:Nat)=n + 3)
  io:=(by omega : ¬ (n + 2:Nat)=n + 3)
  z1:=nin (by omega) (by omega)
  z2:=nin (by omega) (by omega)
  o1:=nin (by omega) (by omega)
  o2:=nin (by omega) (by omega)
  n1:=(by omega : ¬ (n + 2:Nat)=n)
  n2:=(by omega : ¬ (n + 2:Nat)=n + 1)
  m1:=List.mem_cons_self
  m2:=List.mem_cons_self
  x12:=nin (by omega) (by omega)
  x21:=nin (by omega) (by omega)
theorem SU {pins:List (Addr × Obj)} {σ:St} {H:Hp} {s:Shared} (I:Inv X pins σ H s) (c:Addr) (hc:s.heap.objs.size <= c):F1 X pins H c:=I.fpOk hc (I.hok.fresh hc)
theorem Rh {a b:Expr} {ta:TA} {p pos:Pos} (hg:Gl X "zip") (hm:X.mg "zip" = none) (ha:PA X [a,b] ta) (hs:starEach [a,b] X.env=(false,eval a X.env) :: starEach [b] X.env) (hpl:(backTo pos (starEach [b] X.env)).any (·.1)=false) :
    PI X (.Tuple es k0 tpos) (.Call (.Name "zip" p) [a,b] [] pos) (V9 X.K ta):=by
  intro pins s σ H R I h
  refine Call_ (Fb I hg hm Qi (PyProof.Rows.callWith_type1 (thn (ha pos pins s σ H _ I h) fun us s1 ⟨vs,H1,I1,r1,q1⟩=>?_) hs hpl))
  obtain ⟨l,m,xs,ys,ev,hx,hy,hl,q⟩:=q1
  subst ev
  obtain ⟨u1,u2,eu,ru1,ru2⟩:=Vals.two r1
  subst eu
  cases ru1
  cases ru2
  obtain ⟨its,rx,px,_⟩:=I1.tuple hx
  obtain ⟨jts,ry,py,_⟩:=I1.tuple hy
  have ltl:l < s1.heap.objs.size:=by obtain ⟨o,e,_⟩:=px; exact Heap.lt_size e
  have ltm:m < s1.heap.objs.size:=by obtain ⟨o,e,_⟩:=py; exact Heap.lt_size e
  have new:=Qm (.ref l) (.ref m) { cls:=.type "tuple_iterator",data:=.fields #[.ref l,.int 0 0] } { cls:=.type "tuple_iterator",data:=.fields #[.ref m,.int 0 0] } (fun h=>h.IsTuple l its.toArray) (fun h=>h.IsTuple m jts.toArray) (fun h x=>x.push _) (fun _ _ _ _ _ _ g z=>wpAny_pyIter_tuple g z) (fun _ _ _ _ _ _ g z=>wpAny_pyIter_tuple g z)
  refine callType_new F.called_zip (by decide) (F.typeCall_zip_2 _ _) (F.newCall_zip_2 _ _) (fun obj=>F.args_object_init_3 obj _ _) F.entry_zip_new new ⟨px,py,?_⟩
  generalize ho1:({ cls:=.type "tuple_iterator",data:=.fields #[.ref l,.int 0 0] }:Obj)=o1
  generalize ho2:({ cls:=.type "tuple_iterator",data:=.fields #[.ref m,.int 0 0] }:Obj)=o2
  have n1:(s1.heap.push o1).objs.size=s1.heap.objs.size + 1:=Heap.size_push ..
  have n2:(zh2 s1.heap o1 o2).objs.size=s1.heap.objs.size + 2:=by rw [Heap.size_push,n1]
  have n3:((zh2 s1.heap o1 o2).push (G3 (.ref s1.heap.objs.size) (.ref (s1.heap.push o1).objs.size))).objs.size=s1.heap.objs.size + 3:=by rw [Heap.size_push,n2]
  have n4:(zh4 s1.heap o1 o2).objs.size=s1.heap.objs.size + 4:=by rw [Heap.size_push,n3]
  have kp:∀ c o,s1.heap.get? c=some o->(zh5 s1.heap o1 o2).get? c=some o:=fun c o e=>Heap.get?_push_of_some _ (Heap.get?_push_of_some _ (Heap.get?_push_of_some _ (Heap.get?_push_of_some _ (Heap.get?_push_of_some _ e))))
  have f1:o1.isFreed=false:=by rw [← ho1]; rfl
  have f2:o2.isFreed=false:=by rw [← ho2]; rfl
  have a1:(zh5 s1.heap o1 o2).get? s1.heap.objs.size=some o1:=Heap.get?_push_of_some _ (Heap.get?_push_of_some _ (Heap.get?_push_of_some _ (Heap.get?_push_of_some _ (Heap.get?_push_size _ f1))))
  have a2:(zh5 s1.heap o1 o2).get? (s1.heap.objs.size + 1)=some o2:=by rw [← n1]; exact Heap.get?_push_of_some _ (Heap.get?_push_of_some _ (Heap.get?_push_of_some _ (Heap.get?_push_size _ f2)))
  have a3:(zh5 s1.heap o1 o2).get? (s1.heap.objs.size + 2)=some (G3 (.ref s1.heap.objs.size) (.ref (s1.heap.objs.size + 1))):=by
    rw [← n1,← n2]
    exact Heap.get?_push_of_some _ (Heap.get?_push_of_some _ (Heap.get?_push_size _ rfl))
  have a4:(zh5 s1.heap o1 o2).get? (s1.heap.objs.size + 3)=some (G3 .none .none):=by
    rw [← n3]
    exact Heap.get?_push_of_some _ (Heap.get?_push_size _ rfl)
  have a5:(zh5 s1.heap o1 o2).get? (s1.heap.objs.size + 4)=some (DU (s1.heap.objs.size + 2) (s1.heap.objs.size + 3) .none):=by
    rw [← n4,← n2,← n3]
    exact Heap.get?_push_size _ rfl
  show _ /\ _
  rw [n4]
  refine ⟨⟨_,a5,rfl⟩,Hv a5 ?_⟩
  refine ⟨s1.heap.objs.size + 4,[s1.heap.objs.size + 4,s1.heap.objs.size + 2,s1.heap.objs.size + 3,s1.heap.objs.size,s1.heap.objs.size + 1],_,_,H1,rfl,I1.kept (t':=s1.toks) kp,
    Nk l m (s1.heap.objs.size + 4) (s1.heap.objs.size + 2) (s1.heap.objs.size + 3) s1.heap.objs.size (s1.heap.objs.size + 1) xs ys hl (zap _ l m ltl ltm) (Nat.ne_of_lt ltl) (Nat.ne_of_lt (Nat.lt_succ_of_lt ltm)),⟨a5,⟨_,a3⟩,⟨_,_,_,a4⟩,⟨o1,a1,by rw [← ho1],by rw [← ho1]; rfl⟩,⟨o2,a2,by rw [← ho2],by rw [← ho2]; rfl⟩⟩,fun c hc=>SU I1 c ?_,q⟩
  have hc':c=s1.heap.objs.size + 4 ∨ c=s1.heap.objs.size + 2 ∨ c=s1.heap.objs.size + 3 ∨ c=s1.heap.objs.size ∨ c=s1.heap.objs.size + 1:=by simpa using hc
  rcases hc' with e | e | e | e | e <;> subst e <;> first | exact Nat.le_refl _ | exact Nat.le_add_right _ _
end
end L2
namespace Mi
open PySem L2
section
variable {X:Cx} {a b:Expr} {es:List Expr} {pos:Pos}
def JE:List D->List D->List D
  | x :: xs,y :: ys=>.tup [x,y] :: JE xs ys
  | _,_=>[]
def Fk:List D->M (List D)
  | [.tup xs,.tup ys]=>fun μ=>if ys.length=xs.length then some (JE xs ys,μ) else none
  | _=>BP
def P5 (m:Sl->M (List D)):Sl->M (List D):=fun τ=>bnd (m τ) Fk
theorem Kz:∀ {xs ys:List D},ys.length=xs.length->(JE xs ys).length=xs.length
  | [],[],_=>rfl
  | x :: xs,y :: ys,h=>by unfold JE; simp at h ⊢; exact Kz h
  | [],_ :: _,h=>by simp at h
  | _ :: _,[],h=>by simp at h
theorem K0:∀ {xs ys:List D} {j:Nat} {d:D},(JE xs ys)[j]? = some d->∃ x y,xs[j]? = some x /\ ys[j]? = some y /\ d=.tup [x,y]
  | [],_,j,d,h=>by simp [JE] at h
  | _ :: _,[],j,d,h=>by simp [JE] at h
  | x :: xs,y :: ys,0,d,h=>by simp [JE] at h; exact ⟨x,y,rfl,rfl,h.symm⟩
  | x :: xs,y :: ys,j + 1,d,h=>by
    obtain ⟨x',y',h1,h2,h3⟩:=K0 (xs:=xs) (ys:=ys) (j:=j) (d:=d) (by simpa [JE] using h)
    exact ⟨x',y',by simpa using h1,by simpa using h2,h3⟩
theorem SL {K:PySem.W.Frag} {ι:Nat->Addr} {μ:Mh} {H:Hp} {vs ws:List V} {ds es:List D} {Cond:PySem.W.Frag->Hp->Prop} (st:∀ ι' (μ':Mh) H',Ext ι μ.length H ι' μ'.length H'->RelH K ι' μ' H'->Cond K H') (i:IsL K ι μ.length H ds vs) (j:IsL K ι μ.length H es ws) (hl:es.length=ds.length) :
    ItM K (ItP K vs.length (J9 vs ws) Cond) (JE ds es) ι μ H:=by
  intro ι' μ' H' E R
  have h:=st ι' μ' H' E R
  rw [Kz hl,← i.length]
  refine ⟨fun j hj=>⟨hj,h⟩,⟨rfl,h⟩,fun k x H2 d hd y=>?_⟩
  obtain ⟨T,hT,rfl,rfl⟩:=y
  obtain ⟨E2,R2⟩:=R.laid (.tup (J9 vs ws k)) hT
  refine ⟨E2,R2,?_⟩
  obtain ⟨x,y,h1,h2,rfl⟩:=K0 hd
  obtain ⟨v,ev,iv⟩:=(i.ext E).get h1
  obtain ⟨u,eu,iu⟩:=(j.ext E).get h2
  have es':J9 vs ws k=[v,u]:=by unfold J9; simp [List.getD,ev,eu]
  have key:IsL K ι' (List.length μ') (upd H' T (.tup (J9 vs ws k))) [x,y] [v,u]:=.cons (iv.ext E2) (.one (iu.ext E2))
  unfold Is
  exact ⟨T,_,rfl,SqT.of Bj,(congrArg (IsL K ι' (List.length μ') (upd H' T (.tup (J9 vs ws k))) [x,y]) es').mpr key⟩
theorem M9 {p tpos:Pos} {k0:Nat} {m:Sl->M (List D)} (hm:X.mg "zip" = none) (ha:RA X [a,b] m) (hg:Gl X "zip" := by rfl) (hs:starEach [a,b] X.env=(false,eval a X.env) :: starEach [b] X.env:=by exact BS rfl) (hpl:(backTo pos (starEach [b] X.env)).any (·.1)=false:=by exact CK rfl) :
    RI X (.Tuple es k0 tpos) (.Call (.Name "zip" p) [a,b] [] pos) (P5 m):=
  RI.wk (Rh hg hm ha.pe hs hpl) fun σ H R q=>by
    obtain ⟨ι,μ,τ,ds,μ',R0,S,e,q⟩:=q
    obtain ⟨xs,μ1,e1,e2⟩:=AK e
    refine ⟨ι,μ,τ,xs,μ1,R0,S,e1,fun ι1 H1 E1 R1 vs i1=>?_⟩
    unfold Fk at e2
    split at e2
    . rename_i xs ys
      split at e2
      . rename_i hl
        cases e2
        obtain ⟨v,u,rfl,i2,i3⟩:=SO i1
        unfold Is at i2 i3
        obtain ⟨p,ws,rfl,h1,h2⟩:=i2
        obtain ⟨p',ws',rfl,h1',h2'⟩:=i3
        exact ⟨p,p',ws,ws',rfl,h1,h1',by rw [h2.length,h2'.length]; exact hl,q ι1 H1 E1 R1 _ (SL (fun ι' μ' H' E _=>⟨GS E h1,GS E h1'⟩) h2 h2' hl)⟩
      . cases e2
    . cases e2
end
end Mi
namespace L2
open PySem PySem.Spec PyProof.Rows Sem
def CT (xs:List Str):List Str:=xs.foldl (fun ys x=>if x ∈ ys then ys else ys ++ [x]) []
theorem Je (xs:List Str) (x:Str):CT (xs ++ [x])=if x ∈ CT xs then CT xs else CT xs ++ [x]:=by
  unfold CT
  rw [List.foldl_append]
  rfl
theorem Jf:∀ (xs ys:List Str),(xs.foldl (fun ys x=>if x ∈ ys then ys else ys ++ [x]) ys).length <= ys.length + xs.length
  | [],ys=>Nat.le_refl _
  | x :: xs,ys=>by
    rw [List.foldl_cons]
    have:=Jf xs (if x ∈ ys then ys else ys ++ [x])
    split at this <;> simp at this ⊢ <;> (try split) <;> simp_all <;> omega
theorem Rv (xs:List Str):(CT xs).length <= xs.length:=by
  have:=Jf xs []
  simpa [CT] using this
section
variable {prog:Program} {w:World} {A:Around} {E:Value->Shared->Prop} {s:Shared}
theorem PH {S:Addr} {xs:List Str} {x:Str} {t:Tok} {Q:Bool->Shared->Prop} (hS:s.heap.SetOf (strKind prog w) S (fun k=>decide (k ∈ CT xs)) (CT xs).length) (room:xs.length + 2 < scanBound)
    (q:∀ b h' tk,Heap.SameBut S s.heap h'->h'.SetOf (strKind prog w) S (fun k=>decide (k ∈ CT (xs ++ [x]))) (CT (xs ++ [x])).length->Q b { s with heap:=h',toks:=tk }) :
    wpAny (model prog w) A (setAdd S (.str x t)) Q E s:=by
  unfold setAdd
  refine wpAny_holding (wpAny_bind ((strKind prog w).pyHash (strKind_is prog w x t) ?_))
  have le:=Rv xs
  refine wpAny_setAddHashed_of (knd:=strKind prog w) (s:={ s with toks:=s.toks + 1 }) (strKind_is prog w x t) rfl hS (by omega) fun h' sb hS'=>q _ h' _ sb ?_
  have e1:(fun k':Str=>decide (k' ∈ CT xs) || decide (k'=x))=fun k'=>decide (k' ∈ CT (xs ++ [x])):=by
    funext k'
    rw [Je]
    split
    . rename_i hx
      by_cases e:k'=x
      . subst e; simp [hx]
      . simp [e]
    . simp
  have e2:(if decide (x ∈ CT xs)=true then (CT xs).length else (CT xs).length + 1)=(CT (xs ++ [x])).length:=by
    rw [Je]
    by_cases hx:x ∈ CT xs <;> simp [hx]
  rw [e1,e2] at hS'
  exact hS'
theorem PK {I l S:Addr} {its:List Value} {ss:List Str} (hh:A.in1.handled=none) (hlI:l ≠ I) (hSI:S ≠ I) (hSl:S ≠ l) (rv:Vals (ss.map V.str) its) (room:ss.length + 2 < scanBound) {R:Result->Shared->Prop} :
    ∀ (m i:Nat) (s:Shared),ss.length - i=m->i <= ss.length->s.heap.IsListIter I l i->s.heap.IsList l its.toArray->s.heap.SetOf (strKind prog w) S (fun k=>decide (k ∈ CT (ss.take i))) (CT (ss.take i)).length->
      (∀ h' tk,(∀ c o,c ≠ S->c ≠ I->s.heap.get? c=some o->h'.get? c=some o)->h'.SetOf (strKind prog w) S (fun k=>decide (k ∈ CT ss)) (CT ss).length->R (.ok (.ret .none)) { s with heap:=h',toks:=tk })->
      codeAny (model prog w) A (.builtin "set.update.loop" ⟨[.ref S,.ref I],[]⟩) R s:=by
  have hl:its.length=ss.length:=by have:=rv.length; simpa using this.symm
  have W:=Walks.list (prog:=prog) (w:=w) hh I l hlI its.toArray
  intro m
  induction m with
  | zero=>
    intro i s hm hi hit hls hS q
    have ei:i=ss.length:=by omega
    subst ei
    refine codeAny_builtin PyProof.Rows.F.entry_set_update_loop ?_
    rw [Around.under_plainId PyProof.Rows.F.plain_set_update_loop _]
    refine wpAny_bind (m:=pyNext (.ref I)) (W.done s _ _ ⟨by rw [List.size_toArray,hl]; exact hit,hls⟩ fun h' tk kp=>wpAny_pure ?_)
    rw [List.take_length] at hS
    obtain ⟨o,es,ep,tb,ho,rest⟩:=hS
    exact q h' tk (fun c o _ c2 e=>kp c o (by simpa using c2) e) ⟨o,es,ep,tb,kp S o (by simpa using hSI) ho,rest⟩
  | succ m ih=>
    intro i s hm hi hit hls hS q
    have lt:i < ss.length:=by omega
    refine codeAny_builtin PyProof.Rows.F.entry_set_update_loop ?_
    rw [Around.under_plainId PyProof.Rows.F.plain_set_update_loop _]
    refine wpAny_bind (m:=pyNext (.ref I)) (W.item i s _ _ (by rw [List.size_toArray,hl]; exact lt) ⟨hit,hls⟩ fun v h' tk hv st kp=>?_)
    obtain ⟨u,eu,ru⟩:=rv.get (show (ss.map V.str)[i]? = some (V.str ss[i]) by simp [lt])
    have hv':its[i]? = some v:=by simpa using hv
    rw [eu] at hv'
    cases hv'
    obtain ⟨t,rfl⟩:=ru
    obtain ⟨o,es,ep,tb,ho,rest⟩:=hS
    have hS1:h'.SetOf (strKind prog w) S (fun k=>decide (k ∈ CT (ss.take i))) (CT (ss.take i)).length:=⟨o,es,ep,tb,kp S o (by simpa using hSI) ho,rest⟩
    refine wpAny_bind (wpAny_holding (PH (s:={ s with heap:=h',toks:=tk }) hS1 (by rw [List.length_take]; omega) fun b h2 t2 sb hS2=>?_))
    have tk1:ss.take i ++ [ss[i]]=ss.take (i + 1):=by rw [List.take_succ,List.getElem?_eq_getElem lt]; rfl
    rw [tk1] at hS2
    have k2:∀ c o,c ≠ S->h'.get? c=some o->h2.get? c=some o:=fun c o hc e=>(sb.2 c hc).trans e
    refine wpAny_pure ⟨plainId_quiet PyProof.Rows.F.plain_set_update_loop _,ih (i + 1) _ (by omega) lt (st.1.at fun o e=>k2 I o hSI.symm e) (st.2.at fun o e=>k2 l o hSl.symm e) hS2 fun h3 t3 kp3 hS3=>?_⟩
    exact q h3 t3 (fun c o c1 c2 e=>kp3 c o c1 c2 (k2 c o c1 (kp c o (by simpa using c2) e))) hS3
end
end L2
namespace L2
open PySem PySem.Spec PyProof.Rows Sem
section
variable {prog:Program} {w:World} {A:Around} {E:Value->Shared->Prop} {s:Shared}
set_option maxHeartbeats 2000000 in
theorem R8 {T nid iid:String} {args:List Value} {Q Q₁:Value->Shared->Prop} (ft:TypeCalled T nid iid) (ok:checkTypeCall T ⟨args,[]⟩=pure ())
    (new:codeAny (model prog w) A.in1 (.call (.builtin nid) ⟨.type T :: args,[]⟩) (wants Q₁ E) s)
    (init:∀ x s₁,Q₁ x s₁->s₁.TypeIs x T /\ codeAny (model prog w) A.in1 (.call (.builtin iid) ⟨x :: args,[]⟩) (wants (fun r s₂=>r=.none /\ Q x s₂) E) s₁) :
    wpAny (model prog w) A (call (.type T) args) Q E s:=by
  have a1:=ft.notType
  have a2:=ft.canCreate
  have a3:=ft.made
  have a4:=ft.sub
  obtain ⟨c,tl,a5⟩:=ft.mro
  have step:codeAny (model prog w) A (.builtin "type.__call__" ⟨.type T :: args,[]⟩) (wants Q E) s:=by
    refine codeAny_builtin F.entry_type_call ?_
    rw [Around.under_plain (weight_type_call_type T args []) rfl]
    unfold Builtin.«type.__call__»
    iterate 3 (any_goals (first | assumption | wp_step))
    first | refine wpAny_of_eq ok ?_ | refine wpAny_bind (wpAny_of_eq ok ?_)
    repeat (any_goals (first | assumption | wp_step))
    refine codeAny_mono new fun r s₁ hr=>?_
    match r,hr with
    | .error e,hr=>exact hr
    | .ok (.ret x),hr=>
      obtain ⟨ty,run⟩:=init x s₁ hr
      have b1:=ft.init.lookup
      have b2:=ft.init.bind x
      repeat (any_goals (first | assumption | wp_step))
      refine codeAny_mono run fun r₂ s₂ hr₂=>?_
      match r₂,hr₂ with
      | .error e,hr₂=>exact hr₂
      | .ok (.ret y),hr₂=>
        obtain ⟨ey,hq⟩:=hr₂
        subst ey
        repeat (any_goals (first | assumption | wp_step))
  exact wpAny_call (codeAny_of_tree (wpAny_pure ⟨Code.quiet_builtin _ (by decide +kernel),step⟩))
abbrev Cv (led:Bool):Obj:={ cls:=.type "set",data:=.set #[] 0 (.fresh 0 0 led) }
set_option maxHeartbeats 2000000 in
theorem Oc {l:Addr} {its:List Value} {ss:List Str} {Q:Value->Shared->Prop} (hh:A.handled=none) (hl:s.heap.IsList l its.toArray) (rv:Vals (ss.map V.str) its) (room:ss.length + 2 < scanBound)
    (q:∀ h' tk,(∀ c o,s.heap.get? c=some o->h'.get? c=some o)->h'.SetOf (strKind prog w) s.heap.objs.size (fun k=>decide (k ∈ CT ss)) (CT ss).length->Q (.ref s.heap.objs.size) { s with heap:=h',toks:=tk }) :
    wpAny (model prog w) A (call (.type "set") [.ref l]) Q E s:=by
  refine R8 F.called_set (F.typeCall_set_1 _) (code_set_new_1 (.ref l) (Q₁:=fun x s₁=>∃ led:Bool,x=.ref s.heap.objs.size /\ s₁={ s with heap:=s.heap.push (Cv led) }) fun led=>⟨led,rfl,rfl⟩) ?_
  rintro x s₁ ⟨led,rfl,rfl⟩
  have at_S:(s.heap.push (Cv led)).get? s.heap.objs.size=some (Cv led):=Heap.get?_push_size _ rfl
  have ty:Shared.TypeIs { s with heap:=s.heap.push (Cv led) } (.ref s.heap.objs.size) "set" := ⟨_,at_S,rfl⟩
  have lt:l < s.heap.objs.size:=by obtain ⟨o,e,_⟩:=hl; exact Heap.lt_size e
  have hl1:(s.heap.push (Cv led)).IsList l its.toArray:=hl.push _
  have tyl:Shared.TypeIs { s with heap:=s.heap.push (Cv led) } (.ref l) "list" := hl1.typeIs
  refine ⟨ty,codeAny_call_builtin F.called_set.init.plain F.entry_set_init (check_set_init_1 ty ?_)⟩
  have c1:=F.sub_list_set
  have c2:=F.sub_list_frozenset
  unfold Builtin.«set.__init__» noKeywords Builtin.Frozenset.updateFrom
  have walk:∀ (A:Around) (E:Value->Shared->Prop) (Q:Value->Shared->Prop),Q (.ref (s.heap.push (Cv led)).objs.size) { s with heap:=(s.heap.push (Cv led)).push { cls:=.type "list_iterator",data:=.fields #[.ref l,.int 0 0] } }->wpAny (model prog w) A (pyIter (.ref l)) Q E { s with heap:=s.heap.push (Cv led) }:=fun A E Q z=>wpAny_pyIter_list hl1 z
  wp_walk using walk
  have sz:(s.heap.push (Cv led)).objs.size=s.heap.objs.size + 1:=Heap.size_push ..
  refine PK (l:=l) (ss:=ss) (A:=A.in1.in1) (by simp [hh]) (by rw [sz]; exact Nat.ne_of_lt (Nat.lt_succ_of_lt lt)) (by rw [sz]; exact Nat.ne_of_lt (Nat.lt_succ_self _)) (Nat.ne_of_gt lt) rv room ss.length 0 _ (Nat.sub_zero _) (Nat.zero_le _) ⟨_,Heap.get?_push_size _ rfl,rfl,rfl⟩ (hl1.push _) ?start fun h' tk kp hS=>?fin
  case start=>
    exact (setObjOf_fresh (knd:=strKind prog w) led).setOf (Heap.get?_push_of_some _ at_S) (by decide)
  case fin=>
    have ltS:∀ {c:Addr} {o:Obj},s.heap.get? c=some o->c < s.heap.objs.size:=fun e=>Heap.lt_size e
    exact wpAny_pure (wpAny_pure ⟨rfl,q h' tk (fun c o e=>kp c o (Nat.ne_of_lt (ltS e)) (by rw [sz]; exact Nat.ne_of_lt (Nat.lt_succ_of_lt (ltS e))) (Heap.get?_push_of_some _ (Heap.get?_push_of_some _ e))) hS⟩)
end
def Qy (P:Program) (w:World) (p:Addr) (ss:List Str):HO:=.ext fun h=>h.SetOf (strKind P w) p (fun k=>decide (k ∈ CT ss)) (CT ss).length
section
variable {X:Cx}
theorem Ob (hc:X.calm=true):CH X (.type "set") (fun xs H Q=>∃ a ss,xs=[.ref a] /\ SqL X.K H a (ss.map V.str) /\ ss.length + 2 < scanBound /\ ∀ p,H p=none->Q (.ref p) (upd H p (Qy X.prog X.w p ss))):=by
  intro pins s σ H xs us Q I r h
  obtain ⟨a,ss,rfl,ha,room,q⟩:=h
  obtain ⟨u,rfl,ru⟩:=Vals.one r
  cases ru
  obtain ⟨its,rv,pl,hz⟩:=I.list ha
  refine Oc (I.ok.hd hc) pl.isList rv room fun h' tk kp hS=>?_
  refine ⟨.ref s.heap.objs.size,_,I.laid (o:=Qy X.prog X.w s.heap.objs.size ss) kp (Nat.le_refl _) ?_,rfl,q _ (I.hok.fresh (Nat.le_refl _))⟩
  obtain ⟨o,es,ep,t,e,rest⟩:=id hS
  refine ⟨hS,⟨o,e⟩,fun h1 h2 z k=>?_⟩
  obtain ⟨o,es,ep,t,e,rest⟩:=z
  exact ⟨o,es,ep,t,k o e,rest⟩
theorem Og:CH X (.builtin "len") (fun xs H Q=>∃ p ss,xs=[.ref p] /\ H p=some (Qy X.prog X.w p ss) /\ Q (.int (CT ss).length) H):=by
  intro pins s σ H xs us Q I r h
  obtain ⟨p,ss,rfl,hp,q⟩:=h
  obtain ⟨u,rfl,ru⟩:=Vals.one r
  cases ru
  obtain ⟨hS,_⟩:=I.hok p _ hp
  obtain ⟨o,es,ep,t,e,ex,hd,_,_,hb,hf,hn⟩:=hS
  refine call_len_set e ex hd hf (by unfold scanBound at hb; omega) ?_
  rw [hn]
  exact ⟨.int (CT ss).length,H,I.tok _,⟨_,rfl⟩,q⟩
end
end L2
namespace Mi
open PySem L2
def HP:List D->Option (List Str)
  | []=>some []
  | .str x :: ds=>(HP ds).map (x :: ·)
  | _=>none
theorem LC {K:PySem.W.Frag} {ι:Nat->Addr} {k:Nat} {H:Hp}:∀ {ds:List D} {vs:List V} {ss:List Str},IsL K ι k H ds vs->HP ds=some ss->vs=ss.map V.str
  | [],_,_,h,e=>by cases e; unfold IsL at h; exact h
  | d :: ds,_,_,h,e=>by
    cases d with
    | str x=>
      unfold IsL at h
      obtain ⟨v,vs',rfl,h1,h2⟩:=h
      have e':(HP ds).map (x :: ·)=some _:=e
      cases q:HP ds with
      | none=>rw [q] at e'; cases e'
      | some ss=>
        rw [q] at e'; cases e'
        unfold Is at h1
        rw [h1,LC h2 q]; rfl
    | _=>cases e
def Hm (d:D):M D:=bnd (CB d) fun ds=>fun μ=>match HP ds with
  | some ss=>if ss.length + 2 < scanBound then some (.int (CT ss).length,μ) else none
  | none=>none
section
variable {X:Cx} {e:Expr} {pos p p2 pos2:Pos}
theorem Nu {m:Sl->M D} (yl:X.mg "len" = none) (ys:X.mg "set" = none) (he:RE X e m) (hc:X.calm=true:=by rfl) (hgl:Gl X "len" := by rfl) (hgs:Gl X "set" := by rfl) (hst:Km e=false:=by rfl) :
    RE X (.Call (.Name "len" p) [.Call (.Name "set" p2) [e] [] pos2] [] pos) (mUn Hm m):=by
  have hs:PE X (.Call (.Name "set" p2) [e] [] pos2) _:=Jc (Ob hc) hgs ys Mi.Qj (KS he.pe MN (BS hst)) (by decide) (by decide) (BS hst) rfl
  refine RE.wk (LS Og hgl yl Mi.Av (KS hs MN (BS rfl)) (by decide) (by decide) (BS rfl) rfl) fun σ H Q h=>?_
  obtain ⟨ι,μ,τ,d,μ',R,S,ev,q⟩:=h
  obtain ⟨x,μ1,e1,e2⟩:=AK ev
  obtain ⟨ds,μ2,e3,e4⟩:=AK e2
  refine ⟨ι,μ,τ,x,μ1,R,S,e1,fun ι1 H1 E1 R1 v1 i1=>?_⟩
  obtain ⟨hm,a,vs,rfl,h1,h2⟩:=Cj R1 i1 e3
  subst hm
  cases hx:HP ds with
  | none=>rw [hx] at e4; cases e4
  | some ss=>
    rw [hx] at e4
    have e5:(if ss.length + 2 < scanBound then some (D.int (CT ss).length,μ2) else none)=some (d,μ'):=e4
    split at e5
    . rename_i room
      cases e5
      refine ⟨a,ss,rfl,by rw [← LC h2 hx]; exact h1,room,fun p hp=>?_⟩
      obtain ⟨E2,R2⟩:=R1.laid (Qy X.prog X.w p ss) hp
      exact ⟨p,ss,rfl,Bj,q ι1 _ (E1.trans E2) R2 _ (ofI _)⟩
    . cases e5
end
end Mi
namespace Mi
open PySem L2
inductive How where
  | all | drop | frz
def N7 (μ2:Mh):How->D->D
  | .frz,.ref n=>match μ2[n]? with
    | some (.lst ds)=>.lst ds
    | _=>.ref n
  | _,d=>d
def FK (μ μ2:Mh):How->Mh
  | .all=>μ2
  | _=>μ2.take μ.length
open Classical in
noncomputable def Ax (hw:How) (n ps:Nat) (mb:Sl->M (Fl × Sl)):List D->M D:=fun ds μ=>match mb (BW n ds) μ with
  | some ((fl,_),μ2)=>if ds.length=ps /\ (fl=.next ∨ ∃ d,fl=.rt d) /\ Hc μ μ2 (FK μ μ2 hw) (He fl) (N7 μ2 hw (He fl)) then some (N7 μ2 hw (He fl),FK μ μ2 hw) else none
  | none=>none
theorem GN {hw:How} {n ps:Nat} {mb:Sl->M (Fl × Sl)} {ds:List D} {μ μ':Mh} {d:D} (h:Ax hw n ps mb ds μ=some (d,μ')) :
    ds.length=ps /\ ∃ fl τ2 μ2,mb (BW n ds) μ=some ((fl,τ2),μ2) /\ (fl=.next ∨ ∃ d,fl=.rt d) /\ Hc μ μ2 μ' (He fl) d:=by
  unfold Ax at h
  split at h
  . rename_i fl τ2 μ2 e
    split at h
    . rename_i c
      cases h
      exact ⟨c.1,fl,τ2,μ2,e,c.2.1,c.2.2⟩
    . cases h
  . cases h
theorem Du {hw:How} {n ps:Nat} {mb:Sl->M (Fl × Sl)} {ds:List D} {μ μ2:Mh} {fl:Fl} {τ2:Sl} (e:mb (BW n ds) μ=some ((fl,τ2),μ2)) (hl:ds.length=ps) (hf:fl=.next ∨ ∃ d,fl=.rt d) (t:Hc μ μ2 (FK μ μ2 hw) (He fl) (N7 μ2 hw (He fl))) :
    Ax hw n ps mb ds μ=some (N7 μ2 hw (He fl),FK μ μ2 hw):=by
  unfold Ax
  rw [e]
  exact if_pos ⟨hl,hf,t⟩
theorem Ae {n ps:Nat} {mb:Sl->M (Fl × Sl)} {ds:List D} {μ g:Mh} {d:D} {τ2:Sl} (e:mb (BW n ds) μ=some ((.rt d,τ2),μ ++ g)) (hl:ds.length=ps) (c:Cl μ.length d):Ax .drop n ps mb ds μ=some (d,μ):=by
  have t:FK μ (μ ++ g) .drop=μ:=by show (μ ++ g).take μ.length=μ; rw [List.take_left]
  have h:=Du (hw:=.drop) e hl (.inr ⟨d,rfl⟩) (by rw [t]; exact F8 c)
  rw [t] at h
  exact h
theorem A0 {n ps:Nat} {mb:Sl->M (Fl × Sl)} {ds:List D} {μ g:Mh} {τ2:Sl} (e:mb (BW n ds) μ=some ((.next,τ2),μ ++ g)) (hl:ds.length=ps):Ax .drop n ps mb ds μ=some (.non,μ):=by
  have t:FK μ (μ ++ g) .drop=μ:=by show (μ ++ g).take μ.length=μ; rw [List.take_left]
  have h:=Du (hw:=.drop) e hl (.inl rfl) (by rw [t]; exact F8 (by show Cl _ D.non; unfold Cl; trivial))
  rw [t] at h
  exact h
theorem Ci {n ps:Nat} {mb:Sl->M (Fl × Sl)} {ds es:List D} {μ g:Mh} {k:Nat} {τ2:Sl} (e:mb (BW n ds) μ=some ((.rt (.ref k),τ2),μ ++ g)) (hl:ds.length=ps) (hk:μ.length <= k) (hg:(μ ++ g)[k]? = some (.lst es)) (c:ClL μ.length es):Ax .frz n ps mb ds μ=some (.lst es,μ):=by
  have t:FK μ (μ ++ g) .frz=μ:=by show (μ ++ g).take μ.length=μ; rw [List.take_left]
  have o:N7 (μ ++ g) .frz (He (.rt (.ref k)))=.lst es:=by
    show (match (μ ++ g)[k]? with | some (.lst ds)=>D.lst ds | _=>.ref k)=_
    rw [hg]
  have h:=Du (hw:=.frz) e hl (.inr ⟨_,rfl⟩) (by rw [t,o]; exact ⟨⟨g,rfl⟩,Nat.le_refl _,fun _ _ z=>.inl z,.inr ⟨k,es,rfl,hg,hk,rfl,c⟩⟩)
  rw [t,o] at h
  exact h
theorem Ix {n ps:Nat} {mb:Sl->M (Fl × Sl)} {ds es:List D} {μ g:Mh} {τ2:Sl} (e:mb (BW n ds) μ=some ((.rt (.lst es),τ2),μ ++ g)) (hl:ds.length=ps) (c:ClL μ.length es):Ax .frz n ps mb ds μ=some (.lst es,μ):=by
  have t:FK μ (μ ++ g) .frz=μ:=by show (μ ++ g).take μ.length=μ; rw [List.take_left]
  have h:=Du (hw:=.frz) e hl (.inr ⟨_,rfl⟩) (by rw [t]; exact F8 (by show Cl _ (D.lst es); unfold Cl; exact c))
  rw [t] at h
  exact h
theorem Ap (hw:How) {P:Program} {w:World} {K:PySem.W.Frag} {mg:Str->Option Value} {base:Heap} {x qual:Str} {st:Stmt} {f:Addr} {fd:FuncData} {N ps:List Str} {k:Nat} {mb:Sl->M (Fl × Sl)} (F:Fun K x qual st f fd) (S:Ai N ps (AJ st)) (hm:mg x=some (.ref f)) (hb:Binds K fd ps [])
    (body:∀ (cdv:Value) (A:Around) (outer:List Env) (s:Shared) (H:Hp) (E:XK),Room k (A.deeper (PyProof.Rows.envOfC qual (AJ st) s.heap.objs.size f cdv))->RSs (BZ CX0 P w K mg base N qual (AJ st) f cdv A outer s H E).nox (Ac st) mb) :
    Fn P w K mg base x ps (k + 1) (Ax hw N.length ps.length mb):=
  Uq F S hm hb body (fun ds μ r h=>(GN (d:=r.1) (μ':=r.2) h).1) (fun ds μ d μ' h=>(GN h).2)
theorem Fn.mono {P:Program} {w:World} {K:PySem.W.Frag} {mg:Str->Option Value} {base:Heap} {x:Str} {ps:List Str} {j k:Nat} {φ:List D->M D} (F:Fn P w K mg base x ps j φ) (h:j <= k):Fn P w K mg base x ps k φ:=by
  obtain ⟨len,f,fd,F,hm,hk,hb⟩:=F
  exact ⟨len,f,fd,F.mono h,hm,hk,hb⟩
theorem Ii {P:Program} {w:World} {K:PySem.W.Frag} {mg:Str->Option Value} {base:Heap} {x qual:Str} {st:Stmt} {f:Addr} {fd:FuncData} {ps:List Str} {k:Nat} (F:Fun K x qual st f fd) (hm:mg x=some (.ref f)) (hb:Binds K fd ps []):Fn P w K mg base x ps k (fun _=>BP):=by
  refine ⟨(fun ds μ r h=>absurd (show (none:Option (D × Mh))=some r from h) (by simp)),⟨f,fd,⟨fun vs H Q E h=>?_,fun A outer s H args us vs Q E _ _ _ _ h=>?_⟩,hm,F.kp,hb⟩⟩
  . obtain ⟨_,ι,μ,as,d,μ',_,_,e,_⟩:=h
    cases e
  . obtain ⟨_,ι,μ,as,d,μ',_,_,e,_⟩:=h
    cases e
end Mi
namespace Mi
open PySem L2
section
variable {P:Program} {w:World} {K:PySem.W.Frag} {mg:Str->Option Value} {base h:Heap} {x:Str}
def FQ:List Value->Option (List Str)
  | []=>some []
  | .str s _ :: r=>(FQ r).map (s :: ·)
  | _ :: _=>none
theorem FP:∀ {us:List Value} {xs:List Str},FQ us=some xs->Vals (xs.map V.str) us
  | [],xs,e=>by cases e; exact .nil
  | u :: r,xs,e=>by
    cases u with
    | str s t=>
      have e:(FQ r).map (s :: ·)=some xs:=e
      cases q:FQ r with
      | none=>rw [q] at e; cases e
      | some ys=>rw [q] at e; cases e; exact .cons ⟨t,rfl⟩ (FP q)
    | _=>cases e
def TupLit (K:PySem.W.Frag) (p:Addr) (xs:List Str):Prop:=∃ od its n sl,K.lookup p=some ⟨.type "tuple",od,.seq its n,sl⟩ /\ FQ its.toList=some xs
theorem U9 {p:Addr} {xs:List Str} {od:Option Addr} {its:Array Value} {n:Nat} {sl:Array (Option Value)} (l:K.lookup p=some ⟨.type "tuple",od,.seq its n,sl⟩) (e:FQ its.toList=some xs):TupLit K p xs:=⟨od,its,n,sl,l,e⟩
theorem Li {ι:Nat->Addr} {k:Nat} {H:Hp}:∀ xs:List Str,IsL K ι k H (xs.map D.str) (xs.map V.str)
  | []=>.nil
  | _ :: r=>.cons (by unfold Is; rfl) (Li r)
theorem TupLit.is {p:Addr} {xs:List Str} (h:TupLit K p xs) (hl:xs.length <= 1000) {ι:Nat->Addr} {k:Nat} {H:Hp}:Is K ι k H (.tup (xs.map D.str)) (.ref p):=by
  obtain ⟨od,its,n,sl,l,e⟩:=h
  have v:=FP e
  unfold Is
  refine ⟨p,_,rfl,.inr ⟨_,its,n,l,rfl,rfl,?_,v⟩,Li xs⟩
  have:=v.length
  rw [List.length_map] at this
  have z:its.size=xs.length:=by rw [this]; simp
  rw [z]
  exact Nat.le_of_lt (JX hl)
theorem D7 {i:Int} {t:Tok} (X:K.In h) (G:h.Ns mainGlobals mg) (a:PySem.W.nsIn K mainGlobals x=some (some (.int i t))):Glo K mg x (.int i):=
  ⟨_,.int i,PySem.W.mg_of X G a,⟨t,rfl⟩,fun _ _ _=>by unfold Is; rfl⟩
theorem ST {s:Str} {t:Tok} (X:K.In h) (G:h.Ns mainGlobals mg) (a:PySem.W.nsIn K mainGlobals x=some (some (.str s t))):Glo K mg x (.str s):=
  ⟨_,.str s,PySem.W.mg_of X G a,⟨t,rfl⟩,fun _ _ _=>by unfold Is; rfl⟩
theorem Ko {p:Addr} {xs:List Str} (X:K.In h) (G:h.Ns mainGlobals mg) (a:PySem.W.nsIn K mainGlobals x=some (some (.ref p))) (l:TupLit K p xs) (hl:xs.length <= 1000):Glo K mg x (.tup (xs.map D.str)):=
  ⟨_,.ref p,PySem.W.mg_of X G a,rfl,fun _ _ _=>l.is hl⟩
def TabIs (K:PySem.W.Frag):List DictEntry->List (Str × List Str)->Prop
  | [],t=>t=[]
  | e :: es,t=>∃ x ys t' tok p,t=(x,ys) :: t' /\ e.key=.str x tok /\ e.val=.ref p /\ TupLit K p ys /\ ys.length <= 1000 /\ TabIs K es t'
theorem TabIs.noref:∀ {es:List DictEntry} {t:List (Str × List Str)},TabIs K es t->es.any (·.refKey)=false
  | [],_,_=>rfl
  | e :: es,t,h=>by
    obtain ⟨x,ys,t',tok,p,rfl,hk,_,_,_,r⟩:=h
    rw [List.any_cons,r.noref,Bool.or_false]
    show DictEntry.refKey e=false
    unfold DictEntry.refKey
    rw [hk]
def LA (t:List (Str × List Str)) (y:Str):Option D:=(t.find? (·.1 == y)).map fun p=>.tup (p.2.map D.str)
theorem TabIs.find:∀ {es:List DictEntry} {t:List (Str × List Str)} (y:Str),TabIs K es t->(es.find? (·.key.isStr y)=none /\ LA t y=none) ∨ ∃ e p ys,es.find? (·.key.isStr y)=some e /\ e.val=.ref p /\ TupLit K p ys /\ ys.length <= 1000 /\ LA t y=some (.tup (ys.map D.str))
  | [],t,y,h=>by cases (show t=[] from h); exact .inl ⟨rfl,rfl⟩
  | e :: es,t,y,h=>by
    obtain ⟨x,ys,t',tok,p,rfl,hk,hv,l,hl,r⟩:=h
    have q:e.key.isStr y=(x == y):=by rw [hk]; rfl
    cases b:(x == y) with
    | true=>
      right
      refine ⟨e,p,ys,?_,hv,l,hl,?_⟩
      . rw [List.find?_cons]; simp only [q,b]
      . unfold LA; rw [List.find?_cons]; simp only [b]; rfl
    | false=>
      have z1:(e :: es).find? (·.key.isStr y)=es.find? (·.key.isStr y):=by rw [List.find?_cons]; simp only [q,b]
      have z2:LA ((x,ys) :: t') y=LA t' y:=by unfold LA; rw [List.find?_cons]; simp only [b]
      rw [z1,z2]
      exact r.find y
theorem SH {ad:Addr} {es:Array DictEntry} {n:Nat} {t:List (Str × List Str)} (X:K.In h) (G:h.Ns mainGlobals mg) (a:PySem.W.nsIn K mainGlobals x=some (some (.ref ad))) (l:K.lookup ad=some ⟨.type "dict",none,.dict es n,#[]⟩) (kl:PySem.W.KeysLit w.params es.toList)
    (hs:(ad == sysModules)=false) (T:TabIs K es.toList t):On w K mg x (LA t):=by
  refine ⟨ad,PySem.W.mg_of X G a,fun y=>?_⟩
  have nr:=T.noref
  rcases T.find y with ⟨f,g⟩ | ⟨e,p,ys,f,hv,tl,hl,g⟩
  . refine ⟨none,⟨y,es,n,none,rfl,l,kl,?_,trivial,hs⟩,.inl ⟨g,rfl⟩⟩
    unfold PySem.W.nsIn
    rw [l]
    simp only [f,nr]
    rfl
  . refine ⟨some (.ref p),⟨y,es,n,some (.ref p),rfl,l,kl,?_,rfl,hs⟩,.inr ⟨_,.ref p,g,rfl,fun _ _ _=>tl.is hl⟩⟩
    unfold PySem.W.nsIn
    rw [l]
    simp only [f,hv]
structure Df (K:PySem.W.Frag) (x:Str) (st:Stmt) (f:Addr) (fd:FuncData):Prop where
  a:PySem.W.nsIn K mainGlobals x=some (some (.ref f))
  F:Fun K x x st f fd
theorem WI {st:Stmt} {f:Addr} {oc:Value} {od an:Option Addr} {osl:Array (Option Value)} {kV doc pm cdv ct:Value} (a:PySem.W.nsIn K mainGlobals x=some (some (.ref f))) (l:K.lookup f=some ⟨oc,od,.func (PySem.W.fnOf x x (Gq st) (Ac st) (AJ st) .none kV doc pm an cdv ct),osl⟩)
    (c:PySem.W.codeIn K cdv x=true) (k:PySem.W.keepIn K (.ref f)=true):∃ f fd,Df K x st f fd:=⟨f,_,a,Up l c k⟩
theorem QO (hw:How) {qual:Str} {st:Stmt} {f:Addr} {fd:FuncData} {N ps:List Str} {k:Nat} {mb:Sl->M (Fl × Sl)} (F:Fun K x qual st f fd) (S:Ai N ps (AJ st))
    (body:∀ (cdv:Value) (A:Around) (outer:List Env) (s:Shared) (H:Hp) (E:XK),Room k (A.deeper (PyProof.Rows.envOfC qual (AJ st) s.heap.objs.size f cdv))->RSs (BZ CX0 P w K mg base N qual (AJ st) f cdv A outer s H E).nox (Ac st) mb) :
    FnOk P w K mg base CX0 (k + 1) f fd ps (spM K ps.length (Ax hw N.length ps.length mb)):=
  Js F S rfl body (fun ds μ d μ' h=>(GN h).2)
def M6 (K:PySem.W.Frag):Sp:=fun vs H Q _=>∃ (a:Addr) (ns:List Int),vs=[.ref a] /\ ScrAt K H a (ns.map V.int) /\ ns.length <= 63 /\ ∀ H',Q (.bl true) H'
theorem TM {k:Nat} {f:Addr} {fd:FuncData} {φ:List D->M D} (F:FnOk P w K mg base CX0 k f fd ["_law_script"] (spM K 1 φ)) (hφ:∀ ns:List Int,ns.length <= 63->∃ μ',φ [.scr ns] []=some (.bl true,μ')):FnOk P w K mg base CX0 k f fd ["_law_script"] (M6 K):=
  F.imp fun vs H Q E q=>by
    obtain ⟨a,ns,rfl,s,hl,q⟩:=q
    obtain ⟨μ',e⟩:=hφ ns hl
    refine ⟨rfl,fun _=>a,[],[.scr ns],.bl true,μ',⟨fun i j h=>absurd h (Nat.not_lt_zero _),fun n o e=>by simp at e⟩,.one (by unfold Is; exact ⟨a,rfl,s⟩),e,fun ι2 H2 E2 R2 v i=>?_⟩
    unfold Is at i
    rw [i]
    exact q H2
theorem LG {H:Hp} {a:Addr} {xs:List V} (o:Sh H) (s:SqL K H a xs):ScrAt K H a xs:=by
  rcases s with z | z
  . rcases z with z | ⟨p,z⟩
    . rcases o a with q | ⟨p,ys,q⟩
      . rw [q] at z; cases z
      . rw [q] at z; cases z
    . exact .inl ⟨p,z⟩
  . exact .inr z
end
theorem U5 {l:PySem.W.OpenLaw} {q:Program} {loose:List Str} {XP:(Str->Option Value)->Heap->Prop} {YP:World->Heap->Prop} {d:DefRec} {K:Params->PySem.W.Frag} {k:Nat} (hn:l.most=some 63) (hdf:d.params.defaults=[]) (hk:k <= 60)
    (hY:∀ (w:World) (h:Heap),YP w h->(K w.params).In h)
    (F:∀ (w:World) (mg:Str->Option Value) (fa:Addr) (h:Heap),(K w.params).In h->h.Ns mainGlobals mg->mg d.name=some (.ref fa)->
      ∃ fd:FuncData,(∀ (s:Shared) (u:Value),BindsTo s fd ⟨[u],[]⟩ [("_law_script",u)]) /\ ∀ base:Heap,(K w.params).In base->base.Ns mainGlobals mg->FnOk l.prog w (K w.params) mg base CX0 k fa fd ["_law_script"] (M6 (K w.params))) :
    PySem.W.WalkO q loose XP YP l.row.toRowW d [] (fun f vs=>PySem.call f vs):=
  L2.Qp (n:=63) (k:=k) (x := "_law_script") (CX:=fun _=>CX0) (sp:=fun w=>M6 (K w.params)) hn (by decide) hdf (Room.mono (j:=k) (k:=60) ⟨rfl,by decide,by decide⟩ hk) hY F (fun _ _ a ns hl o hS=>⟨a,ns,rfl,LG o hS,hl,fun _=>rfl⟩) fun _ _ _ _ _ z=>z
end Mi
namespace Mi
open PySem L2
def Pu {α:Type} (m:Sl->M α):Prop:=∀ τ μ a μ',m τ μ=some (a,μ')->μ'=μ
def Pu2 (g:D->D->M D):Prop:=∀ x y μ a μ',g x y μ=some (a,μ')->μ'=μ
theorem RP {i:Nat}:Pu (AC i):=fun τ μ a μ' e=>by
  unfold AC at e
  split at e
  . cases e; rfl
  . cases e
theorem Wl {d:D}:Pu (mC d):=fun τ μ a μ' e=>by cases e; rfl
theorem RM:Pu Bo:=fun τ μ a μ' e=>by cases e; rfl
theorem Vd {g:D->D->M D} {ma mb:Sl->M D} (hg:Pu2 g) (ha:Pu ma) (hb:Pu mb):Pu (mOp g ma mb):=fun τ μ a μ' e=>by
  obtain ⟨x,μ1,e1,e2⟩:=AK e
  obtain ⟨y,μ2,e3,e4⟩:=AK e2
  rw [hg _ _ _ _ _ e4,hb _ _ _ _ e3,ha _ _ _ _ e1]
theorem RN {m:Sl->M D} (h:Pu m):Pu (AY m):=fun τ μ a μ' e=>by
  obtain ⟨x,μ1,e1,e2⟩:=AK e
  have z:=h _ _ _ _ e1
  cases x with
  | bl b=>cases e2; exact z
  | _=>cases e2
theorem Tr {n:Bool}:Pu2 (F2 n):=fun x y μ a μ' e=>by
  unfold F2 at e
  split at e
  . split at e
    . cases e; rfl
    . cases e
  . cases e
theorem Om {d:D} {μ μ':Mh} {ds:List D} (e:CB d μ=some (ds,μ')):μ'=μ:=by
  cases d with
  | lst _=>cases e; rfl
  | scr _=>cases e; rfl
  | ref n=>
    have e:(match μ[n]? with | some (.lst ds)=>some (ds,μ) | _=>none)=some (ds,μ'):=e
    split at e
    . cases e; rfl
    . cases e
  | _=>cases e
theorem J8 {d:D} {μ μ':Mh} {ds:List D} (e:Ba d μ=some (ds,μ')):μ'=μ:=by
  cases d with
  | tup _=>cases e; rfl
  | _=>exact Om (by unfold Ba at e; exact e)
theorem Ve:Pu2 AS:=fun x y μ a μ' e=>by
  unfold AS at e
  split at e
  . split at e
    . rename_i z i hl
      cases q:atI z.cps.toList i with
      | none=>rw [q] at e; cases e
      | some c=>rw [q] at e; cases e; rfl
    . cases e
  . obtain ⟨ds,μ1,e1,e2⟩:=AK e
    have z:=J8 e1
    unfold ixD at e2
    rename_i i _
    cases q:atI ds i with
    | none=>rw [q] at e2; cases e2
    | some c=>rw [q] at e2; cases e2; exact z
  . cases e
section
variable {X:Cx} {scope:Scope} {tgs:List Str} {ix:List Nat} {e elt tg iter:Expr} {pos:Pos}
def WO:D->M (List D)
  | .ref n=>fun μ=>match μ[n]? with
    | some (.lst ds)=>some (ds,μ)
    | _=>none
  | _=>BP
def FW (m:Sl->M D):Sl->M (List D):=fun τ=>bnd (m τ) WO
def ItP (K:PySem.W.Frag) (J:It) (ds:List D) (ι:Nat->Addr) (μ:Mh) (H:Hp):Prop:=∀ ι' H',Ext ι μ.length H ι' μ.length H'->RelH K ι' μ H'->
  (∀ i,i < ds.length->J.go i H') /\ J.stop ds.length H' /\ ∀ (i:Nat) x H2 d,ds[i]? = some d->J.yld i H' x H2->Ext ι' μ.length H' ι' μ.length H2 /\ RelH K ι' μ H2 /\ Is K ι' μ.length H2 d x
theorem ItP.ext {K:PySem.W.Frag} {J:It} {ds:List D} {ι ι':Nat->Addr} {μ:Mh} {H H':Hp} (h:ItP K J ds ι μ H) (E:Ext ι μ.length H ι' μ.length H'):ItP K J ds ι' μ H':=fun ι2 H2 E2 R2=>h ι2 H2 (E.trans E2) R2
def tIP (K:PySem.W.Frag) (m:Sl->M (List D)):TI:=fun σ H R=>∃ ι μ τ ds μ',RelH K ι μ H /\ RelS K ι μ.length H τ σ /\ m τ μ=some (ds,μ') /\
  Aft K ι μ H μ' fun ι' H'=>∀ J,ItP K J ds ι' μ' H'->R J H'
structure RIP (X:Cx) (tg iter:Expr) (m:Sl->M (List D)):Prop where
  pe:PI X tg iter (tIP X.K m)
theorem MF {m:Sl->M D} (h:RE X e m):RIP X tg e (FW m):=⟨PI.wk (ND h.pe) fun σ H Q q=>by
  obtain ⟨ι,μ,τ,ds,μ',R0,S,e,q⟩:=q
  obtain ⟨x,μ1,e1,e⟩:=AK e
  cases x with
  | ref n=>
    have e:(match μ1[n]? with | some (.lst ds)=>some (ds,μ1) | _=>none)=some (ds,μ'):=e
    split at e
    . rename_i es hn
      cases e
      refine ⟨ι,μ,τ,_,_,R0,S,e1,fun ι1 H1 E1 R1 v i1=>?_⟩
      unfold Is at i1
      obtain ⟨hk,rfl⟩:=i1
      obtain ⟨u,hu,o⟩:=R1.obj n _ hn
      obtain ⟨vs,rfl,iv⟩:=o
      refine ⟨_,rfl,⟨vs,SqL.of hu⟩,q ι1 H1 E1 R1 _ ?_⟩
      intro ι2 H2 E2 R2
      obtain ⟨u2,hu2,o2⟩:=R2.obj n _ hn
      obtain ⟨vs2,rfl,iv2⟩:=o2
      rw [E2.agree n hk] at hu2
      have hl:=iv2.length
      refine ⟨fun j hj=>⟨vs2,vs2[j],SqL.of hu2,by simp⟩,⟨vs2,SqL.of hu2,by omega⟩,fun j x H3 d hd y=>?_⟩
      obtain ⟨z,y⟩:=y
      subst z
      obtain ⟨v,ev,iv3⟩:=iv2.get hd
      have:=y vs2 (SqL.of hu2)
      rw [ev] at this; cases this
      exact ⟨R2.ext0,R2,iv3⟩
    . cases e
  | _=>cases e⟩
theorem O8 {K:PySem.W.Frag} {n:Nat} {src:Sl->M (List D)} {i:Nat} {mc:Sl->M Bool} {me:Sl->M D} {fin:List D->M D} {σ:St} {H:Hp} {Q:VK} (pc:Pu mc) (pm:Pu me) (hn:tgs.length=n) (hf:∀ ι μ μ' H ds vs d (Q:VK),RelH K ι μ H->IsL K ι μ.length H ds vs->fin ds μ=some (d,μ')->(Aft K ι μ H μ' fun ι' H'=>∀ v,Is K ι' μ'.length H' d v->Q v H')->
      vs.length <= sizeLine /\ ∀ p,H p=none->Q (.ref p) (upd H p (.lst vs)))
    (h:tE K (Bg n ix src (AN i) mc me fin) σ H Q):M4 tgs ix (tIP K src) (Ef i) (tT K mc) (tE K me) σ H Q:=by
  subst hn
  obtain ⟨ι,μ,τ,d,μ',R,S,e,q⟩:=h
  obtain ⟨ds,ν,e1,e5⟩:=AK e
  obtain ⟨u,μ2,e2,e6⟩:=AK e5
  obtain ⟨zs,μ3,e3,e7⟩:=AK e6
  obtain ⟨hl,e4⟩:=DO e2
  clear e e5 e6
  subst e4
  refine ⟨ι,μ,τ,ds,_,R,S,e1,fun ι1 H1 E1 R1 J it=>?_⟩
  refine ⟨fun i' m ys H=>m=ds.length - i' /\ i' <= ds.length /\ ys.length <= i' /\ ∃ (ι:Nat->Addr) (as:List D),RelH K ι μ2 H /\ RelS K ι μ2.length H τ σ /\ ItP K J ds ι μ2 H /\ IsL K ι μ2.length H as ys /\ CZ (AN i) mc me (BX tgs.length ix τ) (ds.drop i') as μ2=some (zs,μ3) /\
    Aft K ι μ2 H μ' fun ι' H'=>∀ v,Is K ι' μ'.length H' d v->Q v H',⟨ds.length,by simp,Nat.zero_le _,Nat.le_refl _,ι1,[],R1,S.ext E1,it,.nil,e3,fun ι2 H2 E2 R2=>q ι2 H2 (E1.trans E2) R2⟩,?_⟩
  rintro i' m ys H ⟨hm,hil,hyl,ι,as,R,S,it,ia,e3,q⟩
  obtain ⟨go,stop,yl⟩:=it ι H R.ext0 R
  by_cases hlt:i' < ds.length
  . refine .inr ⟨go i' hlt,by omega,fun ys' H'=>ys'.length <= i' + 1 /\ ∃ (ι:Nat->Addr) (as:List D),RelH K ι μ2 H' /\ RelS K ι μ2.length H' τ σ /\ ItP K J ds ι μ2 H' /\ IsL K ι μ2.length H' as ys' /\ CZ (AN i) mc me (BX tgs.length ix τ) (ds.drop (i' + 1)) as μ2=some (zs,μ3) /\
      Aft K ι μ2 H' μ' fun ι' H'=>∀ v,Is K ι' μ'.length H' d v->Q v H',fun ys' H' z=>⟨_,(by omega:ds.length - (i' + 1) < m),rfl,hlt,z⟩,fun x H2 y=>?_⟩
    have hd:ds[i']? = some ds[i']:=by simp [hlt]
    obtain ⟨E2,R2,ix2⟩:=yl i' x H2 _ hd y
    rw [List.drop_eq_getElem_cons hlt] at e3
    obtain ⟨τ1,μ1,e1,e3⟩:=AK e3
    cases e1
    obtain ⟨cc,μ5,e2,e3⟩:=AK e3
    have z5:=pc _ _ _ _ e2
    subst z5
    have S2:=(S.ext E2).block (tgs:=tgs) (ix:=ix)
    show tT K mc _ H2 _
    refine ⟨ι,_,_,cc,_,R2,S2.set i ix2,e2,fun ι3 H3 E3 R3=>?_⟩
    have E13:=E2.trans E3
    cases cc with
    | false=>
      exact ⟨by omega,ι3,as,R3,S.ext E13,it.ext E13,ia.ext E13,e3,fun ι5 H5 E5 R5=>q ι5 H5 (E13.trans E5) R5⟩
    | true=>
      obtain ⟨y',μ4,e4,e8⟩:=AK e3
      clear e3
      have z4:=pm _ _ _ _ e4
      subst z4
      refine ⟨ι3,_,_,y',_,R3,(S2.set i ix2).ext E3,e4,fun ι4 H4 E4 R4 v iv=>?_⟩
      have E14:=E13.trans E4
      exact ⟨by simp; omega,ι4,as ++ [y'],R4,S.ext E14,it.ext E14,(ia.ext E14).append (.one iv),e8,fun ι5 H5 E5 R5=>q ι5 H5 (E14.trans E5) R5⟩
  . have hi':i'=ds.length:=by omega
    subst hi'
    rw [List.drop_length] at e3
    cases e3
    obtain ⟨z1,z2⟩:=hf ι _ μ' H _ ys d Q R ia e7 q
    exact .inl ⟨stop,z1,z2⟩
theorem IJ {n:Nat} {ifs:List Expr} {src:Sl->M (List D)} {i:Nat} {mc:Sl->M Bool} {me:Sl->M D} (pc:Pu mc) (pm:Pu me) (S:BScope X scope tgs ix) (hc:X.calm=true) (hi:RIP X tg iter src) (hg:∀ fp C s H,PG (cxB X scope tgs fp C s H) tg (Ef i)) (hif:∀ fp C s H,JD (cxB X scope tgs fp C s H) ifs (tT X.K mc)) (he:∀ fp C s H,RE (cxB X scope tgs fp C s H) elt me)
    (hin:i < tgs.length:=by decide) (hn:tgs.length=n:=by rfl) (hs:∀ x,foldedSetIterable iter X.env x=pure x:=by intro _; rfl) (ht:∀ o v,letOwnedTupleGo tg o v=pure ():=by intro _ _; rfl):RE X (.ListComp elt [⟨tg,iter,ifs,0⟩] scope pos) (Bg n ix src (AN i) mc me A7):=
  RE.wk (KR (te:=tE X.K me) S hc hi.pe hg (Hr hin) hif (fun fp C s H=>(he fp C s H).pe) hs ht) fun _ _ _ h=>O8 pc pm hn (fun _ _ _ _ _ _ _ _ R i e q=>Dz R i e q) h
end
end Mi
namespace K1
open PySem L2 Mi
def sl (xs:List Str):D:=.tup (xs.map D.str)
def Eu:D:=.str "abcdefghijklmnopqrstuvwxyz"
def C8:D:=.int 9
def Da:D:=.int 5
def B6:D:=sl ["+", "-", "=", "<", "and", "or"]
def Dl:D:=sl ["safe", "steady", "whole"]
def EC:D:=.int 6
def Dk:D:=.int 2
def EB:D:=.int 4
def Dt:D:=.int 60
def Cw:D:=.int 400
def ED:D:=.int 2
def Eh:D:=.int 10
def CY:D:=sl ["not", "and", "or"]
def Nm:List (Str × List Str):=[("put",["box", "expression"]),("get",["variable", "box"]),("let",["variable", "expression"]),("unless",["expression", "target"]),("jump",["target"]),("tell",["expression"]),("done",[])]
def BV:Str->Option D:=LA Nm
def EO  : Sl->M (Fl × Sl):=
    (A5 (FG (AE CW (AB (AC 0) (AB (mC (.ty "int")) AH))) (FG (Lb (AE CW (AB (AC 0) (AB (mC (.ty "bool")) AH)))) (GG LP LP (AC 1) (AC 0) (AC 2)))))
def Es  : Sl->M (Fl × Sl):=
    (A5 (FG (AE CW (AB (AC 0) (AB (mC (.ty "str")) AH))) (FG (GG LP LP (mC (.int 1)) (AE BO (AB (AC 0) AH)) (mC (.int 8))) (AE Sg (AB (Bg 1 [] (P6 (AC 0)) (AN 0) Bo (mOp (Dv false) (AC 0) (mC Eu)) A7) AH)))))
def A6 (φ_is_expression:List D->M D) (φ_is_whole:List D->M D) (φ_is_name:List D->M D):Sl->M (Fl × Sl):=
    (AU (sIf (mOr (AY (mOp GB (AC 1) (mC (.int 1)))) (mOr (Gg (AY (AE CW (AB (AC 0) (AB (mC (.ty "tuple")) AH))))) (AY (mOp BM (AE BO (AB (AC 0) AH)) (mC (.int 0)))))) (A5 (mC (.bl false))) BI)
    (AU (An (mOp AS (AC 0) (mC (.int 0))) (AN 2))
    (AU (sIf (AY (mOp (Dv false) (AC 2) (mC B6))) (A5 (FG (mOp BM (AE BO (AB (AC 0) AH)) (mC (.int 3))) (FG (AE φ_is_expression (AB (mOp AS (AC 0) (mC (.int 1))) (AB (mOp Br (AC 1) (mC (.int 1))) AH))) (AE φ_is_expression (AB (mOp AS (AC 0) (mC (.int 2))) (AB (mOp Br (AC 1) (mC (.int 1))) AH)))))) BI)
    (AU (sIf (AY (mOp Bl (AE BO (AB (AC 0) AH)) (mC (.int 2)))) (A5 (mC (.bl false))) BI)
    (AU (sIf (AY (mOp BM (AC 2) (mC (.str "num")))) (A5 (AE φ_is_whole (AB (mOp AS (AC 0) (mC (.int 1))) (AB (mC (.int 0)) (AB (mC C8) AH))))) BI)
    (AU (sIf (AY (mOp BM (AC 2) (mC (.str "var")))) (A5 (AE φ_is_name (AB (mOp AS (AC 0) (mC (.int 1))) AH))) BI)
    (A5 (FG (mOp BM (AC 2) (mC (.str "not"))) (AE φ_is_expression (AB (mOp AS (AC 0) (mC (.int 1))) (AB (mOp Br (AC 1) (mC (.int 1))) AH)))))))))))
def A1 (φ_variables_in:List D->M D):Sl->M (Fl × Sl):=
    (AU (sIf (AY (mOp BM (mOp AS (AC 0) (mC (.int 0))) (mC (.str "num")))) (A5 (AE A7 AH)) BI)
    (AU (sIf (AY (mOp BM (mOp AS (AC 0) (mC (.int 0))) (mC (.str "var")))) (A5 (AE A7 (AB (mOp AS (AC 0) (mC (.int 1))) AH))) BI)
    (AU (An (AE DX AH) (AN 1))
    (AU (Cs (EU (mSl (AC 0) (BA (mC (.int 1))) Ay)) (AN 2) (AZ (A2 QQ (AC 1) (AB (AE φ_variables_in (AB (AC 2) AH)) AH))))
    (A5 (AC 1))))))
def Ka  : Sl->M (Fl × Sl):=
    (sIf (Gg (AY (AC 0))) PM BI)
def EQ  : Sl->M (Fl × Sl):=
    (A5 (FG (AE CW (AB (AC 0) (AB (mC (.ty "tuple")) AH))) (GG LP LP (AC 1) (AE BO (AB (AC 0) AH)) (AC 2))))
def CU (φ_need:List D->M D) (φ_is_whole:List D->M D):Sl->M (Fl × Sl):=
    (AU (AZ (AE φ_need (AB (mOp (Dv false) (AC 0) (mC Dl)) (AB (mC (.str "a kind is safe, steady or whole")) AH))))
    (AU (AZ (AE φ_need (AB (AE φ_is_whole (AB (AC 1) (AB (mC ED) (AB (mC Eh) AH)))) (AB (mC (.str "a size is a whole number from 2 to 10")) AH))))
    (AZ (AE φ_need (AB (AE φ_is_whole (AB (AC 2) (AB (mC (.int 0)) (AB (mOp Br (AC 1) (mC (.int 1))) AH)))) (AB (mC (.str "a begin is a worth of its box")) AH))))))
def DA (φ_is_expression:List D->M D) (φ_is_whole:List D->M D) (φ_is_name:List D->M D):Sl->M (Fl × Sl):=
    (AU (sIf (AY (mOp BM (AC 0) (mC (.str "expression")))) (A5 (AE φ_is_expression (AB (AC 1) (AB (mC Da) AH)))) BI)
    (AU (sIf (AY (mOp BM (AC 0) (mC (.str "target")))) (A5 (AE φ_is_whole (AB (AC 1) (AB (mC (.int 0)) (AB (AC 2) AH))))) BI)
    (A5 (AE φ_is_name (AB (AC 1) AH)))))
def By (φ_need:List D->M D):Sl->M (Fl × Sl):=
    (sIf (AY (AC 1)) (AZ (AE φ_need (AB (mOp Bl (AC 0) (mC (.str "tell"))) (AB (mC (.str "the writer tells nothing")) AH)))) (AZ (AE φ_need (AB (mOp Bl (AC 0) (mC (.str "done"))) (AB (mC (.str "a reader ends by telling")) AH)))))
def CV (φ_is_tuple:List D->M D) (φ_need:List D->M D) (φ_check_worths:List D->M D) (φ_check_boxes:List D->M D) (φ_check_hands:List D->M D) (φ_check_rows:List D->M D):Sl->M (Fl × Sl):=
    (AU (AZ (AE φ_need (AB (AE φ_is_tuple (AB (AC 0) (AB (mC (.int 5)) (AB (mC (.int 5)) AH)))) (AB (mC (.str "a making is a tuple of five parts")) AH))))
    (AU (AZ (AE φ_check_worths (AB (mOp AS (AC 0) (mC (.int 0))) (AB (mOp AS (AC 0) (mC (.int 1))) (AB (mOp AS (AC 0) (mC (.int 2))) AH)))))
    (AU (AZ (AE φ_check_boxes (AB (mOp AS (AC 0) (mC (.int 3))) AH)))
    (AU (AZ (AE φ_check_hands (AB (mOp AS (AC 0) (mC (.int 4))) AH)))
    (AU (An (Bg 1 [] (EU (mOp AS (AC 0) (mC (.int 4)))) (AN 0) Bo (mOp AS (AC 0) (mC (.int 0))) A7) (AN 1))
    (AU (An Vx (AN 2))
    (AU (Cs (EU (mOp AS (AC 0) (mC (.int 3)))) (AN 3) (AU (AZ (AE φ_need (AB (mOp (Dv false) (mOp AS (AC 3) (mC (.int 4))) (AC 1)) (AB (mC (.str "the hand of a box is none")) AH))))
    (LI (AC 2) (mOp AS (AC 3) (mC (.int 0))) (mOp AS (AC 3) (mC (.int 4))))))
    (Cs (FA (AB (mOp AS (AC 0) (mC (.int 4))) AH)) (EV [4,5]) (AZ (AE φ_check_rows (AB (AC 5) (AB (mOp BM (AC 4) (mC (.int 0))) (AB (AC 2) AH)))))))))))))
def Cu (φ_is_tuple:List D->M D) (φ_need:List D->M D) (φ_is_name:List D->M D) (φ_check_worths:List D->M D) (φ_are_unlike:List D->M D):Sl->M (Fl × Sl):=
    (AU (AZ (AE φ_need (AB (AE φ_is_tuple (AB (AC 0) (AB (mC (.int 0)) (AB (mC EC) AH)))) (AB (mC (.str "boxes are a tuple of at most six")) AH))))
    (AU (Cs (EU (AC 0)) (AN 1) (AU (AZ (AE φ_need (AB (AE φ_is_tuple (AB (AC 1) (AB (mC (.int 5)) (AB (mC (.int 5)) AH)))) (AB (mC (.str "a box is a tuple of five parts")) AH))))
    (AU (AZ (AE φ_need (AB (AE φ_is_name (AB (mOp AS (AC 1) (mC (.int 0))) AH)) (AB (mC (.str "a box has a name")) AH))))
    (AZ (AE φ_check_worths (AB (mOp AS (AC 1) (mC (.int 1))) (AB (mOp AS (AC 1) (mC (.int 2))) (AB (mOp AS (AC 1) (mC (.int 3))) AH))))))))
    (AZ (AE φ_need (AB (AE φ_are_unlike (AB (Bg 1 [] (EU (AC 0)) (AN 0) Bo (mOp AS (AC 0) (mC (.int 0))) A7) AH)) (AB (mC (.str "two boxes have one name")) AH))))))
def Ct (φ_is_tuple:List D->M D) (φ_need:List D->M D) (φ_is_name:List D->M D) (φ_is_whole:List D->M D) (φ_are_unlike:List D->M D):Sl->M (Fl × Sl):=
    (AU (AZ (AE φ_need (AB (AE φ_is_tuple (AB (AC 0) (AB (mC Dk) (AB (mC EB) AH)))) (AB (mC (.str "hands are a tuple of two to four")) AH))))
    (AU (Cs (EU (AC 0)) (AN 1) (AU (AZ (AE φ_need (AB (AE φ_is_tuple (AB (AC 1) (AB (mC (.int 3)) (AB (mC (.int 3)) AH)))) (AB (mC (.str "a hand is a tuple of three parts")) AH))))
    (AU (AZ (AE φ_need (AB (AE φ_is_name (AB (mOp AS (AC 1) (mC (.int 0))) AH)) (AB (mC (.str "a hand has a name")) AH))))
    (AU (AZ (AE φ_need (AB (AE φ_is_whole (AB (mOp AS (AC 1) (mC (.int 1))) (AB (mC (.int 0)) (AB (mC Cw) AH)))) (AB (mC (.str "a told count is a whole number from 0 to 400")) AH))))
    (AZ (AE φ_need (AB (AE φ_is_tuple (AB (mOp AS (AC 1) (mC (.int 2))) (AB (mC (.int 0)) (AB (mC Dt) AH)))) (AB (mC (.str "rows are a tuple of at most sixty")) AH))))))))
    (AZ (AE φ_need (AB (AE φ_are_unlike (AB (Bg 1 [] (EU (AC 0)) (AN 0) Bo (mOp AS (AC 0) (mC (.int 0))) A7) AH)) (AB (mC (.str "two hands have one name")) AH))))))
def DN  : Sl->M (Fl × Sl):=
    (A5 (mOp BM (mUn Hm (AC 0)) (AE BO (AB (AC 0) AH))))
def D5 (φ_check_form:List D->M D) (φ_check_ending:List D->M D) (φ_check_variables:List D->M D) (φ_need:List D->M D):Sl->M (Fl × Sl):=
    (Cs (EU (mOp AS (AC 0) (mC (.int 2)))) (AN 3) (AU (AZ (AE φ_check_form (AB (AC 3) (AB (AE BO (AB (mOp AS (AC 0) (mC (.int 2))) AH)) AH))))
    (AU (AZ (AE φ_check_ending (AB (mOp AS (AC 3) (mC (.int 0))) (AB (AC 1) AH))))
    (AU (AZ (AE φ_check_variables (AB (AC 3) (AB (AC 1) AH))))
    (AU (sIf (AY (mOp BM (mOp AS (AC 3) (mC (.int 0))) (mC (.str "put")))) (AZ (AE φ_need (AB (mOp BM (Ej (AC 2) (mOp AS (AC 3) (mC (.int 1)))) (mOp AS (AC 0) (mC (.int 0)))) (AB (mC (.str "a hand puts a box that it does not write")) AH)))) BI)
    (sIf (AY (mOp BM (mOp AS (AC 3) (mC (.int 0))) (mC (.str "get")))) (AZ (AE φ_need (AB (mOp (OZ false) (mOp AS (AC 3) (mC (.int 2))) (AC 2)) (AB (mC (.str "a hand gets a box that is none")) AH)))) BI))))))
def A9 (φ_is_tuple:List D->M D) (φ_need:List D->M D) (φ_is_part:List D->M D):Sl->M (Fl × Sl):=
    (AU (AZ (AE φ_need (AB (AE φ_is_tuple (AB (AC 0) (AB (mC (.int 1)) (AB (mC (.int 3)) AH)))) (AB (mC (.str "a row is a tuple of one to three parts")) AH))))
    (AU (AZ (AE φ_need (AB (FG (AE CW (AB (mOp AS (AC 0) (mC (.int 0))) (AB (mC (.ty "str")) AH))) (mUn (SJ BV) (mOp AS (AC 0) (mC (.int 0))))) (AB (mC (.str "a row begins with one of seven words")) AH))))
    (AU (An (mUn (NO BV) (mOp AS (AC 0) (mC (.int 0)))) (AN 2))
    (AU (AZ (AE φ_need (AB (mOp BM (AE BO (AB (AC 0) AH)) (mOp DM (mC (.int 1)) (AE BO (AB (AC 2) AH)))) (AB (mC (.str "a row has the parts of its word")) AH))))
    (Cs (P5 (AB (AC 2) (AB (mSl (AC 0) (BA (mC (.int 1))) Ay) AH))) (EV [3,4]) (AZ (AE φ_need (AB (AE φ_is_part (AB (AC 3) (AB (AC 4) (AB (AC 1) AH)))) (AB (NH [(mC (.str "a row has another thing than its ")),(SA (AC 3))]) AH)))))))))
def Bn (φ_variables_of:List D->M D) (φ_need:List D->M D):Sl->M (Fl × Sl):=
    (AU (Cs (EU (AE φ_variables_of (AB (AC 0) AH))) (AN 2) (AU (AZ (AE φ_need (AB (mOp (Dv true) (AC 2) (mC CY)) (AB (mC (.str "a variable is called like a word of expressions")) AH))))
    (AZ (AE φ_need (AB (MU (AC 1) (mOp Bl (AC 2) (mC (.str "v")))) (AB (mC (.str "a reader has no variable v")) AH))))))
    (sIf (AY (mOp (Dv false) (mOp AS (AC 0) (mC (.int 0))) (AE Aw (AB (mC (.str "get")) (AB (mC (.str "let")) AH))))) (AZ (AE φ_need (AB (mOp Bl (mOp AS (AC 0) (mC (.int 1))) (mC (.str "v"))) (AB (mC (.str "the variable v is set by no row")) AH)))) BI))
def Az (φ_variables_in:List D->M D):Sl->M (Fl × Sl):=
    (AU (An (AE DX AH) (AN 1))
    (AU (Cs (P5 (AB (mUn (NO BV) (mOp AS (AC 0) (mC (.int 0)))) (AB (mSl (AC 0) (BA (mC (.int 1))) Ay) AH))) (EV [2,3]) (AU (sIf (AY (mOp BM (AC 2) (mC (.str "variable")))) (AZ (A2 Ck (AC 1) (AB (AC 3) AH))) BI)
    (sIf (AY (mOp BM (AC 2) (mC (.str "expression")))) (AZ (A2 QQ (AC 1) (AB (AE φ_variables_in (AB (AC 3) AH)) AH))) BI)))
    (A5 (AC 1))))
def DZ  : Sl->M (Fl × Sl):=
    (AU (sIf (AY (mOp GB (AC 1) (AE BO (AB (AC 0) AH)))) (A5 (mOp AS (AC 0) (AC 1))) BI)
    (A5 (mC (.int 0))))
def Fp  : Sl->M (Fl × Sl):=
    (A5 (AE DX (AB (AE R6 (AB (mC (.int 0)) (AB (mOp Br (AC 0) (mOp Pg (mC (.int 10)) (mC (.int 9)))) AH))) (AB (mOp HR (AC 0) (mC (.int 2147483647))) (AB (mC (.int 0)) AH)))))
def Ec  : Sl->M (Fl × Sl):=
    (AU (sIf (AY (mOp KO (mOp AS (AC 0) (mC (.int 0))) (mC (.int 0)))) (AU (An (mOp HR (mOp AS (AC 0) (mC (.int 0))) (AC 1)) (AN 2))
    (AU (An (mOp G8 (mOp AS (AC 0) (mC (.int 0))) (AC 1)) (Hh (AC 0) (mC (.int 0))))
    (A5 (AC 2)))) BI)
    (AU (An (mOp DM (mOp AS (AC 0) (mC (.int 2))) (mC (.int 1))) (Hh (AC 0) (mC (.int 2))))
    (AU (An (mOp HR (mOp Er (mOp DM (mOp DM (mOp AS (AC 0) (mC (.int 1))) (mOp Er (mC (.int 7919)) (mOp AS (AC 0) (mC (.int 2))))) (mC (.int 1))) (mC (.int 48271))) (mC (.int 2147483647))) (AN 3))
    (AU (An (mOp HR (mOp Er (AC 3) (mOp DM (mOp G8 (AC 3) (mC (.int 1009))) (mC (.int 69621)))) (mC (.int 2147483647))) (AN 3))
    (AU (An (mOp HR (mOp Er (AC 3) (mOp DM (mOp G8 (AC 3) (mC (.int 2003))) (mC (.int 40692)))) (mC (.int 2147483399))) (AN 3))
    (A5 (mOp HR (mOp DM (mOp Er (AC 3) (mC (.int 48271))) (mOp G8 (AC 3) (mC (.int 7)))) (AC 1))))))))
def Gf (φ_Ldraw:List D->M D) (φ_Lexpr:List D->M D):Sl->M (Fl × Sl):=
    (AU (An (AE φ_Ldraw (AB (AC 0) (AB (mC (.int 10)) AH))) (AN 3))
    (AU (sIf (mOr (AY (mOp BM (AC 2) (mC (.int 1)))) (AY (mOp GB (AC 3) (mC (.int 3))))) (AU (sIf (mOr (AY (mOp BM (AC 1) (AE A7 AH))) (AY (mOp BM (AE φ_Ldraw (AB (AC 0) (AB (mC (.int 2)) AH))) (mC (.int 0))))) (A5 (AE Aw (AB (mC (.str "num")) (AB (AE φ_Ldraw (AB (AC 0) (AB (mC (.int 10)) AH))) AH)))) BI)
    (A5 (AE Aw (AB (mC (.str "var")) (AB (mOp AS (AC 1) (AE φ_Ldraw (AB (AC 0) (AB (AE BO (AB (AC 1) AH)) AH)))) AH))))) BI)
    (AU (sIf (AY (mOp BM (AC 3) (mC (.int 3)))) (A5 (AE Aw (AB (mC (.str "not")) (AB (AE φ_Lexpr (AB (AC 0) (AB (AC 1) (AB (mOp Br (AC 2) (mC (.int 1))) AH)))) AH)))) BI)
    (AU (An (mOp AS (AE A7 (AB (mC (.str "+")) (AB (mC (.str "-")) (AB (mC (.str "=")) (AB (mC (.str "<")) (AB (mC (.str "and")) (AB (mC (.str "or")) AH))))))) (mOp Br (AC 3) (mC (.int 4)))) (AN 4))
    (AU (An (AE φ_Lexpr (AB (AC 0) (AB (AC 1) (AB (mOp Br (AC 2) (mC (.int 1))) AH)))) (AN 5))
    (AU (An (AE φ_Lexpr (AB (AC 0) (AB (AC 1) (AB (AE LY (AB (mOp Br (AC 2) (mC (.int 1))) (AB (mC (.int 2)) AH))) AH)))) (AN 6))
    (A5 (mOp AS (AE A7 (AB (AE Aw (AB (AC 4) (AB (AC 5) (AB (AC 6) AH)))) (AB (AE Aw (AB (AC 4) (AB (AC 6) (AB (AC 5) AH)))) AH))) (AE φ_Ldraw (AB (AC 0) (AB (mC (.int 2)) AH)))))))))))
def Kb (φ_Ldraw:List D->M D) (φ_Lexpr:List D->M D):Sl->M (Fl × Sl):=
    (AU (An (AE φ_Ldraw (AB (AC 0) (AB (mC (.int 8)) AH))) (AN 6))
    (AU (An (mOp AS (AE A7 (AB (mC (.int 1)) (AB (mC (.int 2)) (AB (mC (.int 3)) (AB (mC (.int 5)) AH))))) (AE φ_Ldraw (AB (AC 0) (AB (mC (.int 4)) AH)))) (AN 7))
    (AU (sIf (AY (mOp KO (AC 4) (mC (.int 9)))) (An (AE LY (AB (AC 7) (AB (mC (.int 2)) AH))) (AN 7)) BI)
    (AU (An (mOp DM (AC 3) (mOp Er (AE A7 (AB (mC (.str "v")) AH)) (AE Ie (AB (AC 5) AH)))) (AN 8))
    (AU (sIf (FX (AY (mOp GB (AC 6) (mC (.int 2)))) (AY (mOp Bl (AC 1) (AE A7 AH)))) (A5 (AE Aw (AB (mC (.str "put")) (AB (mOp AS (AC 1) (AE φ_Ldraw (AB (AC 0) (AB (AE BO (AB (AC 1) AH)) AH)))) (AB (AE φ_Lexpr (AB (AC 0) (AB (AC 8) (AB (AC 7) AH)))) AH))))) BI)
    (AU (sIf (FX (AY (mOp GB (AC 6) (mC (.int 4)))) (AY (mOp Bl (AC 2) (AE A7 AH)))) (A5 (AE Aw (AB (mC (.str "get")) (AB (mOp AS (AC 3) (AE φ_Ldraw (AB (AC 0) (AB (AE BO (AB (AC 3) AH)) AH)))) (AB (mOp AS (AC 2) (AE φ_Ldraw (AB (AC 0) (AB (AE BO (AB (AC 2) AH)) AH)))) AH))))) BI)
    (AU (sIf (AY (mOp GB (AC 6) (mC (.int 5)))) (A5 (AE Aw (AB (mC (.str "let")) (AB (mOp AS (AC 3) (AE φ_Ldraw (AB (AC 0) (AB (AE BO (AB (AC 3) AH)) AH)))) (AB (AE φ_Lexpr (AB (AC 0) (AB (AC 8) (AB (AC 7) AH)))) AH))))) BI)
    (AU (sIf (AY (mOp BM (AC 6) (mC (.int 5)))) (A5 (AE Aw (AB (mC (.str "unless")) (AB (AE φ_Lexpr (AB (AC 0) (AB (AC 8) (AB (AC 7) AH)))) (AB (AE φ_Ldraw (AB (AC 0) (AB (mOp DM (AC 4) (mC (.int 1))) AH))) AH))))) BI)
    (AU (sIf (AY (mOp BM (AC 6) (mC (.int 6)))) (A5 (AE Aw (AB (mC (.str "jump")) (AB (AE φ_Ldraw (AB (AC 0) (AB (mOp DM (AC 4) (mC (.int 1))) AH))) AH)))) BI)
    (A5 (mOp AS (AE A7 (AB (AE Aw (AB (mC (.str "tell")) (AB (AE φ_Lexpr (AB (AC 0) (AB (AC 8) (AB (AC 7) AH)))) AH))) (AB (AE Aw (AB (mC (.str "done")) AH)) AH))) (AE Ie (AB (AC 5) AH)))))))))))))
end K1
namespace K1
open PySem L2 Mi
noncomputable def ES:List D->M D:=Ax .drop 2 2 (DZ)
noncomputable def Gn:List D->M D:=Ax .all 1 1 (Fp)
noncomputable def BH:List D->M D:=Ax .drop 4 2 (Ec)
noncomputable def DS:Nat->List D->M D
  | 0=>fun _=>BP
  | n + 1=>Ax .drop 7 3 (Gf BH (DS n))
noncomputable def Il:List D->M D:=Ax .drop 9 6 (Kb BH (DS 6))
noncomputable def Bq:List D->M D:=Ax .drop 3 3 (EQ)
noncomputable def Bd:List D->M D:=Ax .drop 2 2 (Ka)
noncomputable def C7:List D->M D:=Ax .drop 3 3 (EO)
noncomputable def Bz:List D->M D:=Ax .drop 3 3 (CU Bd C7)
noncomputable def DD:List D->M D:=Ax .drop 1 1 (Es)
noncomputable def EA:List D->M D:=Ax .drop 1 1 (DN)
noncomputable def Dg:List D->M D:=Ax .drop 2 1 (Cu Bq Bd DD Bz EA)
noncomputable def De:List D->M D:=Ax .drop 2 1 (Ct Bq Bd DD C7 EA)
noncomputable def C0:Nat->List D->M D
  | 0=>fun _=>BP
  | n + 1=>Ax .drop 3 2 (A6 (C0 n) C7 DD)
noncomputable def EF:List D->M D:=Ax .drop 3 3 (DA (C0 6) C7 DD)
noncomputable def D9:List D->M D:=Ax .drop 5 2 (A9 Bq Bd EF)
noncomputable def B0:List D->M D:=Ax .drop 2 2 (By Bd)
noncomputable def BQ:Nat->List D->M D
  | 0=>fun _=>BP
  | n + 1=>Ax .frz 3 1 (A1 (BQ n))
noncomputable def DQ:List D->M D:=Ax .frz 4 1 (Az (BQ 6))
noncomputable def CF:List D->M D:=Ax .drop 3 2 (Bn DQ Bd)
noncomputable def D8:List D->M D:=Ax .drop 4 3 (D5 D9 B0 CF Bd)
noncomputable def Be:List D->M D:=Ax .drop 6 1 (CV Bq Bd Bz Dg De D8)
end K1
namespace Mi
open PySem L2 PyProof.Rows
section
variable {X:Cx} {e a b c o:Expr} {es:List Expr} {pos apos cpos:Pos}
theorem PN {body:List Stmt} {m:Sl->M (Fl × Sl)} {h0:ExceptHandler} {hs:List ExceptHandler} (hb:RSs X.nox body m):RS X.nox (.Try body (h0 :: hs) [] [] pos) m:=
  ⟨fun pins s σ H Dn I h=>wpAny_Try_except (wpAny_mono (hb.pe pins s σ H Dn I h) (fun f s1 hf=>by
    cases f with
    | next=>exact wpAny_execs_nil hf
    | brk=>exact hf
    | cont=>exact hf
    | ret u=>exact hf) fun _ _ z=>z.elim)⟩
theorem P0:OpR X (binaryOp .Add) (fun x y H Q=>∃ a b ys,x=.ref a /\ y=.ref b /\ SqT X.K H a [] /\ SqT X.K H b ys /\ Q (.ref b) H):=by
  intro pins s σ H x y v u Q I rx ry h
  obtain ⟨a,b,ys,rfl,rfl,ha,hb,q⟩:=h
  cases rx
  cases ry
  obtain ⟨its,r1,p1,_⟩:=I.tuple ha
  obtain ⟨its2,r2,p2,_⟩:=I.tuple hb
  cases r1
  obtain ⟨⟨cls,dd,data,sl⟩,ho,hc,n,hd⟩:=p1
  obtain ⟨⟨cls2,dd2,data2,sl2⟩,ho2,hc2,n2,hd2⟩:=p2
  simp only at hc hd hc2 hd2
  subst hc hd hc2 hd2
  exact concat_meets ⟨_,ho,rfl⟩ ⟨_,ho2,rfl⟩ noFill_tuple_add seq_tuple_add PySem.F.slot_tuple_add PySem.F.entry_tuple_add (PySem.F.args_tuple_add_2 _ _) (tuple_addW0 a b _ _ n n2 dd dd2 sl sl2 rfl) ⟨ho,ho2,⟨.ref b,H,I,rfl,q⟩⟩
def Ak (a b:D):M D:=match a,b with
  | .tup [],.tup ds=>ret (.tup ds)
  | a,b=>DM a b
theorem BN:OpR X (binaryOp .Add) (rM X.K Ak):=fun pins s σ H x y v u Q I rx ry h=>by
  obtain ⟨ι,μ,a,b,d,μ',R,ia,ib,e,q⟩:=h
  unfold Ak at e
  split at e
  . rename_i ds
    cases e
    unfold Is at ia
    obtain ⟨p,vs,rfl,h1,h2⟩:=ia
    unfold IsL at h2
    subst h2
    have ib2:=ib
    unfold Is at ib
    obtain ⟨p',vs',rfl,h1',h2'⟩:=ib
    exact P0 pins s σ H _ _ v u Q I rx ry ⟨p,p',vs',rfl,rfl,h1,h1',q ι H R.ext0 R _ ib2⟩
  . exact FU pins s σ H x y v u Q I rx ry ⟨ι,μ,_,_,d,μ',R,ia,ib,e,q⟩
theorem JQ {prog:Program} {w:World} {A:Around} {E:Value->Shared->Prop} {s:Shared} {t sl:Addr} {items:Array Value} {vl vu:Value} {lo hi:Option Int} {Q:Value->Shared->Prop} (ht:IsTup s.heap t items) (hs:s.heap.IsSliceOf sl vl vu .none) (pl:IsPart vl lo) (pu:IsPart vu hi)
    (h1:HT.sIx items.size 0 lo=0) (h2:HT.sIx items.size items.size hi=items.size) (h:Q (.ref t) s):wpAny (model prog w) A (getItem (.ref t) (.ref sl)) Q E s:=by
  obtain ⟨os,hos,hcs,hds⟩:=id hs
  have hTs:s.TypeIs (.ref sl) "slice" := ⟨os,hos,hcs⟩
  unfold getItem
  try with_reducible refine wpAny_holding ?_
  first | refine wpAny_bind (wpAny_pure ?_) | skip
  refine wpAny_bind (wpAny_sequenceKey ht.typeIs (by decide) ?_)
  refine wpAny_bind (wpAny_callSpecial?_slot (name:=Str.ofString "__getitem__") ht.typeIs PyProof.Rows.slot_tuple_getitem
    (wpAny_call_entry PyProof.Rows.slot_tuple_getitem ht.typeIs entry_tuple_getitem ?_ (args_tuple_getitem _ _)))
  show wpAny _ _ (Builtin.Tuple.tupleItemsOf (.ref t) >>= _) _ _ s
  refine wpAny_bind (tupleItemsOf_ ht ?_)
  refine wpAny_bind (wpAny_typeOf hTs ?_)
  rw [if_pos (by decide)]
  refine wpAny_bind (HT.El hs pl pu ?_)
  have hyes:((((HT.sIx items.size 0 lo:Nat):Int) == 0 && (1:Int) == 1 && (HT.sIx items.size items.size hi - HT.sIx items.size 0 lo) == items.size)=true):=by rw [h1,h2]; simp
  show wpAny _ _ (if (((HT.sIx items.size 0 lo:Nat):Int) == 0 && (1:Int) == 1 && (HT.sIx items.size items.size hi - HT.sIx items.size 0 lo) == items.size)=true then _ else _) _ _ s
  rw [if_pos hyes]
  refine wpAny_bind (m:=Builtin.Tuple.tupleIsExact (.ref t)) ?_
  unfold Builtin.Tuple.tupleIsExact
  refine wpAny_bind (wpAny_typeOf ht.typeIs (wpAny_pure ?_))
  rw [if_pos (by decide)]
  refine wpAny_bind (wpAny_rule ?_)
  exact wpAny_pure ⟨_,rfl,wpAny_pure h⟩
theorem Qv:SlR X (fun x lo hi H Q=>∃ a xs,x=.ref a /\ SqT X.K H a xs /\ HT.sIx xs.length 0 lo=0 /\ HT.sIx xs.length xs.length hi=xs.length /\ Q (.ref a) H):=by
  intro pins s σ H x v vl vu lo hi sl Q I rx hs pl pu h
  obtain ⟨a,xs,rfl,hx,h1,h2,q⟩:=h
  cases rx
  obtain ⟨its,r,ht,hz⟩:=I.tuple hx
  have hlen:its.toArray.size=xs.length:=by rw [List.size_toArray]; exact r.length.symm
  refine ⟨"tuple",_,PyProof.Rows.slot_tuple_getitem.lookup,ht.typeIs,?_⟩
  exact JQ ht hs pl pu (by rw [hlen]; exact h1) (by rw [hlen]; exact h2) ⟨.ref a,H,I,rfl,q⟩
theorem Qc {ds:List D} {lo hi:Option Int} (h1:HT.sIx ds.length 0 lo=0) (h2:HT.sIx ds.length ds.length hi=ds.length):Fg ds lo hi=ds:=by
  unfold Fg
  rw [h1,h2]; simp
def LO (lo hi:Option Int):D->M D
  | .tup ds=>ret (.tup (Fg ds lo hi))
  | d=>bnd (CB d) fun ds=>ret (.lst (Fg ds lo hi))
def Wj (K:PySem.W.Frag):V->Option Int->Option Int->Hp->VK->Prop:=fun x lo hi H Q=>∃ ι μ a d μ',RelH K ι μ H /\ Is K ι μ.length H a x /\ LO lo hi a μ=some (d,μ') /\
  Aft K ι μ H μ' fun ι' H'=>∀ v,Is K ι' μ'.length H' d v->Q v H'
theorem Vu:SlR X (Wj X.K):=fun pins s σ H x v vl vu lo hi sl Q I rx hs pl pu h=>by
  obtain ⟨ι,μ,a,d,μ',R,ia,e,q⟩:=h
  by_cases c:∃ ds,a=.tup ds /\ HT.sIx ds.length 0 lo=0 /\ HT.sIx ds.length ds.length hi=ds.length
  . obtain ⟨ds,rfl,h1,h2⟩:=c
    have e:some (D.tup (Fg ds lo hi),μ)=some (d,μ'):=e
    rw [Qc h1 h2] at e
    cases e
    have ia2:=ia
    unfold Is at ia
    obtain ⟨p,vs,rfl,g1,g2⟩:=ia
    exact Qv pins s σ H _ v vl vu lo hi sl Q I rx hs pl pu ⟨p,vs,rfl,g1,by rw [g2.length]; exact h1,by rw [g2.length]; exact h2,q ι H R.ext0 R _ ia2⟩
  . refine Vv pins s σ H x v vl vu lo hi sl Q I rx hs pl pu ⟨ι,μ,a,d,μ',R,ia,?_,q⟩
    cases a with
    | tup ds=>
      show (if HT.sIx ds.length 0 lo=0 /\ HT.sIx ds.length ds.length hi=ds.length then (BP:M D) else ret (D.tup (Fg ds lo hi))) μ=_
      rw [if_neg (fun z=>c ⟨ds,rfl,z.1,z.2⟩)]; exact e
    | _=>exact e
def CI (me:Sl->M D) (ml mh:Sl->M (Option Int)):Sl->M D:=fun τ=>bnd (me τ) fun x=>bnd (ml τ) fun l=>bnd (mh τ) fun h=>LO l h x
theorem B4 {e:Expr} {lo hi:Option Expr} {me:Sl->M D} {ml mh:Sl->M (Option Int)} {pos p2:Pos} (he:RE X e me) (hl:RO X lo ml) (hh:RO X hi mh):RE X (.Subscript e (.Slice lo hi none p2) pos) (CI me ml mh):=RE.wk (LR Vu he.pe hl.pe hh.pe) fun σ H Q h=>by
  obtain ⟨ι,μ,τ,z,μ',R,S,e,q⟩:=h
  obtain ⟨x,μ1,e1,e⟩:=AK e
  obtain ⟨l,μ2,e2,e⟩:=AK e
  obtain ⟨u,μ3,e3,e⟩:=AK e
  refine ⟨ι,μ,τ,x,μ1,R,S,e1,fun ι1 H1 E1 R1 v i1=>⟨ι1,μ1,τ,l,μ2,R1,S.ext E1,e2,fun ι2 H2 E2 R2=>⟨ι2,μ2,τ,u,μ3,R2,S.ext (E1.trans E2),e3,fun ι3 H3 E3 R3=>?_⟩⟩⟩
  have E23:=E2.trans E3
  exact ⟨ι3,μ3,x,z,μ',R3,i1.ext E23,e,fun ι4 H4 E4 R4=>q ι4 H4 ((E1.trans E23).trans E4) R4⟩
end
end Mi
namespace Mi
open PySem L2
open PyProof.Rows hiding St
section
variable {X:Cx} {e a b c o tg iter elt:Expr} {es:List Expr} {pos apos cpos:Pos} {scope:Scope} {tgs:List Str} {ix:List Nat}
def IW:List D->M D
  | [d]=>bnd (Ba d) DX
  | _=>BP
theorem Mm:CH X (.type "list") (rMA X.K IW):=fun pins s σ H xs us Q I r h=>by
  obtain ⟨ι,μ,as,d,μ',R,ia,e,q⟩:=h
  unfold IW at e
  split at e
  . rename_i y
    obtain ⟨ds,μ1,e1,e2⟩:=AK e
    obtain ⟨v,rfl,i1⟩:=FL ia
    obtain ⟨hm,p,vs,rfl,h1,h2⟩:=Ew R i1 e1
    subst hm
    obtain ⟨hl,w⟩:=KZ R h2 e2 q
    exact Ku pins s σ H _ us Q I r ⟨p,vs,rfl,h1,w⟩
  . cases e
def Gh (g:D->List D->M D) (mo:Sl->M D):Sl->M D:=fun τ=>bnd (mo τ) fun x=>bnd (C5 x) fun _=>g x []
theorem Nn {K:PySem.W.Frag} {g:D->List D->M D} {mo:Sl->M D} {σ:St} {H:Hp} {Q:VK} (h:tE K (Gh g mo) σ H Q):VO K "list" (rMM K g) (tE K mo) σ H Q:=by
  obtain ⟨ι,μ,τ,d,μ',R,S,e,q⟩:=h
  obtain ⟨x,μ1,e1,ee1⟩:=AK e
  obtain ⟨u,μ2,e2,ee2⟩:=AK ee1
  have hm:=HF e2
  subst hm
  refine ⟨ι,μ,τ,x,_,R,S,e1,fun ι1 H1 E1 R1 v1 i1=>⟨(HZ R1 i1 e2).2,?_⟩⟩
  exact ⟨ι1,_,x,[],d,μ',R1,i1,IsL.nil,ee2,fun ι3 H3 E3 R3=>q ι3 H3 (E1.trans E3) R3⟩
theorem Nt {name:Str} {id:String} {g:D->List D->M D} {mo:Sl->M D} (slot:Slot "list" name id) (hty:typeOf (.builtin id)=pure (.type "method_descriptor")) (hm:MtR X id (rMM X.K g)) (ho:RE X o mo)
    (hbase:attributeBase o name X.env (eval o X.env)=eval o X.env:=by rfl) (hline:(apos.endLine == cpos.line)=true:=by rfl) :
    RE X (.Call (.Attribute o name apos) [] [] cpos) (Gh g mo):=RE.wk (T9 PySem.F.plainAttrs_list slot hty hm ho.pe hbase hline) fun _ _ _ h=>Nn h
def Qd:D->List D->M D
  | .ref n,[]=>JI n fun _=>some (.non,[])
  | _,_=>BP
theorem R9:MtR X "list.clear" (rMM X.K Qd):=fun pins s σ H x xs v us Q I rx rs h=>by
  obtain ⟨ι,μ,a,as,d,μ',R,ia,ib,e,q⟩:=h
  unfold Qd at e
  split at e
  . rename_i n
    obtain ⟨ds,es,h1,h2,rfl⟩:=G1 e
    cases h2
    unfold IsL at ib
    subst ib
    cases rs
    unfold Is at ia
    obtain ⟨_,rfl⟩:=ia
    obtain ⟨u,g1,vs,rfl,g2⟩:=R.obj n _ h1
    cases rx
    obtain ⟨z,its,nn,r,hl2,e2⟩:=I.lstM g1
    refine call_meets PySem.F.slot_list_clear ⟨_,e2,rfl⟩ PySem.F.entry_list_clear (PySem.F.args_list_clear_1 _) (PySem.AutoSeq1.list_clear_list_0 _ its.toArray nn (by rw [List.size_toArray,← hl2]; exact z)) ⟨e2,?_⟩
    exact ⟨.non,_,I.lset (its':=[]) (ys:=[]) g1 e2 rfl .nil (by simp),rfl,KC R h1 IsL.nil ofN q⟩
  . cases e
theorem Pb {n:Nat} {ifs:List Expr} {src:Sl->M (List D)} {i:Nat} {mc:Sl->M Bool} {me:Sl->M D} (S:BScope X scope tgs ix) (hc:X.calm=true) (hi:RI X tg iter src) (hg:∀ fp C s H,PG (cxB X scope tgs fp C s H) tg (Ef i)) (hif:∀ fp C s H,JD (cxB X scope tgs fp C s H) ifs (tT X.K mc)) (he:∀ fp C s H,RE (cxB X scope tgs fp C s H) elt me)
    (hin:i < tgs.length:=by decide) (hn:tgs.length=n:=by rfl) (hs:∀ x,foldedSetIterable iter X.env x=pure x:=by intro _; rfl) (ht:∀ o v,letOwnedTupleGo tg o v=pure ():=by intro _ _; rfl):RE X (.ListComp elt [⟨tg,iter,ifs,0⟩] scope pos) (Bg n ix src (AN i) mc me DX):=
  RE.wk (KR (te:=tE X.K me) S hc hi.pe hg (Hr hin) hif (fun fp C s H=>(he fp C s H).pe) hs ht) fun _ _ _ h=>KD hn (fun _ _ _ _ _ _ _ _ R i e q=>KZ R i e q) h
def Na (i:Nat) (is:List Nat):D->Sl->M Sl
  | .tup [a,.tup ds],τ=>if ds.length=is.length then JA is ds (τ.set i (some a)) else BP
  | _,_=>BP
theorem Q3 {e1:Expr} {es2:List Expr} {k k2:Nat} {p2:Pos} {i:Nat} {is:List Nat} (hc:X.calm=true) (h1:PG X e1 (Ef i)) (h2:PGs X es2 (Kp is)) (hn2:(assignEach es2 X.env).length=is.length:=by rfl) (hst2:(assignEach es2 X.env).findIdx? (·.1)=none:=by rfl)
    (hs1:(assignEach [e1,.Tuple es2 k2 p2] X.env).map (·.2)=assign e1 X.env :: (assignEach [.Tuple es2 k2 p2] X.env).map (·.2):=by rfl) (hs2:(assignEach [.Tuple es2 k2 p2] X.env).map (·.2)=assign (.Tuple es2 k2 p2) X.env :: (assignEach [] X.env).map (·.2):=by rfl)
    (hn:(assignEach [e1,.Tuple es2 k2 p2] X.env).length=2:=by rfl) (hst:(assignEach [e1,.Tuple es2 k2 p2] X.env).findIdx? (·.1)=none:=by rfl):RG X (.Tuple [e1,.Tuple es2 k2 p2] k pos) (Na i is):=
  RG.wk (MM hc (As h1 (As (MM hc h2 hn2 hst2) Cb hs2) hs1) hn hst) fun v σ H Q h=>by
    obtain ⟨ι,μ,τ,d,τ',μ',R,S,i1,e,q⟩:=h
    unfold Na at e
    split at e
    . rename_i a ds
      split at e
      . rename_i hl
        unfold Is at i1
        obtain ⟨p,vs,rfl,h1,h2⟩:=i1
        unfold IsL at h2
        obtain ⟨va,vs1,rfl,ia,h2⟩:=h2
        unfold IsL at h2
        obtain ⟨vb,vs2,rfl,ib,h2⟩:=h2
        unfold IsL at h2
        subst h2
        unfold Is at ib
        obtain ⟨p',vs',rfl,h1',h2'⟩:=ib
        refine ⟨p,_,rfl,h1,rfl,⟨va,_,rfl,?_⟩⟩
        refine ⟨_,_,rfl,⟨p',vs',rfl,h1',by rw [h2'.length,hl],HH R (S.set _ ia) h2' e fun z σ' S'=>?_⟩⟩
        subst z
        exact ⟨rfl,q ι H R.ext0 R σ' S'⟩
      . cases e
    . cases e
def Jg (kvs:List (Key × D)):Sl->M D:=fun _ μ=>some (.ref μ.length,μ ++ [.dK kvs])
theorem Pa {k1 k2 v1 v2:Str} {q1 q2 q3 q4:Pos} {n1 n2 n3 n4:Nat} (hne:k1 ≠ k2):RE X (.Dict [some (.Constant (.str k1) n1 q1),some (.Constant (.str k2) n2 q2)] [.Constant (.str v1) n3 q3,.Constant (.str v2) n4 q4] pos) (Jg [(.inr k1,.str v1),(.inr k2,.str v2)]):=
  RE.wk (Rj (LQ IT IT (LQ IT IT Rc)) rfl rfl (by simp) (by simp)) fun σ H Q h=>by
    obtain ⟨ι,μ,τ,d,μ',R,S,e,q⟩:=h
    cases e
    intro p hp
    refine ⟨by rw [Bj],[(.inr k1,.str v1),(.inr k2,.str v2)],rfl,by simp,?_⟩
    have hm:GE [] [((.inr k1:Key),V.str v1),(.inr k2,V.str v2)]=[(.inr k1,.str v1),(.inr k2,.str v2)]:=by
      have hz : ¬ ((Sum.inr k1:Key)=.inr k2):=fun z=>hne (Sum.inr.inj z)
      simp [GE,E8,hz]
    rw [hm]
    have hu:upd (upd H p (.dK [])) p (.dK [((.inr k1:Key),V.str v1),(.inr k2,V.str v2)])=upd H p (.dK [(.inr k1,.str v1),(.inr k2,.str v2)]):=by
      funext b; unfold upd; split <;> rfl
    rw [hu]
    obtain ⟨ι',E1,R1,e0⟩:=R.grown (m:=.dK [(.inr k1,.str v1),(.inr k2,.str v2)]) (o:=.dK [(.inr k1,.str v1),(.inr k2,.str v2)]) hp ⟨_,rfl,⟨_,_,rfl,ofS _,⟨_,_,rfl,ofS _,rfl⟩⟩⟩
    exact q ι' _ E1 R1 _ (by unfold Is; exact ⟨by simp,by rw [e0]⟩)
end
end Mi
namespace Mi
open PySem L2
open PyProof.Rows hiding St
section
variable {X:Cx} {e a b c o:Expr} {es:List Expr} {pos apos cpos:Pos}
def JO:List Int->Int
  | []=>0
  | i :: r=>r.foldl max i
theorem Ft:∀ (r:List Int) (i:Int),i <= r.foldl max i /\ (∀ a ∈ r,a <= r.foldl max i) /\ (r.foldl max i=i ∨ r.foldl max i ∈ r)
  | [],i=>⟨Int.le_refl _,by simp,.inl rfl⟩
  | j :: r,i=>by
    obtain ⟨h1,h2,h3⟩:=Ft r (max i j)
    refine ⟨Int.le_trans (Int.le_max_left i j) h1,fun a ha=>?_,?_⟩
    . rcases List.mem_cons.mp ha with z | z
      . subst z; exact Int.le_trans (Int.le_max_right i a) h1
      . exact h2 a z
    . rcases h3 with z | z
      . show List.foldl max (max i j) r=i ∨ List.foldl max (max i j) r ∈ j :: r
        rw [z]
        rcases Int.le_total i j with q | q
        . right; rw [Int.max_eq_right q]; simp
        . left; exact Int.max_eq_left q
      . right; exact List.mem_cons_of_mem _ z
theorem LZ {ns:List Int} (h:ns ≠ []):JO ns ∈ ns:=by
  cases ns with
  | nil=>exact absurd rfl h
  | cons i r=>
    rcases (Ft r i).2.2 with z | z
    . show r.foldl max i ∈ i :: r
      rw [z]; simp
    . exact List.mem_cons_of_mem _ z
theorem Ry {ns:List Int} {a:Int} (ha:a ∈ ns):a <= JO ns:=by
  cases ns with
  | nil=>cases ha
  | cons i r=>
    rcases List.mem_cons.mp ha with z | z
    . subst z; exact (Ft r a).1
    . exact (Ft r i).2.1 a z
theorem Rz {ns:List Int} {m:Int} (h:m ∈ ns) (h2:∀ a ∈ ns,a <= m):JO ns=m:=by
  have h1:=Ry h
  have h3:=h2 _ (LZ (ns:=ns) (by intro z; rw [z] at h; cases h))
  omega
theorem Oe (hc:X.calm=true):CH X (.builtin "max") (fun xs H Q=>∃ a ns,xs=[.ref a] /\ SqL X.K H a (ns.map V.int) /\ ns ≠ [] /\ Q (.int (JO ns)) H):=by
  intro pins s σ H xs us Q I r h
  obtain ⟨a,ns,rfl,ha,hne,q⟩:=h
  obtain ⟨u,rfl,ru⟩:=FM r
  cases ru
  obtain ⟨its,rv,p,hz⟩:=I.list ha
  have hl:=rv.length
  rw [List.length_map] at hl
  have hpos:0 < ns.length:=List.length_pos_iff.mpr hne
  refine call_max_walk (wpAny_pyIter_list p.isList ?_)
  have hlt:a < s.heap.objs.size:=by
    obtain ⟨o,n,e,_⟩:=p
    exact Heap.lt_size e
  have I1:Inv X pins σ H { s with heap:=s.heap.push { cls:=.type "list_iterator",data:=.fields #[.ref a,.int 0 0] } }:=I.kept (t':=s.toks) fun b o e=>Heap.get?_push_of_some _ e
  obtain ⟨f0,f1,f2,f3,f4,f5⟩:=I.fpOk (H':=H) (Nat.le_refl _) (I.hok.fresh (Nat.le_refl _))
  have hat:∀ (i:Nat) (v:Value),its.toArray[i]? = some v->∃ t,v=Value.int (ns.getD i 0) t:=fun i v e=>by
    have hi:its[i]? = some v:=by simpa using e
    have hlt2:i < its.length:=(List.getElem?_eq_some_iff.mp hi).1
    have hb:(ns.map V.int)[i]? = some (V.int (ns.getD i 0)):=by
      rw [List.getElem?_map,List.getElem?_eq_getElem (show i < ns.length by omega)]
      simp [List.getD,show i < ns.length by omega]
    obtain ⟨u,hu,ru⟩:=rv.get hb
    rw [hi] at hu; cases hu
    exact ru
  refine ⟨s.heap.objs.size,_,_,_,_,_,_,rfl,Walks.list (prog:=X.prog) (w:=X.w) (A:=X.A.in1) (show X.A.handled=none from I.ok.hd hc) s.heap.objs.size a (Nat.ne_of_lt hlt) its.toArray,⟨⟨_,Heap.get?_push_size _ rfl,rfl,rfl⟩,p.isList.push _⟩,fun b hb=>?_,by rw [List.size_toArray]; omega,CmpOf.ints_gt (fun i=>ns.getD i 0) hat,fun v h' tk hP kk=>?_⟩
  . show b < (s.heap.push _).objs.size
    rw [Heap.size_push]
    simp at hb
    rcases hb with hb | hb
    . rw [hb]; exact Nat.lt_succ_self _
    . rw [hb]; exact Nat.lt_succ_of_lt hlt
  . obtain ⟨t,rfl⟩:=hat _ v hP
    obtain ⟨g1,g2⟩:=argBest_gt (fun i=>ns.getD i 0) (its.toArray.size - 1)
    rw [List.size_toArray] at g1 g2
    have hM:JO ns=ns.getD (argBest (fun i j=>decide (ns.getD i 0 > ns.getD j 0)) (its.length - 1)) 0:=by
      apply Rz
      . have hx:argBest (fun i j=>decide (ns.getD i 0 > ns.getD j 0)) (its.length - 1) < ns.length:=by omega
        rw [List.getD,List.getElem?_eq_getElem hx]
        exact List.getElem_mem hx
      . intro m hm
        obtain ⟨j,hj⟩:=List.mem_iff_getElem?.mp hm
        have hj2:=(List.getElem?_eq_some_iff.mp hj).1
        have:=g2 j (by omega)
        simp only [List.getD,hj] at this
        simpa [List.getD] using this
    refine ⟨.int (JO ns),H,I1.turned (t':=tk) (fun b o hb e=>kk b o (by simpa using hb) e) f0 f1 f3 f4 f5,⟨t,?_⟩,q⟩
    rw [hM,List.size_toArray]
def Ic:List D->Option (List Int)
  | []=>some []
  | .int i :: ds=>(Ic ds).map (i :: ·)
  | _=>none
theorem Lj {K:PySem.W.Frag} {ι:Nat->Addr} {k:Nat} {H:Hp}:∀ {ds:List D} {vs:List V} {ns:List Int},IsL K ι k H ds vs->Ic ds=some ns->vs=ns.map V.int
  | [],_,_,h,e=>by cases e; unfold IsL at h; exact h
  | .int b :: ds,_,_,h,e=>by
    unfold IsL at h
    obtain ⟨v,vs',rfl,h1,h2⟩:=h
    unfold Ic at e
    cases q:Ic ds with
    | none=>rw [q] at e; cases e
    | some bs=>
      rw [q] at e; cases e
      unfold Is at h1
      rw [h1,Lj h2 q]; rfl
  | .non :: _,_,_,_,e=>by cases e
  | .bl _ :: _,_,_,_,e=>by cases e
  | .str _ :: _,_,_,_,e=>by cases e
  | .ty _ :: _,_,_,_,e=>by cases e
  | .scr _ :: _,_,_,_,e=>by cases e
  | .tup _ :: _,_,_,_,e=>by cases e
  | .lst _ :: _,_,_,_,e=>by cases e
  | .ref _ :: _,_,_,_,e=>by cases e
theorem Jo:∀ ns:List Int,Ic (ns.map D.int)=some ns
  | []=>rfl
  | n :: r=>by show (Ic (r.map D.int)).map (n :: ·)=_; rw [Jo r]; rfl
def Jh:List D->M D
  | [d]=>bnd (CB d) fun ds=>fun μ=>match Ic ds with
    | some (i :: r)=>some (.int (JO (i :: r)),μ)
    | _=>none
  | _=>BP
theorem Ux (hc:X.calm=true):CH X (.builtin "max") (rMA X.K Jh):=fun pins s σ H xs us Q I r h=>by
  obtain ⟨ι,μ,as,d,μ',R,ia,e,q⟩:=h
  refine Oe hc pins s σ H xs us Q I r ?_
  unfold Jh at e
  split at e
  . rename_i y
    obtain ⟨ds,μ1,e1,e2⟩:=AK e
    obtain ⟨v,rfl,i1⟩:=FL ia
    obtain ⟨hm,p,vs,rfl,h1,h2⟩:=Cj R i1 e1
    subst hm
    split at e2
    . rename_i i r0 hi
      cases e2
      exact ⟨p,i :: r0,rfl,by rw [← Lj h2 hi]; exact h1,by simp,q ι H R.ext0 R _ (ofI _)⟩
    . cases e2
  . cases e
theorem Ik {y:V}:∀ {ys:List V} {us:List Value} {j:Nat},Vals ys us->ys.all Dx=true->ys.findIdx? (fun z=>eqV z y)=some j->∃ hj:j < us.length,eqU y us[j]=true /\ ∀ m (hm:m < us.length),m < j->eqU y us[m]=false
  | _,_,j,.nil,_,e=>by simp at e
  | z :: ys,u :: us,j,.cons r t,f,e=>by
    rw [List.all_cons,Bool.and_eq_true] at f
    rw [List.findIdx?_cons] at e
    cases hz:eqV z y with
    | true=>
      rw [hz] at e
      simp at e
      subst e
      exact ⟨by simp,by show eqU y u=true; rw [Ks r f.1,hz],fun m hm h=>by omega⟩
    | false=>
      rw [hz] at e
      cases q:ys.findIdx? (fun z=>eqV z y) with
      | none=>rw [q] at e; simp at e
      | some k=>
        rw [q] at e
        simp at e
        subst e
        obtain ⟨hk,h1,h2⟩:=Ik t f.2 q
        refine ⟨by simp; omega,by simpa using h1,fun m hm h=>?_⟩
        cases m with
        | zero=>show eqU y u=false; rw [Ks r f.1,hz]
        | succ m=>simpa using h2 m (by simpa using hm) (by omega)
abbrev VZ (Sq:Hp->Addr->List V->Prop):V->List V->Hp->VK->Prop:=fun x xs H Q=>∃ p ys y j,x=.ref p /\ xs=[y] /\ Sq H p ys /\ Dx y=true /\ ys.all Dx=true /\ ys.findIdx? (fun z=>eqV z y)=some j /\ Q (.int j) H
theorem JP:MtR X "list.index" (VZ fun H p ys=>SqL X.K H p ys):=by
  intro pins s σ H x xs v us Q I rx rs h
  obtain ⟨p,ys,y,j,rfl,rfl,hp,fy,fys,hj,q⟩:=h
  cases rx
  obtain ⟨u,rfl,ru⟩:=FM rs
  obtain ⟨its,rv,pl,hz⟩:=I.list hp
  have hl:=rv.length
  obtain ⟨⟨cls,dd,data,sl⟩,ho,hc,n,hd⟩:=pl.isList
  simp only at hc hd
  subst hc hd
  obtain ⟨hj2,e1,e2⟩:=Ik rv fys hj
  have hn:=HA
  refine call_meets PySem.F.slot_list_index ⟨_,ho,rfl⟩ PySem.F.entry_list_index (PySem.F.args_list_index_2 _ _) (SeqAt.list_indexAt _ its.toArray n dd sl u (eqU y) j (by rw [List.size_toArray]; exact hj2) (by omega) (by simpa using e1) (fun m hm h=>by simpa using e2 m (by simpa using hm) h)) ⟨ho,fun w hw=>EN ru fy rv fys w (by simpa using hw),?_⟩
  exact ⟨.int j,H,I.tok _,⟨_,rfl⟩,q⟩
def SR:D->List D->M D
  | d,[y]=>bnd (Ba d) fun ds=>fun μ=>match Ha y,Fd ds with
    | some y,some xs=>(xs.findIdx? fun z=>eqV z y).map fun (j:Nat)=>(D.int (j:Int),μ)
    | _,_=>none
  | _,_=>BP
theorem OT {d r:D} {μ μ':Mh} {K:PySem.W.Frag} {ι:Nat->Addr} {H:Hp} {x:V} {xs:List V} {as:List D} (R:RelH K ι μ H) (ia:Is K ι μ.length H d x) (ib:IsL K ι μ.length H as xs) (e:SR d as μ=some (r,μ')) :
    ∃ p ys y j,x=.ref p /\ xs=[y] /\ (SqL K H p ys ∨ SqT K H p ys) /\ Dx y=true /\ ys.all Dx=true /\ ys.findIdx? (fun z=>eqV z y)=some j /\ r=.int j /\ μ'=μ:=by
  unfold SR at e
  split at e
  . rename_i y0
    obtain ⟨ds,μ1,e1,e2⟩:=AK e
    obtain ⟨hm,p,vs,rfl,h1,h2⟩:=Ew R ia e1
    subst hm
    obtain ⟨v,rfl,i1⟩:=FL ib
    split at e2
    . rename_i w ws q1 q2
      obtain ⟨rfl,f1⟩:=Ij i1 q1
      obtain ⟨rfl,f2⟩:=HI h2 q2
      cases hj:vs.findIdx? (fun z=>eqV z v) with
      | none=>rw [hj] at e2; cases e2
      | some j=>rw [hj] at e2; cases e2; exact ⟨p,vs,v,j,rfl,rfl,h1,f1,f2,hj,rfl,rfl⟩
    . cases e2
  . cases e
def Lm (d:D) (as:List D):M D:=bnd (C5 d) fun _=>SR d as
theorem P4:MtR X "list.index" (rMM X.K Lm):=fun pins s σ H x xs v us Q I rx rs h=>by
  obtain ⟨ι,μ,a,as,d,μ',R,ia,ib,e,q⟩:=h
  obtain ⟨u,μ1,e1,e2⟩:=AK e
  have hm:=HF e1
  subst hm
  obtain ⟨ds,μ2,g1,g2⟩:=AK e1
  obtain ⟨_,p0,vs0,hx,hq,_⟩:=Cj R ia g1
  obtain ⟨p,ys,y,j,rfl,rfl,h1,f1,f2,hj,rfl,rfl⟩:=OT R ia ib e2
  cases hx
  have hs:SqL X.K H p0 ys:=by
    rcases h1 with z | z
    . exact z
    . obtain ⟨its,_,pl,_⟩:=I.list hq
      obtain ⟨its2,_,pt,_⟩:=I.tuple z
      obtain ⟨o,e1,c1,_⟩:=pl.isList
      obtain ⟨o2,e2,c2,_⟩:=pt
      rw [e1] at e2; cases e2
      rw [c1] at c2; exact absurd c2 (by decide)
  exact JP pins s σ H _ _ v us Q I rx rs ⟨p0,ys,y,j,rfl,rfl,hs,f1,f2,hj,q ι H R.ext0 R _ (ofI _)⟩
end
end Mi
namespace Mi
open PySem L2
open PyProof.Rows hiding St
theorem Qn {M:Model} {A:Around} {E:Value->Shared->Prop} {s:Shared} {β:Type} {n:Nat} (f:Nat->β->Sem (ForInStep β)) (I:Nat->β->Shared->Prop) (Q:β->Shared->Prop)
    (turn:∀ i b s,i < n->I i b s->wpAny M A (f i b) (fun r s'=>match r with | .yield b'=>I (i + 1) b' s' | .done b'=>Q b' s') E s)
    (fin:∀ b s,I n b s->Q b s) (b:β) (h:I 0 b s):wpAny M A (forIn [:n] b f) Q E s:=by
  rw [Std.Legacy.Range.forIn_eq_forIn_range']
  simp only [Std.Legacy.Range.size,Nat.sub_zero,Nat.add_sub_cancel,Nat.div_one]
  refine wpAny_forIn_list f (fun rest b s=>∃ i,rest=List.range' i (n - i) /\ i <= n /\ I i b s) Q (fun x rest b s hI=>?_) (fun b s hI=>?_) _ b ⟨0,rfl,Nat.zero_le _,h⟩
  . obtain ⟨i,e,hi,hI⟩:=hI
    have hlt:i < n:=by
      rcases Nat.lt_or_ge i n with z | z
      . exact z
      . rw [show n - i=0 from by omega] at e; cases e
    rw [show n - i=(n - (i + 1)) + 1 from by omega,List.range'_succ] at e
    have e1:=(List.cons.inj e).1
    have e2:=(List.cons.inj e).2
    subst e1
    subst e2
    refine wpAny_mono (turn _ b s hlt hI) (fun r s' hr=>?_) fun _ _ z=>z
    cases r with
    | done b'=>exact hr
    | yield b'=>exact ⟨_,rfl,hlt,hr⟩
  . obtain ⟨i,e,hi,hI⟩:=hI
    have hn:i=n:=by
      have:=congrArg List.length e
      simp at this; omega
    subst hn
    exact fin b s hI
theorem JJ (l:Addr) (items:Array Value) (n:Nat) (dd:Option Addr) (sl:Array (Option Value)) (x:Value) (e:Value->Bool) (j:Nat) (hj:j < items.size)
    (hit:e items[j]=true) (hno:∀ m (hm:m < items.size),m < j->e items[m]=false) :
    Meets (Builtin.«tuple.index» ⟨[.ref l,x],[]⟩)
      (fun A R s=>s.heap.get? l=some { cls:=.type "tuple",dict:=dd,data:=.seq items n,slots:=sl } /\ (∀ y,y ∈ items->SeqAt.EqAt A.in1 s y x (e y)) /\ R (.ok (.ret (.int j s.toks))) { s with toks:=s.toks + 1 }):=
  .of_wp fun prog w A R s h=>by
    obtain ⟨hp,g,d,tk,os⟩:=s
    obtain ⟨hl,he,h⟩:=h
    wp_walk using wpAny_loadPart' hl,Qn _ (fun i b s'=>b.1=none /\ s'=⟨hp,g,d,tk,os⟩ /\ i <= j) _
    case turn=>
      rintro i b s' hi ⟨hb,rfl,hij⟩
      have hi2:i < items.size:=by omega
      rw [show items[i]? = some items[i] from Array.getElem?_eq_getElem hi2]
      refine wpAny_bind (he items[i] (Array.getElem_mem hi2) prog w _ _ ?_)
      rcases Nat.lt_or_ge i j with z | z
      . rw [hno i hi2 z]
        wp_walk
        exact ⟨rfl,rfl,z⟩
      . have hij2:i=j:=by omega
        subst hij2
        rw [hit]
        wp_walk
        exact ⟨_,rfl,h⟩
    case fin=>
      rintro b s' ⟨hb,rfl,hij⟩
      exfalso
      simp at hij
      omega
    case h=>
      exact ⟨rfl,rfl,Nat.zero_le _⟩
section
variable {X:Cx} {e a b c o:Expr} {es:List Expr} {pos apos cpos:Pos}
theorem IA:MtR X "tuple.index" (VZ fun H p ys=>SqT X.K H p ys):=by
  intro pins s σ H x xs v us Q I rx rs h
  obtain ⟨p,ys,y,j,rfl,rfl,hp,fy,fys,hj,q⟩:=h
  cases rx
  obtain ⟨u,rfl,ru⟩:=FM rs
  obtain ⟨its,rv,pl,hz⟩:=I.tuple hp
  obtain ⟨⟨cls,dd,data,sl⟩,ho,hc,n,hd⟩:=pl
  simp only at hc hd
  subst hc hd
  obtain ⟨hj2,e1,e2⟩:=Ik rv fys hj
  refine call_meets PySem.F.slot_tuple_index ⟨_,ho,rfl⟩ PySem.F.entry_tuple_index (PySem.F.args_tuple_index_2 _ _) (JJ _ its.toArray n dd sl u (eqU y) j (by rw [List.size_toArray]; exact hj2) (by simpa using e1) (fun m hm h=>by simpa using e2 m (by simpa using hm) h)) ⟨ho,fun w hw=>EN ru fy rv fys w (by simpa using hw),?_⟩
  exact ⟨.int j,H,I.tok _,⟨_,rfl⟩,q⟩
structure Sj (K:PySem.W.Frag) (mg:Str->Option Value) (x:Str) (xs:List Str):Prop where
  ex:∃ p its n sl,mg x=some (.ref p) /\ K.lookup p=some ⟨.type "tuple",none,.seq its n,sl⟩ /\ FQ its.toList=some xs /\ xs.length <= 1000
theorem SS {K:PySem.W.Frag} {mg:Str->Option Value} {h:Heap} {x:Str} {p:Addr} {its:Array Value} {n:Nat} {sl:Array (Option Value)} {xs:List Str} (X:K.In h) (G:h.Ns mainGlobals mg) (a:PySem.W.nsIn K mainGlobals x=some (some (.ref p))) (l:K.lookup p=some ⟨.type "tuple",none,.seq its n,sl⟩) (e:FQ its.toList=some xs) (hl:xs.length <= 1000):Sj K mg x xs:=
  ⟨p,its,n,sl,PySem.W.mg_of X G a,l,e,hl⟩
def Ih (xs:List Str):D->M D
  | .str y=>fun μ=>(xs.findIdx? (· == y)).map fun (j:Nat)=>(D.int (j:Int),μ)
  | _=>BP
theorem Jv (y:Str):∀ xs:List Str,(xs.map V.str).findIdx? (fun z=>eqV z (.str y))=xs.findIdx? (· == y)
  | []=>rfl
  | x :: r=>by
    rw [List.map_cons,List.findIdx?_cons,List.findIdx?_cons,Jv y r]; rfl
theorem Gm:∀ xs:List Str,(xs.map V.str).all Dx=true
  | []=>rfl
  | x :: r=>by rw [List.map_cons,List.all_cons,Gm r]; rfl
theorem Q5 {x:Str} {xs:List Str} {me:Sl->M D} {p:Pos} (g:Sj X.K X.mg x xs) (he:RE X e me) (hg:Gl X x:=by rfl) (hdb:(x == ("__debug__" : Str))=false:=by decide)
    (hbase:attributeBase (.Name x p) "index" X.env (eval (.Name x p) X.env)=eval (.Name x p) X.env:=by rfl)
    (hfew:((backTo cpos (starEach [e] X.env)).all (fun x=>!x.1) && (backToKw cpos (keywordEach [] X.env)).all (fun x=>x.1.isSome)
      && decide ([e].length + ([]:List Keyword).length + (if ([]:List Keyword).isEmpty then 0 else 1) < 30))=true:=by rfl)
    (hline:(apos.endLine == cpos.line)=true:=by rfl) (hs:starEach [e] X.env=(false,eval e X.env) :: starEach [] X.env:=by exact BS rfl) (hplain:(backTo cpos (starEach [] X.env)).any (·.1)=false:=by exact CK rfl) :
    RE X (.Call (.Attribute (.Name x p) "index" apos) [e] [] cpos) (mUn (Ih xs) me):=by
  obtain ⟨ad,its,n,sl,hm,hk,hx,hl⟩:=g
  have v:=FP hx
  have hz:its.size <= sizeLine:=by
    have:=v.length
    rw [List.length_map] at this
    have z:its.size=xs.length:=by rw [this]; simp
    rw [z]
    exact Nat.le_of_lt (JX hl)
  refine RE.wk (Sr PySem.F.plainAttrs_tuple PySem.F.slot_tuple_index PySem.F.type_tuple_index IA (Hj (v:=.ref ad) hg hm rfl hdb) (AA he AF hs).pe hbase hfew hline hs hplain) fun σ H Q h=>?_
  obtain ⟨ι,μ,τ,d,μ',R,S,e,q⟩:=h
  obtain ⟨y,μ1,e1,e2⟩:=AK e
  refine ⟨.inr (.inl ⟨rfl,_,hk,rfl,rfl⟩),?_⟩
  refine ⟨ι,μ,τ,[y],μ1,R,S,?_,fun ι1 H1 E1 R1 vs i1=>?_⟩
  . show bnd (me τ) _ μ=_
    rw [AQ e1]; rfl
  cases y with
  | str y=>
    obtain ⟨v1,rfl,iv⟩:=FL i1
    cases C4 iv
    have e3:(xs.findIdx? (· == y)).map (fun (j:Nat)=>(D.int (j:Int),μ1))=some (d,μ'):=e2
    cases hj:xs.findIdx? (· == y) with
    | none=>rw [hj] at e3; cases e3
    | some j=>
      rw [hj] at e3; cases e3
      exact ⟨ad,xs.map V.str,.str y,j,rfl,rfl,.inr ⟨_,its,n,hk,rfl,rfl,hz,v⟩,rfl,Gm xs,by rw [Jv]; exact hj,q ι1 H1 E1 R1 _ (ofI _)⟩
  | _=>cases e2
end
end Mi
namespace Mi
open PySem L2
def Pu1 (g:List D->M D):Prop:=∀ ds μ a μ',g ds μ=some (a,μ')->μ'=μ
theorem Tp:Pu AH:=fun τ μ a μ' e=>by cases e; rfl
theorem RV {m:Sl->M D} {r:Sl->M (List D)} (h:Pu m) (hr:Pu r):Pu (AB m r):=fun τ μ a μ' e=>by
  obtain ⟨x,μ1,e1,e2⟩:=AK e
  obtain ⟨xs,μ2,e3,e4⟩:=AK e2
  cases e4
  rw [hr _ _ _ _ e3,h _ _ _ _ e1]
theorem RU {f:List D->M D} {m:Sl->M (List D)} (hf:Pu1 f) (h:Pu m):Pu (AE f m):=fun τ μ a μ' e=>by
  obtain ⟨x,μ1,e1,e2⟩:=AK e
  rw [hf _ _ _ _ e2,h _ _ _ _ e1]
theorem Vc {a b:Sl->M Bool} (ha:Pu a) (hb:Pu b):Pu (mOr a b):=fun τ μ r μ' e=>by
  obtain ⟨x,μ1,e1,e2⟩:=AK e
  have z:=ha _ _ _ _ e1
  split at e2
  . cases e2; exact z
  . rw [hb _ _ _ _ e2,z]
theorem To {a:Sl->M Bool} (ha:Pu a):Pu (Gg a):=fun τ μ r μ' e=>by
  obtain ⟨x,μ1,e1,e2⟩:=AK e
  cases e2
  exact ha _ _ _ _ e1
theorem RQ:Pu1 CW:=fun ds μ a μ' e=>by
  unfold CW at e
  split at e
  . rename_i y T
    split at e
    . rename_i t ht
      cases hk:Ee t T with
      | none=>rw [hk] at e; cases e
      | some b=>rw [hk] at e; cases e; rfl
    . cases e
  . cases e
theorem Tq:Pu1 BO:=fun ds μ a μ' e=>by
  unfold BO at e
  split at e
  . split at e
    . cases e; rfl
    . cases e
  . split at e
    . cases e; rfl
    . cases e
  . obtain ⟨x,μ1,e1,e2⟩:=AK e
    cases e2
    exact J8 e1
  . cases e
end Mi
local macro_rules | `(tactic| wtm_at "own qpu")=>`(tactic| repeat first | exact Mi.RP | exact Mi.Wl | exact Mi.RM | exact Mi.Ve | exact Mi.Tr | exact Mi.Tp | exact Mi.RQ | exact Mi.Tq | apply Mi.RN | apply Mi.Vd | apply Mi.RV | apply Mi.RU | apply Mi.Vc | apply Mi.pu_and | apply Mi.To)
namespace K61
open PySem L2 Mi K1
def D4  : Sl->M (Fl × Sl):=
    (A5 (mOp Ak (mOp Ak (CI (AC 0) Ay (BA (AC 1))) (AE Aw (AB (AC 2) AH))) (CI (AC 0) (BA (mOp Ak (AC 1) (mC (.int 1)))) Ay)))
def FV (φ_weaker_ones:List D->M D) (φ_ones_with_less:List D->M D) (φ_exchanged_ones:List D->M D) (φ_is_let_by:List D->M D):Sl->M (Fl × Sl):=
    (AU (An (mOp Ak (mOp Ak (AE φ_weaker_ones (AB (AC 0) AH)) (AE φ_ones_with_less (AB (AC 0) AH))) (AE φ_exchanged_ones (AB (AC 0) AH))) (AN 1))
    (A5 (Bg 1 [0] (EU (AC 1)) (AN 0) (FX (AY (mOp Bl (mOp AS (AC 0) (mC (.int 1))) (AC 1))) (AY (AE φ_is_let_by (AB (mOp AS (AC 0) (mC (.int 1))) AH)))) (AC 0) DX)))
def Eb (φ_check_making:List D->M D):Sl->M (Fl × Sl):=
    (AU (AZ (AE φ_check_making (AB (AC 0) AH)))
    (A5 (mC (.bl true))))
def Db (φ_with_thing:List D->M D):Sl->M (Fl × Sl):=
    (AU (An (AE DX AH) (AN 1))
    (AU (Cs (FA (AB (mOp AS (AC 0) (mC (.int 3))) AH)) (EV [2,3]) (sIf (AY (mOp Bl (mOp AS (AC 3) (mC (.int 1))) (mC (.str "safe")))) (AU (An (AE φ_with_thing (AB (AC 3) (AB (mC (.int 1)) (AB (mOp AS (mC Dl) (mOp Br (mUn (Ih ["safe", "steady", "whole"]) (mOp AS (AC 3) (mC (.int 1)))) (mC (.int 1)))) AH)))) (AN 4))
    (AZ (A2 Ck (AC 1) (AB (AE Aw (AB (AE Aw (AB (mC (.str "weaker")) (AB (mOp AS (AC 3) (mC (.int 0))) AH))) (AB (AE φ_with_thing (AB (AC 0) (AB (mC (.int 3)) (AB (AE φ_with_thing (AB (mOp AS (AC 0) (mC (.int 3))) (AB (AC 2) (AB (AC 4) AH)))) AH)))) AH))) AH)))) BI))
    (A5 (AC 1))))
def Cc (φ_pulled_up:List D->M D) (φ_with_rows:List D->M D):Sl->M (Fl × Sl):=
    (AU (An (AE DX AH) (AN 1))
    (AU (Cs (FA (AB (mOp AS (AC 0) (mC (.int 4))) AH)) (EV [2,3]) (Cs (Ds (AB (AE BO (AB (mOp AS (AC 3) (mC (.int 2))) AH)) AH)) (AN 4) (AU (An (Bg 1 [4] (EU (mOp Ak (CI (mOp AS (AC 3) (mC (.int 2))) Ay (BA (AC 4))) (CI (mOp AS (AC 3) (mC (.int 2))) (BA (mOp Ak (AC 4) (mC (.int 1)))) Ay))) (AN 0) Bo (AE φ_pulled_up (AB (AC 0) (AB (AC 1) AH))) A7) (AN 5))
    (AZ (A2 Ck (AC 1) (AB (AE Aw (AB (AE Aw (AB (mC (.str "less")) (AB (mOp AS (AC 3) (mC (.int 0))) (AB (AC 4) AH)))) (AB (AE φ_with_rows (AB (AC 0) (AB (AC 2) (AB (AE Bu (AB (AC 5) AH)) AH)))) AH))) AH))))))
    (A5 (AC 1))))
def Ea  : Sl->M (Fl × Sl):=
    (AU (sIf (FX (AY (mOp (Dv false) (mOp AS (AC 0) (mC (.int 0))) (AE Aw (AB (mC (.str "jump")) (AB (mC (.str "unless")) AH))))) (AY (mOp KO (mOp AS (AC 0) (mUn EY (mC (.int 1)))) (AC 1)))) (A5 (mOp Ak (CI (AC 0) Ay (BA (mUn EY (mC (.int 1))))) (AE Aw (AB (mOp Br (mOp AS (AC 0) (mUn EY (mC (.int 1)))) (mC (.int 1))) AH)))) BI)
    (A5 (AC 0)))
def Cd (φ_with_rows:List D->M D):Sl->M (Fl × Sl):=
    (AU (An (AE DX AH) (AN 1))
    (AU (Cs (FA (AB (mOp AS (AC 0) (mC (.int 4))) AH)) (EV [2,3]) (AU (An (mOp AS (AC 3) (mC (.int 2))) (AN 4))
    (Cs (Ds (AB (mOp Br (AE BO (AB (AC 4) AH)) (mC (.int 1))) AH)) (AN 5) (AU (An (mOp Ak (mOp Ak (CI (AC 4) Ay (BA (AC 5))) (AE Aw (AB (mOp AS (AC 4) (mOp Ak (AC 5) (mC (.int 1)))) (AB (mOp AS (AC 4) (AC 5)) AH)))) (CI (AC 4) (BA (mOp Ak (AC 5) (mC (.int 2)))) Ay)) (AN 6))
    (AZ (A2 Ck (AC 1) (AB (AE Aw (AB (AE Aw (AB (mC (.str "other")) (AB (mOp AS (AC 3) (mC (.int 0))) (AB (AC 5) AH)))) (AB (AE φ_with_rows (AB (AC 0) (AB (AC 2) (AB (AC 6) AH)))) AH))) AH)))))))
    (A5 (AC 1))))
def EZ (φ_with_thing:List D->M D):Sl->M (Fl × Sl):=
    (AU (An (AE φ_with_thing (AB (mOp AS (mOp AS (AC 0) (mC (.int 4))) (AC 1)) (AB (mC (.int 2)) (AB (AC 2) AH)))) (AN 3))
    (A5 (AE φ_with_thing (AB (AC 0) (AB (mC (.int 4)) (AB (AE φ_with_thing (AB (mOp AS (AC 0) (mC (.int 4))) (AB (AC 1) (AB (AC 3) AH)))) AH))))))
def Fs (φ_Ldraw:List D->M D) (φ_Lrow:List D->M D):Sl->M (Fl × Sl):=
    (AU (An (AE A7 (AB (mC (.str "w")) (AB (mC (.str "r")) (AB (mC (.str "put")) (AB (mC (.str "makes")) (AB (mC (.str "box")) (AB (mC (.str "hand")) (AB (mC (.str "abcdefgh")) (AB (mC (.str "z")) (AB (mC (.str "not")) (AB (mC (.str "v")) (AB (mC (.str "safe")) (AB (mC (.str "x")) AH))))))))))))) (AN 1))
    (AU (An (AE φ_Ldraw (AB (AC 0) (AB (mC (.int 12)) AH))) (AN 2))
    (AU (An (mOp Ak (CI (AC 1) (BA (AC 2)) Ay) (CI (AC 1) Ay (BA (AC 2)))) (AN 1))
    (AU (An (CI (AC 1) Ay (BA (mOp Ak (mC (.int 2)) (AE φ_Ldraw (AB (AC 0) (AB (mC (.int 3)) AH)))))) (AN 3))
    (AU (An (AE DX AH) (AN 4))
    (AU (Cs (Ds (AB (AE φ_Ldraw (AB (AC 0) (AB (mC (.int 7)) AH))) AH)) (AN 5) (AU (An (mOp Ak (mC (.int 2)) (AE φ_Ldraw (AB (AC 0) (AB (mC (.int 9)) AH)))) (AN 6))
    (AU (An (mOp AS (AE A7 (AB (mC (.str "safe")) (AB (mC (.str "steady")) (AB (mC (.str "whole")) AH)))) (AE φ_Ldraw (AB (AC 0) (AB (mC (.int 3)) AH)))) (AN 7))
    (AZ (A2 Ck (AC 4) (AB (AE Aw (AB (mOp AS (AC 1) (mOp Br (mC (.int 11)) (AC 5))) (AB (AC 7) (AB (AC 6) (AB (AE φ_Ldraw (AB (AC 0) (AB (AC 6) AH))) (AB (mOp AS (AC 3) (AE φ_Ldraw (AB (AC 0) (AB (AE BO (AB (AC 3) AH)) AH)))) AH)))))) AH))))))
    (AU (An (AE DX AH) (AN 8))
    (AU (An (AE φ_Ldraw (AB (AC 0) (AB (mOp Er (mC (.int 9)) (AE BO (AB (AC 3) AH))) AH))) (AN 9))
    (AU (Cs (Sv (AB (AC 3) AH)) (EV [5,10]) (AU (An (mOp AS (AE A7 (AB (mC (.int 0)) (AB (mC (.int 1)) (AB (mC (.int 3)) (AB (mC (.int 5)) (AB (mC (.int 7)) AH)))))) (AE φ_Ldraw (AB (AC 0) (AB (mC (.int 5)) AH)))) (AN 11))
    (AU (sIf (AY (mOp BM (AC 5) (AC 9))) (An (mC (.int 60)) (AN 11)) BI)
    (AU (An (Bg 1 [10] (FW (AC 4)) (AN 0) (AY (mOp BM (mOp AS (AC 0) (mC (.int 4))) (AC 1))) (mOp AS (AC 0) (mC (.int 0))) A7) (AN 12))
    (AU (An (CI (AE A7 (AB (mC (.str "x")) (AB (mC (.str "abcdefgh")) (AB (mC (.str "tell")) (AB (mC (.str "vv")) (AB (mC (.str "if")) AH)))))) Ay (BA (mOp Ak (mC (.int 1)) (AE φ_Ldraw (AB (AC 0) (AB (mC (.int 5)) AH)))))) (AN 13))
    (AU (An (Bg 1 [4,5,11,12,13,0] (Ds (AB (AC 11) AH)) (AN 0) Bo (AE φ_Lrow (AB (AC 6) (AB (AC 4) (AB (Bg 1 [] (FW (AC 1)) (AN 0) Bo (mOp AS (AC 0) (mC (.int 0))) A7) (AB (AC 5) (AB (AC 3) (AB (mOp BM (AC 2) (mC (.int 0))) AH))))))) A7) (AN 14))
    (AZ (A2 Ck (AC 8) (AB (AE Aw (AB (AC 10) (AB (mOp AS (AE A7 (AB (mC (.int 0)) (AB (mC (.int 1)) (AB (mC (.int 9)) (AB (mC (.int 99)) (AB (mC (.int 400)) AH)))))) (AE φ_Ldraw (AB (AC 0) (AB (mC (.int 5)) AH)))) (AB (AE Bu (AB (AC 14) AH)) AH)))) AH)))))))))
    (AU (An (mOp Ak (mC (.int 2)) (AE φ_Ldraw (AB (AC 0) (AB (mC (.int 9)) AH)))) (AN 6))
    (AU (An (mOp AS (AE A7 (AB (mC (.str "safe")) (AB (mC (.str "steady")) (AB (mC (.str "whole")) AH)))) (AE φ_Ldraw (AB (AC 0) (AB (mC (.int 3)) AH)))) (AN 7))
    (A5 (AE Aw (AB (AC 7) (AB (AC 6) (AB (AE φ_Ldraw (AB (AC 0) (AB (AC 6) AH))) (AB (AE Bu (AB (AC 4) AH)) (AB (AE Bu (AB (AC 8) AH)) AH))))))))))))))))))
def Kd  : Sl->M (Fl × Sl):=
    (AU (An (AE DX AH) (AN 2))
    (AU (Cs (FA (AB (mOp AS (AC 0) (mC (.int 4))) AH)) (Na 3 [4,5,6]) (AU (An (CI (AC 6) Ay (BA (mOp AS (AE A7 (AB (mC (.int 2)) (AB (mC (.int 9)) AH))) (AE Ie (AB (mOp BM (AC 3) (AC 1)) AH))))) (AN 6))
    (AU (An (AE DX AH) (AN 7))
    (AU (Cs (EU (AC 6)) (AN 8) (AU (sIf (AY (mOp (Dv false) (mOp AS (AC 8) (mC (.int 0))) (AE Aw (AB (mC (.str "unless")) (AB (mC (.str "jump")) AH))))) (An (mOp Ak (CI (AC 8) Ay (BA (mUn EY (mC (.int 1))))) (AE Aw (AB (AE LY (AB (mOp AS (AC 8) (mUn EY (mC (.int 1)))) (AB (AE BO (AB (AC 6) AH)) AH))) AH))) (AN 8)) BI)
    (AZ (A2 Ck (AC 7) (AB (AC 8) AH)))))
    (AZ (A2 Ck (AC 2) (AB (AE Aw (AB (AC 4) (AB (AC 5) (AB (AE Bu (AB (AC 7) AH)) AH)))) AH)))))))
    (A5 (mOp Ak (CI (AC 0) Ay (BA (mC (.int 4)))) (AE Aw (AB (AE Bu (AB (AC 2) AH)) AH))))))
def Fq  : Sl->M (Fl × Sl):=
    (AU (An (AE DX AH) (AN 1))
    (AU (Cs (FA (AB (mOp AS (AC 0) (mC (.int 3))) AH)) (EV [2,3]) (AU (An (Ej (Jg [(.inr "steady",.str "safe"),(.inr "whole",.str "steady")]) (mOp AS (AC 3) (mC (.int 1)))) (AN 4))
    (sIf (AY (mOp (Ph true) (AC 4) (mC .non))) (AU (An (AE IW (AB (mOp AS (AC 0) (mC (.int 3))) AH)) (AN 5))
    (AU (An (mOp Ak (AE Aw (AB (mOp AS (AC 3) (mC (.int 0))) (AB (AC 4) AH))) (CI (AC 3) (BA (mC (.int 2))) Ay)) (Hh (AC 5) (AC 2)))
    (AZ (A2 Ck (AC 1) (AB (AE Aw (AB (AE Aw (AB (mC (.str "weaker")) (AB (mOp AS (AC 3) (mC (.int 0))) AH))) (AB (mOp Ak (CI (AC 0) Ay (BA (mC (.int 3)))) (AE Aw (AB (AE Bu (AB (AC 5) AH)) (AB (mOp AS (AC 0) (mC (.int 4))) AH)))) AH))) AH))))) BI)))
    (A5 (AC 1))))
def Hk  : Sl->M (Fl × Sl):=
    (AU (An (AE IW (AB (mOp AS (AC 0) (mC (.int 4))) AH)) (AN 3))
    (AU (An (mOp Ak (CI (mOp AS (AC 3) (AC 1)) Ay (BA (mC (.int 2)))) (AE Aw (AB (AE Bu (AB (AC 2) AH)) AH))) (Hh (AC 3) (AC 1)))
    (A5 (mOp Ak (CI (AC 0) Ay (BA (mC (.int 4)))) (AE Aw (AB (AE Bu (AB (AC 3) AH)) AH))))))
def Hl (φ_Lwith:List D->M D):Sl->M (Fl × Sl):=
    (AU (An (mOp AS (mOp AS (AC 0) (mC (.int 4))) (AC 1)) (EV [2,3,4]))
    (AU (An (AE DX AH) (AN 5))
    (AU (Cs (Ds (AB (AE BO (AB (AC 4) AH)) AH)) (AN 6) (AU (An (AE DX AH) (AN 7))
    (AU (Cs (FA (AB (AC 4) AH)) (EV [8,9]) (AU (sIf (FX (AY (mOp (Dv false) (mOp AS (AC 9) (mC (.int 0))) (AE Aw (AB (mC (.str "unless")) (AB (mC (.str "jump")) AH))))) (AY (mOp KO (mOp AS (AC 9) (mUn EY (mC (.int 1)))) (AC 6)))) (An (mOp Ak (CI (AC 9) Ay (BA (mUn EY (mC (.int 1))))) (AE Aw (AB (mOp Br (mOp AS (AC 9) (mUn EY (mC (.int 1)))) (mC (.int 1))) AH))) (AN 9)) BI)
    (sIf (AY (mOp Bl (AC 8) (AC 6))) (AZ (A2 Ck (AC 7) (AB (AC 9) AH))) BI)))
    (AZ (A2 Ck (AC 5) (AB (AE Aw (AB (AE Aw (AB (mC (.str "less")) (AB (AC 2) (AB (AC 6) AH)))) (AB (AE φ_Lwith (AB (AC 0) (AB (AC 1) (AB (AC 7) AH)))) AH))) AH))))))
    (A5 (AC 5)))))
def Ge (φ_Lwith:List D->M D):Sl->M (Fl × Sl):=
    (AU (An (mOp AS (mOp AS (AC 0) (mC (.int 4))) (AC 1)) (EV [2,3,4]))
    (AU (An (AE DX AH) (AN 5))
    (AU (Cs (NG (AB (mC (.int 1)) (AB (AE BO (AB (AC 4) AH)) AH))) (AN 6) (AU (An (AE IW (AB (AC 4) AH)) (AN 7))
    (AU (An (mOp AS (AC 4) (mOp Br (AC 6) (mC (.int 1)))) (Hh (AC 7) (AC 6)))
    (AU (An (mOp AS (AC 4) (AC 6)) (Hh (AC 7) (mOp Br (AC 6) (mC (.int 1)))))
    (AZ (A2 Ck (AC 5) (AB (AE Aw (AB (AE Aw (AB (mC (.str "other")) (AB (AC 2) (AB (mOp Br (AC 6) (mC (.int 1))) AH)))) (AB (AE φ_Lwith (AB (AC 0) (AB (AC 1) (AB (AC 7) AH)))) AH))) AH)))))))
    (A5 (AC 5)))))
def D6 (φ_check_making:List D->M D):Sl->M (Fl × Sl):=
    (AU (An (mC (.bl true)) (AN 1))
    (AU (AZ (AE φ_check_making (AB (AC 0) AH)))
    (A5 (AC 1))))
def Kc (φ_Lweaker:List D->M D) (φ_Lless:List D->M D) (φ_Lother:List D->M D) (φ_Lis_making:List D->M D):Sl->M (Fl × Sl):=
    (AU (An (AE φ_Lweaker (AB (AC 0) AH)) (AN 1))
    (AU (Cs (Ds (AB (AE BO (AB (mOp AS (AC 0) (mC (.int 4))) AH)) AH)) (AN 2) (An (mOp Ak (AC 1) (AE φ_Lless (AB (AC 0) (AB (AC 2) AH)))) (AN 1)))
    (AU (Cs (Ds (AB (AE BO (AB (mOp AS (AC 0) (mC (.int 4))) AH)) AH)) (AN 2) (An (mOp Ak (AC 1) (AE φ_Lother (AB (AC 0) (AB (AC 2) AH)))) (AN 1)))
    (A5 (Bg 1 [0] (EU (AC 1)) (AN 0) (FX (AY (mOp Bl (mOp AS (AC 0) (mC (.int 1))) (AC 1))) (AY (AE φ_Lis_making (AB (mOp AS (AC 0) (mC (.int 1))) AH)))) (AC 0) A7)))))
def Ji (φ_Lcell_at:List D->M D) (φ_Lwell:List D->M D) (φ_Lmaking:List D->M D) (φ_Lcut:List D->M D) (φ_Ldue:List D->M D) (φ_turned:List D->M D) (φ_check_making:List D->M D):Sl->M (Fl × Sl):=
    (AU (An (AE φ_Lmaking (AB (AE φ_Lwell (AB (AE φ_Lcell_at (AB (AC 0) (AB (mC (.int 0)) AH))) AH)) AH)) (AN 1))
    (AU (An (Bg 1 [] (EU (mOp AS (AC 1) (mC (.int 4)))) (AN 0) Bo (AE BO (AB (mOp AS (AC 0) (mC (.int 2))) AH)) A7) (AN 2))
    (AU (An (AE φ_Lcut (AB (AC 1) (AB (A2 Lm (AC 2) (AB (AE Jh (AB (AC 2) AH)) AH)) AH))) (AN 1))
    (AU (An (AE φ_Ldue (AB (AC 1) AH)) (AN 3))
    (AU (Cs (Ds (AB (mC (.int 2)) AH)) (AN 4) (AU (An (AE φ_turned (AB (AC 1) AH)) (AN 5))
    (AU (sIf (mOr (Gg (AY (AE CW (AB (AC 5) (AB (mC (.ty "list")) AH))))) (AY (mOp Bl (AC 5) (AC 3)))) (A5 (mC (.bl false))) BI)
    (AU (sIf (AY (mOp Bl (Bg 1 [] (FW (AC 5)) (AN 0) (mOr (Gg (AY (AE CW (AB (AC 0) (AB (mC (.ty "tuple")) AH))))) (AY (mOp Bl (AE BO (AB (AC 0) AH)) (mC (.int 2))))) (AC 0) A7) (AE A7 AH))) (A5 (mC (.bl false))) BI)
    (AZ (Gh Qd (AC 5)))))))
    (A5 (mOp (Ph false) (AE φ_check_making (AB (AC 1) AH)) (mC .non))))))))
end K61
namespace K61
open PySem L2 Mi K1
def top (i:Nat):Stmt:=PySem.Challenge.pw_strongboxes_k61_one_thing_turned.main.body.getD i (.Pass ⟨0,0,0,0⟩)
section
variable {P:Program} {w:World} {K:PySem.W.Frag} {mg:Str->Option Value} {base:Heap}
abbrev DG:Stmt:=top 1
theorem sc_with_thing:Ai ["things", "place", "thing"] ["things", "place", "thing"] (AJ DG):=⟨rfl,rfl,rfl,by decide +kernel,rfl,by decide +kernel,by decide +kernel⟩
theorem KJ  {k:Nat} {f:Addr}  (cdv:Value) (A:Around) (outer:List Env) (s:Shared) (H:Hp) (E:XK) (hr:Room k (A.deeper (PyProof.Rows.envOfC "with_thing" (AJ DG) s.heap.objs.size f cdv))) :
    RSs (BZ CX0 P w K mg base ["things", "place", "thing"] "with_thing" (AJ DG) f cdv A outer s H E).nox (Ac DG) (D4):=by
  have nd:=sc_with_thing.nd
  exact (AO (Am (Aj BN (Aj BN (B4 (AD 0) BF (BE (AD 1))) (Au (AA (AD 2) AF))) (B4 (AD 0) (BE (Aj BN (AD 1) AG)) BF))))
abbrev EH:Stmt:=top 10
theorem sc_is_whole:Ai ["thing", "least", "most"] ["thing", "least", "most"] (AJ EH):=⟨rfl,rfl,rfl,by decide +kernel,rfl,by decide +kernel,by decide +kernel⟩
theorem MH  {k:Nat} {f:Addr} (y_int:mg "int" = none) (y_isinstance:mg "isinstance" = none) (y_bool:mg "bool" = none) (cdv:Value) (A:Around) (outer:List Env) (s:Shared) (H:Hp) (E:XK) (hr:Room k (A.deeper (PyProof.Rows.envOfC "is_whole" (AJ EH) s.heap.objs.size f cdv))) :
    RSs (BZ CX0 P w K mg base ["thing", "least", "most"] "is_whole" (AJ EH) f cdv A outer s H E).nox (Ac EH) (EO):=by
  have nd:=sc_is_whole.nd
  exact (AO (Am (E7 (Af Fj y_isinstance Mi.BD (AA (AD 0) (AA (EX y_int Mi.Gs) AF))) (E7 (Te (Af Fj y_isinstance Mi.BD (AA (AD 0) (AA (EX y_bool Mi.Oj) AF)))) (GA (IK OC OC (AD 1) (AD 0) (AD 2)))))))
abbrev En:Stmt:=top 11
theorem sc_is_name:Ai ["thing"] ["thing"] (AJ En):=⟨rfl,rfl,rfl,by decide +kernel,rfl,by decide +kernel,by decide +kernel⟩
theorem Nz  {k:Nat} {f:Addr} (y_str:mg "str" = none) (y_isinstance:mg "isinstance" = none) (y_len:mg "len" = none) (y_all:mg "all" = none) (g_LETTERS:Glo K mg "LETTERS" Eu) (cdv:Value) (A:Around) (outer:List Env) (s:Shared) (H:Hp) (E:XK) (hr:Room k (A.deeper (PyProof.Rows.envOfC "is_name" (AJ En) s.heap.objs.size f cdv))) :
    RSs (BZ CX0 P w K mg base ["thing"] "is_name" (AJ En) f cdv A outer s H E).nox (Ac En) (Es):=by
  have nd:=sc_is_name.nd
  exact (AO (Am (E7 (Af Fj y_isinstance Mi.BD (AA (AD 0) (AA (EX y_str Mi.Lz) AF))) (E7 (IK OC OC AG (Af B2 y_len Mi.Av (AA (AD 0) AF)) AG) (GA (Af (WM rfl) y_all Mi.Qk (AA (Hi (tgs:=["sign"]) (ix:=[]) (i:=0) (n:=1) ⟨rfl,by decide +kernel,by decide +kernel,trivial,rfl,by decide +kernel⟩ rfl (Tc (AD 0)) (fun _ _ _ _=>Ao (i:=0) (show List.Nodup (["sign"]:List Str) from by decide +kernel) rfl (Or.inl rfl)) (fun _ _ _ _=>Dq) (fun _ _ _ _=>(CS LT (AD 0) (EW g_LETTERS)))) AF)))))))
abbrev B7:Stmt:=top 12
theorem sc_is_expression:Ai ["thing", "deep", "word"] ["thing", "deep"] (AJ B7):=⟨rfl,rfl,rfl,by decide +kernel,rfl,by decide +kernel,by decide +kernel⟩
theorem Hf {φ_is_expression:List D->M D} {k_is_expression:Nat} {φ_is_whole:List D->M D} {k_is_whole:Nat} {φ_is_name:List D->M D} {k_is_name:Nat} {k:Nat} {f:Addr} (F_is_expression:Fn P w K mg base "is_expression" ["thing", "deep"] k_is_expression φ_is_expression) (hk_is_expression:k_is_expression <= k) (F_is_whole:Fn P w K mg base "is_whole" ["thing", "least", "most"] k_is_whole φ_is_whole) (hk_is_whole:k_is_whole <= k) (F_is_name:Fn P w K mg base "is_name" ["thing"] k_is_name φ_is_name) (hk_is_name:k_is_name <= k) (y_tuple:mg "tuple" = none) (y_isinstance:mg "isinstance" = none) (y_len:mg "len" = none) (g_PAIR_WORDS:Glo K mg "PAIR_WORDS" B6) (g_GREATEST:Glo K mg "GREATEST" C8) (cdv:Value) (A:Around) (outer:List Env) (s:Shared) (H:Hp) (E:XK) (hr:Room k (A.deeper (PyProof.Rows.envOfC "is_expression" (AJ B7) s.heap.objs.size f cdv))) :
    RSs (BZ CX0 P w K mg base ["thing", "deep", "word"] "is_expression" (AJ B7) f cdv A outer s H E).nox (Ac B7) (A6 φ_is_expression φ_is_whole φ_is_name):=by
  have nd:=sc_is_expression.nd
  exact (AI (BK (RW.rt (JY (Aq OB (AD 1) AG) (JY (KI (F9 (Af Fj y_isinstance Mi.BD (AA (AD 0) (AA (EX y_tuple Mi.BU) AF))))) (II (Aq (DW hr) (Af B2 y_len Mi.Av (AA (AD 0) AF)) AG))))) (AO (Am Ja)) Ar)
      (AI (Ad 2 nd (AW Ag (AD 0) AG))
      (AI (BK (Aq LT (AD 2) (EW g_PAIR_WORDS)) (AO (Am (E7 (CS (DW hr) (Af B2 y_len Mi.Av (AA (AD 0) AF)) AG) (E7 (AV (hkj:=hk_is_expression) F_is_expression hr (AA (AW Ag (AD 0) AG) (AA (Aj Dr (AD 1) AG) AF))) (GA (AV (hkj:=hk_is_expression) F_is_expression hr (AA (AW Ag (AD 0) AG) (AA (Aj Dr (AD 1) AG) AF)))))))) Ar)
      (AI (BK (Aq (Gd hr) (Af B2 y_len Mi.Av (AA (AD 0) AF)) AG) (AO (Am Ja)) Ar)
      (AI (BK (Aq (DW hr) (AD 2) AT) (AO (Am (AV (hkj:=hk_is_whole) F_is_whole hr (AA (AW Ag (AD 0) AG) (AA AG (AA (EW g_GREATEST) AF)))))) Ar)
      (AI (BK (Aq (DW hr) (AD 2) AT) (AO (Am (AV (hkj:=hk_is_name) F_is_name hr (AA (AW Ag (AD 0) AG) AF)))) Ar)
      (AO (Am (E7 (CS (DW hr) (AD 2) AT) (GA (AV (hkj:=hk_is_expression) F_is_expression hr (AA (AW Ag (AD 0) AG) (AA (Aj Dr (AD 1) AG) AF)))))))))))))
abbrev CN:Stmt:=top 13
theorem sc_variables_in:Ai ["expression", "names", "part"] ["expression"] (AJ CN):=⟨rfl,rfl,rfl,by decide +kernel,rfl,by decide +kernel,by decide +kernel⟩
theorem IM {φ_variables_in:List D->M D} {k_variables_in:Nat} {k:Nat} {f:Addr} (F_variables_in:Fn P w K mg base "variables_in" ["expression"] k_variables_in φ_variables_in) (hk_variables_in:k_variables_in <= k) (cdv:Value) (A:Around) (outer:List Env) (s:Shared) (H:Hp) (E:XK) (hr:Room k (A.deeper (PyProof.Rows.envOfC "variables_in" (AJ CN) s.heap.objs.size f cdv))) :
    RSs (BZ CX0 P w K mg base ["expression", "names", "part"] "variables_in" (AJ CN) f cdv A outer s H E).nox (Ac CN) (A1 φ_variables_in):=by
  have nd:=sc_variables_in.nd
  exact (AI (BK (Aq (DW hr) (AW Ag (AD 0) AG) AT) (AO (Am (B9 AF))) Ar)
      (AI (BK (Aq (DW hr) (AW Ag (AD 0) AG) AT) (AO (Am (B9 (AA (AW Ag (AD 0) AG) AF)))) Ar)
      (AI (Ad 1 nd (CC AF))
      (AI (BT PassesOwn.never rfl (DL (PY (AD 0) (BE AG) BF)) (B3 2 nd) (AO (Ab (Bb PySem.F.slot_list_extend PySem.F.type_list_extend La (AD 1) (AA (AV (hkj:=hk_variables_in) F_variables_in hr (AA (AD 2) AF)) AF)))))
      (AO (Am (AD 1)))))))
abbrev CP:Stmt:=top 25
theorem sc_check_making:Ai ["making", "hand_names", "writers", "box", "number", "hand"] ["making"] (AJ CP):=⟨rfl,rfl,rfl,by decide +kernel,rfl,by decide +kernel,by decide +kernel⟩
theorem IP {φ_is_tuple:List D->M D} {k_is_tuple:Nat} {φ_need:List D->M D} {k_need:Nat} {φ_check_worths:List D->M D} {k_check_worths:Nat} {φ_check_boxes:List D->M D} {k_check_boxes:Nat} {φ_check_hands:List D->M D} {k_check_hands:Nat} {φ_check_rows:List D->M D} {k_check_rows:Nat} {k:Nat} {f:Addr} (F_is_tuple:Fn P w K mg base "is_tuple" ["thing", "least", "most"] k_is_tuple φ_is_tuple) (hk_is_tuple:k_is_tuple <= k) (F_need:Fn P w K mg base "need" ["holds", "words"] k_need φ_need) (hk_need:k_need <= k) (F_check_worths:Fn P w K mg base "check_worths" ["kind", "size", "begin"] k_check_worths φ_check_worths) (hk_check_worths:k_check_worths <= k) (F_check_boxes:Fn P w K mg base "check_boxes" ["boxes"] k_check_boxes φ_check_boxes) (hk_check_boxes:k_check_boxes <= k) (F_check_hands:Fn P w K mg base "check_hands" ["hands"] k_check_hands φ_check_hands) (hk_check_hands:k_check_hands <= k) (F_check_rows:Fn P w K mg base "check_rows" ["hand", "is_writer", "writers"] k_check_rows φ_check_rows) (hk_check_rows:k_check_rows <= k) (y_enumerate:mg "enumerate" = none) (cdv:Value) (A:Around) (outer:List Env) (s:Shared) (H:Hp) (E:XK) (hr:Room k (A.deeper (PyProof.Rows.envOfC "check_making" (AJ CP) s.heap.objs.size f cdv))) :
    RSs (BZ CX0 P w K mg base ["making", "hand_names", "writers", "box", "number", "hand"] "check_making" (AJ CP) f cdv A outer s H E).nox (Ac CP) (CV φ_is_tuple φ_need φ_check_worths φ_check_boxes φ_check_hands φ_check_rows):=by
  have nd:=sc_check_making.nd
  exact (AI (Ab (AV (hkj:=hk_need) F_need hr (AA (AV (hkj:=hk_is_tuple) F_is_tuple hr (AA (AD 0) (AA AG (AA AG AF)))) (AA AT AF))))
      (AI (Ab (AV (hkj:=hk_check_worths) F_check_worths hr (AA (AW Ag (AD 0) AG) (AA (AW Ag (AD 0) AG) (AA (AW Ag (AD 0) AG) AF)))))
      (AI (Ab (AV (hkj:=hk_check_boxes) F_check_boxes hr (AA (AW Ag (AD 0) AG) AF)))
      (AI (Ab (AV (hkj:=hk_check_hands) F_check_hands hr (AA (AW Ag (AD 0) AG) AF)))
      (AI (E6 1 (tgs:=["hand"]) (ix:=[]) (i:=0) (n:=1) nd ⟨rfl,by decide +kernel,by decide +kernel,trivial,rfl,by decide +kernel⟩ rfl (DL (AW Ag (AD 0) AG)) (fun _ _ _ _=>Ao (i:=0) (show List.Nodup (["hand"]:List Str) from by decide +kernel) rfl (Or.inl rfl)) (fun _ _ _ _=>Dq) (fun _ _ _ _=>(AW Ag (AD 0) AG)) (fun _ _ _ _ _ _ _ _ R i e q=>Dz R i e q))
      (AI (Ad 2 nd Q6)
      (AI (BT PassesOwn.never rfl (DL (AW Ag (AD 0) AG)) (B3 3 nd) (AI (Ab (AV (hkj:=hk_need) F_need hr (AA (CS LT (AW Ag (AD 3) AG) (AD 1)) (AA AT AF))))
      (AO (Q1 hr (AD 2) (AW Ag (AD 3) AG) (AW Ag (AD 3) AG)))))
      (AO (BT PassesOwn.never rfl (EK y_enumerate (AA (AW Ag (AD 0) AG) AF)) (EL (is:=[4,5]) rfl (As (Ao (i:=4) nd rfl (by first | exact Or.inl rfl | exact Or.inr rfl)) (As (Ao (i:=5) nd rfl (by first | exact Or.inl rfl | exact Or.inr rfl)) Cb))) (AO (Ab (AV (hkj:=hk_check_rows) F_check_rows hr (AA (AD 5) (AA (CS (DW hr) (AD 4) AG) (AA (AD 2) AF)))))))))))))))
abbrev IE:Stmt:=top 26
theorem sc_need:Ai ["holds", "words"] ["holds", "words"] (AJ IE):=⟨rfl,rfl,rfl,by decide +kernel,rfl,by decide +kernel,by decide +kernel⟩
theorem Ti  {k:Nat} {f:Addr}  (cdv:Value) (A:Around) (outer:List Env) (s:Shared) (H:Hp) (E:XK) (hr:Room k (A.deeper (PyProof.Rows.envOfC "need" (AJ IE) s.heap.objs.size f cdv))) :
    RSs (BZ CX0 P w K mg base ["holds", "words"] "need" (AJ IE) f cdv A outer s H E).nox (Ac IE) (Ka):=by
  have nd:=sc_need.nd
  exact (AO (BK (KI (F9 (AD 0))) (AO PP) Ar))
abbrev EI:Stmt:=top 27
theorem sc_is_tuple:Ai ["thing", "least", "most"] ["thing", "least", "most"] (AJ EI):=⟨rfl,rfl,rfl,by decide +kernel,rfl,by decide +kernel,by decide +kernel⟩
theorem MI  {k:Nat} {f:Addr} (y_tuple:mg "tuple" = none) (y_isinstance:mg "isinstance" = none) (y_len:mg "len" = none) (cdv:Value) (A:Around) (outer:List Env) (s:Shared) (H:Hp) (E:XK) (hr:Room k (A.deeper (PyProof.Rows.envOfC "is_tuple" (AJ EI) s.heap.objs.size f cdv))) :
    RSs (BZ CX0 P w K mg base ["thing", "least", "most"] "is_tuple" (AJ EI) f cdv A outer s H E).nox (Ac EI) (EQ):=by
  have nd:=sc_is_tuple.nd
  exact (AO (Am (E7 (Af Fj y_isinstance Mi.BD (AA (AD 0) (AA (EX y_tuple Mi.BU) AF))) (GA (IK OC OC (AD 1) (Af B2 y_len Mi.Av (AA (AD 0) AF)) (AD 2))))))
abbrev CO:Stmt:=top 28
theorem sc_check_worths:Ai ["kind", "size", "begin"] ["kind", "size", "begin"] (AJ CO):=⟨rfl,rfl,rfl,by decide +kernel,rfl,by decide +kernel,by decide +kernel⟩
theorem IN {φ_need:List D->M D} {k_need:Nat} {φ_is_whole:List D->M D} {k_is_whole:Nat} {k:Nat} {f:Addr} (F_need:Fn P w K mg base "need" ["holds", "words"] k_need φ_need) (hk_need:k_need <= k) (F_is_whole:Fn P w K mg base "is_whole" ["thing", "least", "most"] k_is_whole φ_is_whole) (hk_is_whole:k_is_whole <= k) (g_KINDS:Glo K mg "KINDS" Dl) (g_LEAST_SIZE:Glo K mg "LEAST_SIZE" ED) (g_MOST_SIZE:Glo K mg "MOST_SIZE" Eh) (cdv:Value) (A:Around) (outer:List Env) (s:Shared) (H:Hp) (E:XK) (hr:Room k (A.deeper (PyProof.Rows.envOfC "check_worths" (AJ CO) s.heap.objs.size f cdv))) :
    RSs (BZ CX0 P w K mg base ["kind", "size", "begin"] "check_worths" (AJ CO) f cdv A outer s H E).nox (Ac CO) (CU φ_need φ_is_whole):=by
  have nd:=sc_check_worths.nd
  exact (AI (Ab (AV (hkj:=hk_need) F_need hr (AA (CS LT (AD 0) (EW g_KINDS)) (AA AT AF))))
      (AI (Ab (AV (hkj:=hk_need) F_need hr (AA (AV (hkj:=hk_is_whole) F_is_whole hr (AA (AD 1) (AA (EW g_LEAST_SIZE) (AA (EW g_MOST_SIZE) AF)))) (AA AT AF))))
      (AO (Ab (AV (hkj:=hk_need) F_need hr (AA (AV (hkj:=hk_is_whole) F_is_whole hr (AA (AD 2) (AA AG (AA (Aj Dr (AD 1) AG) AF)))) (AA AT AF)))))))
abbrev Cr:Stmt:=top 29
theorem sc_check_boxes:Ai ["boxes", "box"] ["boxes"] (AJ Cr):=⟨rfl,rfl,rfl,by decide +kernel,rfl,by decide +kernel,by decide +kernel⟩
theorem JN {φ_is_tuple:List D->M D} {k_is_tuple:Nat} {φ_need:List D->M D} {k_need:Nat} {φ_is_name:List D->M D} {k_is_name:Nat} {φ_check_worths:List D->M D} {k_check_worths:Nat} {φ_are_unlike:List D->M D} {k_are_unlike:Nat} {k:Nat} {f:Addr} (F_is_tuple:Fn P w K mg base "is_tuple" ["thing", "least", "most"] k_is_tuple φ_is_tuple) (hk_is_tuple:k_is_tuple <= k) (F_need:Fn P w K mg base "need" ["holds", "words"] k_need φ_need) (hk_need:k_need <= k) (F_is_name:Fn P w K mg base "is_name" ["thing"] k_is_name φ_is_name) (hk_is_name:k_is_name <= k) (F_check_worths:Fn P w K mg base "check_worths" ["kind", "size", "begin"] k_check_worths φ_check_worths) (hk_check_worths:k_check_worths <= k) (F_are_unlike:Fn P w K mg base "are_unlike" ["names"] k_are_unlike φ_are_unlike) (hk_are_unlike:k_are_unlike <= k) (g_MOST_BOXES:Glo K mg "MOST_BOXES" EC) (cdv:Value) (A:Around) (outer:List Env) (s:Shared) (H:Hp) (E:XK) (hr:Room k (A.deeper (PyProof.Rows.envOfC "check_boxes" (AJ Cr) s.heap.objs.size f cdv))) :
    RSs (BZ CX0 P w K mg base ["boxes", "box"] "check_boxes" (AJ Cr) f cdv A outer s H E).nox (Ac Cr) (Cu φ_is_tuple φ_need φ_is_name φ_check_worths φ_are_unlike):=by
  have nd:=sc_check_boxes.nd
  exact (AI (Ab (AV (hkj:=hk_need) F_need hr (AA (AV (hkj:=hk_is_tuple) F_is_tuple hr (AA (AD 0) (AA AG (AA (EW g_MOST_BOXES) AF)))) (AA AT AF))))
      (AI (BT PassesOwn.never rfl (DL (AD 0)) (B3 1 nd) (AI (Ab (AV (hkj:=hk_need) F_need hr (AA (AV (hkj:=hk_is_tuple) F_is_tuple hr (AA (AD 1) (AA AG (AA AG AF)))) (AA AT AF))))
      (AI (Ab (AV (hkj:=hk_need) F_need hr (AA (AV (hkj:=hk_is_name) F_is_name hr (AA (AW Ag (AD 1) AG) AF)) (AA AT AF))))
      (AO (Ab (AV (hkj:=hk_check_worths) F_check_worths hr (AA (AW Ag (AD 1) AG) (AA (AW Ag (AD 1) AG) (AA (AW Ag (AD 1) AG) AF)))))))))
      (AO (Ab (AV (hkj:=hk_need) F_need hr (AA (AV (hkj:=hk_are_unlike) F_are_unlike hr (AA (Hi (tgs:=["box"]) (ix:=[]) (i:=0) (n:=1) ⟨rfl,by decide +kernel,by decide +kernel,trivial,rfl,by decide +kernel⟩ rfl (DL (AD 0)) (fun _ _ _ _=>Ao (i:=0) (show List.Nodup (["box"]:List Str) from by decide +kernel) rfl (Or.inl rfl)) (fun _ _ _ _=>Dq) (fun _ _ _ _=>(AW Ag (AD 0) AG))) AF)) (AA AT AF)))))))
abbrev Cq:Stmt:=top 30
theorem sc_check_hands:Ai ["hands", "hand"] ["hands"] (AJ Cq):=⟨rfl,rfl,rfl,by decide +kernel,rfl,by decide +kernel,by decide +kernel⟩
theorem JM {φ_is_tuple:List D->M D} {k_is_tuple:Nat} {φ_need:List D->M D} {k_need:Nat} {φ_is_name:List D->M D} {k_is_name:Nat} {φ_is_whole:List D->M D} {k_is_whole:Nat} {φ_are_unlike:List D->M D} {k_are_unlike:Nat} {k:Nat} {f:Addr} (F_is_tuple:Fn P w K mg base "is_tuple" ["thing", "least", "most"] k_is_tuple φ_is_tuple) (hk_is_tuple:k_is_tuple <= k) (F_need:Fn P w K mg base "need" ["holds", "words"] k_need φ_need) (hk_need:k_need <= k) (F_is_name:Fn P w K mg base "is_name" ["thing"] k_is_name φ_is_name) (hk_is_name:k_is_name <= k) (F_is_whole:Fn P w K mg base "is_whole" ["thing", "least", "most"] k_is_whole φ_is_whole) (hk_is_whole:k_is_whole <= k) (F_are_unlike:Fn P w K mg base "are_unlike" ["names"] k_are_unlike φ_are_unlike) (hk_are_unlike:k_are_unlike <= k) (g_LEAST_HANDS:Glo K mg "LEAST_HANDS" Dk) (g_MOST_HANDS:Glo K mg "MOST_HANDS" EB) (g_MOST_WITHIN:Glo K mg "MOST_WITHIN" Cw) (g_MOST_ROWS:Glo K mg "MOST_ROWS" Dt) (cdv:Value) (A:Around) (outer:List Env) (s:Shared) (H:Hp) (E:XK) (hr:Room k (A.deeper (PyProof.Rows.envOfC "check_hands" (AJ Cq) s.heap.objs.size f cdv))) :
    RSs (BZ CX0 P w K mg base ["hands", "hand"] "check_hands" (AJ Cq) f cdv A outer s H E).nox (Ac Cq) (Ct φ_is_tuple φ_need φ_is_name φ_is_whole φ_are_unlike):=by
  have nd:=sc_check_hands.nd
  exact (AI (Ab (AV (hkj:=hk_need) F_need hr (AA (AV (hkj:=hk_is_tuple) F_is_tuple hr (AA (AD 0) (AA (EW g_LEAST_HANDS) (AA (EW g_MOST_HANDS) AF)))) (AA AT AF))))
      (AI (BT PassesOwn.never rfl (DL (AD 0)) (B3 1 nd) (AI (Ab (AV (hkj:=hk_need) F_need hr (AA (AV (hkj:=hk_is_tuple) F_is_tuple hr (AA (AD 1) (AA AG (AA AG AF)))) (AA AT AF))))
      (AI (Ab (AV (hkj:=hk_need) F_need hr (AA (AV (hkj:=hk_is_name) F_is_name hr (AA (AW Ag (AD 1) AG) AF)) (AA AT AF))))
      (AI (Ab (AV (hkj:=hk_need) F_need hr (AA (AV (hkj:=hk_is_whole) F_is_whole hr (AA (AW Ag (AD 1) AG) (AA AG (AA (EW g_MOST_WITHIN) AF)))) (AA AT AF))))
      (AO (Ab (AV (hkj:=hk_need) F_need hr (AA (AV (hkj:=hk_is_tuple) F_is_tuple hr (AA (AW Ag (AD 1) AG) (AA AG (AA (EW g_MOST_ROWS) AF)))) (AA AT AF)))))))))
      (AO (Ab (AV (hkj:=hk_need) F_need hr (AA (AV (hkj:=hk_are_unlike) F_are_unlike hr (AA (Hi (tgs:=["hand"]) (ix:=[]) (i:=0) (n:=1) ⟨rfl,by decide +kernel,by decide +kernel,trivial,rfl,by decide +kernel⟩ rfl (DL (AD 0)) (fun _ _ _ _=>Ao (i:=0) (show List.Nodup (["hand"]:List Str) from by decide +kernel) rfl (Or.inl rfl)) (fun _ _ _ _=>Dq) (fun _ _ _ _=>(AW Ag (AD 0) AG))) AF)) (AA AT AF)))))))
abbrev DJ:Stmt:=top 31
theorem sc_are_unlike:Ai ["names"] ["names"] (AJ DJ):=⟨rfl,rfl,rfl,by decide +kernel,rfl,by decide +kernel,by decide +kernel⟩
theorem KM  {k:Nat} {f:Addr} (y_len:mg "len" = none) (y_set:mg "set" = none) (cdv:Value) (A:Around) (outer:List Env) (s:Shared) (H:Hp) (E:XK) (hr:Room k (A.deeper (PyProof.Rows.envOfC "are_unlike" (AJ DJ) s.heap.objs.size f cdv))) :
    RSs (BZ CX0 P w K mg base ["names"] "are_unlike" (AJ DJ) f cdv A outer s H E).nox (Ac DJ) (DN):=by
  have nd:=sc_are_unlike.nd
  exact (AO (Am (CS (DW hr) (Nu y_len y_set (AD 0)) (Af B2 y_len Mi.Av (AA (AD 0) AF)))))
abbrev DH:Stmt:=top 32
theorem sc_check_rows:Ai ["hand", "is_writer", "writers", "row"] ["hand", "is_writer", "writers"] (AJ DH):=⟨rfl,rfl,rfl,by decide +kernel,rfl,by decide +kernel,by decide +kernel⟩
theorem KK {φ_check_form:List D->M D} {k_check_form:Nat} {φ_check_ending:List D->M D} {k_check_ending:Nat} {φ_check_variables:List D->M D} {k_check_variables:Nat} {φ_need:List D->M D} {k_need:Nat} {k:Nat} {f:Addr} (F_check_form:Fn P w K mg base "check_form" ["row", "length"] k_check_form φ_check_form) (hk_check_form:k_check_form <= k) (F_check_ending:Fn P w K mg base "check_ending" ["word", "is_writer"] k_check_ending φ_check_ending) (hk_check_ending:k_check_ending <= k) (F_check_variables:Fn P w K mg base "check_variables" ["row", "is_writer"] k_check_variables φ_check_variables) (hk_check_variables:k_check_variables <= k) (F_need:Fn P w K mg base "need" ["holds", "words"] k_need φ_need) (hk_need:k_need <= k) (y_len:mg "len" = none) (cdv:Value) (A:Around) (outer:List Env) (s:Shared) (H:Hp) (E:XK) (hr:Room k (A.deeper (PyProof.Rows.envOfC "check_rows" (AJ DH) s.heap.objs.size f cdv))) :
    RSs (BZ CX0 P w K mg base ["hand", "is_writer", "writers", "row"] "check_rows" (AJ DH) f cdv A outer s H E).nox (Ac DH) (D5 φ_check_form φ_check_ending φ_check_variables φ_need):=by
  have nd:=sc_check_rows.nd
  exact (AO (BT PassesOwn.never rfl (DL (AW Ag (AD 0) AG)) (B3 3 nd) (AI (Ab (AV (hkj:=hk_check_form) F_check_form hr (AA (AD 3) (AA (Af B2 y_len Mi.Av (AA (AW Ag (AD 0) AG) AF)) AF))))
      (AI (Ab (AV (hkj:=hk_check_ending) F_check_ending hr (AA (AW Ag (AD 3) AG) (AA (AD 1) AF))))
      (AI (Ab (AV (hkj:=hk_check_variables) F_check_variables hr (AA (AD 3) (AA (AD 1) AF))))
      (AI (BK (Aq (DW hr) (AW Ag (AD 3) AG) AT) (AO (Ab (AV (hkj:=hk_need) F_need hr (AA (CS (DW hr) (LJ hr (AD 2) (AW Ag (AD 3) AG)) (AW Ag (AD 0) AG)) (AA AT AF))))) Ar)
      (AO (BK (Aq (DW hr) (AW Ag (AD 3) AG) AT) (AO (Ab (AV (hkj:=hk_need) F_need hr (AA (Th hr (AW Ag (AD 3) AG) (AD 2)) (AA AT AF))))) Ar))))))))
abbrev DI:Stmt:=top 33
theorem sc_check_form:Ai ["row", "length", "parts", "part", "thing"] ["row", "length"] (AJ DI):=⟨rfl,rfl,rfl,by decide +kernel,rfl,by decide +kernel,by decide +kernel⟩
theorem KL {φ_is_tuple:List D->M D} {k_is_tuple:Nat} {φ_need:List D->M D} {k_need:Nat} {φ_is_part:List D->M D} {k_is_part:Nat} {k:Nat} {f:Addr} (F_is_tuple:Fn P w K mg base "is_tuple" ["thing", "least", "most"] k_is_tuple φ_is_tuple) (hk_is_tuple:k_is_tuple <= k) (F_need:Fn P w K mg base "need" ["holds", "words"] k_need φ_need) (hk_need:k_need <= k) (F_is_part:Fn P w K mg base "is_part" ["part", "thing", "length"] k_is_part φ_is_part) (hk_is_part:k_is_part <= k) (y_str:mg "str" = none) (y_isinstance:mg "isinstance" = none) (y_len:mg "len" = none) (y_zip:mg "zip" = none) (k_PARTS:On w K mg "PARTS" BV) (cdv:Value) (A:Around) (outer:List Env) (s:Shared) (H:Hp) (E:XK) (hr:Room k (A.deeper (PyProof.Rows.envOfC "check_form" (AJ DI) s.heap.objs.size f cdv))) :
    RSs (BZ CX0 P w K mg base ["row", "length", "parts", "part", "thing"] "check_form" (AJ DI) f cdv A outer s H E).nox (Ac DI) (A9 φ_is_tuple φ_need φ_is_part):=by
  have nd:=sc_check_form.nd
  exact (AI (Ab (AV (hkj:=hk_need) F_need hr (AA (AV (hkj:=hk_is_tuple) F_is_tuple hr (AA (AD 0) (AA AG (AA AG AF)))) (AA AT AF))))
      (AI (Ab (AV (hkj:=hk_need) F_need hr (AA (E7 (Af Fj y_isinstance Mi.BD (AA (AW Ag (AD 0) AG) (AA (EX y_str Mi.Lz) AF))) (GA (Tf k_PARTS (AW Ag (AD 0) AG)))) (AA AT AF))))
      (AI (Ad 2 nd (NA k_PARTS (AW Ag (AD 0) AG)))
      (AI (Ab (AV (hkj:=hk_need) F_need hr (AA (CS (DW hr) (Af B2 y_len Mi.Av (AA (AD 0) AF)) (Aj FU AG (Af B2 y_len Mi.Av (AA (AD 2) AF)))) (AA AT AF))))
      (AO (BT PassesOwn.never rfl (M9 y_zip (AA (AD 2) (AA (PY (AD 0) (BE AG) BF) AF))) (EL (is:=[3,4]) rfl (As (Ao (i:=3) nd rfl (by first | exact Or.inl rfl | exact Or.inr rfl)) (As (Ao (i:=4) nd rfl (by first | exact Or.inl rfl | exact Or.inr rfl)) Cb))) (AO (Ab (AV (hkj:=hk_need) F_need hr (AA (AV (hkj:=hk_is_part) F_is_part hr (AA (AD 3) (AA (AD 4) (AA (AD 1) AF)))) (AA (Nv (M8 AT (M8 (Tg (AD 3)) Tb))) AF)))))))))))
abbrev Em:Stmt:=top 34
theorem sc_is_part:Ai ["part", "thing", "length"] ["part", "thing", "length"] (AJ Em):=⟨rfl,rfl,rfl,by decide +kernel,rfl,by decide +kernel,by decide +kernel⟩
theorem Ny {φ_is_expression:List D->M D} {k_is_expression:Nat} {φ_is_whole:List D->M D} {k_is_whole:Nat} {φ_is_name:List D->M D} {k_is_name:Nat} {k:Nat} {f:Addr} (F_is_expression:Fn P w K mg base "is_expression" ["thing", "deep"] k_is_expression φ_is_expression) (hk_is_expression:k_is_expression <= k) (F_is_whole:Fn P w K mg base "is_whole" ["thing", "least", "most"] k_is_whole φ_is_whole) (hk_is_whole:k_is_whole <= k) (F_is_name:Fn P w K mg base "is_name" ["thing"] k_is_name φ_is_name) (hk_is_name:k_is_name <= k) (g_DEEPEST:Glo K mg "DEEPEST" Da) (cdv:Value) (A:Around) (outer:List Env) (s:Shared) (H:Hp) (E:XK) (hr:Room k (A.deeper (PyProof.Rows.envOfC "is_part" (AJ Em) s.heap.objs.size f cdv))) :
    RSs (BZ CX0 P w K mg base ["part", "thing", "length"] "is_part" (AJ Em) f cdv A outer s H E).nox (Ac Em) (DA φ_is_expression φ_is_whole φ_is_name):=by
  have nd:=sc_is_part.nd
  exact (AI (BK (Aq (DW hr) (AD 0) AT) (AO (Am (AV (hkj:=hk_is_expression) F_is_expression hr (AA (AD 1) (AA (EW g_DEEPEST) AF))))) Ar)
      (AI (BK (Aq (DW hr) (AD 0) AT) (AO (Am (AV (hkj:=hk_is_whole) F_is_whole hr (AA (AD 1) (AA AG (AA (AD 2) AF)))))) Ar)
      (AO (Am (AV (hkj:=hk_is_name) F_is_name hr (AA (AD 1) AF))))))
abbrev CQ:Stmt:=top 35
theorem sc_check_ending:Ai ["word", "is_writer"] ["word", "is_writer"] (AJ CQ):=⟨rfl,rfl,rfl,by decide +kernel,rfl,by decide +kernel,by decide +kernel⟩
theorem IQ {φ_need:List D->M D} {k_need:Nat} {k:Nat} {f:Addr} (F_need:Fn P w K mg base "need" ["holds", "words"] k_need φ_need) (hk_need:k_need <= k) (cdv:Value) (A:Around) (outer:List Env) (s:Shared) (H:Hp) (E:XK) (hr:Room k (A.deeper (PyProof.Rows.envOfC "check_ending" (AJ CQ) s.heap.objs.size f cdv))) :
    RSs (BZ CX0 P w K mg base ["word", "is_writer"] "check_ending" (AJ CQ) f cdv A outer s H E).nox (Ac CQ) (By φ_need):=by
  have nd:=sc_check_ending.nd
  exact (AO (BK (F9 (AD 1)) (AO (Ab (AV (hkj:=hk_need) F_need hr (AA (CS (Gd hr) (AD 0) AT) (AA AT AF))))) (AO (Ab (AV (hkj:=hk_need) F_need hr (AA (CS (Gd hr) (AD 0) AT) (AA AT AF)))))))
abbrev Bk:Stmt:=top 36
theorem sc_check_variables:Ai ["row", "is_writer", "name"] ["row", "is_writer"] (AJ Bk):=⟨rfl,rfl,rfl,by decide +kernel,rfl,by decide +kernel,by decide +kernel⟩
theorem Ga {φ_variables_of:List D->M D} {k_variables_of:Nat} {φ_need:List D->M D} {k_need:Nat} {k:Nat} {f:Addr} (F_variables_of:Fn P w K mg base "variables_of" ["row"] k_variables_of φ_variables_of) (hk_variables_of:k_variables_of <= k) (F_need:Fn P w K mg base "need" ["holds", "words"] k_need φ_need) (hk_need:k_need <= k) (g_NO_VARIABLES:Glo K mg "NO_VARIABLES" CY) (cdv:Value) (A:Around) (outer:List Env) (s:Shared) (H:Hp) (E:XK) (hr:Room k (A.deeper (PyProof.Rows.envOfC "check_variables" (AJ Bk) s.heap.objs.size f cdv))) :
    RSs (BZ CX0 P w K mg base ["row", "is_writer", "name"] "check_variables" (AJ Bk) f cdv A outer s H E).nox (Ac Bk) (Bn φ_variables_of φ_need):=by
  have nd:=sc_check_variables.nd
  exact (AI (BT PassesOwn.never rfl (DL (AV (hkj:=hk_variables_of) F_variables_of hr (AA (AD 0) AF))) (B3 2 nd) (AI (Ab (AV (hkj:=hk_need) F_need hr (AA (CS Rs (AD 2) (EW g_NO_VARIABLES)) (AA AT AF))))
      (AO (Ab (AV (hkj:=hk_need) F_need hr (AA (VS (AD 1) (GA (CS (Gd hr) (AD 2) AT))) (AA AT AF)))))))
      (AO (BK (Aq LT (AW Ag (AD 0) AG) (Au (AA AT (AA AT AF)))) (AO (Ab (AV (hkj:=hk_need) F_need hr (AA (CS (Gd hr) (AW Ag (AD 0) AG) AT) (AA AT AF))))) Ar)))
abbrev CM:Stmt:=top 37
theorem sc_variables_of:Ai ["row", "names", "part", "thing"] ["row"] (AJ CM):=⟨rfl,rfl,rfl,by decide +kernel,rfl,by decide +kernel,by decide +kernel⟩
theorem IL {φ_variables_in:List D->M D} {k_variables_in:Nat} {k:Nat} {f:Addr} (F_variables_in:Fn P w K mg base "variables_in" ["expression"] k_variables_in φ_variables_in) (hk_variables_in:k_variables_in <= k) (y_zip:mg "zip" = none) (k_PARTS:On w K mg "PARTS" BV) (cdv:Value) (A:Around) (outer:List Env) (s:Shared) (H:Hp) (E:XK) (hr:Room k (A.deeper (PyProof.Rows.envOfC "variables_of" (AJ CM) s.heap.objs.size f cdv))) :
    RSs (BZ CX0 P w K mg base ["row", "names", "part", "thing"] "variables_of" (AJ CM) f cdv A outer s H E).nox (Ac CM) (Az φ_variables_in):=by
  have nd:=sc_variables_of.nd
  exact (AI (Ad 1 nd (CC AF))
      (AI (BT PassesOwn.never rfl (M9 y_zip (AA (NA k_PARTS (AW Ag (AD 0) AG)) (AA (PY (AD 0) (BE AG) BF) AF))) (EL (is:=[2,3]) rfl (As (Ao (i:=2) nd rfl (by first | exact Or.inl rfl | exact Or.inr rfl)) (As (Ao (i:=3) nd rfl (by first | exact Or.inl rfl | exact Or.inr rfl)) Cb))) (AI (BK (Aq (DW hr) (AD 2) AT) (AO (Ab (Bb PySem.F.slot_list_append PySem.F.type_list_append B8 (AD 1) (AA (AD 3) AF)))) Ar)
      (AO (BK (Aq (DW hr) (AD 2) AT) (AO (Ab (Bb PySem.F.slot_list_extend PySem.F.type_list_extend La (AD 1) (AA (AV (hkj:=hk_variables_in) F_variables_in hr (AA (AD 3) AF)) AF)))) Ar))))
      (AO (Am (AD 1)))))
abbrev FR:Stmt:=top 39
theorem sc_turned:Ai ["making", "found"] ["making"] (AJ FR):=⟨rfl,rfl,rfl,by decide +kernel,rfl,by decide +kernel,by decide +kernel⟩
theorem Pc {φ_weaker_ones:List D->M D} {k_weaker_ones:Nat} {φ_ones_with_less:List D->M D} {k_ones_with_less:Nat} {φ_exchanged_ones:List D->M D} {k_exchanged_ones:Nat} {φ_is_let_by:List D->M D} {k_is_let_by:Nat} {k:Nat} {f:Addr} (F_weaker_ones:Fn P w K mg base "weaker_ones" ["making"] k_weaker_ones φ_weaker_ones) (hk_weaker_ones:k_weaker_ones <= k) (F_ones_with_less:Fn P w K mg base "ones_with_less" ["making"] k_ones_with_less φ_ones_with_less) (hk_ones_with_less:k_ones_with_less <= k) (F_exchanged_ones:Fn P w K mg base "exchanged_ones" ["making"] k_exchanged_ones φ_exchanged_ones) (hk_exchanged_ones:k_exchanged_ones <= k) (F_is_let_by:Fn P w K mg base "is_let_by" ["making"] k_is_let_by φ_is_let_by) (hk_is_let_by:k_is_let_by <= k) (cdv:Value) (A:Around) (outer:List Env) (s:Shared) (H:Hp) (E:XK) (hr:Room k (A.deeper (PyProof.Rows.envOfC "turned" (AJ FR) s.heap.objs.size f cdv))) :
    RSs (BZ CX0 P w K mg base ["making", "found"] "turned" (AJ FR) f cdv A outer s H E).nox (Ac FR) (FV φ_weaker_ones φ_ones_with_less φ_exchanged_ones φ_is_let_by):=by
  have nd:=sc_turned.nd
  exact (AI (Ad 1 nd (Aj BN (Aj BN (AV (hkj:=hk_weaker_ones) F_weaker_ones hr (AA (AD 0) AF)) (AV (hkj:=hk_ones_with_less) F_ones_with_less hr (AA (AD 0) AF))) (AV (hkj:=hk_exchanged_ones) F_exchanged_ones hr (AA (AD 0) AF))))
      (AO (Am (Pb (tgs:=["one"]) (ix:=[0]) (i:=0) (n:=1) ⟨rfl,by decide +kernel,by decide +kernel,⟨Or.inl rfl,trivial⟩,rfl,by decide +kernel⟩ rfl (DL (AD 1)) (fun _ _ _ _=>Ao (i:=0) (show List.Nodup (["one", "making"]:List Str) from by decide +kernel) rfl (Or.inl rfl)) (fun _ _ _ _=>GZ (RW.rt (G4 (Aq (Gd hr) (AW Ag (AD 0) AG) (AD 1)) (Fo (F9 (AV (hkj:=hk_is_let_by) F_is_let_by hr (AA (AW Ag (AD 0) AG) AF))))))) (fun _ _ _ _=>(AD 0))))))
abbrev Dp:Stmt:=top 40
theorem sc_is_let_by:Ai ["making"] ["making"] (AJ Dp):=⟨rfl,rfl,rfl,by decide +kernel,rfl,by decide +kernel,by decide +kernel⟩
theorem LN {φ_check_making:List D->M D} {k_check_making:Nat} {k:Nat} {f:Addr} (F_check_making:Fn P w K mg base "check_making" ["making"] k_check_making φ_check_making) (hk_check_making:k_check_making <= k) (cdv:Value) (A:Around) (outer:List Env) (s:Shared) (H:Hp) (E:XK) (hr:Room k (A.deeper (PyProof.Rows.envOfC "is_let_by" (AJ Dp) s.heap.objs.size f cdv))) :
    RSs (BZ CX0 P w K mg base ["making"] "is_let_by" (AJ Dp) f cdv A outer s H E).nox (Ac Dp) (Eb φ_check_making):=by
  have nd:=sc_is_let_by.nd
  exact (AI (PN (AO (Ab (AV (hkj:=hk_check_making) F_check_making hr (AA (AD 0) AF)))))
      (AO (Am Ja)))
abbrev Cp:Stmt:=top 41
theorem sc_weaker_ones:Ai ["making", "found", "place", "box", "weaker"] ["making"] (AJ Cp):=⟨rfl,rfl,rfl,by decide +kernel,rfl,by decide +kernel,by decide +kernel⟩
theorem JL {φ_with_thing:List D->M D} {k_with_thing:Nat} {k:Nat} {f:Addr} (F_with_thing:Fn P w K mg base "with_thing" ["things", "place", "thing"] k_with_thing φ_with_thing) (hk_with_thing:k_with_thing <= k) (y_enumerate:mg "enumerate" = none) (q_KINDS:Sj K mg "KINDS" ["safe", "steady", "whole"]) (g_KINDS:Glo K mg "KINDS" Dl) (cdv:Value) (A:Around) (outer:List Env) (s:Shared) (H:Hp) (E:XK) (hr:Room k (A.deeper (PyProof.Rows.envOfC "weaker_ones" (AJ Cp) s.heap.objs.size f cdv))) :
    RSs (BZ CX0 P w K mg base ["making", "found", "place", "box", "weaker"] "weaker_ones" (AJ Cp) f cdv A outer s H E).nox (Ac Cp) (Db φ_with_thing):=by
  have nd:=sc_weaker_ones.nd
  exact (AI (Ad 1 nd (CC AF))
      (AI (BT PassesOwn.never rfl (EK y_enumerate (AA (AW Ag (AD 0) AG) AF)) (EL (is:=[2,3]) rfl (As (Ao (i:=2) nd rfl (by first | exact Or.inl rfl | exact Or.inr rfl)) (As (Ao (i:=3) nd rfl (by first | exact Or.inl rfl | exact Or.inr rfl)) Cb))) (AO (BK (Aq (Gd hr) (AW Ag (AD 3) AG) AT) (AI (Ad 4 nd (AV (hkj:=hk_with_thing) F_with_thing hr (AA (AD 3) (AA AG (AA (AW Ag (EW g_KINDS) (Aj Dr (Q5 q_KINDS (AW Ag (AD 3) AG)) AG)) AF)))))
      (AO (Ab (Bb PySem.F.slot_list_append PySem.F.type_list_append B8 (AD 1) (AA (Au (AA (Au (AA AT (AA (AW Ag (AD 3) AG) AF))) (AA (AV (hkj:=hk_with_thing) F_with_thing hr (AA (AD 0) (AA AG (AA (AV (hkj:=hk_with_thing) F_with_thing hr (AA (AW Ag (AD 0) AG) (AA (AD 2) (AA (AD 4) AF)))) AF)))) AF))) AF))))) Ar)))
      (AO (Am (AD 1)))))
abbrev Bv:Stmt:=top 42
theorem sc_ones_with_less:Ai ["making", "found", "number", "hand", "at", "rows"] ["making"] (AJ Bv):=⟨rfl,rfl,rfl,by decide +kernel,rfl,by decide +kernel,by decide +kernel⟩
theorem G6 {φ_pulled_up:List D->M D} {k_pulled_up:Nat} {φ_with_rows:List D->M D} {k_with_rows:Nat} {k:Nat} {f:Addr} (F_pulled_up:Fn P w K mg base "pulled_up" ["row", "at"] k_pulled_up φ_pulled_up) (hk_pulled_up:k_pulled_up <= k) (F_with_rows:Fn P w K mg base "with_rows" ["making", "number", "rows"] k_with_rows φ_with_rows) (hk_with_rows:k_with_rows <= k) (y_enumerate:mg "enumerate" = none) (y_range:mg "range" = none) (y_len:mg "len" = none) (y_tuple:mg "tuple" = none) (cdv:Value) (A:Around) (outer:List Env) (s:Shared) (H:Hp) (E:XK) (hr:Room k (A.deeper (PyProof.Rows.envOfC "ones_with_less" (AJ Bv) s.heap.objs.size f cdv))) :
    RSs (BZ CX0 P w K mg base ["making", "found", "number", "hand", "at", "rows"] "ones_with_less" (AJ Bv) f cdv A outer s H E).nox (Ac Bv) (Cc φ_pulled_up φ_with_rows):=by
  have nd:=sc_ones_with_less.nd
  exact (AI (Ad 1 nd (CC AF))
      (AI (BT PassesOwn.never rfl (EK y_enumerate (AA (AW Ag (AD 0) AG) AF)) (EL (is:=[2,3]) rfl (As (Ao (i:=2) nd rfl (by first | exact Or.inl rfl | exact Or.inr rfl)) (As (Ao (i:=3) nd rfl (by first | exact Or.inl rfl | exact Or.inr rfl)) Cb))) (AO (BT PassesOwn.never rfl (C9 y_range (AA (Af B2 y_len Mi.Av (AA (AW Ag (AD 3) AG) AF)) AF)) (B3 4 nd) (AI (E6 5 (tgs:=["row"]) (ix:=[4]) (i:=0) (n:=1) nd ⟨rfl,by decide +kernel,by decide +kernel,⟨Or.inl rfl,trivial⟩,rfl,by decide +kernel⟩ rfl (DL (Aj BN (B4 (AW Ag (AD 3) AG) BF (BE (AD 4))) (B4 (AW Ag (AD 3) AG) (BE (Aj BN (AD 4) AG)) BF))) (fun _ _ _ _=>Ao (i:=0) (show List.Nodup (["row", "at"]:List Str) from by decide +kernel) rfl (Or.inl rfl)) (fun _ _ _ _=>Dq) (fun _ _ _ _=>(AV (hkj:=hk_pulled_up) F_pulled_up hr (AA (AD 0) (AA (AD 1) AF)))) (fun _ _ _ _ _ _ _ _ R i e q=>Dz R i e q))
      (AO (Ab (Bb PySem.F.slot_list_append PySem.F.type_list_append B8 (AD 1) (AA (Au (AA (Au (AA AT (AA (AW Ag (AD 3) AG) (AA (AD 4) AF)))) (AA (AV (hkj:=hk_with_rows) F_with_rows hr (AA (AD 0) (AA (AD 2) (AA (BJ EE y_tuple Mi.BU (AA (AD 5) AF)) AF)))) AF))) AF))))))))
      (AO (Am (AD 1)))))
abbrev Do:Stmt:=top 43
theorem sc_pulled_up:Ai ["row", "at"] ["row", "at"] (AJ Do):=⟨rfl,rfl,rfl,by decide +kernel,rfl,by decide +kernel,by decide +kernel⟩
theorem LM  {k:Nat} {f:Addr}  (cdv:Value) (A:Around) (outer:List Env) (s:Shared) (H:Hp) (E:XK) (hr:Room k (A.deeper (PyProof.Rows.envOfC "pulled_up" (AJ Do) s.heap.objs.size f cdv))) :
    RSs (BZ CX0 P w K mg base ["row", "at"] "pulled_up" (AJ Do) f cdv A outer s H E).nox (Ac Do) (Ea):=by
  have nd:=sc_pulled_up.nd
  exact (AI (BK (RW.rt (G4 (Aq LT (AW Ag (AD 0) AG) (Au (AA AT (AA AT AF)))) (Fo (Aq Ru (AW Ag (AD 0) (HQ HW AG)) (AD 1))))) (AO (Am (Aj BN (B4 (AD 0) BF (BE (HQ HW AG))) (Au (AA (Aj Dr (AW Ag (AD 0) (HQ HW AG)) AG) AF))))) Ar)
      (AO (Am (AD 0))))
abbrev Bw:Stmt:=top 44
theorem sc_exchanged_ones:Ai ["making", "found", "number", "hand", "rows", "at", "later"] ["making"] (AJ Bw):=⟨rfl,rfl,rfl,by decide +kernel,rfl,by decide +kernel,by decide +kernel⟩
theorem G7 {φ_with_rows:List D->M D} {k_with_rows:Nat} {k:Nat} {f:Addr} (F_with_rows:Fn P w K mg base "with_rows" ["making", "number", "rows"] k_with_rows φ_with_rows) (hk_with_rows:k_with_rows <= k) (y_enumerate:mg "enumerate" = none) (y_range:mg "range" = none) (y_len:mg "len" = none) (cdv:Value) (A:Around) (outer:List Env) (s:Shared) (H:Hp) (E:XK) (hr:Room k (A.deeper (PyProof.Rows.envOfC "exchanged_ones" (AJ Bw) s.heap.objs.size f cdv))) :
    RSs (BZ CX0 P w K mg base ["making", "found", "number", "hand", "rows", "at", "later"] "exchanged_ones" (AJ Bw) f cdv A outer s H E).nox (Ac Bw) (Cd φ_with_rows):=by
  have nd:=sc_exchanged_ones.nd
  exact (AI (Ad 1 nd (CC AF))
      (AI (BT PassesOwn.never rfl (EK y_enumerate (AA (AW Ag (AD 0) AG) AF)) (EL (is:=[2,3]) rfl (As (Ao (i:=2) nd rfl (by first | exact Or.inl rfl | exact Or.inr rfl)) (As (Ao (i:=3) nd rfl (by first | exact Or.inl rfl | exact Or.inr rfl)) Cb))) (AI (Ad 4 nd (AW Ag (AD 3) AG))
      (AO (BT PassesOwn.never rfl (C9 y_range (AA (Aj Dr (Af B2 y_len Mi.Av (AA (AD 4) AF)) AG) AF)) (B3 5 nd) (AI (Ad 6 nd (Aj BN (Aj BN (B4 (AD 4) BF (BE (AD 5))) (Au (AA (AW Ag (AD 4) (Aj BN (AD 5) AG)) (AA (AW Ag (AD 4) (AD 5)) AF)))) (B4 (AD 4) (BE (Aj BN (AD 5) AG)) BF)))
      (AO (Ab (Bb PySem.F.slot_list_append PySem.F.type_list_append B8 (AD 1) (AA (Au (AA (Au (AA AT (AA (AW Ag (AD 3) AG) (AA (AD 5) AF)))) (AA (AV (hkj:=hk_with_rows) F_with_rows hr (AA (AD 0) (AA (AD 2) (AA (AD 6) AF)))) AF))) AF)))))))))
      (AO (Am (AD 1)))))
abbrev Dm:Stmt:=top 45
theorem sc_with_rows:Ai ["making", "number", "rows", "hand"] ["making", "number", "rows"] (AJ Dm):=⟨rfl,rfl,rfl,by decide +kernel,rfl,by decide +kernel,by decide +kernel⟩
theorem LL {φ_with_thing:List D->M D} {k_with_thing:Nat} {k:Nat} {f:Addr} (F_with_thing:Fn P w K mg base "with_thing" ["things", "place", "thing"] k_with_thing φ_with_thing) (hk_with_thing:k_with_thing <= k) (cdv:Value) (A:Around) (outer:List Env) (s:Shared) (H:Hp) (E:XK) (hr:Room k (A.deeper (PyProof.Rows.envOfC "with_rows" (AJ Dm) s.heap.objs.size f cdv))) :
    RSs (BZ CX0 P w K mg base ["making", "number", "rows", "hand"] "with_rows" (AJ Dm) f cdv A outer s H E).nox (Ac Dm) (EZ φ_with_thing):=by
  have nd:=sc_with_rows.nd
  exact (AI (Ad 3 nd (AV (hkj:=hk_with_thing) F_with_thing hr (AA (AW Ag (AW Ag (AD 0) AG) (AD 1)) (AA AG (AA (AD 2) AF)))))
      (AO (Am (AV (hkj:=hk_with_thing) F_with_thing hr (AA (AD 0) (AA AG (AA (AV (hkj:=hk_with_thing) F_with_thing hr (AA (AW Ag (AD 0) AG) (AA (AD 1) (AA (AD 3) AF)))) AF)))))))
abbrev EJ:Stmt:=top 47
theorem sc_Lcell_at:Ai ["_law_script", "_law_k"] ["_law_script", "_law_k"] (AJ EJ):=⟨rfl,rfl,rfl,by decide +kernel,rfl,by decide +kernel,by decide +kernel⟩
theorem MJ  {k:Nat} {f:Addr} (y_len:mg "len" = none) (cdv:Value) (A:Around) (outer:List Env) (s:Shared) (H:Hp) (E:XK) (hr:Room k (A.deeper (PyProof.Rows.envOfC "_law_cell_at" (AJ EJ) s.heap.objs.size f cdv))) :
    RSs (BZ CX0 P w K mg base ["_law_script", "_law_k"] "_law_cell_at" (AJ EJ) f cdv A outer s H E).nox (Ac EJ) (DZ):=by
  have nd:=sc_Lcell_at.nd
  exact (AI (BK (Aq OB (AD 1) (Af B2 y_len Mi.Av (AA (AD 0) AF))) (AO (Am (AW Ag (AD 0) (AD 1)))) Ar)
      (AO (Am AG)))
abbrev GU:Stmt:=top 48
theorem sc_Lwell:Ai ["_law_cell"] ["_law_cell"] (AJ GU):=⟨rfl,rfl,rfl,by decide +kernel,rfl,by decide +kernel,by decide +kernel⟩
theorem Q9  {k:Nat} {f:Addr} (y_max:mg "max" = none) (cdv:Value) (A:Around) (outer:List Env) (s:Shared) (H:Hp) (E:XK) (hr:Room k (A.deeper (PyProof.Rows.envOfC "_law_well" (AJ GU) s.heap.objs.size f cdv))) :
    RSs (BZ CX0 P w K mg base ["_law_cell"] "_law_well" (AJ GU) f cdv A outer s H E).nox (Ac GU) (Fp):=by
  have nd:=sc_Lwell.nd
  exact (AO (Am (CC (AA (Af (WL rfl) y_max Mi.L0 (AA AG (AA (Aj Dr (AD 0) (Aj Vw AG AG)) AF))) (AA (Aj Jd (AD 0) AG) (AA AG AF))))))
abbrev GX:Stmt:=top 49
theorem sc_Ldraw:Ai ["_law_well_here", "_law_base", "_law_found", "_law_number"] ["_law_well_here", "_law_base"] (AJ GX):=⟨rfl,rfl,rfl,by decide +kernel,rfl,by decide +kernel,by decide +kernel⟩
theorem RD  {k:Nat} {f:Addr}  (cdv:Value) (A:Around) (outer:List Env) (s:Shared) (H:Hp) (E:XK) (hr:Room k (A.deeper (PyProof.Rows.envOfC "_law_draw" (AJ GX) s.heap.objs.size f cdv))) :
    RSs (BZ CX0 P w K mg base ["_law_well_here", "_law_base", "_law_found", "_law_number"] "_law_draw" (AJ GX) f cdv A outer s H E).nox (Ac GX) (Ec):=by
  have nd:=sc_Ldraw.nd
  exact (AI (BK (Aq Ru (AW Ag (AD 0) AG) AG) (AI (Ad 2 nd (Aj Jd (AW Ag (AD 0) AG) (AD 1)))
      (AI (FT (Aj KY (AW Ag (AD 0) AG) (AD 1)) (G5 (AD 0) AG))
      (AO (Am (AD 2))))) Ar)
      (AI (FT (Aj FU (AW Ag (AD 0) AG) AG) (G5 (AD 0) AG))
      (AI (Ad 3 nd (Aj Jd (Aj IV (Aj FU (Aj FU (AW Ag (AD 0) AG) (Aj IV AG (AW Ag (AD 0) AG))) AG) AG) AG))
      (AI (Ad 3 nd (Aj Jd (Aj IV (AD 3) (Aj FU (Aj KY (AD 3) AG) AG)) AG))
      (AI (Ad 3 nd (Aj Jd (Aj IV (AD 3) (Aj FU (Aj KY (AD 3) AG) AG)) AG))
      (AO (Am (Aj Jd (Aj FU (Aj IV (AD 3) AG) (Aj KY (AD 3) AG)) (AD 1)))))))))
abbrev GW:Stmt:=top 50
theorem sc_Lexpr:Ai ["_law_well_here", "_law_names", "_law_deep", "_law_way", "_law_word", "_law_one", "_law_other_here"] ["_law_well_here", "_law_names", "_law_deep"] (AJ GW):=⟨rfl,rfl,rfl,by decide +kernel,rfl,by decide +kernel,by decide +kernel⟩
theorem RC {φ_Ldraw:List D->M D} {k_Ldraw:Nat} {φ_Lexpr:List D->M D} {k_Lexpr:Nat} {k:Nat} {f:Addr} (F_Ldraw:Fn P w K mg base "_law_draw" ["_law_well_here", "_law_base"] k_Ldraw φ_Ldraw) (hk_Ldraw:k_Ldraw <= k) (F_Lexpr:Fn P w K mg base "_law_expr" ["_law_well_here", "_law_names", "_law_deep"] k_Lexpr φ_Lexpr) (hk_Lexpr:k_Lexpr <= k) (y_len:mg "len" = none) (y_min:mg "min" = none) (cdv:Value) (A:Around) (outer:List Env) (s:Shared) (H:Hp) (E:XK) (hr:Room k (A.deeper (PyProof.Rows.envOfC "_law_expr" (AJ GW) s.heap.objs.size f cdv))) :
    RSs (BZ CX0 P w K mg base ["_law_well_here", "_law_names", "_law_deep", "_law_way", "_law_word", "_law_one", "_law_other_here"] "_law_expr" (AJ GW) f cdv A outer s H E).nox (Ac GW) (Gf φ_Ldraw φ_Lexpr):=by
  have nd:=sc_Lexpr.nd
  exact (AI (Ad 3 nd (AV (hkj:=hk_Ldraw) F_Ldraw hr (AA (AD 0) (AA AG AF))))
      (AI (BK (RW.rt (JY (Aq (DW hr) (AD 2) AG) (II (Aq OB (AD 3) AG)))) (AI (BK (RW.rt (JY (Aq (DW hr) (AD 1) (B9 AF)) (II (Aq (DW hr) (AV (hkj:=hk_Ldraw) F_Ldraw hr (AA (AD 0) (AA AG AF))) AG)))) (AO (Am (Au (AA AT (AA (AV (hkj:=hk_Ldraw) F_Ldraw hr (AA (AD 0) (AA AG AF))) AF))))) Ar)
      (AO (Am (Au (AA AT (AA (AW Ag (AD 1) (AV (hkj:=hk_Ldraw) F_Ldraw hr (AA (AD 0) (AA (Af B2 y_len Mi.Av (AA (AD 1) AF)) AF)))) AF)))))) Ar)
      (AI (BK (Aq (DW hr) (AD 3) AG) (AO (Am (Au (AA AT (AA (AV (hkj:=hk_Lexpr) F_Lexpr hr (AA (AD 0) (AA (AD 1) (AA (Aj Dr (AD 2) AG) AF)))) AF))))) Ar)
      (AI (Ad 4 nd (AW Ag (B9 (AA AT (AA AT (AA AT (AA AT (AA AT (AA AT AF))))))) (Aj Dr (AD 3) AG)))
      (AI (Ad 5 nd (AV (hkj:=hk_Lexpr) F_Lexpr hr (AA (AD 0) (AA (AD 1) (AA (Aj Dr (AD 2) AG) AF)))))
      (AI (Ad 6 nd (AV (hkj:=hk_Lexpr) F_Lexpr hr (AA (AD 0) (AA (AD 1) (AA (Af (Qg rfl) y_min Mi.Iz (AA (Aj Dr (AD 2) AG) (AA AG AF))) AF)))))
      (AO (Am (AW Ag (B9 (AA (Au (AA (AD 4) (AA (AD 5) (AA (AD 6) AF)))) (AA (Au (AA (AD 4) (AA (AD 6) (AA (AD 5) AF)))) AF))) (AV (hkj:=hk_Ldraw) F_Ldraw hr (AA (AD 0) (AA AG AF))))))))))))
abbrev IF:Stmt:=top 51
theorem sc_Lrow:Ai ["_law_well_here", "_law_own", "_law_boxes", "_law_names", "_law_many", "_law_is_writer", "_law_way", "_law_deep", "_law_seen"] ["_law_well_here", "_law_own", "_law_boxes", "_law_names", "_law_many", "_law_is_writer"] (AJ IF):=⟨rfl,rfl,rfl,by decide +kernel,rfl,by decide +kernel,by decide +kernel⟩
theorem Tj {φ_Ldraw:List D->M D} {k_Ldraw:Nat} {φ_Lexpr:List D->M D} {k_Lexpr:Nat} {k:Nat} {f:Addr} (F_Ldraw:Fn P w K mg base "_law_draw" ["_law_well_here", "_law_base"] k_Ldraw φ_Ldraw) (hk_Ldraw:k_Ldraw <= k) (F_Lexpr:Fn P w K mg base "_law_expr" ["_law_well_here", "_law_names", "_law_deep"] k_Lexpr φ_Lexpr) (hk_Lexpr:k_Lexpr <= k) (y_min:mg "min" = none) (y_int:mg "int" = none) (y_len:mg "len" = none) (cdv:Value) (A:Around) (outer:List Env) (s:Shared) (H:Hp) (E:XK) (hr:Room k (A.deeper (PyProof.Rows.envOfC "_law_row" (AJ IF) s.heap.objs.size f cdv))) :
    RSs (BZ CX0 P w K mg base ["_law_well_here", "_law_own", "_law_boxes", "_law_names", "_law_many", "_law_is_writer", "_law_way", "_law_deep", "_law_seen"] "_law_row" (AJ IF) f cdv A outer s H E).nox (Ac IF) (Kb φ_Ldraw φ_Lexpr):=by
  have nd:=sc_Lrow.nd
  exact (AI (Ad 6 nd (AV (hkj:=hk_Ldraw) F_Ldraw hr (AA (AD 0) (AA AG AF))))
      (AI (Ad 7 nd (AW Ag (B9 (AA AG (AA AG (AA AG (AA AG AF))))) (AV (hkj:=hk_Ldraw) F_Ldraw hr (AA (AD 0) (AA AG AF)))))
      (AI (BK (Aq Ru (AD 4) AG) (AO (Ad 7 nd (Af (Qg rfl) y_min Mi.Iz (AA (AD 7) (AA AG AF))))) Ar)
      (AI (Ad 8 nd (Aj FU (AD 3) (Aj IV (B9 (AA AT AF)) (BJ Qh y_int Mi.Gs (AA (AD 5) AF)))))
      (AI (BK (RW.rt (G4 (Aq OB (AD 6) AG) (Fo (Aq (Gd hr) (AD 1) (B9 AF))))) (AO (Am (Au (AA AT (AA (AW Ag (AD 1) (AV (hkj:=hk_Ldraw) F_Ldraw hr (AA (AD 0) (AA (Af B2 y_len Mi.Av (AA (AD 1) AF)) AF)))) (AA (AV (hkj:=hk_Lexpr) F_Lexpr hr (AA (AD 0) (AA (AD 8) (AA (AD 7) AF)))) AF)))))) Ar)
      (AI (BK (RW.rt (G4 (Aq OB (AD 6) AG) (Fo (Aq (Gd hr) (AD 2) (B9 AF))))) (AO (Am (Au (AA AT (AA (AW Ag (AD 3) (AV (hkj:=hk_Ldraw) F_Ldraw hr (AA (AD 0) (AA (Af B2 y_len Mi.Av (AA (AD 3) AF)) AF)))) (AA (AW Ag (AD 2) (AV (hkj:=hk_Ldraw) F_Ldraw hr (AA (AD 0) (AA (Af B2 y_len Mi.Av (AA (AD 2) AF)) AF)))) AF)))))) Ar)
      (AI (BK (Aq OB (AD 6) AG) (AO (Am (Au (AA AT (AA (AW Ag (AD 3) (AV (hkj:=hk_Ldraw) F_Ldraw hr (AA (AD 0) (AA (Af B2 y_len Mi.Av (AA (AD 3) AF)) AF)))) (AA (AV (hkj:=hk_Lexpr) F_Lexpr hr (AA (AD 0) (AA (AD 8) (AA (AD 7) AF)))) AF)))))) Ar)
      (AI (BK (Aq (DW hr) (AD 6) AG) (AO (Am (Au (AA AT (AA (AV (hkj:=hk_Lexpr) F_Lexpr hr (AA (AD 0) (AA (AD 8) (AA (AD 7) AF)))) (AA (AV (hkj:=hk_Ldraw) F_Ldraw hr (AA (AD 0) (AA (Aj FU (AD 4) AG) AF))) AF)))))) Ar)
      (AI (BK (Aq (DW hr) (AD 6) AG) (AO (Am (Au (AA AT (AA (AV (hkj:=hk_Ldraw) F_Ldraw hr (AA (AD 0) (AA (Aj FU (AD 4) AG) AF))) AF))))) Ar)
      (AO (Am (AW Ag (B9 (AA (Au (AA AT (AA (AV (hkj:=hk_Lexpr) F_Lexpr hr (AA (AD 0) (AA (AD 8) (AA (AD 7) AF)))) AF))) (AA (Au (AA AT AF)) AF))) (BJ Qh y_int Mi.Gs (AA (AD 5) AF))))))))))))))
abbrev Ep:Stmt:=top 52
theorem sc_Lmaking:Ai ["_law_well_here", "_law_some", "_law_turn", "_law_names", "_law_boxes", "_law_k", "_law_size", "_law_kind", "_law_hands", "_law_longest", "_law_name", "_law_many", "_law_own", "_law_row_names", "_law_rows"] ["_law_well_here"] (AJ Ep):=⟨rfl,rfl,rfl,by decide +kernel,rfl,by decide +kernel,by decide +kernel⟩
theorem N1 {φ_Ldraw:List D->M D} {k_Ldraw:Nat} {φ_Lrow:List D->M D} {k_Lrow:Nat} {k:Nat} {f:Addr} (F_Ldraw:Fn P w K mg base "_law_draw" ["_law_well_here", "_law_base"] k_Ldraw φ_Ldraw) (hk_Ldraw:k_Ldraw <= k) (F_Lrow:Fn P w K mg base "_law_row" ["_law_well_here", "_law_own", "_law_boxes", "_law_names", "_law_many", "_law_is_writer"] k_Lrow φ_Lrow) (hk_Lrow:k_Lrow <= k) (y_range:mg "range" = none) (y_len:mg "len" = none) (y_enumerate:mg "enumerate" = none) (y_tuple:mg "tuple" = none) (cdv:Value) (A:Around) (outer:List Env) (s:Shared) (H:Hp) (E:XK) (hr:Room k (A.deeper (PyProof.Rows.envOfC "_law_making" (AJ Ep) s.heap.objs.size f cdv))) :
    RSs (BZ CX0 P w K mg base ["_law_well_here", "_law_some", "_law_turn", "_law_names", "_law_boxes", "_law_k", "_law_size", "_law_kind", "_law_hands", "_law_longest", "_law_name", "_law_many", "_law_own", "_law_row_names", "_law_rows"] "_law_making" (AJ Ep) f cdv A outer s H E).nox (Ac Ep) (Fs φ_Ldraw φ_Lrow):=by
  have nd:=sc_Lmaking.nd
  exact (AI (Ad 1 nd (B9 (AA AT (AA AT (AA AT (AA AT (AA AT (AA AT (AA AT (AA AT (AA AT (AA AT (AA AT (AA AT AF))))))))))))))
      (AI (Ad 2 nd (AV (hkj:=hk_Ldraw) F_Ldraw hr (AA (AD 0) (AA AG AF))))
      (AI (Ad 1 nd (Aj BN (B4 (AD 1) (BE (AD 2)) BF) (B4 (AD 1) BF (BE (AD 2)))))
      (AI (Ad 3 nd (B4 (AD 1) BF (BE (Aj BN AG (AV (hkj:=hk_Ldraw) F_Ldraw hr (AA (AD 0) (AA AG AF)))))))
      (AI (Ad 4 nd (CC AF))
      (AI (BT PassesOwn.never rfl (C9 y_range (AA (AV (hkj:=hk_Ldraw) F_Ldraw hr (AA (AD 0) (AA AG AF))) AF)) (B3 5 nd) (AI (Ad 6 nd (Aj BN AG (AV (hkj:=hk_Ldraw) F_Ldraw hr (AA (AD 0) (AA AG AF)))))
      (AI (Ad 7 nd (AW Ag (B9 (AA AT (AA AT (AA AT AF)))) (AV (hkj:=hk_Ldraw) F_Ldraw hr (AA (AD 0) (AA AG AF)))))
      (AO (Ab (Bb PySem.F.slot_list_append PySem.F.type_list_append B8 (AD 4) (AA (Au (AA (AW Ag (AD 1) (Aj Dr AG (AD 5))) (AA (AD 7) (AA (AD 6) (AA (AV (hkj:=hk_Ldraw) F_Ldraw hr (AA (AD 0) (AA (AD 6) AF))) (AA (AW Ag (AD 3) (AV (hkj:=hk_Ldraw) F_Ldraw hr (AA (AD 0) (AA (Af B2 y_len Mi.Av (AA (AD 3) AF)) AF)))) AF)))))) AF)))))))
      (AI (Ad 8 nd (CC AF))
      (AI (Ad 9 nd (AV (hkj:=hk_Ldraw) F_Ldraw hr (AA (AD 0) (AA (Aj IV AG (Af B2 y_len Mi.Av (AA (AD 3) AF))) AF))))
      (AI (BT PassesOwn.never rfl (PX y_enumerate (AA (AD 3) AF)) (EL (is:=[5,10]) rfl (As (Ao (i:=5) nd rfl (by first | exact Or.inl rfl | exact Or.inr rfl)) (As (Ao (i:=10) nd rfl (by first | exact Or.inl rfl | exact Or.inr rfl)) Cb))) (AI (Ad 11 nd (AW Ag (B9 (AA AG (AA AG (AA AG (AA AG (AA AG AF)))))) (AV (hkj:=hk_Ldraw) F_Ldraw hr (AA (AD 0) (AA AG AF)))))
      (AI (BK (Aq (DW hr) (AD 5) (AD 9)) (AO (Ad 11 nd AG)) Ar)
      (AI (Ad 12 nd (IJ (by wtm_at "own qpu") (by wtm_at "own qpu") (tgs:=["_law_box"]) (ix:=[10]) (i:=0) (n:=1) ⟨rfl,by decide +kernel,by decide +kernel,⟨Or.inl rfl,trivial⟩,rfl,by decide +kernel⟩ rfl (MF (AD 4)) (fun _ _ _ _=>Ao (i:=0) (show List.Nodup (["_law_box", "_law_name"]:List Str) from by decide +kernel) rfl (Or.inl rfl)) (fun _ _ _ _=>GZ (Aq (DW hr) (AW Ag (AD 0) AG) (AD 1))) (fun _ _ _ _=>(AW Ag (AD 0) AG))))
      (AI (Ad 13 nd (B4 (B9 (AA AT (AA AT (AA AT (AA AT (AA AT AF)))))) BF (BE (Aj BN AG (AV (hkj:=hk_Ldraw) F_Ldraw hr (AA (AD 0) (AA AG AF)))))))
      (AI (E6 14 (tgs:=["_law_j"]) (ix:=[4,5,11,12,13,0]) (i:=0) (n:=1) nd ⟨rfl,by decide +kernel,by decide +kernel,⟨Or.inl rfl,Or.inl rfl,Or.inl rfl,Or.inl rfl,Or.inl rfl,Or.inl rfl,trivial⟩,rfl,by decide +kernel⟩ rfl (C9 y_range (AA (AD 11) AF)) (fun _ _ _ _=>Ao (i:=0) (show List.Nodup (["_law_j", "_law_boxes", "_law_k", "_law_many", "_law_own", "_law_row_names", "_law_well_here"]:List Str) from by decide +kernel) rfl (Or.inl rfl)) (fun _ _ _ _=>Dq) (fun _ _ _ _=>(AV (hkj:=hk_Lrow) F_Lrow hr (AA (AD 6) (AA (AD 4) (AA (IJ (by wtm_at "own qpu") (by wtm_at "own qpu") (tgs:=["_law_box"]) (ix:=[]) (i:=0) (n:=1) ⟨rfl,by decide +kernel,by decide +kernel,trivial,rfl,by decide +kernel⟩ rfl (MF (AD 1)) (fun _ _ _ _=>Ao (i:=0) (show List.Nodup (["_law_box"]:List Str) from by decide +kernel) rfl (Or.inl rfl)) (fun _ _ _ _=>Dq) (fun _ _ _ _=>(AW Ag (AD 0) AG))) (AA (AD 5) (AA (AD 3) (AA (CS (DW hr) (AD 2) AG) AF)))))))) (fun _ _ _ _ _ _ _ _ R i e q=>Dz R i e q))
      (AO (Ab (Bb PySem.F.slot_list_append PySem.F.type_list_append B8 (AD 8) (AA (Au (AA (AD 10) (AA (AW Ag (B9 (AA AG (AA AG (AA AG (AA AG (AA AG AF)))))) (AV (hkj:=hk_Ldraw) F_Ldraw hr (AA (AD 0) (AA AG AF)))) (AA (BJ EE y_tuple Mi.BU (AA (AD 14) AF)) AF)))) AF))))))))))
      (AI (Ad 6 nd (Aj BN AG (AV (hkj:=hk_Ldraw) F_Ldraw hr (AA (AD 0) (AA AG AF)))))
      (AI (Ad 7 nd (AW Ag (B9 (AA AT (AA AT (AA AT AF)))) (AV (hkj:=hk_Ldraw) F_Ldraw hr (AA (AD 0) (AA AG AF)))))
      (AO (Am (Au (AA (AD 7) (AA (AD 6) (AA (AV (hkj:=hk_Ldraw) F_Ldraw hr (AA (AD 0) (AA (AD 6) AF))) (AA (BJ EE y_tuple Mi.BU (AA (AD 4) AF)) (AA (BJ EE y_tuple Mi.BU (AA (AD 8) AF)) AF)))))))))))))))))))
abbrev IH:Stmt:=top 53
theorem sc_Lcut:Ai ["_law_making_here", "_law_one", "_law_hands", "_law_k", "_law_name", "_law_within", "_law_rows", "_law_left", "_law_row_here"] ["_law_making_here", "_law_one"] (AJ IH):=⟨rfl,rfl,rfl,by decide +kernel,rfl,by decide +kernel,by decide +kernel⟩
theorem Tl  {k:Nat} {f:Addr} (y_enumerate:mg "enumerate" = none) (y_int:mg "int" = none) (y_len:mg "len" = none) (y_min:mg "min" = none) (y_tuple:mg "tuple" = none) (cdv:Value) (A:Around) (outer:List Env) (s:Shared) (H:Hp) (E:XK) (hr:Room k (A.deeper (PyProof.Rows.envOfC "_law_cut" (AJ IH) s.heap.objs.size f cdv))) :
    RSs (BZ CX0 P w K mg base ["_law_making_here", "_law_one", "_law_hands", "_law_k", "_law_name", "_law_within", "_law_rows", "_law_left", "_law_row_here"] "_law_cut" (AJ IH) f cdv A outer s H E).nox (Ac IH) (Kd):=by
  have nd:=sc_Lcut.nd
  exact (AI (Ad 2 nd (CC AF))
      (AI (BT PassesOwn.never rfl (EK y_enumerate (AA (AW Ag (AD 0) AG) AF)) (Q3 (is:=[4,5,6]) rfl (Ao (i:=3) nd rfl (by first | exact Or.inl rfl | exact Or.inr rfl)) (As (Ao (i:=4) nd rfl (by first | exact Or.inl rfl | exact Or.inr rfl)) (As (Ao (i:=5) nd rfl (by first | exact Or.inl rfl | exact Or.inr rfl)) (As (Ao (i:=6) nd rfl (by first | exact Or.inl rfl | exact Or.inr rfl)) Cb)))) (AI (Ad 6 nd (B4 (AD 6) BF (BE (AW Ag (B9 (AA AG (AA AG AF))) (BJ Qh y_int Mi.Gs (AA (CS (DW hr) (AD 3) (AD 1)) AF))))))
      (AI (Ad 7 nd (CC AF))
      (AI (BT PassesOwn.never rfl (DL (AD 6)) (B3 8 nd) (AI (BK (Aq LT (AW Ag (AD 8) AG) (Au (AA AT (AA AT AF)))) (AO (Ad 8 nd (Aj BN (B4 (AD 8) BF (BE (HQ HW AG))) (Au (AA (Af (Qg rfl) y_min Mi.Iz (AA (AW Ag (AD 8) (HQ HW AG)) (AA (Af B2 y_len Mi.Av (AA (AD 6) AF)) AF))) AF))))) Ar)
      (AO (Ab (Bb PySem.F.slot_list_append PySem.F.type_list_append B8 (AD 7) (AA (AD 8) AF))))))
      (AO (Ab (Bb PySem.F.slot_list_append PySem.F.type_list_append B8 (AD 2) (AA (Au (AA (AD 4) (AA (AD 5) (AA (BJ EE y_tuple Mi.BU (AA (AD 7) AF)) AF)))) AF))))))))
      (AO (Am (Aj BN (B4 (AD 0) BF (BE AG)) (Au (AA (BJ EE y_tuple Mi.BU (AA (AD 2) AF)) AF)))))))
abbrev Eo:Stmt:=top 54
theorem sc_Lweaker:Ai ["_law_making_here", "_law_found", "_law_k", "_law_box", "_law_kind", "_law_boxes"] ["_law_making_here"] (AJ Eo):=⟨rfl,rfl,rfl,by decide +kernel,rfl,by decide +kernel,by decide +kernel⟩
theorem N0  {k:Nat} {f:Addr} (y_enumerate:mg "enumerate" = none) (y_list:mg "list" = none) (y_tuple:mg "tuple" = none) (cdv:Value) (A:Around) (outer:List Env) (s:Shared) (H:Hp) (E:XK) (hr:Room k (A.deeper (PyProof.Rows.envOfC "_law_weaker" (AJ Eo) s.heap.objs.size f cdv))) :
    RSs (BZ CX0 P w K mg base ["_law_making_here", "_law_found", "_law_k", "_law_box", "_law_kind", "_law_boxes"] "_law_weaker" (AJ Eo) f cdv A outer s H E).nox (Ac Eo) (Fq):=by
  have nd:=sc_Lweaker.nd
  exact (AI (Ad 1 nd (CC AF))
      (AI (BT PassesOwn.never rfl (EK y_enumerate (AA (AW Ag (AD 0) AG) AF)) (EL (is:=[2,3]) rfl (As (Ao (i:=2) nd rfl (by first | exact Or.inl rfl | exact Or.inr rfl)) (As (Ao (i:=3) nd rfl (by first | exact Or.inl rfl | exact Or.inr rfl)) Cb))) (AI (Ad 4 nd (LJ hr (Pa (by decide +kernel)) (AW Ag (AD 3) AG)))
      (AO (BK (Aq Rt (AD 4) PZ) (AI (Ad 5 nd (BJ Mm y_list Mi.Fx (AA (AW Ag (AD 0) AG) AF)))
      (AI (FT (Aj BN (Au (AA (AW Ag (AD 3) AG) (AA (AD 4) AF))) (B4 (AD 3) (BE AG) BF)) (G5 (AD 5) (AD 2)))
      (AO (Ab (Bb PySem.F.slot_list_append PySem.F.type_list_append B8 (AD 1) (AA (Au (AA (Au (AA AT (AA (AW Ag (AD 3) AG) AF))) (AA (Aj BN (B4 (AD 0) BF (BE AG)) (Au (AA (BJ EE y_tuple Mi.BU (AA (AD 5) AF)) (AA (AW Ag (AD 0) AG) AF)))) AF))) AF)))))) Ar))))
      (AO (Am (AD 1)))))
abbrev GT:Stmt:=top 55
theorem sc_Lwith:Ai ["_law_making_here", "_law_k", "_law_rows", "_law_hands"] ["_law_making_here", "_law_k", "_law_rows"] (AJ GT):=⟨rfl,rfl,rfl,by decide +kernel,rfl,by decide +kernel,by decide +kernel⟩
theorem Q8  {k:Nat} {f:Addr} (y_list:mg "list" = none) (y_tuple:mg "tuple" = none) (cdv:Value) (A:Around) (outer:List Env) (s:Shared) (H:Hp) (E:XK) (hr:Room k (A.deeper (PyProof.Rows.envOfC "_law_with" (AJ GT) s.heap.objs.size f cdv))) :
    RSs (BZ CX0 P w K mg base ["_law_making_here", "_law_k", "_law_rows", "_law_hands"] "_law_with" (AJ GT) f cdv A outer s H E).nox (Ac GT) (Hk):=by
  have nd:=sc_Lwith.nd
  exact (AI (Ad 3 nd (BJ Mm y_list Mi.Fx (AA (AW Ag (AD 0) AG) AF)))
      (AI (FT (Aj BN (B4 (AW Ag (AD 3) (AD 1)) BF (BE AG)) (Au (AA (BJ EE y_tuple Mi.BU (AA (AD 2) AF)) AF))) (G5 (AD 3) (AD 1)))
      (AO (Am (Aj BN (B4 (AD 0) BF (BE AG)) (Au (AA (BJ EE y_tuple Mi.BU (AA (AD 3) AF)) AF)))))))
abbrev GV:Stmt:=top 56
theorem sc_Lless:Ai ["_law_making_here", "_law_k", "_law_name", "_law_within", "_law_rows", "_law_found", "_law_gone", "_law_left", "_law_at", "_law_row_here"] ["_law_making_here", "_law_k"] (AJ GV):=⟨rfl,rfl,rfl,by decide +kernel,rfl,by decide +kernel,by decide +kernel⟩
theorem RB {φ_Lwith:List D->M D} {k_Lwith:Nat} {k:Nat} {f:Addr} (F_Lwith:Fn P w K mg base "_law_with" ["_law_making_here", "_law_k", "_law_rows"] k_Lwith φ_Lwith) (hk_Lwith:k_Lwith <= k) (y_range:mg "range" = none) (y_len:mg "len" = none) (y_enumerate:mg "enumerate" = none) (cdv:Value) (A:Around) (outer:List Env) (s:Shared) (H:Hp) (E:XK) (hr:Room k (A.deeper (PyProof.Rows.envOfC "_law_less" (AJ GV) s.heap.objs.size f cdv))) :
    RSs (BZ CX0 P w K mg base ["_law_making_here", "_law_k", "_law_name", "_law_within", "_law_rows", "_law_found", "_law_gone", "_law_left", "_law_at", "_law_row_here"] "_law_less" (AJ GV) f cdv A outer s H E).nox (Ac GV) (Hl φ_Lwith):=by
  have nd:=sc_Lless.nd
  exact (AI (FT (AW Ag (AW Ag (AD 0) AG) (AD 1)) (EL (is:=[2,3,4]) rfl (As (Ao (i:=2) nd rfl (by first | exact Or.inl rfl | exact Or.inr rfl)) (As (Ao (i:=3) nd rfl (by first | exact Or.inl rfl | exact Or.inr rfl)) (As (Ao (i:=4) nd rfl (by first | exact Or.inl rfl | exact Or.inr rfl)) Cb)))))
      (AI (Ad 5 nd (CC AF))
      (AI (BT PassesOwn.never rfl (C9 y_range (AA (Af B2 y_len Mi.Av (AA (AD 4) AF)) AF)) (B3 6 nd) (AI (Ad 7 nd (CC AF))
      (AI (BT PassesOwn.never rfl (EK y_enumerate (AA (AD 4) AF)) (EL (is:=[8,9]) rfl (As (Ao (i:=8) nd rfl (by first | exact Or.inl rfl | exact Or.inr rfl)) (As (Ao (i:=9) nd rfl (by first | exact Or.inl rfl | exact Or.inr rfl)) Cb))) (AI (BK (RW.rt (G4 (Aq LT (AW Ag (AD 9) AG) (Au (AA AT (AA AT AF)))) (Fo (Aq Ru (AW Ag (AD 9) (HQ HW AG)) (AD 6))))) (AO (Ad 9 nd (Aj BN (B4 (AD 9) BF (BE (HQ HW AG))) (Au (AA (Aj Dr (AW Ag (AD 9) (HQ HW AG)) AG) AF))))) Ar)
      (AO (BK (Aq (Gd hr) (AD 8) (AD 6)) (AO (Ab (Bb PySem.F.slot_list_append PySem.F.type_list_append B8 (AD 7) (AA (AD 9) AF)))) Ar))))
      (AO (Ab (Bb PySem.F.slot_list_append PySem.F.type_list_append B8 (AD 5) (AA (Au (AA (Au (AA AT (AA (AD 2) (AA (AD 6) AF)))) (AA (AV (hkj:=hk_Lwith) F_Lwith hr (AA (AD 0) (AA (AD 1) (AA (AD 7) AF)))) AF))) AF)))))))
      (AO (Am (AD 5))))))
abbrev FS:Stmt:=top 57
theorem sc_Lother:Ai ["_law_making_here", "_law_k", "_law_name", "_law_within", "_law_rows", "_law_found", "_law_at", "_law_left"] ["_law_making_here", "_law_k"] (AJ FS):=⟨rfl,rfl,rfl,by decide +kernel,rfl,by decide +kernel,by decide +kernel⟩
theorem Pd {φ_Lwith:List D->M D} {k_Lwith:Nat} {k:Nat} {f:Addr} (F_Lwith:Fn P w K mg base "_law_with" ["_law_making_here", "_law_k", "_law_rows"] k_Lwith φ_Lwith) (hk_Lwith:k_Lwith <= k) (y_range:mg "range" = none) (y_len:mg "len" = none) (y_list:mg "list" = none) (cdv:Value) (A:Around) (outer:List Env) (s:Shared) (H:Hp) (E:XK) (hr:Room k (A.deeper (PyProof.Rows.envOfC "_law_other" (AJ FS) s.heap.objs.size f cdv))) :
    RSs (BZ CX0 P w K mg base ["_law_making_here", "_law_k", "_law_name", "_law_within", "_law_rows", "_law_found", "_law_at", "_law_left"] "_law_other" (AJ FS) f cdv A outer s H E).nox (Ac FS) (Ge φ_Lwith):=by
  have nd:=sc_Lother.nd
  exact (AI (FT (AW Ag (AW Ag (AD 0) AG) (AD 1)) (EL (is:=[2,3,4]) rfl (As (Ao (i:=2) nd rfl (by first | exact Or.inl rfl | exact Or.inr rfl)) (As (Ao (i:=3) nd rfl (by first | exact Or.inl rfl | exact Or.inr rfl)) (As (Ao (i:=4) nd rfl (by first | exact Or.inl rfl | exact Or.inr rfl)) Cb)))))
      (AI (Ad 5 nd (CC AF))
      (AI (BT PassesOwn.never rfl (Nr y_range (AA AG (AA (Af B2 y_len Mi.Av (AA (AD 4) AF)) AF))) (B3 6 nd) (AI (Ad 7 nd (BJ Mm y_list Mi.Fx (AA (AD 4) AF)))
      (AI (FT (AW Ag (AD 4) (Aj Dr (AD 6) AG)) (G5 (AD 7) (AD 6)))
      (AI (FT (AW Ag (AD 4) (AD 6)) (G5 (AD 7) (Aj Dr (AD 6) AG)))
      (AO (Ab (Bb PySem.F.slot_list_append PySem.F.type_list_append B8 (AD 5) (AA (Au (AA (Au (AA AT (AA (AD 2) (AA (Aj Dr (AD 6) AG) AF)))) (AA (AV (hkj:=hk_Lwith) F_Lwith hr (AA (AD 0) (AA (AD 1) (AA (AD 7) AF)))) AF))) AF))))))))
      (AO (Am (AD 5))))))
abbrev DK:Stmt:=top 58
theorem sc_Lis_making:Ai ["_law_thing", "_law_good"] ["_law_thing"] (AJ DK):=⟨rfl,rfl,rfl,by decide +kernel,rfl,by decide +kernel,by decide +kernel⟩
theorem KN {φ_check_making:List D->M D} {k_check_making:Nat} {k:Nat} {f:Addr} (F_check_making:Fn P w K mg base "check_making" ["making"] k_check_making φ_check_making) (hk_check_making:k_check_making <= k) (cdv:Value) (A:Around) (outer:List Env) (s:Shared) (H:Hp) (E:XK) (hr:Room k (A.deeper (PyProof.Rows.envOfC "_law_is_making" (AJ DK) s.heap.objs.size f cdv))) :
    RSs (BZ CX0 P w K mg base ["_law_thing", "_law_good"] "_law_is_making" (AJ DK) f cdv A outer s H E).nox (Ac DK) (D6 φ_check_making):=by
  have nd:=sc_Lis_making.nd
  exact (AI (Ad 1 nd Ja)
      (AI (PN (AO (Ab (AV (hkj:=hk_check_making) F_check_making hr (AA (AD 0) AF)))))
      (AO (Am (AD 1)))))
abbrev IG:Stmt:=top 59
theorem sc_Ldue:Ai ["_law_making_here", "_law_some", "_law_k"] ["_law_making_here"] (AJ IG):=⟨rfl,rfl,rfl,by decide +kernel,rfl,by decide +kernel,by decide +kernel⟩
theorem Tk {φ_Lweaker:List D->M D} {k_Lweaker:Nat} {φ_Lless:List D->M D} {k_Lless:Nat} {φ_Lother:List D->M D} {k_Lother:Nat} {φ_Lis_making:List D->M D} {k_Lis_making:Nat} {k:Nat} {f:Addr} (F_Lweaker:Fn P w K mg base "_law_weaker" ["_law_making_here"] k_Lweaker φ_Lweaker) (hk_Lweaker:k_Lweaker <= k) (F_Lless:Fn P w K mg base "_law_less" ["_law_making_here", "_law_k"] k_Lless φ_Lless) (hk_Lless:k_Lless <= k) (F_Lother:Fn P w K mg base "_law_other" ["_law_making_here", "_law_k"] k_Lother φ_Lother) (hk_Lother:k_Lother <= k) (F_Lis_making:Fn P w K mg base "_law_is_making" ["_law_thing"] k_Lis_making φ_Lis_making) (hk_Lis_making:k_Lis_making <= k) (y_range:mg "range" = none) (y_len:mg "len" = none) (cdv:Value) (A:Around) (outer:List Env) (s:Shared) (H:Hp) (E:XK) (hr:Room k (A.deeper (PyProof.Rows.envOfC "_law_due" (AJ IG) s.heap.objs.size f cdv))) :
    RSs (BZ CX0 P w K mg base ["_law_making_here", "_law_some", "_law_k"] "_law_due" (AJ IG) f cdv A outer s H E).nox (Ac IG) (Kc φ_Lweaker φ_Lless φ_Lother φ_Lis_making):=by
  have nd:=sc_Ldue.nd
  exact (AI (Ad 1 nd (AV (hkj:=hk_Lweaker) F_Lweaker hr (AA (AD 0) AF)))
      (AI (BT PassesOwn.never rfl (C9 y_range (AA (Af B2 y_len Mi.Av (AA (AW Ag (AD 0) AG) AF)) AF)) (B3 2 nd) (AO (Ad 1 nd (Aj BN (AD 1) (AV (hkj:=hk_Lless) F_Lless hr (AA (AD 0) (AA (AD 2) AF)))))))
      (AI (BT PassesOwn.never rfl (C9 y_range (AA (Af B2 y_len Mi.Av (AA (AW Ag (AD 0) AG) AF)) AF)) (B3 2 nd) (AO (Ad 1 nd (Aj BN (AD 1) (AV (hkj:=hk_Lother) F_Lother hr (AA (AD 0) (AA (AD 2) AF)))))))
      (AO (Am (Hi (tgs:=["_law_one"]) (ix:=[0]) (i:=0) (n:=1) ⟨rfl,by decide +kernel,by decide +kernel,⟨Or.inl rfl,trivial⟩,rfl,by decide +kernel⟩ rfl (DL (AD 1)) (fun _ _ _ _=>Ao (i:=0) (show List.Nodup (["_law_one", "_law_making_here"]:List Str) from by decide +kernel) rfl (Or.inl rfl)) (fun _ _ _ _=>GZ (RW.rt (G4 (Aq (Gd hr) (AW Ag (AD 0) AG) (AD 1)) (Fo (F9 (AV (hkj:=hk_Lis_making) F_Lis_making hr (AA (AW Ag (AD 0) AG) AF))))))) (fun _ _ _ _=>(AD 0))))))))
abbrev LH:Stmt:=top 60
theorem sc_law:Ai ["_law_script", "_law_making_here", "_law_longest", "_law_due_here", "_law_k", "_law_found"] ["_law_script"] (AJ LH):=⟨rfl,rfl,rfl,by decide +kernel,rfl,by decide +kernel,by decide +kernel⟩
theorem VT {φ_Lcell_at:List D->M D} {k_Lcell_at:Nat} {φ_Lwell:List D->M D} {k_Lwell:Nat} {φ_Lmaking:List D->M D} {k_Lmaking:Nat} {φ_Lcut:List D->M D} {k_Lcut:Nat} {φ_Ldue:List D->M D} {k_Ldue:Nat} {φ_turned:List D->M D} {k_turned:Nat} {φ_check_making:List D->M D} {k_check_making:Nat} {k:Nat} {f:Addr} (F_Lcell_at:Fn P w K mg base "_law_cell_at" ["_law_script", "_law_k"] k_Lcell_at φ_Lcell_at) (hk_Lcell_at:k_Lcell_at <= k) (F_Lwell:Fn P w K mg base "_law_well" ["_law_cell"] k_Lwell φ_Lwell) (hk_Lwell:k_Lwell <= k) (F_Lmaking:Fn P w K mg base "_law_making" ["_law_well_here"] k_Lmaking φ_Lmaking) (hk_Lmaking:k_Lmaking <= k) (F_Lcut:Fn P w K mg base "_law_cut" ["_law_making_here", "_law_one"] k_Lcut φ_Lcut) (hk_Lcut:k_Lcut <= k) (F_Ldue:Fn P w K mg base "_law_due" ["_law_making_here"] k_Ldue φ_Ldue) (hk_Ldue:k_Ldue <= k) (F_turned:Fn P w K mg base "turned" ["making"] k_turned φ_turned) (hk_turned:k_turned <= k) (F_check_making:Fn P w K mg base "check_making" ["making"] k_check_making φ_check_making) (hk_check_making:k_check_making <= k) (y_len:mg "len" = none) (y_max:mg "max" = none) (y_range:mg "range" = none) (y_list:mg "list" = none) (y_isinstance:mg "isinstance" = none) (y_tuple:mg "tuple" = none) (cdv:Value) (A:Around) (outer:List Env) (s:Shared) (H:Hp) (E:XK) (hr:Room k (A.deeper (PyProof.Rows.envOfC "law" (AJ LH) s.heap.objs.size f cdv))) :
    RSs (BZ CX0 P w K mg base ["_law_script", "_law_making_here", "_law_longest", "_law_due_here", "_law_k", "_law_found"] "law" (AJ LH) f cdv A outer s H E).nox (Ac LH) (Ji φ_Lcell_at φ_Lwell φ_Lmaking φ_Lcut φ_Ldue φ_turned φ_check_making):=by
  have nd:=sc_law.nd
  exact (AI (Ad 1 nd (AV (hkj:=hk_Lmaking) F_Lmaking hr (AA (AV (hkj:=hk_Lwell) F_Lwell hr (AA (AV (hkj:=hk_Lcell_at) F_Lcell_at hr (AA (AD 0) (AA AG AF))) AF)) AF)))
      (AI (E6 2 (tgs:=["_law_hand"]) (ix:=[]) (i:=0) (n:=1) nd ⟨rfl,by decide +kernel,by decide +kernel,trivial,rfl,by decide +kernel⟩ rfl (DL (AW Ag (AD 1) AG)) (fun _ _ _ _=>Ao (i:=0) (show List.Nodup (["_law_hand"]:List Str) from by decide +kernel) rfl (Or.inl rfl)) (fun _ _ _ _=>Dq) (fun _ _ _ _=>(Af B2 y_len Mi.Av (AA (AW Ag (AD 0) AG) AF))) (fun _ _ _ _ _ _ _ _ R i e q=>Dz R i e q))
      (AI (Ad 1 nd (AV (hkj:=hk_Lcut) F_Lcut hr (AA (AD 1) (AA (Bb PySem.F.slot_list_index PySem.F.type_list_index P4 (AD 2) (AA (Af (Ux rfl) y_max Mi.L0 (AA (AD 2) AF)) AF)) AF))))
      (AI (Ad 3 nd (AV (hkj:=hk_Ldue) F_Ldue hr (AA (AD 1) AF)))
      (AI (BT PassesOwn.never rfl (C9 y_range (AA AG AF)) (B3 4 nd) (AI (Ad 5 nd (AV (hkj:=hk_turned) F_turned hr (AA (AD 1) AF)))
      (AI (BK (RW.rt (JY (KI (F9 (Af Fj y_isinstance Mi.BD (AA (AD 5) (AA (EX y_list Mi.Fx) AF))))) (II (Aq (Gd hr) (AD 5) (AD 3))))) (AO (Am Ja)) Ar)
      (AI (BK (Aq (Gd hr) (IJ (by wtm_at "own qpu") (by wtm_at "own qpu") (tgs:=["_law_one"]) (ix:=[]) (i:=0) (n:=1) ⟨rfl,by decide +kernel,by decide +kernel,trivial,rfl,by decide +kernel⟩ rfl (MF (AD 5)) (fun _ _ _ _=>Ao (i:=0) (show List.Nodup (["_law_one"]:List Str) from by decide +kernel) rfl (Or.inl rfl)) (fun _ _ _ _=>GZ (RW.rt (JY (KI (F9 (Af Fj y_isinstance Mi.BD (AA (AD 0) (AA (EX y_tuple Mi.BU) AF))))) (II (Aq (Gd hr) (Af B2 y_len Mi.Av (AA (AD 0) AF)) AG))))) (fun _ _ _ _=>(AD 0))) (B9 AF)) (AO (Am Ja)) Ar)
      (AO (Ab (Nt PySem.F.slot_list_clear PySem.F.type_list_clear R9 (AD 5))))))))
      (AO (Am (CS Wm (AV (hkj:=hk_check_making) F_check_making hr (AA (AD 1) AF)) PZ))))))))
end
end K61
namespace K61
open PySem L2 Mi K1
noncomputable def Et:List D->M D:=Ax .drop 15 1 (Fs BH Il)
noncomputable def Io:List D->M D:=Ax .drop 9 2 (Kd)
noncomputable def HJ:List D->M D:=Ax .frz 6 1 (Fq)
noncomputable def Fu:List D->M D:=Ax .drop 4 3 (Hk)
noncomputable def Hs:List D->M D:=Ax .frz 10 2 (Hl Fu)
noncomputable def Go:List D->M D:=Ax .frz 8 2 (Ge Fu)
noncomputable def FB:List D->M D:=Ax .drop 2 1 (D6 Be)
noncomputable def Im:List D->M D:=Ax .drop 3 1 (Kc HJ Hs Go FB)
noncomputable def A3:List D->M D:=Ax .drop 3 3 (D4)
noncomputable def Dd:List D->M D:=Ax .frz 5 1 (Db A3)
noncomputable def DC:List D->M D:=Ax .drop 2 2 (Ea)
noncomputable def DB:List D->M D:=Ax .drop 4 3 (EZ A3)
noncomputable def Ce:List D->M D:=Ax .frz 6 1 (Cc DC DB)
noncomputable def Cf:List D->M D:=Ax .frz 7 1 (Cd DB)
noncomputable def Eg:List D->M D:=Ax .drop 1 1 (Eb Be)
noncomputable def DR:List D->M D:=Ax .all 2 1 (FV Dd Ce Cf Eg)
noncomputable def QP:List D->M D:=Ax .drop 6 1 (Ji ES Gn Et Io Im DR Be)
end K61
namespace K61
open PySem L2 Mi K1
theorem U1 {l:PySem.W.OpenLaw} {w:World} {K:PySem.W.Frag} {h:Heap} {mg:Str->Option Value} {fa:Addr} (hφ:∀ ns:List Int,ns.length <= 63->∃ μ',QP [.scr ns] []=some (.bl true,μ')) (X:K.In h) (G:h.Ns mainGlobals mg) (hfa:mg "law" = some (.ref fa))
    (e_Lcell_at:∃ f fd,Df K "_law_cell_at" EJ f fd)
    (e_Lwell:∃ f fd,Df K "_law_well" GU f fd)
    (e_Ldraw:∃ f fd,Df K "_law_draw" GX f fd)
    (e_Lexpr:∃ f fd,Df K "_law_expr" GW f fd)
    (e_Lrow:∃ f fd,Df K "_law_row" IF f fd)
    (e_Lmaking:∃ f fd,Df K "_law_making" Ep f fd)
    (e_Lcut:∃ f fd,Df K "_law_cut" IH f fd)
    (e_Lweaker:∃ f fd,Df K "_law_weaker" Eo f fd)
    (e_Lwith:∃ f fd,Df K "_law_with" GT f fd)
    (e_Lless:∃ f fd,Df K "_law_less" GV f fd)
    (e_Lother:∃ f fd,Df K "_law_other" FS f fd)
    (e_is_tuple:∃ f fd,Df K "is_tuple" EI f fd)
    (e_need:∃ f fd,Df K "need" IE f fd)
    (e_is_whole:∃ f fd,Df K "is_whole" EH f fd)
    (e_check_worths:∃ f fd,Df K "check_worths" CO f fd)
    (e_is_name:∃ f fd,Df K "is_name" En f fd)
    (e_are_unlike:∃ f fd,Df K "are_unlike" DJ f fd)
    (e_check_boxes:∃ f fd,Df K "check_boxes" Cr f fd)
    (e_check_hands:∃ f fd,Df K "check_hands" Cq f fd)
    (e_is_expression:∃ f fd,Df K "is_expression" B7 f fd)
    (e_is_part:∃ f fd,Df K "is_part" Em f fd)
    (e_check_form:∃ f fd,Df K "check_form" DI f fd)
    (e_check_ending:∃ f fd,Df K "check_ending" CQ f fd)
    (e_variables_in:∃ f fd,Df K "variables_in" CN f fd)
    (e_variables_of:∃ f fd,Df K "variables_of" CM f fd)
    (e_check_variables:∃ f fd,Df K "check_variables" Bk f fd)
    (e_check_rows:∃ f fd,Df K "check_rows" DH f fd)
    (e_check_making:∃ f fd,Df K "check_making" CP f fd)
    (e_Lis_making:∃ f fd,Df K "_law_is_making" DK f fd)
    (e_Ldue:∃ f fd,Df K "_law_due" IG f fd)
    (e_with_thing:∃ f fd,Df K "with_thing" DG f fd)
    (e_weaker_ones:∃ f fd,Df K "weaker_ones" Cp f fd)
    (e_pulled_up:∃ f fd,Df K "pulled_up" Do f fd)
    (e_with_rows:∃ f fd,Df K "with_rows" Dm f fd)
    (e_ones_with_less:∃ f fd,Df K "ones_with_less" Bv f fd)
    (e_exchanged_ones:∃ f fd,Df K "exchanged_ones" Bw f fd)
    (e_is_let_by:∃ f fd,Df K "is_let_by" Dp f fd)
    (e_turned:∃ f fd,Df K "turned" FR f fd)
    (e_law:∃ f fd,Df K "law" LH f fd)
    (z_all:PySem.W.nsIn K mainGlobals "all" = some none)
    (z_bool:PySem.W.nsIn K mainGlobals "bool" = some none)
    (z_enumerate:PySem.W.nsIn K mainGlobals "enumerate" = some none)
    (z_int:PySem.W.nsIn K mainGlobals "int" = some none)
    (z_isinstance:PySem.W.nsIn K mainGlobals "isinstance" = some none)
    (z_len:PySem.W.nsIn K mainGlobals "len" = some none)
    (z_list:PySem.W.nsIn K mainGlobals "list" = some none)
    (z_max:PySem.W.nsIn K mainGlobals "max" = some none)
    (z_min:PySem.W.nsIn K mainGlobals "min" = some none)
    (z_range:PySem.W.nsIn K mainGlobals "range" = some none)
    (z_set:PySem.W.nsIn K mainGlobals "set" = some none)
    (z_str:PySem.W.nsIn K mainGlobals "str" = some none)
    (z_tuple:PySem.W.nsIn K mainGlobals "tuple" = some none)
    (z_zip:PySem.W.nsIn K mainGlobals "zip" = some none)
    (g_DEEPEST:Glo K mg "DEEPEST" Da)
    (g_GREATEST:Glo K mg "GREATEST" C8)
    (g_KINDS:Glo K mg "KINDS" Dl)
    (g_LEAST_HANDS:Glo K mg "LEAST_HANDS" Dk)
    (g_LEAST_SIZE:Glo K mg "LEAST_SIZE" ED)
    (g_LETTERS:Glo K mg "LETTERS" Eu)
    (g_MOST_BOXES:Glo K mg "MOST_BOXES" EC)
    (g_MOST_HANDS:Glo K mg "MOST_HANDS" EB)
    (g_MOST_ROWS:Glo K mg "MOST_ROWS" Dt)
    (g_MOST_SIZE:Glo K mg "MOST_SIZE" Eh)
    (g_MOST_WITHIN:Glo K mg "MOST_WITHIN" Cw)
    (g_NO_VARIABLES:Glo K mg "NO_VARIABLES" CY)
    (g_PAIR_WORDS:Glo K mg "PAIR_WORDS" B6)
    (k_PARTS:On w K mg "PARTS" BV)
    (q_KINDS:Sj K mg "KINDS" ["safe", "steady", "whole"]) :
    ∃ fd:FuncData,(∀ (s:Shared) (v:Value),BindsTo s fd ⟨[v],[]⟩ [("_law_script",v)]) /\ ∀ base:Heap,K.In base->base.Ns mainGlobals mg->FnOk l.prog w K mg base CX0 15 fa fd ["_law_script"] (M6 K):=by
  have y_all:=PySem.W.mg_none_of X G z_all
  have y_bool:=PySem.W.mg_none_of X G z_bool
  have y_enumerate:=PySem.W.mg_none_of X G z_enumerate
  have y_int:=PySem.W.mg_none_of X G z_int
  have y_isinstance:=PySem.W.mg_none_of X G z_isinstance
  have y_len:=PySem.W.mg_none_of X G z_len
  have y_list:=PySem.W.mg_none_of X G z_list
  have y_max:=PySem.W.mg_none_of X G z_max
  have y_min:=PySem.W.mg_none_of X G z_min
  have y_range:=PySem.W.mg_none_of X G z_range
  have y_set:=PySem.W.mg_none_of X G z_set
  have y_str:=PySem.W.mg_none_of X G z_str
  have y_tuple:=PySem.W.mg_none_of X G z_tuple
  have y_zip:=PySem.W.mg_none_of X G z_zip
  obtain ⟨fa_Lcell_at,fd_Lcell_at,d_Lcell_at⟩:=e_Lcell_at
  have DZ:=PySem.W.mg_of X G d_Lcell_at.a
  have b_Lcell_at:=d_Lcell_at.F.binds (ps:=["_law_script", "_law_k"]) fun _ _ _ _ _ _ us hl=>match us,hl with | [_,_],_=>rfl
  obtain ⟨fa_Lwell,fd_Lwell,d_Lwell⟩:=e_Lwell
  have Fp:=PySem.W.mg_of X G d_Lwell.a
  have b_Lwell:=d_Lwell.F.binds (ps:=["_law_cell"]) fun _ _ _ _ _ _ us hl=>match us,hl with | [_],_=>rfl
  obtain ⟨fa_Ldraw,fd_Ldraw,d_Ldraw⟩:=e_Ldraw
  have Ec:=PySem.W.mg_of X G d_Ldraw.a
  have b_Ldraw:=d_Ldraw.F.binds (ps:=["_law_well_here", "_law_base"]) fun _ _ _ _ _ _ us hl=>match us,hl with | [_,_],_=>rfl
  obtain ⟨fa_Lexpr,fd_Lexpr,d_Lexpr⟩:=e_Lexpr
  have Gf:=PySem.W.mg_of X G d_Lexpr.a
  have b_Lexpr:=d_Lexpr.F.binds (ps:=["_law_well_here", "_law_names", "_law_deep"]) fun _ _ _ _ _ _ us hl=>match us,hl with | [_,_,_],_=>rfl
  obtain ⟨fa_Lrow,fd_Lrow,d_Lrow⟩:=e_Lrow
  have Kb:=PySem.W.mg_of X G d_Lrow.a
  have b_Lrow:=d_Lrow.F.binds (ps:=["_law_well_here", "_law_own", "_law_boxes", "_law_names", "_law_many", "_law_is_writer"]) fun _ _ _ _ _ _ us hl=>match us,hl with | [_,_,_,_,_,_],_=>rfl
  obtain ⟨fa_Lmaking,fd_Lmaking,d_Lmaking⟩:=e_Lmaking
  have Fs:=PySem.W.mg_of X G d_Lmaking.a
  have b_Lmaking:=d_Lmaking.F.binds (ps:=["_law_well_here"]) fun _ _ _ _ _ _ us hl=>match us,hl with | [_],_=>rfl
  obtain ⟨fa_Lcut,fd_Lcut,d_Lcut⟩:=e_Lcut
  have Kd:=PySem.W.mg_of X G d_Lcut.a
  have b_Lcut:=d_Lcut.F.binds (ps:=["_law_making_here", "_law_one"]) fun _ _ _ _ _ _ us hl=>match us,hl with | [_,_],_=>rfl
  obtain ⟨fa_Lweaker,fd_Lweaker,d_Lweaker⟩:=e_Lweaker
  have Fq:=PySem.W.mg_of X G d_Lweaker.a
  have b_Lweaker:=d_Lweaker.F.binds (ps:=["_law_making_here"]) fun _ _ _ _ _ _ us hl=>match us,hl with | [_],_=>rfl
  obtain ⟨fa_Lwith,fd_Lwith,d_Lwith⟩:=e_Lwith
  have Hk:=PySem.W.mg_of X G d_Lwith.a
  have b_Lwith:=d_Lwith.F.binds (ps:=["_law_making_here", "_law_k", "_law_rows"]) fun _ _ _ _ _ _ us hl=>match us,hl with | [_,_,_],_=>rfl
  obtain ⟨fa_Lless,fd_Lless,d_Lless⟩:=e_Lless
  have Hl:=PySem.W.mg_of X G d_Lless.a
  have b_Lless:=d_Lless.F.binds (ps:=["_law_making_here", "_law_k"]) fun _ _ _ _ _ _ us hl=>match us,hl with | [_,_],_=>rfl
  obtain ⟨fa_Lother,fd_Lother,d_Lother⟩:=e_Lother
  have Ge:=PySem.W.mg_of X G d_Lother.a
  have b_Lother:=d_Lother.F.binds (ps:=["_law_making_here", "_law_k"]) fun _ _ _ _ _ _ us hl=>match us,hl with | [_,_],_=>rfl
  obtain ⟨fa_is_tuple,fd_is_tuple,d_is_tuple⟩:=e_is_tuple
  have EQ:=PySem.W.mg_of X G d_is_tuple.a
  have b_is_tuple:=d_is_tuple.F.binds (ps:=["thing", "least", "most"]) fun _ _ _ _ _ _ us hl=>match us,hl with | [_,_,_],_=>rfl
  obtain ⟨fa_need,fd_need,d_need⟩:=e_need
  have Ka:=PySem.W.mg_of X G d_need.a
  have b_need:=d_need.F.binds (ps:=["holds", "words"]) fun _ _ _ _ _ _ us hl=>match us,hl with | [_,_],_=>rfl
  obtain ⟨fa_is_whole,fd_is_whole,d_is_whole⟩:=e_is_whole
  have EO:=PySem.W.mg_of X G d_is_whole.a
  have b_is_whole:=d_is_whole.F.binds (ps:=["thing", "least", "most"]) fun _ _ _ _ _ _ us hl=>match us,hl with | [_,_,_],_=>rfl
  obtain ⟨fa_check_worths,fd_check_worths,d_check_worths⟩:=e_check_worths
  have CU:=PySem.W.mg_of X G d_check_worths.a
  have b_check_worths:=d_check_worths.F.binds (ps:=["kind", "size", "begin"]) fun _ _ _ _ _ _ us hl=>match us,hl with | [_,_,_],_=>rfl
  obtain ⟨fa_is_name,fd_is_name,d_is_name⟩:=e_is_name
  have Es:=PySem.W.mg_of X G d_is_name.a
  have b_is_name:=d_is_name.F.binds (ps:=["thing"]) fun _ _ _ _ _ _ us hl=>match us,hl with | [_],_=>rfl
  obtain ⟨fa_are_unlike,fd_are_unlike,d_are_unlike⟩:=e_are_unlike
  have DN:=PySem.W.mg_of X G d_are_unlike.a
  have b_are_unlike:=d_are_unlike.F.binds (ps:=["names"]) fun _ _ _ _ _ _ us hl=>match us,hl with | [_],_=>rfl
  obtain ⟨fa_check_boxes,fd_check_boxes,d_check_boxes⟩:=e_check_boxes
  have Cu:=PySem.W.mg_of X G d_check_boxes.a
  have b_check_boxes:=d_check_boxes.F.binds (ps:=["boxes"]) fun _ _ _ _ _ _ us hl=>match us,hl with | [_],_=>rfl
  obtain ⟨fa_check_hands,fd_check_hands,d_check_hands⟩:=e_check_hands
  have Ct:=PySem.W.mg_of X G d_check_hands.a
  have b_check_hands:=d_check_hands.F.binds (ps:=["hands"]) fun _ _ _ _ _ _ us hl=>match us,hl with | [_],_=>rfl
  obtain ⟨fa_is_expression,fd_is_expression,d_is_expression⟩:=e_is_expression
  have A6:=PySem.W.mg_of X G d_is_expression.a
  have b_is_expression:=d_is_expression.F.binds (ps:=["thing", "deep"]) fun _ _ _ _ _ _ us hl=>match us,hl with | [_,_],_=>rfl
  obtain ⟨fa_is_part,fd_is_part,d_is_part⟩:=e_is_part
  have DA:=PySem.W.mg_of X G d_is_part.a
  have b_is_part:=d_is_part.F.binds (ps:=["part", "thing", "length"]) fun _ _ _ _ _ _ us hl=>match us,hl with | [_,_,_],_=>rfl
  obtain ⟨fa_check_form,fd_check_form,d_check_form⟩:=e_check_form
  have A9:=PySem.W.mg_of X G d_check_form.a
  have b_check_form:=d_check_form.F.binds (ps:=["row", "length"]) fun _ _ _ _ _ _ us hl=>match us,hl with | [_,_],_=>rfl
  obtain ⟨fa_check_ending,fd_check_ending,d_check_ending⟩:=e_check_ending
  have By:=PySem.W.mg_of X G d_check_ending.a
  have b_check_ending:=d_check_ending.F.binds (ps:=["word", "is_writer"]) fun _ _ _ _ _ _ us hl=>match us,hl with | [_,_],_=>rfl
  obtain ⟨fa_variables_in,fd_variables_in,d_variables_in⟩:=e_variables_in
  have A1:=PySem.W.mg_of X G d_variables_in.a
  have b_variables_in:=d_variables_in.F.binds (ps:=["expression"]) fun _ _ _ _ _ _ us hl=>match us,hl with | [_],_=>rfl
  obtain ⟨fa_variables_of,fd_variables_of,d_variables_of⟩:=e_variables_of
  have Az:=PySem.W.mg_of X G d_variables_of.a
  have b_variables_of:=d_variables_of.F.binds (ps:=["row"]) fun _ _ _ _ _ _ us hl=>match us,hl with | [_],_=>rfl
  obtain ⟨fa_check_variables,fd_check_variables,d_check_variables⟩:=e_check_variables
  have Bn:=PySem.W.mg_of X G d_check_variables.a
  have b_check_variables:=d_check_variables.F.binds (ps:=["row", "is_writer"]) fun _ _ _ _ _ _ us hl=>match us,hl with | [_,_],_=>rfl
  obtain ⟨fa_check_rows,fd_check_rows,d_check_rows⟩:=e_check_rows
  have D5:=PySem.W.mg_of X G d_check_rows.a
  have b_check_rows:=d_check_rows.F.binds (ps:=["hand", "is_writer", "writers"]) fun _ _ _ _ _ _ us hl=>match us,hl with | [_,_,_],_=>rfl
  obtain ⟨fa_check_making,fd_check_making,d_check_making⟩:=e_check_making
  have CV:=PySem.W.mg_of X G d_check_making.a
  have b_check_making:=d_check_making.F.binds (ps:=["making"]) fun _ _ _ _ _ _ us hl=>match us,hl with | [_],_=>rfl
  obtain ⟨fa_Lis_making,fd_Lis_making,d_Lis_making⟩:=e_Lis_making
  have D6:=PySem.W.mg_of X G d_Lis_making.a
  have b_Lis_making:=d_Lis_making.F.binds (ps:=["_law_thing"]) fun _ _ _ _ _ _ us hl=>match us,hl with | [_],_=>rfl
  obtain ⟨fa_Ldue,fd_Ldue,d_Ldue⟩:=e_Ldue
  have Kc:=PySem.W.mg_of X G d_Ldue.a
  have b_Ldue:=d_Ldue.F.binds (ps:=["_law_making_here"]) fun _ _ _ _ _ _ us hl=>match us,hl with | [_],_=>rfl
  obtain ⟨fa_with_thing,fd_with_thing,d_with_thing⟩:=e_with_thing
  have D4:=PySem.W.mg_of X G d_with_thing.a
  have b_with_thing:=d_with_thing.F.binds (ps:=["things", "place", "thing"]) fun _ _ _ _ _ _ us hl=>match us,hl with | [_,_,_],_=>rfl
  obtain ⟨fa_weaker_ones,fd_weaker_ones,d_weaker_ones⟩:=e_weaker_ones
  have Db:=PySem.W.mg_of X G d_weaker_ones.a
  have b_weaker_ones:=d_weaker_ones.F.binds (ps:=["making"]) fun _ _ _ _ _ _ us hl=>match us,hl with | [_],_=>rfl
  obtain ⟨fa_pulled_up,fd_pulled_up,d_pulled_up⟩:=e_pulled_up
  have Ea:=PySem.W.mg_of X G d_pulled_up.a
  have b_pulled_up:=d_pulled_up.F.binds (ps:=["row", "at"]) fun _ _ _ _ _ _ us hl=>match us,hl with | [_,_],_=>rfl
  obtain ⟨fa_with_rows,fd_with_rows,d_with_rows⟩:=e_with_rows
  have EZ:=PySem.W.mg_of X G d_with_rows.a
  have b_with_rows:=d_with_rows.F.binds (ps:=["making", "number", "rows"]) fun _ _ _ _ _ _ us hl=>match us,hl with | [_,_,_],_=>rfl
  obtain ⟨fa_ones_with_less,fd_ones_with_less,d_ones_with_less⟩:=e_ones_with_less
  have Cc:=PySem.W.mg_of X G d_ones_with_less.a
  have b_ones_with_less:=d_ones_with_less.F.binds (ps:=["making"]) fun _ _ _ _ _ _ us hl=>match us,hl with | [_],_=>rfl
  obtain ⟨fa_exchanged_ones,fd_exchanged_ones,d_exchanged_ones⟩:=e_exchanged_ones
  have Cd:=PySem.W.mg_of X G d_exchanged_ones.a
  have b_exchanged_ones:=d_exchanged_ones.F.binds (ps:=["making"]) fun _ _ _ _ _ _ us hl=>match us,hl with | [_],_=>rfl
  obtain ⟨fa_is_let_by,fd_is_let_by,d_is_let_by⟩:=e_is_let_by
  have Eb:=PySem.W.mg_of X G d_is_let_by.a
  have b_is_let_by:=d_is_let_by.F.binds (ps:=["making"]) fun _ _ _ _ _ _ us hl=>match us,hl with | [_],_=>rfl
  obtain ⟨fa_turned,fd_turned,d_turned⟩:=e_turned
  have FV:=PySem.W.mg_of X G d_turned.a
  have b_turned:=d_turned.F.binds (ps:=["making"]) fun _ _ _ _ _ _ us hl=>match us,hl with | [_],_=>rfl
  obtain ⟨fa_law,fd_law,d_law⟩:=e_law
  have Ji:=PySem.W.mg_of X G d_law.a
  have b_law:=d_law.F.binds (ps:=["_law_script"]) fun _ _ _ _ _ _ us hl=>match us,hl with | [_],_=>rfl
  have e:=hfa.symm.trans Ji
  cases e
  refine ⟨fd_law,fun s v=>?_,fun base _ _=>?_⟩
  . obtain ⟨oc,od,kV,doc,pm,an,cdv,ct,osl,rfl,lk,hcd⟩:=d_law.F.ex
    exact .of_eq rfl
  have F_Lcell_at:Fn l.prog w K mg base "_law_cell_at" ["_law_script", "_law_k"] 1 ES:=Ap (k:=0) .drop d_Lcell_at.F sc_Lcell_at DZ b_Lcell_at (MJ y_len)
  have F_Lwell:Fn l.prog w K mg base "_law_well" ["_law_cell"] 1 Gn:=Ap (k:=0) .all d_Lwell.F sc_Lwell Fp b_Lwell (Q9 y_max)
  have F_Ldraw:Fn l.prog w K mg base "_law_draw" ["_law_well_here", "_law_base"] 1 BH:=Ap (k:=0) .drop d_Ldraw.F sc_Ldraw Ec b_Ldraw RD
  have F_Lexpr:∀ n:Nat,Fn l.prog w K mg base "_law_expr" ["_law_well_here", "_law_names", "_law_deep"] (n + 2) (DS n):=fun n=>by
    induction n with
    | zero=>exact Ii d_Lexpr.F Gf b_Lexpr
    | succ n ih=>exact (Ap (k:=n + 2) .drop d_Lexpr.F sc_Lexpr Gf b_Lexpr (RC F_Ldraw (by omega) ih (Nat.le_refl _) y_len y_min)).mono (by omega)
  have F_Lrow:Fn l.prog w K mg base "_law_row" ["_law_well_here", "_law_own", "_law_boxes", "_law_names", "_law_many", "_law_is_writer"] 9 Il:=Ap (k:=8) .drop d_Lrow.F sc_Lrow Kb b_Lrow (Tj F_Ldraw (by decide) (F_Lexpr 6) (by decide) y_min y_int y_len)
  have F_Lmaking:Fn l.prog w K mg base "_law_making" ["_law_well_here"] 10 Et:=Ap (k:=9) .drop d_Lmaking.F sc_Lmaking Fs b_Lmaking (N1 F_Ldraw (by decide) F_Lrow (by decide) y_range y_len y_enumerate y_tuple)
  have F_Lcut:Fn l.prog w K mg base "_law_cut" ["_law_making_here", "_law_one"] 1 Io:=Ap (k:=0) .drop d_Lcut.F sc_Lcut Kd b_Lcut (Tl y_enumerate y_int y_len y_min y_tuple)
  have F_Lweaker:Fn l.prog w K mg base "_law_weaker" ["_law_making_here"] 1 HJ:=Ap (k:=0) .frz d_Lweaker.F sc_Lweaker Fq b_Lweaker (N0 y_enumerate y_list y_tuple)
  have F_Lwith:Fn l.prog w K mg base "_law_with" ["_law_making_here", "_law_k", "_law_rows"] 1 Fu:=Ap (k:=0) .drop d_Lwith.F sc_Lwith Hk b_Lwith (Q8 y_list y_tuple)
  have F_Lless:Fn l.prog w K mg base "_law_less" ["_law_making_here", "_law_k"] 2 Hs:=Ap (k:=1) .frz d_Lless.F sc_Lless Hl b_Lless (RB F_Lwith (by decide) y_range y_len y_enumerate)
  have F_Lother:Fn l.prog w K mg base "_law_other" ["_law_making_here", "_law_k"] 2 Go:=Ap (k:=1) .frz d_Lother.F sc_Lother Ge b_Lother (Pd F_Lwith (by decide) y_range y_len y_list)
  have F_is_tuple:Fn l.prog w K mg base "is_tuple" ["thing", "least", "most"] 1 Bq:=Ap (k:=0) .drop d_is_tuple.F sc_is_tuple EQ b_is_tuple (MI y_tuple y_isinstance y_len)
  have F_need:Fn l.prog w K mg base "need" ["holds", "words"] 1 Bd:=Ap (k:=0) .drop d_need.F sc_need Ka b_need Ti
  have F_is_whole:Fn l.prog w K mg base "is_whole" ["thing", "least", "most"] 1 C7:=Ap (k:=0) .drop d_is_whole.F sc_is_whole EO b_is_whole (MH y_int y_isinstance y_bool)
  have F_check_worths:Fn l.prog w K mg base "check_worths" ["kind", "size", "begin"] 2 Bz:=Ap (k:=1) .drop d_check_worths.F sc_check_worths CU b_check_worths (IN F_need (by decide) F_is_whole (by decide) g_KINDS g_LEAST_SIZE g_MOST_SIZE)
  have F_is_name:Fn l.prog w K mg base "is_name" ["thing"] 1 DD:=Ap (k:=0) .drop d_is_name.F sc_is_name Es b_is_name (Nz y_str y_isinstance y_len y_all g_LETTERS)
  have F_are_unlike:Fn l.prog w K mg base "are_unlike" ["names"] 1 EA:=Ap (k:=0) .drop d_are_unlike.F sc_are_unlike DN b_are_unlike (KM y_len y_set)
  have F_check_boxes:Fn l.prog w K mg base "check_boxes" ["boxes"] 3 Dg:=Ap (k:=2) .drop d_check_boxes.F sc_check_boxes Cu b_check_boxes (JN F_is_tuple (by decide) F_need (by decide) F_is_name (by decide) F_check_worths (by decide) F_are_unlike (by decide) g_MOST_BOXES)
  have F_check_hands:Fn l.prog w K mg base "check_hands" ["hands"] 2 De:=Ap (k:=1) .drop d_check_hands.F sc_check_hands Ct b_check_hands (JM F_is_tuple (by decide) F_need (by decide) F_is_name (by decide) F_is_whole (by decide) F_are_unlike (by decide) g_LEAST_HANDS g_MOST_HANDS g_MOST_WITHIN g_MOST_ROWS)
  have F_is_expression:∀ n:Nat,Fn l.prog w K mg base "is_expression" ["thing", "deep"] (n + 2) (C0 n):=fun n=>by
    induction n with
    | zero=>exact Ii d_is_expression.F A6 b_is_expression
    | succ n ih=>exact (Ap (k:=n + 2) .drop d_is_expression.F sc_is_expression A6 b_is_expression (Hf ih (Nat.le_refl _) F_is_whole (by omega) F_is_name (by omega) y_tuple y_isinstance y_len g_PAIR_WORDS g_GREATEST)).mono (by omega)
  have F_is_part:Fn l.prog w K mg base "is_part" ["part", "thing", "length"] 9 EF:=Ap (k:=8) .drop d_is_part.F sc_is_part DA b_is_part (Ny (F_is_expression 6) (by decide) F_is_whole (by decide) F_is_name (by decide) g_DEEPEST)
  have F_check_form:Fn l.prog w K mg base "check_form" ["row", "length"] 10 D9:=Ap (k:=9) .drop d_check_form.F sc_check_form A9 b_check_form (KL F_is_tuple (by decide) F_need (by decide) F_is_part (by decide) y_str y_isinstance y_len y_zip k_PARTS)
  have F_check_ending:Fn l.prog w K mg base "check_ending" ["word", "is_writer"] 2 B0:=Ap (k:=1) .drop d_check_ending.F sc_check_ending By b_check_ending (IQ F_need (by decide))
  have F_variables_in:∀ n:Nat,Fn l.prog w K mg base "variables_in" ["expression"] (n + 1) (BQ n):=fun n=>by
    induction n with
    | zero=>exact Ii d_variables_in.F A1 b_variables_in
    | succ n ih=>exact (Ap (k:=n + 1) .frz d_variables_in.F sc_variables_in A1 b_variables_in (IM ih (Nat.le_refl _))).mono (by omega)
  have F_variables_of:Fn l.prog w K mg base "variables_of" ["row"] 8 DQ:=Ap (k:=7) .frz d_variables_of.F sc_variables_of Az b_variables_of (IL (F_variables_in 6) (by decide) y_zip k_PARTS)
  have F_check_variables:Fn l.prog w K mg base "check_variables" ["row", "is_writer"] 9 CF:=Ap (k:=8) .drop d_check_variables.F sc_check_variables Bn b_check_variables (Ga F_variables_of (by decide) F_need (by decide) g_NO_VARIABLES)
  have F_check_rows:Fn l.prog w K mg base "check_rows" ["hand", "is_writer", "writers"] 11 D8:=Ap (k:=10) .drop d_check_rows.F sc_check_rows D5 b_check_rows (KK F_check_form (by decide) F_check_ending (by decide) F_check_variables (by decide) F_need (by decide) y_len)
  have F_check_making:Fn l.prog w K mg base "check_making" ["making"] 12 Be:=Ap (k:=11) .drop d_check_making.F sc_check_making CV b_check_making (IP F_is_tuple (by decide) F_need (by decide) F_check_worths (by decide) F_check_boxes (by decide) F_check_hands (by decide) F_check_rows (by decide) y_enumerate)
  have F_Lis_making:Fn l.prog w K mg base "_law_is_making" ["_law_thing"] 13 FB:=Ap (k:=12) .drop d_Lis_making.F sc_Lis_making D6 b_Lis_making (KN F_check_making (by decide))
  have F_Ldue:Fn l.prog w K mg base "_law_due" ["_law_making_here"] 14 Im:=Ap (k:=13) .drop d_Ldue.F sc_Ldue Kc b_Ldue (Tk F_Lweaker (by decide) F_Lless (by decide) F_Lother (by decide) F_Lis_making (by decide) y_range y_len)
  have F_with_thing:Fn l.prog w K mg base "with_thing" ["things", "place", "thing"] 1 A3:=Ap (k:=0) .drop d_with_thing.F sc_with_thing D4 b_with_thing KJ
  have F_weaker_ones:Fn l.prog w K mg base "weaker_ones" ["making"] 2 Dd:=Ap (k:=1) .frz d_weaker_ones.F sc_weaker_ones Db b_weaker_ones (JL F_with_thing (by decide) y_enumerate q_KINDS g_KINDS)
  have F_pulled_up:Fn l.prog w K mg base "pulled_up" ["row", "at"] 1 DC:=Ap (k:=0) .drop d_pulled_up.F sc_pulled_up Ea b_pulled_up LM
  have F_with_rows:Fn l.prog w K mg base "with_rows" ["making", "number", "rows"] 2 DB:=Ap (k:=1) .drop d_with_rows.F sc_with_rows EZ b_with_rows (LL F_with_thing (by decide))
  have F_ones_with_less:Fn l.prog w K mg base "ones_with_less" ["making"] 3 Ce:=Ap (k:=2) .frz d_ones_with_less.F sc_ones_with_less Cc b_ones_with_less (G6 F_pulled_up (by decide) F_with_rows (by decide) y_enumerate y_range y_len y_tuple)
  have F_exchanged_ones:Fn l.prog w K mg base "exchanged_ones" ["making"] 3 Cf:=Ap (k:=2) .frz d_exchanged_ones.F sc_exchanged_ones Cd b_exchanged_ones (G7 F_with_rows (by decide) y_enumerate y_range y_len)
  have F_is_let_by:Fn l.prog w K mg base "is_let_by" ["making"] 13 Eg:=Ap (k:=12) .drop d_is_let_by.F sc_is_let_by Eb b_is_let_by (LN F_check_making (by decide))
  have F_turned:Fn l.prog w K mg base "turned" ["making"] 14 DR:=Ap (k:=13) .all d_turned.F sc_turned FV b_turned (Pc F_weaker_ones (by decide) F_ones_with_less (by decide) F_exchanged_ones (by decide) F_is_let_by (by decide))
  exact TM (φ:=QP) (QO (k:=14) .drop d_law.F sc_law (VT F_Lcell_at (by decide) F_Lwell (by decide) F_Lmaking (by decide) F_Lcut (by decide) F_Ldue (by decide) F_turned (by decide) F_check_making (by decide) y_len y_max y_range y_list y_isinstance y_tuple)) hφ
end K61
namespace Mi
open PySem L2
section
variable {τ τ1 τ2:Sl} {μ μ1 μ2 μ3 μ4:Mh} {d x y z:D} {ds:List D} {ma mb mc me:Sl->M D} {tc tb:Sl->M Bool} {b:Bool} {m1 m2:Sl->M (Fl × Sl)} {g g':D->D->M D} {r:Fl × Sl}
theorem Dh {i:Nat} (h:τ[i]? = some (some d)):AC i τ μ=some (d,μ):=by unfold AC; rw [h]
theorem GL:mC d τ μ=some (d,μ):=rfl
theorem AX (h1:ma τ μ=some (x,μ1)) (h2:mb τ μ1=some (y,μ2)) (h3:g x y μ2=some (d,μ3)):mOp g ma mb τ μ=some (d,μ3):=by unfold mOp; rw [AQ h1,AQ h2,h3]
theorem QR {u:D->M D} (h1:ma τ μ=some (x,μ1)) (h3:u x μ1=some (d,μ3)):mUn u ma τ μ=some (d,μ3):=by unfold mUn; rw [AQ h1,h3]
theorem SY:AH τ μ=some ([],μ):=rfl
theorem AM {as:Sl->M (List D)} (h1:ma τ μ=some (x,μ1)) (h2:as τ μ1=some (ds,μ2)):AB ma as τ μ=some (x :: ds,μ2):=by unfold AB; rw [AQ h1,AQ h2]; rfl
theorem AL {f:List D->M D} {as:Sl->M (List D)} (h1:as τ μ=some (ds,μ1)) (h2:f ds μ1=some (d,μ2)):AE f as τ μ=some (d,μ2):=by unfold AE; rw [AQ h1,h2]
theorem Cg {f:D->List D->M D} {as:Sl->M (List D)} {u:Unit} (h1:ma τ μ=some (x,μ1)) (h0:C5 x μ1=some (u,μ2)) (h2:as τ μ2=some (ds,μ3)) (h3:f x ds μ3=some (d,μ4)):A2 f ma as τ μ=some (d,μ4):=by unfold A2; rw [AQ h1,AQ h0,AQ h2,h3]
theorem Aa (h:ma τ μ=some (.bl b,μ1)):AY ma τ μ=some (b,μ1):=by unfold AY; rw [AQ h]; rfl
theorem Ut (h:tc τ μ=some (b,μ1)):Gg tc τ μ=some (!b,μ1):=by unfold Gg; rw [AQ h]; rfl
theorem CG (h1:tc τ μ=some (true,μ1)) (h2:tb τ μ1=some (b,μ2)):FX tc tb τ μ=some (b,μ2):=by unfold FX; rw [AQ h1,if_pos rfl,h2]
theorem Dj (h1:tc τ μ=some (false,μ1)):FX tc tb τ μ=some (false,μ1):=by unfold FX; rw [AQ h1]; rfl
theorem Us (h1:tc τ μ=some (true,μ1)):mOr tc tb τ μ=some (true,μ1):=by unfold mOr; rw [AQ h1]; rfl
theorem Mf (h1:tc τ μ=some (false,μ1)) (h2:tb τ μ1=some (b,μ2)):mOr tc tb τ μ=some (b,μ2):=by unfold mOr; rw [AQ h1,if_neg (by decide),h2]
theorem QU (h1:ma τ μ=some (.bl true,μ1)) (h2:mb τ μ1=some (d,μ2)):FG ma mb τ μ=some (d,μ2):=by
  unfold FG; rw [AQ h1,AQ (show asB (.bl true) μ1=some (true,μ1) from rfl),if_pos rfl,h2]
theorem SV (h1:ma τ μ=some (.bl true,μ1)):MU ma mb τ μ=some (.bl true,μ1):=by
  unfold MU; rw [AQ h1,AQ (show asB (.bl true) μ1=some (true,μ1) from rfl)]; rfl
theorem SW (h1:ma τ μ=some (.bl false,μ1)) (h2:mb τ μ1=some (d,μ2)):MU ma mb τ μ=some (d,μ2):=by
  unfold MU; rw [AQ h1,AQ (show asB (.bl false) μ1=some (false,μ1) from rfl),if_neg (by decide),h2]
theorem SX (h:ma τ μ=some (.bl b,μ1)):Lb ma τ μ=some (.bl (!b),μ1):=by
  unfold Lb; rw [AQ h,AQ (show asB (.bl b) μ1=some (b,μ1) from rfl)]; rfl
theorem Kr (h:tc τ μ=some (true,μ1)):Gg tc τ μ=some (false,μ1):=Ut h
theorem QS (h:ma τ μ=some (.bl false,μ1)):Lb ma τ μ=some (.bl true,μ1):=SX h
theorem OY (h1:ma τ μ=some (x,μ1)) (h2:mb τ μ1=some (y,μ2)) (h3:g x y μ2=some (.bl true,μ3)) (h4:mc τ μ3=some (z,μ4)) (h5:g' y z μ4=some (d,μ4)):GG g g' ma mb mc τ μ=some (d,μ4):=by
  unfold GG; rw [AQ h1,AQ h2,AQ h3,AQ (show asB (.bl true) μ3=some (true,μ3) from rfl),if_pos rfl,AQ h4,h5]
theorem OW:Ay τ μ=some (none,μ):=rfl
theorem FD {i:Int} (h:ma τ μ=some (.int i,μ1)):BA ma τ μ=some (some i,μ1):=by unfold BA; rw [AQ h]; rfl
theorem WG {l h:Sl->M (Option Int)} {a b:Option Int} (h1:ma τ μ=some (x,μ1)) (h2:l τ μ1=some (a,μ2)) (h3:h τ μ2=some (b,μ3)) (h4:Pf a b x μ3=some (d,μ4)):mSl ma l h τ μ=some (d,μ4):=by unfold mSl; rw [AQ h1,AQ h2,AQ h3,h4]
theorem Uu:BI τ μ=some ((.next,τ),μ):=rfl
theorem AR (h1:m1 τ μ=some ((.next,τ1),μ1)) (h2:m2 τ1 μ1=some (r,μ2)):AU m1 m2 τ μ=some (r,μ2):=by unfold AU; rw [AQ h1]; exact h2
theorem FC (h1:m1 τ μ=some ((.rt d,τ1),μ1)):AU m1 m2 τ μ=some ((.rt d,τ1),μ1):=by unfold AU; rw [AQ h1]; rfl
theorem Bt (h1:ma τ μ=some (d,μ1)):AZ ma τ μ=some ((.next,τ),μ1):=by unfold AZ; rw [AQ h1]; rfl
theorem BB (h1:ma τ μ=some (d,μ1)):A5 ma τ μ=some ((.rt d,τ),μ1):=by unfold A5; rw [AQ h1]; rfl
theorem Cn (h1:tc τ μ=some (true,μ1)) (h2:m1 τ μ1=some (r,μ2)):sIf tc m1 m2 τ μ=some (r,μ2):=by unfold sIf; rw [AQ h1,if_pos rfl,h2]
theorem BC (h1:tc τ μ=some (false,μ1)) (h2:m2 τ μ1=some (r,μ2)):sIf tc m1 m2 τ μ=some (r,μ2):=by unfold sIf; rw [AQ h1,if_neg (by decide),h2]
theorem Ah {bf:D->Sl->M Sl} (h1:ma τ μ=some (d,μ1)) (h2:bf d τ μ1=some (τ1,μ2)):An ma bf τ μ=some ((.next,τ1),μ2):=by unfold An; rw [AQ h1,AQ h2]; rfl
theorem SZ {i:Nat} (h:τ.set i (some d)=τ1):AN i d τ μ=some (τ1,μ):=by rw [← h]; rfl
theorem Ip {u:Unit} (h1:ma τ μ=some (x,μ1)) (h2:mb τ μ1=some (y,μ2)) (h3:KF x y d μ2=some (u,μ3)):Hh ma mb d τ μ=some (τ,μ3):=by unfold Hh; rw [AQ h1,AQ h2,AQ h3]; rfl
theorem Bf {src:Sl->M (List D)} {bf:D->Sl->M Sl} (h1:src τ μ=some (ds,μ1)) (h2:Bh bf m1 ds τ μ1=some (r,μ2)):Cs src bf m1 τ μ=some (r,μ2):=by unfold Cs; rw [AQ h1,h2]
theorem OJ {i j:Int} (h:i < j):GB (.int i) (.int j) μ=some (.bl true,μ):=by show some (D.bl (decide (i < j)),μ)=_; rw [decide_eq_true h]
theorem QE {i j:Int} (h:j <= i):GB (.int i) (.int j) μ=some (.bl false,μ):=by show some (D.bl (decide (i < j)),μ)=_; rw [decide_eq_false (by omega)]
theorem Wp {i j:Int} (h:i <= j):LP (.int i) (.int j) μ=some (.bl true,μ):=by show some (D.bl (decide (i <= j)),μ)=_; rw [decide_eq_true h]
theorem QG {i j:Int} (h:j < i):KO (.int i) (.int j) μ=some (.bl true,μ):=by show some (D.bl (decide (j < i)),μ)=_; rw [decide_eq_true h]
theorem Lf {i j:Int} (h:i <= j):KO (.int i) (.int j) μ=some (.bl false,μ):=by show some (D.bl (decide (j < i)),μ)=_; rw [decide_eq_false (by omega)]
theorem V2 {i j:Int} (h:0 < j):HR (.int i) (.int j) μ=some (.int (i % j),μ):=by show (if 0 < j then some (D.int (i % j),μ) else none)=_; rw [if_pos h]
theorem Ud {i j:Int} (h:0 < j) (h2:j < 1073741824):G8 (.int i) (.int j) μ=some (.int (i / j),μ):=by show (if 0 < j /\ j < 1073741824 then some (D.int (i / j),μ) else none)=_; rw [if_pos ⟨h,h2⟩]
theorem S5 {i j:Int} (h:(-(2 ^ 64) < i /\ i < 2 ^ 64) ∨ (-(2 ^ 64) < j /\ j < 2 ^ 64)):Er (.int i) (.int j) μ=some (.int (i * j),μ):=by show (if (-(2 ^ 64) < i /\ i < 2 ^ 64) ∨ (-(2 ^ 64) < j /\ j < 2 ^ 64) then some (D.int (i * j),μ) else none)=_; rw [if_pos h]
theorem V7 {i j:Int}:DM (.int i) (.int j) μ=some (.int (i + j),μ):=rfl
theorem NL {i j:Int}:Br (.int i) (.int j) μ=some (.int (i - j),μ):=rfl
theorem OM {i:Int}:CW [.int i,.ty "int"] μ=some (.bl true,μ):=by
  show (Ee "int" "int").map (fun b=>(D.bl b,μ))=_; rw [show Ee "int" "int" = some true from by decide]; rfl
theorem ON {i:Int}:CW [.int i,.ty "bool"] μ=some (.bl false,μ):=by
  show (Ee "int" "bool").map (fun b=>(D.bl b,μ))=_; rw [show Ee "int" "bool" = some false from by decide]; rfl
theorem OL {x:Str}:CW [.str x,.ty "str"] μ=some (.bl true,μ):=by
  show (Ee "str" "str").map (fun b=>(D.bl b,μ))=_; rw [show Ee "str" "str" = some true from by decide]; rfl
theorem Jl {ds:List D}:CW [.tup ds,.ty "tuple"] μ=some (.bl true,μ):=by
  show (Ee "tuple" "tuple").map (fun b=>(D.bl b,μ))=_; rw [show Ee "tuple" "tuple" = some true from by decide]; rfl
theorem Kh {n:Nat} {ds:List D} {i:Int} (h:μ[n]? = some (.lst ds)) (h2:atI ds i=some d):AS (.ref n) (.int i) μ=some (d,μ):=by
  show bnd (Ba (.ref n)) (fun ds=>ixD ds i) μ=_
  rw [AQ (show Ba (.ref n) μ=some (ds,μ) from by show (match μ[n]? with | some (.lst ds)=>some (ds,μ) | _=>none)=_; rw [h])]
  unfold ixD; rw [h2]; rfl
theorem FH {ds:List D} {i:Int} (h2:atI ds i=some d):AS (.tup ds) (.int i) μ=some (d,μ):=by
  show bnd (Ba (.tup ds)) (fun ds=>ixD ds i) μ=_
  rw [AQ (show Ba (.tup ds) μ=some (ds,μ) from rfl)]
  unfold ixD; rw [h2]; rfl
theorem FI {ds:List D} {i:Int} (h2:atI ds i=some d):AS (.lst ds) (.int i) μ=some (d,μ):=by
  show bnd (Ba (.lst ds)) (fun ds=>ixD ds i) μ=_
  rw [AQ (show Ba (.lst ds) μ=some (ds,μ) from rfl)]
  unfold ixD; rw [h2]; rfl
theorem Le {n j:Nat} {k:Int} {ds:List D} (h:μ[n]? = some (.lst ds)) (h2:ixN ds.length k=some j):KF (.ref n) (.int k) d μ=some ((),μ.set n (.lst (ds.set j d))):=by
  show (match μ[n]? with | some (.lst ds)=>(ixN ds.length k).map fun j=>((),μ.set n (.lst (ds.set j d))) | _=>none)=_
  rw [h]; show (ixN ds.length k).map _=_; rw [h2]; rfl
end
end Mi
local macro_rules | `(tactic| wtm_at "own qleaf")=>`(tactic| first | rfl | assumption)
local macro_rules | `(tactic| wtm_at "own qev")=>`(tactic| first
  | (with_reducible apply Mi.Uu) | (with_reducible apply Mi.SY) | (with_reducible apply Mi.GL) | (with_reducible apply Mi.OW) | (with_reducible apply Mi.ev_retN)
  | ((with_reducible apply Mi.Dh); first | rfl | assumption)
  | ((with_reducible apply Mi.FC); wtm_at "own qev")
  | ((with_reducible apply Mi.AR); (wtm_at "own qev"); (wtm_at "own qev"))
  | ((with_reducible apply Mi.Ah); (wtm_at "own qev"); (wtm_at "own qev"))
  | ((with_reducible apply Mi.SZ); rfl)
  | ((with_reducible apply Mi.Ip); (wtm_at "own qev"); (wtm_at "own qev"); (wtm_at "own qev"))
  | ((with_reducible apply Mi.Bt); wtm_at "own qev")
  | ((with_reducible apply Mi.BB); wtm_at "own qev")
  | ((with_reducible apply Mi.Cn); (wtm_at "own qev"); (wtm_at "own qev"))
  | ((with_reducible apply Mi.BC); (wtm_at "own qev"); (wtm_at "own qev"))
  | ((with_reducible apply Mi.AX); (wtm_at "own qev"); (wtm_at "own qev"); (wtm_at "own qev"))
  | ((with_reducible apply Mi.QR); (wtm_at "own qev"); (wtm_at "own qev"))
  | ((with_reducible apply Mi.AL); (wtm_at "own qev"); (wtm_at "own qev"))
  | ((with_reducible apply Mi.AM); (wtm_at "own qev"); (wtm_at "own qev"))
  | ((with_reducible apply Mi.Cg); (wtm_at "own qev"); (wtm_at "own qev"); (wtm_at "own qev"); (wtm_at "own qev"))
  | ((with_reducible apply Mi.Aa); wtm_at "own qev")
  | ((with_reducible apply Mi.ev_notT); wtm_at "own qev")
  | ((with_reducible apply Mi.Kr); wtm_at "own qev")
  | ((with_reducible apply Mi.CG); (wtm_at "own qev"); (wtm_at "own qev"))
  | ((with_reducible apply Mi.Dj); wtm_at "own qev")
  | ((with_reducible apply Mi.Mf); (wtm_at "own qev"); (wtm_at "own qev"))
  | ((with_reducible apply Mi.Us); wtm_at "own qev")
  | ((with_reducible apply Mi.QU); (wtm_at "own qev"); (wtm_at "own qev"))
  | ((with_reducible apply Mi.ev_andVF); wtm_at "own qev")
  | ((with_reducible apply Mi.SW); (wtm_at "own qev"); (wtm_at "own qev"))
  | ((with_reducible apply Mi.SV); wtm_at "own qev")
  | ((with_reducible apply Mi.QS); wtm_at "own qev")
  | ((with_reducible apply Mi.ev_notVF); wtm_at "own qev")
  | ((with_reducible apply Mi.OY); (wtm_at "own qev"); (wtm_at "own qev"); (wtm_at "own qev"); (wtm_at "own qev"); (wtm_at "own qev"))
  | ((with_reducible apply Mi.ev_chainF); (wtm_at "own qev"); (wtm_at "own qev"); (wtm_at "own qev"))
  | ((with_reducible apply Mi.FD); wtm_at "own qev")
  | ((with_reducible apply Mi.WG); (wtm_at "own qev"); (wtm_at "own qev"); (wtm_at "own qev"); (wtm_at "own qev"))
  | wtm_at "own qleaf")
local macro_rules | `(tactic| wtm_at "own qnums")=>`(tactic| first | assumption | decide | omega)
local macro_rules | `(tactic| wtm_at "own qleaf")=>`(tactic| first
  | ((with_reducible apply Mi.Wp); wtm_at "own qnums") | ((with_reducible apply Mi.l_leF); wtm_at "own qnums") | ((with_reducible apply Mi.OJ); wtm_at "own qnums") | ((with_reducible apply Mi.QE); wtm_at "own qnums") | ((with_reducible apply Mi.QG); wtm_at "own qnums") | ((with_reducible apply Mi.Lf); wtm_at "own qnums")
  | (with_reducible apply Mi.OM) | (with_reducible apply Mi.ON) | (with_reducible apply Mi.OL) | (with_reducible apply Mi.Jl) | (with_reducible apply Mi.V7) | (with_reducible apply Mi.NL) | ((with_reducible apply Mi.V2); wtm_at "own qnums") | ((with_reducible apply Mi.Ud); (wtm_at "own qnums"); (wtm_at "own qnums")) | ((with_reducible apply Mi.S5); first | (left; omega) | (right; omega))
  | ((with_reducible apply Mi.FH); rfl) | ((with_reducible apply Mi.FI); rfl) | ((with_reducible apply Mi.Kh); (first | assumption | rfl); (rfl)) | ((with_reducible apply Mi.Le); (first | assumption | rfl); (rfl)))
namespace K1
open PySem L2 Mi
section
variable {μ μ1 μ2 μ':Mh} {n:Nat} {b:Int} {d:D} {x y:Str}
theorem NM {i j:Int}:BM (.int i) (.int j) μ=some (.bl (i == j),μ):=rfl
theorem MZ {i j:Int} (h:i=j):BM (.int i) (.int j) μ=some (.bl true,μ):=by rw [NM,h,beq_self_eq_true]
theorem Ma {i j:Int} (h:i ≠ j):BM (.int i) (.int j) μ=some (.bl false,μ):=by rw [NM,beq_eq_false_iff_ne.mpr h]
theorem S0 {i j:Int}:Bl (.int i) (.int j) μ=some (.bl (!(i == j)),μ):=rfl
theorem QD {i j:Int} (h:i ≠ j):Bl (.int i) (.int j) μ=some (.bl true,μ):=by rw [S0,beq_eq_false_iff_ne.mpr h]; rfl
theorem MY {i j:Int} (h:i=j):Bl (.int i) (.int j) μ=some (.bl false,μ):=by rw [S0,h,beq_self_eq_true]; rfl
theorem Ez (h:PyData.strOk x=true):SeqAt.shaped (.str x)=true:=by
  show (PyData.strOk x && decide ((PyData.str x).depth <= 64))=true
  rw [h]; rfl
theorem QH (h1:PyData.strOk x=true) (h2:PyData.strOk y=true):BM (.str x) (.str y) μ=some (.bl (x == y),μ):=by
  show (if SeqAt.shaped (.str x)=true /\ SeqAt.shaped (.str y)=true then some (D.bl (x == y),μ) else none)=_
  rw [if_pos ⟨Ez h1,Ez h2⟩]
theorem Sz (h1:PyData.strOk x=true) (h2:PyData.strOk y=true):Bl (.str x) (.str y) μ=some (.bl (!(x == y)),μ):=by
  show (if SeqAt.shaped (.str x)=true /\ SeqAt.shaped (.str y)=true then some (D.bl (!(x == y)),μ) else none)=_
  rw [if_pos ⟨Ez h1,Ez h2⟩]
theorem Ue (h1:PyData.strOk x=true) (h2:PyData.strOk y=true) (h:x=y):BM (.str x) (.str y) μ=some (.bl true,μ):=by rw [QH h1 h2,h,beq_self_eq_true]
theorem Uf (h1:PyData.strOk x=true) (h2:PyData.strOk y=true) (h:x ≠ y):BM (.str x) (.str y) μ=some (.bl false,μ):=by rw [QH h1 h2,beq_eq_false_iff_ne.mpr h]
theorem QB (h1:PyData.strOk x=true) (h2:PyData.strOk y=true) (h:x ≠ y):Bl (.str x) (.str y) μ=some (.bl true,μ):=by rw [Sz h1 h2,beq_eq_false_iff_ne.mpr h]; rfl
theorem QC (h1:PyData.strOk x=true) (h2:PyData.strOk y=true) (h:x=y):Bl (.str x) (.str y) μ=some (.bl false,μ):=by rw [Sz h1 h2,h,beq_self_eq_true]; rfl
theorem Jt:∀ xs:List Str,Fd (xs.map D.str)=some (xs.map V.str)
  | []=>rfl
  | x :: r=>by show (Ha (.str x)).bind _=_; rw [Jt r]; rfl
theorem Ll:∀ xs:List Str,inV (.str x) (xs.map V.str)=decide (x ∈ xs)
  | []=>rfl
  | y :: r=>by
    have h:=Ll r
    unfold inV at h ⊢
    rw [List.map_cons,List.any_cons,h]
    show ((y == x) || decide (x ∈ r))=_
    by_cases e:x=y
    . subst e; simp
    . have:(y == x)=false:=beq_eq_false_iff_ne.mpr fun z=>e z.symm
      rw [this,Bool.false_or]; simp [e]
theorem Ho {neg:Bool} {ds:List D} {c:D} {xs:List Str} (h:Ba c μ=some (xs.map D.str,μ)):HY neg (.str x) c μ=some (.bl (if neg then !decide (x ∈ xs) else decide (x ∈ xs)),μ):=by
  unfold HY
  rw [AQ h]
  simp only [Jt]
  show (match Ha (.str x),some (xs.map V.str) with | some x,some xs=>some (D.bl (if neg then !inV x xs else inV x xs),μ) | _,_=>none)=_
  show some (D.bl (if neg then !inV (.str x) (xs.map V.str) else inV (.str x) (xs.map V.str)),μ)=_
  rw [Ll]
theorem FJ {xs:List Str} (h:x ∈ xs):Dv false (.str x) (sl xs) μ=some (.bl true,μ):=by
  show HY false (.str x) (.tup (xs.map D.str)) μ=_
  rw [Ho (ds:=[]) rfl,decide_eq_true h]; rfl
theorem Gj {xs:List Str} (h:x ∉ xs):Dv false (.str x) (sl xs) μ=some (.bl false,μ):=by
  show HY false (.str x) (.tup (xs.map D.str)) μ=_
  rw [Ho (ds:=[]) rfl,decide_eq_false h]; rfl
theorem UY {xs:List Str} (h:x ∉ xs):Dv true (.str x) (sl xs) μ=some (.bl true,μ):=by
  show HY true (.str x) (.tup (xs.map D.str)) μ=_
  rw [Ho (ds:=[]) rfl,decide_eq_false h]; rfl
theorem HC {ds:List D}:BO [.tup ds] μ=some (.int ds.length,μ):=rfl
theorem QF {ds:List D}:BO [.lst ds] μ=some (.int ds.length,μ):=rfl
end
end K1
local macro_rules | `(tactic| wtm_at "own qstrs")=>`(tactic| first | assumption | decide +kernel)
local macro_rules | `(tactic| wtm_at "own qleaf")=>`(tactic| first
  | (with_reducible apply K1.HC) | (with_reducible apply K1.QF)
  | ((with_reducible apply K1.MZ); wtm_at "own qnums") | ((with_reducible apply K1.Ma); wtm_at "own qnums") | ((with_reducible apply K1.QD); wtm_at "own qnums") | ((with_reducible apply K1.MY); wtm_at "own qnums")
  | ((with_reducible apply K1.Ue); (wtm_at "own qstrs"); (wtm_at "own qstrs"); (first | rfl | wtm_at "own qstrs")) | ((with_reducible apply K1.Uf); (wtm_at "own qstrs"); (wtm_at "own qstrs"); (wtm_at "own qstrs")) | ((with_reducible apply K1.QB); (wtm_at "own qstrs"); (wtm_at "own qstrs"); (wtm_at "own qstrs")) | ((with_reducible apply K1.QC); (wtm_at "own qstrs"); (wtm_at "own qstrs"); (first | rfl | wtm_at "own qstrs"))
  | ((with_reducible apply K1.FJ); wtm_at "own qstrs") | ((with_reducible apply K1.Gj); wtm_at "own qstrs") | ((with_reducible apply K1.UY); wtm_at "own qstrs"))
namespace K1
open PySem L2 Mi
section
variable {μ μ1 μ2 μ':Mh} {n:Nat} {b:Int} {d:D} {x y:Str}
theorem TH {w:Str}:Bd [.bl true,.str w] μ=some (.non,μ):=
  A0 (g:=[]) (τ2:=_) (by rw [List.append_nil]; rfl) rfl
theorem L7 {i a b:Int} (h1:a <= i) (h2:i <= b):C7 [.int i,.int a,.int b] μ=some (.bl true,μ):=
  Ae (g:=[]) (τ2:=_) (by
    rw [List.append_nil]; unfold EO; wtm_at "own qev") rfl (by unfold Cl; trivial)
theorem F6 {ds:List D} {a b:Int} (h1:a <= ds.length) (h2:(ds.length:Int) <= b):Bq [.tup ds,.int a,.int b] μ=some (.bl true,μ):=
  Ae (g:=[]) (τ2:=_) (by
    rw [List.append_nil]; unfold EQ; wtm_at "own qev") rfl (by unfold Cl; trivial)
end
end K1
local macro_rules | `(tactic| wtm_at "own qleaf")=>`(tactic| first
  | (with_reducible apply K1.TH) | ((with_reducible apply K1.L7); (wtm_at "own qnums"); (wtm_at "own qnums")) | ((with_reducible apply K1.F6); (first | wtm_at "own qnums" | simp); (first | wtm_at "own qnums" | simp)))
namespace K1
open PySem L2 Mi
section
variable {μ μ1 μ2 μ':Mh} {n:Nat} {b:Int} {d:D} {x y:Str}
theorem FO {k:Str} {s g:Int} (hk:k ∈ (["safe", "steady", "whole"]:List Str)) (h1:2 <= s) (h2:s <= 10) (h3:0 <= g) (h4:g <= s - 1):Bz [.str k,.int s,.int g] μ=some (.non,μ):=
  A0 (g:=[]) (τ2:=_) (by
    rw [List.append_nil]; unfold CU Dl ED Eh; wtm_at "own qev") rfl
end
end K1
namespace K1
open PySem L2 Mi
def WellAt (μ:Mh) (n:Nat):Prop:=∃ a m c:Int,μ[n]? = some (.lst [.int a,.int m,.int c]) /\ 0 <= a
def Upd (n:Nat) (μ μ':Mh):Prop:=∃ a m c:Int,0 <= a /\ μ'=μ.set n (.lst [.int a,.int m,.int c])
section
variable {μ μ1 μ2 μ':Mh} {n:Nat} {b:Int} {d:D} {x y:Str} {τ τ1 τ2:Sl}
theorem WellAt.lt (h:WellAt μ n):n < μ.length:=by
  obtain ⟨_,_,_,h,_⟩:=h
  exact (List.getElem?_eq_some_iff.mp h).1
theorem WellAt.refl (h:WellAt μ n):Upd n μ μ:=by
  have hl:=h.lt
  obtain ⟨a,m,c,h,ha⟩:=h
  refine ⟨a,m,c,ha,?_⟩
  apply List.ext_getElem?
  intro j
  rw [List.getElem?_set]
  split
  . rename_i e; subst e; exact h
  . rfl
theorem Upd.trans (h:Upd n μ μ1) (h2:Upd n μ1 μ2):Upd n μ μ2:=by
  obtain ⟨a,m,c,ha,rfl⟩:=h
  obtain ⟨a2,m2,c2,ha2,rfl⟩:=h2
  exact ⟨a2,m2,c2,ha2,by rw [List.set_set]⟩
theorem Upd.len (h:Upd n μ μ1):μ1.length=μ.length:=by
  obtain ⟨a,m,c,ha,rfl⟩:=h
  simp
theorem Upd.well (h:Upd n μ μ1) (hn:n < μ.length):WellAt μ1 n:=by
  obtain ⟨a,m,c,ha,rfl⟩:=h
  exact ⟨a,m,c,by rw [List.getElem?_set_self hn],ha⟩
theorem Upd.other (h:Upd n μ μ1) {j:Nat} (hj:j ≠ n):μ1[j]? = μ[j]?:=by
  obtain ⟨a,m,c,ha,rfl⟩:=h
  rw [List.getElem?_set_ne (fun e=>hj e.symm)]
theorem Upd.app {g:Mh} (h:Upd n (μ ++ g) μ1) (hn:n < μ.length):∃ μ2,Upd n μ μ2 /\ μ1=μ2 ++ g:=by
  obtain ⟨a,m,c,ha,rfl⟩:=h
  exact ⟨_,⟨a,m,c,ha,rfl⟩,by rw [List.set_append_left _ _ hn]⟩
theorem Qe {k:Nat} {a m c:Int}:ClL k [D.int a,.int m,.int c]:=by simp [ClL,Cl]
theorem Upd.tells {g:Mh} (h:Upd n μ μ1) (c:Cl μ.length d):Hc μ (μ1 ++ g) μ1 d d:=by
  refine ⟨⟨g,rfl⟩,by rw [h.len]; exact Nat.le_refl _,fun j o e=>?_,.inl ⟨rfl,by rw [h.len]; exact c⟩⟩
  by_cases hj:j=n
  . subst hj
    obtain ⟨a,m,c,ha,rfl⟩:=h
    right
    rw [List.getElem?_set] at e
    simp at e
    obtain ⟨_,rfl⟩:=e
    exact Qe
  . left; rw [← h.other hj]; exact e
theorem Fw {N ps:Nat} {mb:Sl->M (Fl × Sl)} {ds:List D} {g:Mh} (e:mb (BW N ds) μ=some ((.rt d,τ2),μ1 ++ g)) (hl:ds.length=ps) (u:Upd n μ μ1) (c:Cl μ.length d):Ax .drop N ps mb ds μ=some (d,μ1):=by
  have t:FK μ (μ1 ++ g) .drop=μ1:=by show (μ1 ++ g).take μ.length=μ1; rw [← u.len,List.take_left]
  have h:=Du (hw:=.drop) e hl (.inr ⟨d,rfl⟩) (by rw [t]; exact u.tells c)
  rw [t] at h
  exact h
theorem SD {ds:List D} {i:Int} (hn:n < μ.length) (h2:atI ds i=some d):AS (.ref n) (.int i) (μ.set n (.lst ds))=some (d,μ.set n (.lst ds)):=Kh (List.getElem?_set_self hn) h2
end
end K1
local macro_rules | `(tactic| wtm_at "own qleaf")=>`(tactic| first
  | ((with_reducible apply K1.SD); (assumption); (rfl)) | ((with_reducible apply K1.l_setSet); (assumption); (rfl)))
namespace K1
open PySem L2 Mi
section
variable {μ μ1 μ2 μ':Mh} {n:Nat} {b:Int} {d:D} {x y:Str} {τ τ1 τ2:Sl}
theorem CJ (w:WellAt μ n) (hb:0 < b) (hb2:b < 1073741824):∃ r μ',BH [.ref n,.int b] μ=some (.int r,μ') /\ 0 <= r /\ r < b /\ Upd n μ μ':=by
  have hn:=w.lt
  obtain ⟨a,m,c,h,ha⟩:=w
  have hne:b ≠ 0:=by omega
  by_cases h0:0 < a
  . have e:∃ τ2,Ec (BW 4 [.ref n,.int b]) μ=some ((.rt (.int (a % b)),τ2),μ.set n (.lst [.int (a / b),.int m,.int c])):=by
      refine' ⟨_,Eq.trans ?e ?f⟩
      case e=>unfold Ec; wtm_at "own qev"
      case f=>rfl
    obtain ⟨τ2,e⟩:=e
    have u:Upd n μ (μ.set n (.lst [.int (a / b),.int m,.int c])):=⟨_,_,_,Int.ediv_nonneg ha (by omega),rfl⟩
    exact ⟨_,_,Fw (g:=[]) (by rw [List.append_nil]; exact e) rfl u (by unfold Cl; trivial),Int.emod_nonneg _ hne,Int.emod_lt_of_pos _ hb,u⟩
  . have e:∃ q τ2,Ec (BW 4 [.ref n,.int b]) μ=some ((.rt (.int (q % b)),τ2),μ.set n (.lst [.int a,.int m,.int (c + 1)])):=by
      refine' ⟨_,_,Eq.trans ?e ?f⟩
      case e=>unfold Ec; wtm_at "own qev"
      case f=>rfl
    obtain ⟨q,τ2,e⟩:=e
    have u:Upd n μ (μ.set n (.lst [.int a,.int m,.int (c + 1)])):=⟨_,_,_,ha,rfl⟩
    exact ⟨_,_,Fw (g:=[]) (by rw [List.append_nil]; exact e) rfl u (by unfold Cl; trivial),Int.emod_nonneg _ hne,Int.emod_lt_of_pos _ hb,u⟩
end
end K1
namespace K1
open PySem L2 Mi
section
variable {μ μ1 μ2 μ':Mh} {n:Nat} {b:Int} {d:D} {x y:Str} {τ τ1 τ2:Sl}
theorem Di {N:Nat} {ix:List Nat} {src:Sl->M (List D)} {bf:D->Sl->M Sl} {mc:Sl->M Bool} {me:Sl->M D} {fin:List D->M D} {ds es:List D} (h1:src τ μ=some (ds,μ1)) (hl:ds.length <= sizeLine) (h2:CZ bf mc me (BX N ix τ) ds [] μ1=some (es,μ2)) (h3:fin es μ2=some (d,μ')):Bg N ix src bf mc me fin τ μ=some (d,μ'):=by
  unfold Bg
  rw [AQ h1,AQ (show lim ds.length μ1=some ((),μ1) from by unfold lim; rw [if_pos hl]),AQ h2,h3]
theorem Lr {me:Sl->M D} {τ0:Sl} {F:D->D}:∀ {xs ys:List D},(∀ z ∈ xs,me (τ0.set 0 (some z)) μ=some (F z,μ))->CZ (AN 0) Bo me τ0 xs ys μ=some (ys ++ xs.map F,μ)
  | [],ys,_=>by show some (ys,μ)=_; simp
  | z :: xs,ys,h=>by
    show bnd (AN 0 z τ0) _ μ=_
    rw [AQ (show AN 0 z τ0 μ=some (τ0.set 0 (some z),μ) from rfl),AQ (show Bo (τ0.set 0 (some z)) μ=some (true,μ) from rfl),if_pos rfl,AQ (h z (by simp))]
    rw [Lr fun w hw=>h w (by simp [hw])]
    simp
theorem BY {ds:List D} (h:ds.length <= sizeLine):A7 ds μ=some (.lst ds,μ):=by
  unfold A7
  rw [AQ (show lim ds.length μ=some ((),μ) from by unfold lim; rw [if_pos h])]; rfl
def FF (x:Str):Prop:=∀ c ∈ x.cps.toList,97 <= c /\ c < 123
structure GoodName (x:Str):Prop where
  lo:1 <= x.length
  hi:x.length <= 8
  ab:FF x
theorem OG:∀ c,c < 123->97 <= c->(!(Builtin.Str.occurrences "abcdefghijklmnopqrstuvwxyz" ⟨#[c]⟩ 0 (Str.length "abcdefghijklmnopqrstuvwxyz") 1).isEmpty)=true:=by decide +kernel
theorem GoodName.ok (h:GoodName x):PyData.strOk x=true:=by
  unfold PyData.strOk
  rw [Array.all_eq_true_iff_forall_mem]
  intro c hc
  have:=h.ab c (by simpa using hc)
  simp; omega
theorem L3:∀ k:Nat,Kv (List.replicate k (D.bl true))=some (List.replicate k true)
  | 0=>rfl
  | k + 1=>by
    rw [List.replicate_succ,List.replicate_succ]
    show (Kv (List.replicate k (D.bl true))).map (true :: ·)=_
    rw [L3 k]; rfl
theorem Nj (h:GoodName x):DD [.str x] μ=some (.bl true,μ):=
  Ae (g:=[]) (τ2:=_) (by
    rw [List.append_nil]
    have hs:x.length <= sizeLine:=Nat.le_trans h.hi (by decide)
    have h1:(1:Int) <= x.length:=by have:=h.lo; omega
    have h8:(x.length:Int) <= 8:=by have:=h.hi; omega
    have l:BO [.str x] μ=some (.int x.length,μ):=by show (if x.length <= sizeLine then some (D.int x.length,μ) else none)=_; rw [if_pos hs]
    have hl:(x.cps.toList.map fun c=>D.str ⟨#[c]⟩).length=x.length:=by simp [Str.length]
    have c:Bg 1 [] (P6 (AC 0)) (AN 0) Bo (mOp (Dv false) (AC 0) (mC Eu)) A7 (BW 1 [.str x]) μ=some (.lst (List.replicate x.length (.bl true)),μ):=by
      refine Di (ds:=x.cps.toList.map fun c=>D.str ⟨#[c]⟩) rfl (by rw [hl]; exact hs) (Lr (F:=fun _=>.bl true) fun z hz=>?_) ?_
      . rw [List.mem_map] at hz
        obtain ⟨c,hc,rfl⟩:=hz
        have:=h.ab c hc
        refine AX (x:=.str ⟨#[c]⟩) (y:=Eu) (Dh rfl) GL ?_
        show some (D.bl (!(Builtin.Str.occurrences "abcdefghijklmnopqrstuvwxyz" ⟨#[c]⟩ 0 (Str.length "abcdefghijklmnopqrstuvwxyz") 1).isEmpty),μ)=_
        rw [OG c this.2 this.1]
      . rw [List.nil_append,List.map_const',hl]
        exact BY (by rw [List.length_replicate]; exact hs)
    have a:Sg [.lst (List.replicate x.length (.bl true))] μ=some (.bl true,μ):=by
      show (Kv (List.replicate x.length (D.bl true))).map (fun bs=>(D.bl (bs.all id),μ))=_
      rw [L3]; show some (D.bl ((List.replicate x.length true).all id),μ)=_
      simp
    unfold Es
    wtm_at "own qev") rfl (by unfold Cl; trivial)
end
end K1
local macro_rules | `(tactic| wtm_at "own qnums")=>`(tactic| first | assumption | (simp only [List.length_cons,List.length_nil]; first | decide | omega))
local macro_rules | `(tactic| wtm_at "own qleaf")=>`(tactic| ((with_reducible apply K1.Nj); assumption))
namespace K1
open PySem L2 Mi
inductive Ex where
  | num (i:Int) | var (x:Str) | neg (e:Ex) | pair (w:Str) (a b:Ex)
def Ex.toD:Ex->D
  | .num i=>.tup [.str "num",.int i]
  | .var x=>.tup [.str "var",.str x]
  | .neg e=>.tup [.str "not",e.toD]
  | .pair w a b=>.tup [.str w,a.toD,b.toD]
def G9:List Str:=["+", "-", "=", "<", "and", "or"]
def Ex.Ok:Nat->Ex->Prop
  | 0,_=>False
  | _ + 1,.num i=>0 <= i /\ i <= 9
  | _ + 1,.var x=>GoodName x
  | k + 1,.neg e=>e.Ok k
  | k + 1,.pair w a b=>w ∈ G9 /\ a.Ok k /\ b.Ok k
def Ex.vars:Ex->List Str
  | .num _=>[]
  | .var x=>[x]
  | .neg e=>e.vars
  | .pair _ a b=>a.vars ++ b.vars
theorem Ex.Ok.succ:∀ {k:Nat} {e:Ex},e.Ok k->e.Ok (k + 1)
  | _ + 1,.num _,h=>h
  | _ + 1,.var _,h=>h
  | k + 1,.neg e,h=>Ex.Ok.succ (k:=k) (e:=e) h
  | k + 1,.pair _ a b,h=>⟨h.1,Ex.Ok.succ (k:=k) (e:=a) h.2.1,Ex.Ok.succ (k:=k) (e:=b) h.2.2⟩
theorem Ex.Ok.mono {k j:Nat} {e:Ex} (h:e.Ok k) (hj:k <= j):e.Ok j:=by
  induction hj with
  | refl=>exact h
  | step _ ih=>exact ih.succ
section
variable {μ μ1 μ2 μ':Mh} {n:Nat} {b:Int} {d:D} {x y:Str} {τ τ1 τ2:Sl}
theorem Cy:∀ (k n:Nat) (e:Ex) (j:Int) (μ:Mh),j=k->k <= n->e.Ok k->C0 n [e.toD,.int j] μ=some (.bl true,μ)
  | 0,_,_,_,_,_,_,h=>by cases h
  | _ + 1,0,_,_,_,_,hn,_=>by omega
  | k + 1,n + 1,.num i,j,μ,hj,hn,h=>by
    have hj1:1 <= j:=by omega
    obtain ⟨h1,h2⟩:0 <= i /\ i <= 9:=h
    exact Ae (g:=[]) (τ2:=_) (by rw [List.append_nil]; unfold A6 B6 C8 Ex.toD; wtm_at "own qev") rfl (by unfold Cl; trivial)
  | k + 1,n + 1,.var x,j,μ,hj,hn,h=>by
    have hj1:1 <= j:=by omega
    have h:GoodName x:=h
    exact Ae (g:=[]) (τ2:=_) (by rw [List.append_nil]; unfold A6 B6 C8 Ex.toD; wtm_at "own qev") rfl (by unfold Cl; trivial)
  | k + 1,n + 1,.neg e,j,μ,hj,hn,h=>by
    have hj1:1 <= j:=by omega
    have ih:=Cy k n e (j - 1) μ (by omega) (by omega) h
    exact Ae (g:=[]) (τ2:=_) (by rw [List.append_nil]; unfold A6 B6 C8 Ex.toD; wtm_at "own qev") rfl (by unfold Cl; trivial)
  | k + 1,n + 1,.pair w a b,j,μ,hj,hn,h=>by
    have hj1:1 <= j:=by omega
    obtain ⟨hw,ha,hb⟩:=h
    have hw:w ∈ (["+", "-", "=", "<", "and", "or"]:List Str):=hw
    have ia:=Cy k n a (j - 1) μ (by omega) (by omega) ha
    have ib:=Cy k n b (j - 1) μ (by omega) (by omega) hb
    exact Ae (g:=[]) (τ2:=_) (by rw [List.append_nil]; unfold A6 B6 C8 Ex.toD; wtm_at "own qev") rfl (by unfold Cl; trivial)
end
end K1
namespace K1
open PySem L2 Mi
section
variable {μ μ1 μ2 μ3 μ4 μ':Mh} {n:Nat} {b:Int} {d x y z:D} {τ τ1 τ2:Sl} {ma mb:Sl->M D} {ds es:List D} {r:Fl × Sl} {m1:Sl->M (Fl × Sl)} {bf:D->Sl->M Sl}
theorem Fe (h1:ma τ μ=some (x,μ1)) (h2:Nb x μ1=some (ds,μ2)):EU ma τ μ=some (ds,μ2):=by unfold EU; rw [AQ h1,h2]
theorem Kg:Nb (.tup ds) μ=some (ds,μ):=rfl
theorem MW:Nb (.lst ds) μ=some (ds,μ):=rfl
theorem OX:Bh bf m1 [] τ μ=some ((.next,τ),μ):=rfl
theorem Al (h1:bf x τ μ=some (τ1,μ1)) (h2:m1 τ1 μ1=some ((.next,τ2),μ2)) (h3:Bh bf m1 ds τ2 μ2=some (r,μ3)):Bh bf m1 (x :: ds) τ μ=some (r,μ3):=by
  show bnd (bf x τ) _ μ=_
  rw [AQ h1,AQ h2]; exact h3
theorem Ur {m:Sl->M (List D)} (h1:m τ μ=some (ds,μ1)) (h2:Fk ds μ1=some (es,μ2)):P5 m τ μ=some (es,μ2):=by unfold P5; rw [AQ h1,h2]
theorem UU:Fk [.tup [],.tup []] μ=some ([],μ):=rfl
theorem UT:Fk [.tup [x],.tup [y]] μ=some ([.tup [x,y]],μ):=rfl
theorem US {x' y':D}:Fk [.tup [x,x'],.tup [y,y']] μ=some ([.tup [x,y],.tup [x',y']],μ):=rfl
theorem SG {i j:Nat}:EV [i,j] (.tup [x,y]) τ μ=some ((τ.set i (some x)).set j (some y),μ):=rfl
theorem UW:Pf (some 1) none (.tup (x :: ds)) μ=some (.tup ds,μ):=by
  have h1:HT.sIx (x :: ds).length 0 (some 1)=1:=by rw [show (some (1:Int))=some ((1:Nat):Int) from rfl,HT.KH]; simp
  have h2:HT.sIx (x :: ds).length (x :: ds).length none=(x :: ds).length:=rfl
  show (if HT.sIx (x :: ds).length 0 (some 1)=0 /\ HT.sIx (x :: ds).length (x :: ds).length none=(x :: ds).length then (Mi.BP:M D) else Mi.ret (D.tup (Fg (x :: ds) (some 1) none))) μ=_
  rw [if_neg (by rw [h1]; simp)]
  show some (D.tup (Fg (x :: ds) (some 1) none),μ)=_
  unfold Fg
  rw [h1,h2]; simp
theorem CD (h:ds.length <= sizeLine):DX ds μ=some (.ref μ.length,μ ++ [.lst ds]):=by
  unfold DX
  rw [AQ (show lim ds.length μ=some ((),μ) from by unfold lim; rw [if_pos h])]
theorem BG (h:ds.length <= sizeLine):Aw ds μ=some (.tup ds,μ):=by
  unfold Aw
  rw [AQ (show lim ds.length μ=some ((),μ) from by unfold lim; rw [if_pos h])]; rfl
theorem SE:C5 (.ref μ.length) (μ ++ [.lst ds])=some ((),μ ++ [.lst ds]):=by
  unfold C5
  rw [AQ (show CB (.ref μ.length) (μ ++ [.lst ds])=some (ds,μ ++ [.lst ds]) from by
    unfold CB; dsimp only
    rw [List.getElem?_concat_length])]; rfl
theorem K6 {k:List D->Option (D × List D)} (h:k ds=some (d,es)):JI μ.length k (μ ++ [.lst ds])=some (d,μ ++ [.lst es]):=by
  unfold JI
  rw [List.getElem?_concat_length]
  show (k ds).map _=_
  rw [h]
  show some (d,(μ ++ [MO.lst ds]).set μ.length (.lst es))=_
  simp
theorem V4 (h:ds.length + es.length <= sizeLine):QQ (.ref μ.length) [.lst es] (μ ++ [.lst ds])=some (.non,μ ++ [.lst (ds ++ es)]):=K6 (by rw [if_pos h])
theorem V6 (h:ds.length < sizeLine):Ck (.ref μ.length) [d] (μ ++ [.lst ds])=some (.non,μ ++ [.lst (ds ++ [d])]):=K6 (by rw [if_pos h])
theorem Sa {i:Nat} {u v:Str} (h:τ[i]? = some (some (.str v))) (h1:(Str.empty ++ u).length <= sizeLine) (h2:v.length <= sizeLine) (h3:(Str.empty ++ u ++ v).length <= sizeLine):NH [mC (.str u),SA (AC i)] τ μ=some (.str (Str.empty ++ u ++ v),μ):=by
  have lm:∀ k:Nat,k <= sizeLine->lim k μ=some ((),μ):=fun k hk=>by unfold lim; rw [if_pos hk]
  unfold NH HE
  rw [AQ GL]
  dsimp only
  rw [AQ (lm _ h1)]
  unfold HE
  rw [AQ (show SA (AC i) τ μ=some (.str v,μ) from QR (Dh h) (by show (if v.length <= sizeLine then some (D.str v,μ) else none)=_; rw [if_pos h2]))]
  dsimp only
  rw [AQ (lm _ h3)]
  unfold HE
  rw [AQ (lm _ h3)]; rfl
theorem Vm:BV "put" = some (.tup [.str "box",.str "expression"]):=by kernel_rfl
theorem Vo:BV "get" = some (.tup [.str "variable",.str "box"]):=by kernel_rfl
theorem Vn:BV "let" = some (.tup [.str "variable",.str "expression"]):=by kernel_rfl
theorem Py:BV "unless" = some (.tup [.str "expression",.str "target"]):=by kernel_rfl
theorem UE:BV "jump" = some (.tup [.str "target"]):=by kernel_rfl
theorem UD:BV "tell" = some (.tup [.str "expression"]):=by kernel_rfl
theorem UF:BV "done" = some (.tup []):=by kernel_rfl
theorem UZ {w:Str} (h:BV w=some d):NO BV (.str w) μ=some (d,μ):=by show (BV w).map _=_; rw [h]; rfl
theorem V3 {w:Str} (h:BV w=some d):SJ BV (.str w) μ=some (.bl true,μ):=by show some (D.bl (BV w).isSome,μ)=_; rw [h]; rfl
end
end K1
local macro_rules | `(tactic| wtm_at "own qsmall")=>`(tactic| first | assumption | decide | (simp only [List.length_cons,List.length_nil,List.length_append,List.length_map]; first | decide | omega))
local macro_rules | `(tactic| wtm_at "own qparts")=>`(tactic| first | exact K1.Vm | exact K1.Vo | exact K1.Vn | exact K1.Py | exact K1.UE | exact K1.UD | exact K1.UF)
local macro_rules | `(tactic| wtm_at "own qleaf")=>`(tactic| first
  | ((with_reducible apply K1.Fe); (wtm_at "own qev"); (wtm_at "own qev")) | (with_reducible apply K1.Kg) | (with_reducible apply K1.MW) | ((with_reducible apply Mi.Bf); (wtm_at "own qev"); (wtm_at "own qev")) | (with_reducible apply K1.OX) | ((with_reducible apply K1.Al); (wtm_at "own qev"); (wtm_at "own qev"); (wtm_at "own qev"))
  | ((with_reducible apply K1.Ur); (wtm_at "own qev"); (wtm_at "own qev")) | (with_reducible apply K1.UU) | (with_reducible apply K1.UT) | (with_reducible apply K1.US) | (with_reducible apply K1.SG) | (with_reducible apply K1.UW)
  | ((with_reducible apply K1.BY); wtm_at "own qsmall") | ((with_reducible apply K1.CD); wtm_at "own qsmall") | ((with_reducible apply K1.BG); wtm_at "own qsmall") | (with_reducible apply K1.SE) | ((with_reducible apply K1.V4); wtm_at "own qsmall") | ((with_reducible apply K1.V6); wtm_at "own qsmall")
  | ((with_reducible apply K1.UZ); wtm_at "own qparts") | ((with_reducible apply K1.V3); wtm_at "own qparts") | ((with_reducible apply K1.Sa); (rfl); (decide +kernel); (decide +kernel); (decide +kernel)))
namespace K1
open PySem L2 Mi
section
variable {μ μ1 μ2 μ':Mh} {n:Nat} {b:Int} {d:D} {x y:Str} {τ τ1 τ2:Sl}
theorem Ex.vlen:∀ {k:Nat} {e:Ex},e.Ok k->e.vars.length <= 2 ^ k
  | k + 1,.num _,_=>by simp [Ex.vars]
  | k + 1,.var _,_=>by show 1 <= 2 ^ (k + 1); exact Nat.one_le_two_pow
  | k + 1,.neg e,h=>by have:=Ex.vlen (k:=k) (e:=e) h; show e.vars.length <= 2 ^ (k + 1); rw [Nat.pow_succ]; omega
  | k + 1,.pair _ a b,h=>by
    have h1:=Ex.vlen (k:=k) (e:=a) h.2.1
    have h2:=Ex.vlen (k:=k) (e:=b) h.2.2
    show (a.vars ++ b.vars).length <= 2 ^ (k + 1)
    rw [List.length_append,Nat.pow_succ]; omega
theorem HM {k:Nat}:∀ xs:List Str,ClL k (xs.map D.str)
  | []=>by simp [ClL]
  | x :: r=>by rw [List.map_cons]; unfold ClL; exact ⟨by unfold Cl; trivial,HM r⟩
theorem DF:∀ (k n:Nat) (e:Ex) (μ:Mh),k <= n->k <= 6->e.Ok k->BQ n [e.toD] μ=some (.lst (e.vars.map D.str),μ)
  | 0,_,_,_,_,_,h=>by cases h
  | _ + 1,0,_,_,hn,_,_=>by omega
  | k + 1,n + 1,.num i,μ,hn,h6,h=>Ix (g:=[]) (τ2:=_) (by rw [List.append_nil]; unfold A1 Ex.toD; wtm_at "own qev") rfl (HM [])
  | k + 1,n + 1,.var x,μ,hn,h6,h=>Ix (es:=[.str x]) (g:=[]) (τ2:=_) (by rw [List.append_nil]; unfold A1 Ex.toD; wtm_at "own qev") rfl (HM [x])
  | k + 1,n + 1,.neg e,μ,hn,h6,h=>by
    have ih:=DF k n e (μ ++ [.lst []]) (by omega) (by omega) h
    have hl:=Ex.vlen (k:=k) (e:=e) h
    have hp:2 ^ k <= 2 ^ 6:=Nat.pow_le_pow_right (by decide) (by omega)
    have hz:sizeLine=16777216:=by decide
    have hb:([]:List D).length + (e.vars.map D.str).length <= sizeLine:=by simp; omega
    have q:∃ τ2,A1 (BQ n) (BW 3 [(Ex.neg e).toD]) μ=some ((.rt (.ref μ.length),τ2),μ ++ [.lst (e.vars.map D.str)]):=by
      refine' ⟨_,Eq.trans ?e1 ?e2⟩
      case e1=>unfold A1 Ex.toD; wtm_at "own qev"
      case e2=>rfl
    obtain ⟨τ2,q⟩:=q
    exact Ci q rfl (Nat.le_refl _) (List.getElem?_concat_length) (HM _)
  | k + 1,n + 1,.pair w a b,μ,hn,h6,h=>by
    obtain ⟨hw,ha,hb⟩:=h
    have ia:=DF k n a (μ ++ [.lst []]) (by omega) (by omega) ha
    have ib:=DF k n b (μ ++ [.lst ([] ++ a.vars.map D.str)]) (by omega) (by omega) hb
    have la:=Ex.vlen (k:=k) (e:=a) ha
    have lb:=Ex.vlen (k:=k) (e:=b) hb
    have hp:2 ^ k <= 2 ^ 6:=Nat.pow_le_pow_right (by decide) (by omega)
    have hz:sizeLine=16777216:=by decide
    have hb1:([]:List D).length + (a.vars.map D.str).length <= sizeLine:=by simp; omega
    have hb2:([] ++ a.vars.map D.str).length + (b.vars.map D.str).length <= sizeLine:=by simp; omega
    have w1:PyData.strOk w=true /\ w ≠ "num" /\ w ≠ "var" := by
      have hw:w ∈ (["+", "-", "=", "<", "and", "or"]:List Str):=hw
      simp only [List.mem_cons,List.not_mem_nil,or_false] at hw
      rcases hw with rfl | rfl | rfl | rfl | rfl | rfl <;> decide +kernel
    obtain ⟨w1,w2,w3⟩:=w1
    have q:∃ τ2,A1 (BQ n) (BW 3 [(Ex.pair w a b).toD]) μ=some ((.rt (.ref μ.length),τ2),μ ++ [.lst ([] ++ a.vars.map D.str ++ b.vars.map D.str)]):=by
      refine' ⟨_,?e⟩
      case e=>unfold A1 Ex.toD; wtm_at "own qev"
    obtain ⟨τ2,q⟩:=q
    have z:([] ++ a.vars.map D.str ++ b.vars.map D.str)=(Ex.pair w a b).vars.map D.str:=by simp [Ex.vars]
    rw [z] at q
    exact Ci q rfl (Nat.le_refl _) (List.getElem?_concat_length) (HM _)
end
end K1
namespace K1
open PySem L2 Mi
inductive Rw where
  | put (bx:Str) (e:Ex) | get (x bx:Str) | letr (x:Str) (e:Ex) | unless (e:Ex) (t:Int) | jump (t:Int) | tell (e:Ex) | done
def Rw.toD:Rw->D
  | .put bx e=>.tup [.str "put",.str bx,e.toD]
  | .get x bx=>.tup [.str "get",.str x,.str bx]
  | .letr x e=>.tup [.str "let",.str x,e.toD]
  | .unless e t=>.tup [.str "unless",e.toD,.int t]
  | .jump t=>.tup [.str "jump",.int t]
  | .tell e=>.tup [.str "tell",e.toD]
  | .done=>.tup [.str "done"]
def Rw.Form (l:Int):Rw->Prop
  | .put bx e=>GoodName bx /\ e.Ok 5
  | .get x bx=>GoodName x /\ GoodName bx
  | .letr x e=>GoodName x /\ e.Ok 5
  | .unless e t=>e.Ok 5 /\ 0 <= t /\ t <= l
  | .jump t=>0 <= t /\ t <= l
  | .tell e=>e.Ok 5
  | .done=>True
def Rw.vars:Rw->List Str
  | .put _ e=>e.vars
  | .get x _=>[x]
  | .letr x e=>x :: e.vars
  | .unless e _=>e.vars
  | .jump _=>[]
  | .tell e=>e.vars
  | .done=>[]
section
variable {μ μ1 μ2 μ':Mh} {n:Nat} {l:Int} {d:D} {x y:Str} {τ τ1 τ2:Sl}
theorem Oy {e:Ex} (h:e.Ok 5):EF [.str "expression",e.toD,.int l] μ=some (.bl true,μ):=by
  have ih:=Cy 5 6 e 5 μ rfl (by decide) h
  exact Ae (g:=[]) (τ2:=_) (by rw [List.append_nil]; unfold DA Da; wtm_at "own qev") rfl (by unfold Cl; trivial)
theorem Ox {t:Int} (h1:0 <= t) (h2:t <= l):EF [.str "target",.int t,.int l] μ=some (.bl true,μ):=
  Ae (g:=[]) (τ2:=_) (by rw [List.append_nil]; unfold DA Da; wtm_at "own qev") rfl (by unfold Cl; trivial)
theorem Ow (h:GoodName x):EF [.str "variable",.str x,.int l] μ=some (.bl true,μ):=
  Ae (g:=[]) (τ2:=_) (by rw [List.append_nil]; unfold DA Da; wtm_at "own qev") rfl (by unfold Cl; trivial)
theorem Oz (h:GoodName x):EF [.str "box",.str x,.int l] μ=some (.bl true,μ):=
  Ae (g:=[]) (τ2:=_) (by rw [List.append_nil]; unfold DA Da; wtm_at "own qev") rfl (by unfold Cl; trivial)
end
end K1
local macro_rules | `(tactic| wtm_at "own qleaf")=>`(tactic| first
  | ((with_reducible apply K1.Oy); assumption) | ((with_reducible apply K1.Ox); (assumption); (assumption)) | ((with_reducible apply K1.Ow); assumption) | ((with_reducible apply K1.Oz); assumption))
namespace K1
open PySem L2 Mi
section
variable {μ μ1 μ2 μ':Mh} {n:Nat} {l:Int} {d:D} {x y:Str} {τ τ1 τ2:Sl}
theorem KB:∀ {r:Rw},r.Form l->D9 [r.toD,.int l] μ=some (.non,μ)
  | .put bx e,⟨h1,h2⟩=>A0 (g:=[]) (τ2:=_) (by rw [List.append_nil]; unfold A9 Rw.toD; wtm_at "own qev") rfl
  | .get bx e,⟨h1,h2⟩=>A0 (g:=[]) (τ2:=_) (by rw [List.append_nil]; unfold A9 Rw.toD; wtm_at "own qev") rfl
  | .letr bx e,⟨h1,h2⟩=>A0 (g:=[]) (τ2:=_) (by rw [List.append_nil]; unfold A9 Rw.toD; wtm_at "own qev") rfl
  | .unless bx e,⟨h1,h2,h3⟩=>A0 (g:=[]) (τ2:=_) (by rw [List.append_nil]; unfold A9 Rw.toD; wtm_at "own qev") rfl
  | .jump t,⟨h1,h2⟩=>A0 (g:=[]) (τ2:=_) (by rw [List.append_nil]; unfold A9 Rw.toD; wtm_at "own qev") rfl
  | .tell e,h=>A0 (g:=[]) (τ2:=_) (by have h:e.Ok 5:=h; rw [List.append_nil]; unfold A9 Rw.toD; wtm_at "own qev") rfl
  | .done,h=>A0 (g:=[]) (τ2:=_) (by rw [List.append_nil]; unfold A9 Rw.toD; wtm_at "own qev") rfl
end
end K1
set_option maxHeartbeats 4000000
namespace K1
open PySem L2 Mi
section
variable {μ μ1 μ2 μ':Mh} {n:Nat} {l:Int} {d:D} {x y:Str} {τ τ1 τ2:Sl}
theorem Qq {e:Ex} (h:e.Ok 5):BQ 6 [e.toD] μ=some (.lst (e.vars.map D.str),μ):=DF 5 6 e μ (by decide) (by decide) h
theorem L8 {w:Str} (hw:PyData.strOk w=true) (h:w ≠ "tell"):B0 [.str w,.bl true] μ=some (.non,μ):=
  A0 (g:=[]) (τ2:=_) (by rw [List.append_nil]; unfold By; wtm_at "own qev") rfl
theorem L9 {w:Str} (hw:PyData.strOk w=true) (h:w ≠ "done"):B0 [.str w,.bl false] μ=some (.non,μ):=
  A0 (g:=[]) (τ2:=_) (by rw [List.append_nil]; unfold By; wtm_at "own qev") rfl
theorem Ub {a b:Str} (h:x ∈ [a,b]):Dv false (.str x) (.tup [.str a,.str b]) μ=some (.bl true,μ):=FJ (xs:=[a,b]) h
theorem Uc {a b:Str} (h:x ∉ [a,b]):Dv false (.str x) (.tup [.str a,.str b]) μ=some (.bl false,μ):=Gj (xs:=[a,b]) h
end
end K1
local macro_rules | `(tactic| wtm_at "own qleaf")=>`(tactic| first
  | ((with_reducible apply K1.Qq); assumption) | ((with_reducible apply K1.Ub); wtm_at "own qstrs") | ((with_reducible apply K1.Uc); wtm_at "own qstrs") | ((with_reducible apply K1.L8); (wtm_at "own qstrs"); (wtm_at "own qstrs")) | ((with_reducible apply K1.L9); (wtm_at "own qstrs"); (wtm_at "own qstrs")))
namespace K1
open PySem L2 Mi
section
variable {μ μ1 μ2 μ':Mh} {n:Nat} {l:Int} {d:D} {x y:Str} {τ τ1 τ2:Sl}
theorem F5 {r:Rw} {xs:List D} (h:xs=r.vars.map D.str) (q:∃ τ2,Az (BQ 6) (BW 4 [r.toD]) μ=some ((.rt (.ref μ.length),τ2),μ ++ [.lst xs])):DQ [r.toD] μ=some (.lst (r.vars.map D.str),μ):=by
  obtain ⟨τ2,q⟩:=q
  rw [h] at q
  exact Ci q rfl (Nat.le_refl _) List.getElem?_concat_length (HM _)
theorem Hz:∀ {r:Rw},r.Form l->DQ [r.toD] μ=some (.lst (r.vars.map D.str),μ)
  | .put bx e,⟨h1,h2⟩=>by
    have hl:=Ex.vlen h2
    have hz:sizeLine=16777216:=by decide
    refine F5 (xs:=[] ++ e.vars.map D.str) rfl ?_
    refine' ⟨_,?e1⟩
    case e1=>unfold Az Rw.toD; wtm_at "own qev"
  | .get x bx,⟨h1,h2⟩=>by
    refine F5 (xs:=[] ++ [.str x]) rfl ?_
    refine' ⟨_,?e1⟩
    case e1=>unfold Az Rw.toD; wtm_at "own qev"
  | .letr x e,⟨h1,h2⟩=>by
    have hl:=Ex.vlen h2
    have hz:sizeLine=16777216:=by decide
    refine F5 (xs:=[] ++ [.str x] ++ e.vars.map D.str) rfl ?_
    refine' ⟨_,?e1⟩
    case e1=>unfold Az Rw.toD; wtm_at "own qev"
  | .unless e t,⟨h1,h2,h3⟩=>by
    have hl:=Ex.vlen h1
    have hz:sizeLine=16777216:=by decide
    refine F5 (xs:=[] ++ e.vars.map D.str) rfl ?_
    refine' ⟨_,?e1⟩
    case e1=>unfold Az Rw.toD; wtm_at "own qev"
  | .jump t,⟨h1,h2⟩=>by
    refine F5 (xs:=[]) rfl ?_
    refine' ⟨_,?e1⟩
    case e1=>unfold Az Rw.toD; wtm_at "own qev"
  | .tell e,h1=>by
    have h1:e.Ok 5:=h1
    have hl:=Ex.vlen h1
    have hz:sizeLine=16777216:=by decide
    refine F5 (xs:=[] ++ e.vars.map D.str) rfl ?_
    refine' ⟨_,?e1⟩
    case e1=>unfold Az Rw.toD; wtm_at "own qev"
  | .done,_=>by
    refine F5 (xs:=[]) rfl ?_
    refine' ⟨_,?e1⟩
    case e1=>unfold Az Rw.toD; wtm_at "own qev"
def Ql (wr:Bool) (x:Str):Prop:=PyData.strOk x=true /\ x ∉ (["not", "and", "or"]:List Str) /\ (wr=true ∨ x ≠ "v")
theorem JT {wr:Bool} {rD:D}:∀ (xs:List Str) (o:Option D),(∀ x ∈ xs,Ql wr x)->∃ o',Bh (AN 2) (AU (AZ (AE Bd (AB (mOp (Dv true) (AC 2) (mC CY)) (AB (mC (.str "a variable is called like a word of expressions")) AH))))
    (AZ (AE Bd (AB (MU (AC 1) (mOp Bl (AC 2) (mC (.str "v")))) (AB (mC (.str "a reader has no variable v")) AH))))) (xs.map D.str) [some rD,some (.bl wr),o] μ=some ((.next,[some rD,some (.bl wr),o']),μ)
  | [],o,_=>⟨o,rfl⟩
  | x :: r,o,h=>by
    obtain ⟨h1,h2,h3⟩:=h x (by simp)
    obtain ⟨o',ih⟩:=JT (wr:=wr) (rD:=rD) r (some (.str x)) fun y hy=>h y (by simp [hy])
    refine ⟨o',?_⟩
    refine Al (τ1:=[some rD,some (.bl wr),some (.str x)]) (τ2:=[some rD,some (.bl wr),some (.str x)]) (μ1:=μ) (μ2:=μ) rfl ?_ ih
    unfold CY
    cases wr with
    | true=>wtm_at "own qev"
    | false=>
      have h4:x ≠ "v" := by rcases h3 with z | z; cases z; exact z
      wtm_at "own qev"
def Rw.word:Rw->Str
  | .put _ _ => "put" | .get _ _ => "get" | .letr _ _ => "let" | .unless _ _ => "unless" | .jump _ => "jump" | .tell _ => "tell" | .done => "done"
def Rw.setOk:Rw->Prop
  | .get x _=>x ≠ "v"
  | .letr x _=>x ≠ "v"
  | _=>True
theorem GQ {wr:Bool} {r:Rw} (hf:r.Form l) (hv:∀ x ∈ r.vars,Ql wr x) (hs:r.setOk):CF [r.toD,.bl wr] μ=some (.non,μ):=by
  have v:=Hz (μ:=μ) hf
  obtain ⟨o,lp⟩:=JT (μ:=μ) (wr:=wr) (rD:=r.toD) r.vars none hv
  have b:∃ τ2,sIf (AY (mOp (Dv false) (mOp AS (AC 0) (mC (.int 0))) (AE Aw (AB (mC (.str "get")) (AB (mC (.str "let")) AH))))) (AZ (AE Bd (AB (mOp Bl (mOp AS (AC 0) (mC (.int 1))) (mC (.str "v"))) (AB (mC (.str "the variable v is set by no row")) AH)))) BI [some r.toD,some (.bl wr),o] μ=some ((.next,τ2),μ):=by
    cases r with
    | get x bx=>
      have h1:=hf.1.ok
      have h2:x ≠ "v" := hs
      simp only [Rw.toD]
      exact ⟨_,by wtm_at "own qev"⟩
    | letr x e=>
      have h1:=hf.1.ok
      have h2:x ≠ "v" := hs
      simp only [Rw.toD]
      exact ⟨_,by wtm_at "own qev"⟩
    | _=>
      simp only [Rw.toD]
      exact ⟨_,by wtm_at "own qev"⟩
  obtain ⟨τ2,b⟩:=b
  refine A0 (g:=[]) (τ2:=τ2) ?_ rfl
  rw [List.append_nil]
  unfold Bn
  refine AR (τ1:=[some r.toD,some (.bl wr),o]) (μ1:=μ) (Bf (ds:=r.vars.map D.str) (μ1:=μ) (Fe (x:=.lst (r.vars.map D.str)) (μ1:=μ) (AL (ds:=[r.toD]) (μ1:=μ) ?_ v) rfl) lp) b
  rfl
end
end K1
set_option maxHeartbeats 4000000
namespace K1
open PySem L2 Mi
section
variable {μ μ1 μ2 μ3 μ4 μ':Mh} {n:Nat} {l:Int} {d z:D} {x y:Str} {τ τ1 τ2:Sl}
theorem Fy {L:List (Key × D)} (h:μ[n]? = some (.dK L)):FE (.ref n) μ=some ((n,L),μ):=by unfold FE; dsimp only; rw [h]
theorem QT {mo mi:Sl->M D} {L:List (Key × D)} {bx:Str} (h1:mo τ μ=some (.ref n,μ)) (h:μ[n]? = some (.dK L)) (h2:mi τ μ=some (.str bx,μ)) (hv:ET L (.inr bx)=some z):Ej mo mi τ μ=some (z,μ):=by
  unfold Ej
  rw [AQ h1,AQ (show HG (.ref n) μ=some ((),μ) from by unfold HG; rw [AQ (Fy h)]; rfl),AQ h2]
  unfold Mg
  rw [AQ (Fy h)]
  show some ((ET L (.inr bx)).getD .non,μ)=_
  rw [hv]; rfl
theorem V5 {L:List (Key × D)} {bx:Str} (h:μ[n]? = some (.dK L)) (hv:(ET L (.inr bx)).isSome=true):OZ false (.str bx) (.ref n) μ=some (.bl true,μ):=by
  unfold OZ
  rw [AQ (Fy h)]
  show some (D.bl (ET L (.inr bx)).isSome,μ)=_
  rw [hv]
end
end K1
local macro_rules | `(tactic| wtm_at "own qleaf")=>`(tactic| first
  | ((with_reducible apply K1.QT); (wtm_at "own qev"); (assumption); (wtm_at "own qev"); (assumption)) | ((with_reducible apply K1.V5); (assumption); (assumption)))
namespace K1
open PySem L2 Mi
section
variable {μ μ1 μ2 μ':Mh} {n:Nat} {l:Int} {d:D} {x y:Str} {τ τ1 τ2:Sl}
def Rw.Tab (L:List (Key × D)) (nm:Str):Rw->Prop
  | .put bx _=>ET L (.inr bx)=some (.str nm)
  | .get _ bx=>(ET L (.inr bx)).isSome=true
  | _=>True
def Rw.EndOk (wr:Bool):Rw->Prop
  | .tell _=>wr=false
  | .done=>wr=true
  | _=>True
structure Rw.Ok (L:List (Key × D)) (nm:Str) (wr:Bool) (l:Int) (r:Rw):Prop where
  form:r.Form l
  ends:r.EndOk wr
  vars:∀ x ∈ r.vars,Ql wr x
  set:r.setOk
  tab:r.Tab L nm
theorem O2 {wr:Bool}:∀ {r:Rw},r.EndOk wr->B0 [.str r.word,.bl wr] μ=some (.non,μ):=by
  intro r h
  cases r with
  | tell e=>cases (show wr=false from h); simp only [Rw.word]; exact L9 (by decide +kernel) (by decide +kernel)
  | done=>cases (show wr=true from h); simp only [Rw.word]; exact L8 (by decide +kernel) (by decide +kernel)
  | _=>
    simp only [Rw.word]
    cases wr with
    | false=>exact L9 (by decide +kernel) (by decide +kernel)
    | true=>exact L8 (by decide +kernel) (by decide +kernel)
noncomputable abbrev L1:Sl->M (Fl × Sl):=(AU (AZ (AE D9 (AB (AC 3) (AB (AE BO (AB (mOp AS (AC 0) (mC (.int 2))) AH)) AH))))
    (AU (AZ (AE B0 (AB (mOp AS (AC 3) (mC (.int 0))) (AB (AC 1) AH))))
    (AU (AZ (AE CF (AB (AC 3) (AB (AC 1) AH))))
    (AU (sIf (AY (mOp BM (mOp AS (AC 3) (mC (.int 0))) (mC (.str "put")))) (AZ (AE Bd (AB (mOp BM (Ej (AC 2) (mOp AS (AC 3) (mC (.int 1)))) (mOp AS (AC 0) (mC (.int 0)))) (AB (mC (.str "a hand puts a box that it does not write")) AH)))) BI)
    (sIf (AY (mOp BM (mOp AS (AC 3) (mC (.int 0))) (mC (.str "get")))) (AZ (AE Bd (AB (mOp (OZ false) (mOp AS (AC 3) (mC (.int 2))) (AC 2)) (AB (mC (.str "a hand gets a box that is none")) AH)))) BI)))))
theorem PQ {L:List (Key × D)} {nm:Str} {wr:Bool} {w:Int} {ds:List D} (hn:μ[n]? = some (.dK L)) (hm:PyData.strOk nm=true):∀ {r:Rw},r.Ok L nm wr ds.length->
    L1 [some (.tup [.str nm,.int w,.tup ds]),some (.bl wr),some (.ref n),some r.toD] μ=some ((.next,[some (.tup [.str nm,.int w,.tup ds]),some (.bl wr),some (.ref n),some r.toD]),μ):=by
  intro r h
  have c1:=KB (μ:=μ) h.form
  have c2:=O2 (μ:=μ) h.ends
  have c3:=GQ (μ:=μ) h.form h.vars h.set
  have c4:=h.tab
  cases r with
  | put bx e=>
    have c4:ET L (.inr bx)=some (.str nm):=c4
    simp only [Rw.toD,Rw.word] at c1 c2 c3 ⊢
    wtm_at "own qev"
  | get x bx=>
    have c4:(ET L (.inr bx)).isSome=true:=c4
    simp only [Rw.toD,Rw.word] at c1 c2 c3 ⊢
    wtm_at "own qev"
  | _=>
    simp only [Rw.toD,Rw.word] at c1 c2 c3 ⊢
    wtm_at "own qev"
theorem JZ {L:List (Key × D)} {nm:Str} {wr:Bool} {w:Int} {ds:List D} (hn:μ[n]? = some (.dK L)) (hm:PyData.strOk nm=true):∀ (rs:List Rw) (o:Option D),(∀ r ∈ rs,r.Ok L nm wr ds.length)->∃ o',
    Bh (AN 3) L1 (rs.map Rw.toD) [some (.tup [.str nm,.int w,.tup ds]),some (.bl wr),some (.ref n),o] μ=some ((.next,[some (.tup [.str nm,.int w,.tup ds]),some (.bl wr),some (.ref n),o']),μ)
  | [],o,_=>⟨o,rfl⟩
  | r :: rs,o,h=>by
    obtain ⟨o',ih⟩:=JZ (w:=w) hn hm rs (some r.toD) fun q hq=>h q (by simp [hq])
    exact ⟨o',Al rfl (PQ hn hm (h r (by simp))) ih⟩
theorem KA {L:List (Key × D)} {nm:Str} {wr:Bool} {w:Int} {rs:List Rw} (hn:μ[n]? = some (.dK L)) (hm:PyData.strOk nm=true) (h:∀ r ∈ rs,r.Ok L nm wr rs.length):D8 [.tup [.str nm,.int w,.tup (rs.map Rw.toD)],.bl wr,.ref n] μ=some (.non,μ):=by
  obtain ⟨o',lp⟩:=JZ (w:=w) (ds:=rs.map Rw.toD) hn hm rs none (by rw [List.length_map]; exact h)
  exact A0 (g:=[]) (by
    rw [List.append_nil]
    exact Bf (ds:=rs.map Rw.toD) (μ1:=μ) (Fe (x:=.tup (rs.map Rw.toD)) (μ1:=μ) (AX (x:=.tup [.str nm,.int w,.tup (rs.map Rw.toD)]) (y:=.int 2) (μ1:=μ) (μ2:=μ) rfl rfl rfl) rfl) lp) rfl
end
end K1
set_option maxHeartbeats 4000000
namespace K1
open PySem L2 Mi
section
variable {μ μ1 μ2 μ':Mh} {n:Nat} {l:Int} {d:D} {x y:Str} {τ τ1 τ2:Sl}
theorem NE:∀ (xs ys:List Str),(ys ++ xs).Nodup->(xs.foldl (fun ys x=>if x ∈ ys then ys else ys ++ [x]) ys)=ys ++ xs
  | [],ys,_=>by simp
  | x :: xs,ys,h=>by
    have hx:x ∉ ys:=by
      intro hm
      rw [List.nodup_append] at h
      exact h.2.2 x hm x (by simp) rfl
    show xs.foldl _ (if x ∈ ys then ys else ys ++ [x])=_
    rw [if_neg hx,NE xs (ys ++ [x]) (by simpa using h)]
    simp
theorem M5:∀ xs:List Str,HP (xs.map D.str)=some xs
  | []=>rfl
  | x :: r=>by
    show (HP (r.map D.str)).map (x :: ·)=_
    rw [M5 r]; rfl
theorem GR {xs:List Str} (h:xs.Nodup) (hl:xs.length <= 1000):EA [.lst (xs.map D.str)] μ=some (.bl true,μ):=by
  have e:Hm (.lst (xs.map D.str)) μ=some (.int xs.length,μ):=by
    unfold Hm
    rw [AQ (show CB (.lst (xs.map D.str)) μ=some (xs.map D.str,μ) from rfl),M5]
    show (if xs.length + 2 < scanBound then some (D.int (CT xs).length,μ) else none)=_
    rw [if_pos (by have:scanBound=4096:=rfl; omega)]
    have:CT xs=xs:=by unfold CT; rw [NE xs [] (by simpa using h)]; simp
    rw [this]
  have hq:((xs.length:Nat):Int)=((xs.map D.str).length:Nat):=by simp
  exact Ae (g:=[]) (τ2:=_) (by rw [List.append_nil]; unfold DN; wtm_at "own qev") rfl (by unfold Cl; trivial)
structure Bx where
  nm:Str
  kd:Str
  sz:Int
  bg:Int
  wr:Str
def Bx.toD (b:Bx):D:=.tup [.str b.nm,.str b.kd,.int b.sz,.int b.bg,.str b.wr]
def L5 (kd:Str) (sz bg:Int):Prop:=kd ∈ (["safe", "steady", "whole"]:List Str) /\ 2 <= sz /\ sz <= 10 /\ 0 <= bg /\ bg <= sz - 1
structure Hd where
  nm:Str
  wi:Int
  rs:List Rw
def Hd.toD (h:Hd):D:=.tup [.str h.nm,.int h.wi,.tup (h.rs.map Rw.toD)]
theorem GD {α:Type} {f:α->D} {g:α->Str} {xs:List α} (h:∀ a,∀ ν:Mh,AS (f a) (.int 0) ν=some (.str (g a),ν)) (hl:xs.length <= 1000) {ma:Sl->M D} (hm:ma τ μ=some (.tup (xs.map f),μ)):Bg 1 [] (EU ma) (AN 0) Bo (mOp AS (AC 0) (mC (.int 0))) A7 τ μ=some (.lst ((xs.map g).map D.str),μ):=by
  have hz:sizeLine=16777216:=by decide
  have go:∀ (xs:List α) (ys:List D),CZ (AN 0) Bo (mOp AS (AC 0) (mC (.int 0))) (BX 1 [] τ) (xs.map f) ys μ=some (ys ++ (xs.map g).map D.str,μ):=by
    intro xs
    induction xs with
    | nil=>intro ys; show some (ys,μ)=_; simp
    | cons a xs ih=>
      intro ys
      show bnd (AN 0 (f a) (BX 1 [] τ)) _ μ=_
      rw [AQ (show AN 0 (f a) (BX 1 [] τ) μ=some ((BX 1 [] τ).set 0 (some (f a)),μ) from rfl),AQ (show Bo ((BX 1 [] τ).set 0 (some (f a))) μ=some (true,μ) from rfl),if_pos rfl,AQ (AX (Dh rfl) GL (h a μ)),ih]
      simp
  refine Di (Fe hm Kg) (by simp; omega) (go xs []) (BY (by simp; omega))
theorem Iy {o:Option D} {t:D}:∀ (bs:List Bx) (o:Option D),(∀ b ∈ bs,GoodName b.nm /\ L5 b.kd b.sz b.bg)->∃ o',Bh (AN 1) (AU (AZ (AE Bd (AB (AE Bq (AB (AC 1) (AB (mC (.int 5)) (AB (mC (.int 5)) AH)))) (AB (mC (.str "a box is a tuple of five parts")) AH))))
    (AU (AZ (AE Bd (AB (AE DD (AB (mOp AS (AC 1) (mC (.int 0))) AH)) (AB (mC (.str "a box has a name")) AH))))
    (AZ (AE Bz (AB (mOp AS (AC 1) (mC (.int 1))) (AB (mOp AS (AC 1) (mC (.int 2))) (AB (mOp AS (AC 1) (mC (.int 3))) AH))))))) (bs.map Bx.toD) [some t,o] μ=some ((.next,[some t,o']),μ)
  | [],o,_=>⟨o,rfl⟩
  | b :: bs,o,h=>by
    obtain ⟨h1,h2,h3,h4,h5,h6⟩:=h b (by simp)
    obtain ⟨o',ih⟩:=Iy (o:=none) (t:=t) bs (some b.toD) fun q hq=>h q (by simp [hq])
    have c:=FO (μ:=μ) h2 h3 h4 h5 h6
    refine ⟨o',Al (τ1:=[some t,some b.toD]) (τ2:=[some t,some b.toD]) (μ1:=μ) (μ2:=μ) rfl ?_ ih⟩
    unfold Bx.toD
    wtm_at "own qev"
theorem Ig {t:D}:∀ (hs:List Hd) (o:Option D),(∀ h ∈ hs,GoodName h.nm /\ 0 <= h.wi /\ h.wi <= 400 /\ h.rs.length <= 60)->∃ o',Bh (AN 1) (AU (AZ (AE Bd (AB (AE Bq (AB (AC 1) (AB (mC (.int 3)) (AB (mC (.int 3)) AH)))) (AB (mC (.str "a hand is a tuple of three parts")) AH))))
    (AU (AZ (AE Bd (AB (AE DD (AB (mOp AS (AC 1) (mC (.int 0))) AH)) (AB (mC (.str "a hand has a name")) AH))))
    (AU (AZ (AE Bd (AB (AE C7 (AB (mOp AS (AC 1) (mC (.int 1))) (AB (mC (.int 0)) (AB (mC Cw) AH)))) (AB (mC (.str "a told count is a whole number from 0 to 400")) AH))))
    (AZ (AE Bd (AB (AE Bq (AB (mOp AS (AC 1) (mC (.int 2))) (AB (mC (.int 0)) (AB (mC Dt) AH)))) (AB (mC (.str "rows are a tuple of at most sixty")) AH))))))) (hs.map Hd.toD) [some t,o] μ=some ((.next,[some t,o']),μ)
  | [],o,_=>⟨o,rfl⟩
  | h :: hs,o,hh=>by
    obtain ⟨h1,h2,h3,h4⟩:=hh h (by simp)
    obtain ⟨o',ih⟩:=Ig (t:=t) hs (some h.toD) fun q hq=>hh q (by simp [hq])
    have q1:(0:Int) <= ((h.rs.map Rw.toD).length:Nat):=by omega
    have q2:((h.rs.map Rw.toD).length:Nat) <= (60:Int):=by simp; omega
    refine ⟨o',Al (τ1:=[some t,some h.toD]) (τ2:=[some t,some h.toD]) (μ1:=μ) (μ2:=μ) rfl ?_ ih⟩
    unfold Hd.toD Cw Dt
    wtm_at "own qev"
theorem JH {bs:List Bx} (h:∀ b ∈ bs,GoodName b.nm /\ L5 b.kd b.sz b.bg) (hl:bs.length <= 6) (hd:(bs.map Bx.nm).Nodup):Dg [.tup (bs.map Bx.toD)] μ=some (.non,μ):=by
  obtain ⟨o,lp⟩:=Iy (o:=none) (μ:=μ) (t:=.tup (bs.map Bx.toD)) bs none h
  have c:=GD (μ:=μ) (τ:=[some (.tup (bs.map Bx.toD)),o]) (f:=Bx.toD) (g:=Bx.nm) (xs:=bs) (fun a ν=>rfl) (by omega) (ma:=AC 0) rfl
  have u:=GR (μ:=μ) hd (by simp; omega)
  have q1:(0:Int) <= ((bs.map Bx.toD).length:Nat):=by omega
  have q2:((bs.map Bx.toD).length:Nat) <= (6:Int):=by simp; omega
  have t:=F6 (μ:=μ) q1 q2
  refine A0 (g:=[]) (τ2:=[some (.tup (bs.map Bx.toD)),o]) ?_ rfl
  rw [List.append_nil]
  unfold Cu EC
  refine AR (τ1:=[some (.tup (bs.map Bx.toD)),none]) (μ1:=μ) (by show AZ _ [some (.tup (bs.map Bx.toD)),none] μ=_; wtm_at "own qev") (AR (Bf (ds:=bs.map Bx.toD) (μ1:=μ) rfl lp) ?_)
  wtm_at "own qev"
theorem JG {hs:List Hd} (h:∀ h ∈ hs,GoodName h.nm /\ 0 <= h.wi /\ h.wi <= 400 /\ h.rs.length <= 60) (h2:2 <= hs.length) (hl:hs.length <= 4) (hd:(hs.map Hd.nm).Nodup):De [.tup (hs.map Hd.toD)] μ=some (.non,μ):=by
  obtain ⟨o,lp⟩:=Ig (μ:=μ) (t:=.tup (hs.map Hd.toD)) hs none h
  have c:=GD (μ:=μ) (τ:=[some (.tup (hs.map Hd.toD)),o]) (f:=Hd.toD) (g:=Hd.nm) (xs:=hs) (fun a ν=>rfl) (by omega) (ma:=AC 0) rfl
  have u:=GR (μ:=μ) hd (by simp; omega)
  have q1:(2:Int) <= ((hs.map Hd.toD).length:Nat):=by simp; omega
  have q2:((hs.map Hd.toD).length:Nat) <= (4:Int):=by simp; omega
  have t:=F6 (μ:=μ) q1 q2
  refine A0 (g:=[]) (τ2:=[some (.tup (hs.map Hd.toD)),o]) ?_ rfl
  rw [List.append_nil]
  unfold Ct Dk EB
  refine AR (τ1:=[some (.tup (hs.map Hd.toD)),none]) (μ1:=μ) (by show AZ _ [some (.tup (hs.map Hd.toD)),none] μ=_; wtm_at "own qev") (AR (Bf (ds:=hs.map Hd.toD) (μ1:=μ) rfl lp) ?_)
  wtm_at "own qev"
end
end K1
set_option maxHeartbeats 4000000
namespace K1
open PySem L2 Mi
section
variable {μ μ1 μ2 μ':Mh} {n:Nat} {l:Int} {d:D} {x y:Str} {τ τ1 τ2:Sl}
theorem Ua {xs:List Str} (h:x ∈ xs):Dv false (.str x) (.lst (xs.map D.str)) μ=some (.bl true,μ):=by
  show HY false (.str x) (.lst (xs.map D.str)) μ=_
  rw [Ho (ds:=[]) rfl,decide_eq_true h]; rfl
def kv (b:Bx):Key × D:=(.inr b.nm,.str b.wr)
theorem RL {bs:List Bx} {b:Bx} (h:b.nm ∉ bs.map Bx.nm):KP (bs.map kv) (.inr b.nm) (.str b.wr)=(bs ++ [b]).map kv:=by
  unfold KP
  rw [if_neg]
  . simp [kv]
  . intro z
    rw [List.any_eq_true] at z
    obtain ⟨p,hp,e⟩:=z
    rw [List.mem_map] at hp
    obtain ⟨c,hc,rfl⟩:=hp
    have e:=of_decide_eq_true e
    have e2:(Sum.inr c.nm:Key)=.inr b.nm:=e
    exact h (List.mem_map.mpr ⟨c,hc,Sum.inr.inj e2⟩)
theorem L6:∀ {bs:List Bx} {b:Bx},(bs.map Bx.nm).Nodup->b ∈ bs->ET (bs.map kv) (.inr b.nm)=some (.str b.wr)
  | c :: bs,b,hd,hb=>by
    unfold ET
    rw [List.map_cons,List.find?_cons]
    rw [List.map_cons,List.nodup_cons] at hd
    by_cases e:c.nm=b.nm
    . have hbc:b=c:=by
        rcases List.mem_cons.mp hb with z | z
        . exact z
        . exact absurd (show b.nm ∈ bs.map Bx.nm from List.mem_map.mpr ⟨b,z,rfl⟩) (by rw [← e]; exact hd.1)
      subst hbc
      simp [kv]
    . have hb':b ∈ bs:=by
        rcases List.mem_cons.mp hb with z | z
        . exact absurd (by rw [z]) e
        . exact z
      have:decide ((kv c).1=(Sum.inr b.nm:Key))=false:=decide_eq_false (by intro z; exact e (Sum.inr.inj (show (Sum.inr c.nm:Key)=.inr b.nm from z)))
      simp only [this]
      exact L6 hd.2 hb'
theorem Sb {mo mi mv:Sl->M D} {v:D} {L:List (Key × D)} (h1:mv τ μ=some (v,μ)) (h2:mo τ μ=some (.ref n,μ)) (h3:mi τ μ=some (.str x,μ)) (h:μ[n]? = some (.dK L)) (hl:L.length < sizeLine):LI mo mi mv τ μ=some ((.next,τ),μ.set n (.dK (KP L (.inr x) v))):=by
  unfold LI
  rw [AQ h1,AQ h2,AQ h3,AQ (Fy h)]
  show (if L.length < sizeLine then some ((Fl.next,τ),μ.set n (.dK (KP L (.inr x) v))) else none)=_
  rw [if_pos hl]
structure Mk where
  kd:Str
  sz:Int
  bg:Int
  bs:List Bx
  hs:List Hd
def Mk.toD (m:Mk):D:=.tup [.str m.kd,.int m.sz,.int m.bg,.tup (m.bs.map Bx.toD),.tup (m.hs.map Hd.toD)]
structure Mk.Ok (m:Mk):Prop where
  worth:L5 m.kd m.sz m.bg
  boxes:∀ b ∈ m.bs,GoodName b.nm /\ L5 b.kd b.sz b.bg
  most:m.bs.length <= 6
  unlike:(m.bs.map Bx.nm).Nodup
  hands:∀ h ∈ m.hs,GoodName h.nm /\ 0 <= h.wi /\ h.wi <= 400 /\ h.rs.length <= 60
  least:2 <= m.hs.length
  mosth:m.hs.length <= 4
  unlikeh:(m.hs.map Hd.nm).Nodup
  writers:∀ b ∈ m.bs,b.wr ∈ m.hs.map Hd.nm
  rows:∀ (i:Nat) (h:Hd),m.hs[i]? = some h->∀ r ∈ h.rs,r.Ok (m.bs.map kv) h.nm (i == 0) h.rs.length
theorem GP {t:D} {ns:List Str} {o4 o5:Option D}:∀ (rest done:List Bx) (o:Option D),((done ++ rest).map Bx.nm).Nodup->(done ++ rest).length <= 1000->(∀ b ∈ rest,b.wr ∈ ns)->∃ o',Bh (AN 3) (AU (AZ (AE Bd (AB (mOp (Dv false) (mOp AS (AC 3) (mC (.int 4))) (AC 1)) (AB (mC (.str "the hand of a box is none")) AH))))
    (LI (AC 2) (mOp AS (AC 3) (mC (.int 0))) (mOp AS (AC 3) (mC (.int 4))))) (rest.map Bx.toD) [some t,some (.lst (ns.map D.str)),some (.ref μ.length),o,o4,o5] (μ ++ [.dK (done.map kv)])=some ((.next,[some t,some (.lst (ns.map D.str)),some (.ref μ.length),o',o4,o5]),μ ++ [.dK ((done ++ rest).map kv)])
  | [],done,o,_,_,_=>⟨o,by rw [List.append_nil]; rfl⟩
  | b :: rest,done,o,hd,hl,h=>by
    have hz:sizeLine=16777216:=by decide
    obtain ⟨o',ih⟩:=GP (t:=t) (ns:=ns) (o4:=o4) (o5:=o5) rest (done ++ [b]) (some b.toD) (by simpa using hd) (by simpa using hl) fun q hq=>h q (by simp [hq])
    have hb:b.nm ∉ done.map Bx.nm:=by
      rw [List.map_append,List.nodup_append] at hd
      intro z
      exact hd.2.2 _ z b.nm (by simp) rfl
    have hw:=h b (by simp)
    have q:=Ua (μ:=μ ++ [.dK (done.map kv)]) hw
    have p:=Sb (μ:=μ ++ [.dK (done.map kv)]) (τ:=[some t,some (.lst (ns.map D.str)),some (.ref μ.length),some b.toD,o4,o5]) (mo:=AC 2) (mi:=mOp AS (AC 3) (mC (.int 0))) (mv:=mOp AS (AC 3) (mC (.int 4))) (v:=.str b.wr) (x:=b.nm) (n:=μ.length) (L:=done.map kv) rfl rfl rfl List.getElem?_concat_length (by simp at hl ⊢; omega)
    rw [RL hb] at p
    have e:(μ ++ [MO.dK (done.map kv)]).set μ.length (.dK ((done ++ [b]).map kv))=μ ++ [.dK ((done ++ [b]).map kv)]:=by simp
    rw [e] at p
    have ap:done ++ b :: rest=done ++ [b] ++ rest:=by simp
    rw [ap]
    refine ⟨o',Al (τ1:=[some t,some (.lst (ns.map D.str)),some (.ref μ.length),some b.toD,o4,o5]) (μ1:=μ ++ [.dK (done.map kv)]) rfl (AR (τ1:=[some t,some (.lst (ns.map D.str)),some (.ref μ.length),some b.toD,o4,o5]) (μ1:=μ ++ [.dK (done.map kv)]) ?_ p) ih⟩
    unfold Bx.toD
    wtm_at "own qev"
theorem Iv {t t1 o3:Option D} {L:List (Key × D)} (hn:μ[n]? = some (.dK L)):∀ (hs:List Hd) (k:Nat) (o4 o5:Option D),(∀ h ∈ hs,PyData.strOk h.nm=true)->(∀ (i:Nat) (h:Hd),hs[i]? = some h->∀ r ∈ h.rs,r.Ok L h.nm (i + k == 0) h.rs.length)->∃ o4' o5',
    Bh (EV [4,5]) (AZ (AE D8 (AB (AC 5) (AB (mOp BM (AC 4) (mC (.int 0))) (AB (AC 2) AH))))) (B1 k (hs.map Hd.toD)) [t,t1,some (.ref n),o3,o4,o5] μ=some ((.next,[t,t1,some (.ref n),o3,o4',o5']),μ)
  | [],k,o4,o5,_,_=>⟨o4,o5,rfl⟩
  | h :: hs,k,o4,o5,hh,hr=>by
    obtain ⟨o4',o5',ih⟩:=Iv (t:=t) (t1:=t1) (o3:=o3) hn hs (k + 1) (some (.int k)) (some h.toD) (fun q hq=>hh q (by simp [hq])) fun i q hq r hrr=>by
      have:=hr (i + 1) q (by simpa using hq) r hrr
      rw [show i + (k + 1)=i + 1 + k from by omega]
      exact this
    have hb:(((k:Nat):Int) == 0)=(0 + k == 0):=by
      rw [Nat.zero_add]
      by_cases z:k=0
      . subst z; rfl
      . rw [beq_eq_false_iff_ne.mpr z,beq_eq_false_iff_ne.mpr (by omega)]
    have c:=KA (w:=h.wi) hn (hh h (by simp)) (hr 0 h rfl)
    have e:BM (.int k) (.int 0) μ=some (.bl (0 + k == 0),μ):=by rw [NM,hb]
    refine ⟨o4',o5',Al (τ1:=[t,t1,some (.ref n),o3,some (.int k),some h.toD]) (τ2:=[t,t1,some (.ref n),o3,some (.int k),some h.toD]) (μ1:=μ) (μ2:=μ) rfl ?_ ih⟩
    exact Bt (AL (ds:=[h.toD,.bl (0 + k == 0),.ref n]) (μ1:=μ) (AM (μ1:=μ) rfl (AM (μ1:=μ) (AX (x:=.int k) (y:=.int 0) (μ1:=μ) (μ2:=μ) rfl rfl e) (AM (μ1:=μ) rfl rfl))) c)
theorem EG {m:Mk} (h:m.Ok):Be [m.toD] μ=some (.non,μ):=by
  obtain ⟨w1,w2,w3,w4,w5⟩:=h.worth
  have c1:=FO (μ:=μ) w1 w2 w3 w4 w5
  have c2:=JH (μ:=μ) h.boxes h.most h.unlike
  have c3:=JG (μ:=μ) h.hands h.least h.mosth h.unlikeh
  have c4:=GD (μ:=μ) (τ:=[some m.toD,none,none,none,none,none]) (f:=Hd.toD) (g:=Hd.nm) (xs:=m.hs) (fun a ν=>rfl) (by have:=h.mosth; omega) (ma:=mOp AS (AC 0) (mC (.int 4))) rfl
  obtain ⟨o3,l1⟩:=GP (μ:=μ) (t:=m.toD) (ns:=m.hs.map Hd.nm) (o4:=none) (o5:=none) m.bs [] none (by simpa using h.unlike) (by have:=h.most; simp; omega) h.writers
  obtain ⟨o4,o5,l2⟩:=Iv (μ:=μ ++ [.dK (([] ++ m.bs).map kv)]) (n:=μ.length) (t:=some m.toD) (t1:=some (.lst ((m.hs.map Hd.nm).map D.str))) (o3:=o3) List.getElem?_concat_length m.hs 0 none none (fun q hq=>(h.hands q hq).1.ok) (by simpa using h.rows)
  refine A0 (g:=[.dK (([] ++ m.bs).map kv)]) (τ2:=[some m.toD,some (.lst ((m.hs.map Hd.nm).map D.str)),some (.ref μ.length),o3,o4,o5]) ?_ rfl
  unfold CV
  have a1:∀ {τ:Sl},τ=[some m.toD,none,none,none,none,none]->AZ (AE Bd (AB (AE Bq (AB (AC 0) (AB (mC (.int 5)) (AB (mC (.int 5)) AH)))) (AB (mC (.str "a making is a tuple of five parts")) AH))) τ μ=some ((.next,τ),μ):=by
    intro τ e; subst e; unfold Mk.toD; wtm_at "own qev"
  have a2:AZ (AE Bz (AB (mOp AS (AC 0) (mC (.int 0))) (AB (mOp AS (AC 0) (mC (.int 1))) (AB (mOp AS (AC 0) (mC (.int 2))) AH)))) [some m.toD,none,none,none,none,none] μ=some ((.next,[some m.toD,none,none,none,none,none]),μ):=by
    unfold Mk.toD; wtm_at "own qev"
  have a3:AZ (AE Dg (AB (mOp AS (AC 0) (mC (.int 3))) AH)) [some m.toD,none,none,none,none,none] μ=some ((.next,[some m.toD,none,none,none,none,none]),μ):=by
    unfold Mk.toD; wtm_at "own qev"
  have a4:AZ (AE De (AB (mOp AS (AC 0) (mC (.int 4))) AH)) [some m.toD,none,none,none,none,none] μ=some ((.next,[some m.toD,none,none,none,none,none]),μ):=by
    unfold Mk.toD; wtm_at "own qev"
  refine AR (a1 rfl) (AR a2 (AR a3 (AR a4 (AR (τ1:=[some m.toD,some (.lst ((m.hs.map Hd.nm).map D.str)),none,none,none,none]) (μ1:=μ) (Ah c4 rfl) (AR (τ1:=[some m.toD,some (.lst ((m.hs.map Hd.nm).map D.str)),some (.ref μ.length),none,none,none]) (μ1:=μ ++ [.dK []]) rfl (AR (Bf (ds:=m.bs.map Bx.toD) (μ1:=μ ++ [.dK []]) rfl l1) (Bf (ds:=B1 0 (m.hs.map Hd.toD)) rfl l2)))))))
end
end K1
set_option maxHeartbeats 4000000
namespace K1
open PySem L2 Mi
section
variable {μ μ1 μ2 μ':Mh} {n w:Nat} {l:Int} {d:D} {x y:Str} {τ τ1 τ2:Sl}
theorem JV:∀ xs:List Str,Ek μ (xs.map D.str)=some (xs.map PyData.str)
  | []=>rfl
  | x :: r=>by
    rw [List.map_cons]; unfold Ek
    rw [JV r]; rfl
theorem Lc:∀ {xs:List Str},(∀ x ∈ xs,PyData.strOk x=true)->PyData.canLayAll0 (xs.map PyData.str)=true /\ PyData.depthAll (xs.map PyData.str)=0
  | [],_=>⟨rfl,rfl⟩
  | x :: r,h=>by
    obtain ⟨h1,h2⟩:=Lc (xs:=r) fun y hy=>h y (by simp [hy])
    refine ⟨?_,?_⟩
    . rw [List.map_cons]; unfold PyData.canLayAll0
      rw [h1,Bool.and_true]; exact h x (by simp)
    . rw [List.map_cons]; unfold PyData.depthAll
      rw [h2]; rfl
theorem LE {xs:List Str} (h:∀ x ∈ xs,PyData.strOk x=true):SeqAt.shaped (.list (xs.map PyData.str))=true:=by
  obtain ⟨h1,h2⟩:=Lc h
  show (PyData.canLayAll0 (xs.map PyData.str) && decide (PyData.depthAll (xs.map PyData.str) + 1 <= 64))=true
  rw [h1,h2]; rfl
theorem Ht {neg:Bool} {xs:List Str} (h:∀ x ∈ xs,PyData.strOk x=true):F2 neg (.lst (xs.map D.str)) (.lst []) μ=some (.bl (if neg then !(PyData.eqv (.list (xs.map PyData.str)) (.list [])) else PyData.eqv (.list (xs.map PyData.str)) (.list [])),μ):=by
  have e1:IB μ (.lst (xs.map D.str))=some (.list (xs.map PyData.str)):=by
    show (Ek μ (xs.map D.str)).map PyData.list=_
    rw [JV]; rfl
  have e2:IB μ (.lst [])=some (.list []):=rfl
  unfold F2
  rw [e1,e2]
  show (if SeqAt.shaped (.list (xs.map PyData.str))=true /\ SeqAt.shaped (.list [])=true then _ else none)=_
  rw [if_pos ⟨LE h,rfl⟩]
theorem SF:BM (.lst []) (.lst []) μ=some (.bl true,μ):=Ht (neg:=false) (xs:=[]) (by simp)
theorem Hn:Bl (.lst []) (.lst []) μ=some (.bl false,μ):=Ht (neg:=true) (xs:=[]) (by simp)
theorem QI {xs:List Str} (h:∀ x ∈ xs,PyData.strOk x=true) (hn:xs ≠ []):BM (.lst (xs.map D.str)) (.lst []) μ=some (.bl false,μ):=by
  cases xs with
  | nil=>exact absurd rfl hn
  | cons x r=>exact Ht (neg:=false) h
theorem IZ {xs:List Str} (h:∀ x ∈ xs,PyData.strOk x=true) (hn:xs ≠ []):Bl (.lst (xs.map D.str)) (.lst []) μ=some (.bl true,μ):=by
  cases xs with
  | nil=>exact absurd rfl hn
  | cons x r=>exact Ht (neg:=true) h
theorem IS {α:Type} {f:α->D} {xs:List α} {i:Int} (h1:0 <= i) (h2:i < xs.length):∃ a ∈ xs,atI (xs.map f) i=some (f a):=by
  obtain ⟨k,rfl⟩:=Int.eq_ofNat_of_zero_le h1
  have hk:k < xs.length:=by omega
  refine ⟨xs[k],List.getElem_mem hk,?_⟩
  unfold atI ixN
  rw [if_pos h1,if_pos (by rw [List.length_map]; exact h2)]
  show (xs.map f)[(k:Int).toNat]? = _
  simp [hk]
theorem Ex.cl {k:Nat}:∀ e:Ex,Cl k e.toD
  | .num _=>by simp [Ex.toD,Cl,ClL]
  | .var _=>by simp [Ex.toD,Cl,ClL]
  | .neg e=>by have:=Ex.cl (k:=k) e; simp [Ex.toD,Cl,ClL,this]
  | .pair _ a b=>by have h1:=Ex.cl (k:=k) a; have h2:=Ex.cl (k:=k) b; simp [Ex.toD,Cl,ClL,h1,h2]
end
end K1
local macro_rules | `(tactic| wtm_at "own qleaf")=>`(tactic| first
  | with_reducible assumption | (with_reducible apply K1.SF) | (with_reducible apply K1.Hn) | ((with_reducible apply K1.QI); (assumption); (assumption)) | ((with_reducible apply K1.IZ); (assumption); (assumption)) | ((with_reducible apply K1.l_minT); omega) | ((with_reducible apply K1.l_minF); omega) | ((with_reducible apply Mi.FI); assumption))
namespace K1
open PySem L2 Mi
section
variable {μ μ1 μ2 μ':Mh} {n w:Nat} {l:Int} {d:D} {x y:Str} {τ τ1 τ2:Sl}
noncomputable abbrev Sx:Sl->M (Fl × Sl):=(AU (sIf (mOr (AY (mOp BM (AC 1) (AE A7 AH))) (AY (mOp BM (AE BH (AB (AC 0) (AB (mC (.int 2)) AH))) (mC (.int 0))))) (A5 (AE Aw (AB (mC (.str "num")) (AB (AE BH (AB (AC 0) (AB (mC (.int 10)) AH))) AH)))) BI)
    (A5 (AE Aw (AB (mC (.str "var")) (AB (mOp AS (AC 1) (AE BH (AB (AC 0) (AB (AE BO (AB (AC 1) AH)) AH)))) AH)))))
theorem SC {k:Nat} {j r1:Int} {ns:List Str} (hw:WellAt μ w) (hns:∀ x ∈ ns,GoodName x) (hl:ns.length <= 1000):∃ (e:Ex) (μ':Mh) (τ':Sl),Sx [some (.ref w),some (.lst (ns.map D.str)),some (.int j),some (.int r1),none,none,none] μ=some ((.rt e.toD,τ'),μ') /\ e.Ok (k + 1) /\ (∀ x ∈ e.vars,x ∈ ns) /\ Upd w μ μ':=by
  by_cases h0:ns=[]
  . subst h0
    obtain ⟨r2,μ2,d2,a2,b2,u2⟩:=CJ (b:=10) hw (by decide) (by decide)
    refine ⟨.num r2,μ2,[some (.ref w),some (.lst []),some (.int j),some (.int r1),none,none,none],?_,⟨a2,by omega⟩,by simp [Ex.vars],u2⟩
    unfold Ex.toD
    show Sx [some (.ref w),some (.lst []),some (.int j),some (.int r1),none,none,none] μ=_
    wtm_at "own qev"
  . have hok:∀ x ∈ ns,PyData.strOk x=true:=fun x hx=>(hns x hx).ok
    obtain ⟨r2,μ2,d2,a2,b2,u2⟩:=CJ (b:=2) hw (by decide) (by decide)
    have w2:=u2.well hw.lt
    by_cases hr:r2=0
    . obtain ⟨r3,μ3,d3,a3,b3,u3⟩:=CJ (b:=10) w2 (by decide) (by decide)
      refine ⟨.num r3,μ3,[some (.ref w),some (.lst (ns.map D.str)),some (.int j),some (.int r1),none,none,none],?_,⟨a3,by omega⟩,by simp [Ex.vars],u2.trans u3⟩
      unfold Ex.toD
      wtm_at "own qev"
    . have hp:0 < ns.length:=List.length_pos_iff.mpr h0
      obtain ⟨r3,μ3,d3,a3,b3,u3⟩:=CJ (b:=((ns.map D.str).length:Nat)) w2 (by simp; omega) (by simp; omega)
      obtain ⟨x,hx,px⟩:=IS (f:=D.str) (xs:=ns) a3 (by simpa using b3)
      refine ⟨.var x,μ3,[some (.ref w),some (.lst (ns.map D.str)),some (.int j),some (.int r1),none,none,none],?_,hns x hx,by simp [Ex.vars,hx],u2.trans u3⟩
      unfold Ex.toD
      wtm_at "own qev"
end
end K1
set_option maxHeartbeats 4000000
namespace K1
open PySem L2 Mi
section
variable {μ μ1 μ2 μ':Mh} {n w:Nat} {l:Int} {d:D} {x y:Str} {τ τ1 τ2:Sl}
theorem Upd.fin {N ps:Nat} {mb:Sl->M (Fl × Sl)} {ds:List D} (e:mb (BW N ds) μ=some ((.rt d,τ2),μ1)) (hl:ds.length=ps) (u:Upd w μ μ1) (c:Cl μ.length d):Ax .drop N ps mb ds μ=some (d,μ1):=
  Fw (g:=[]) (by rw [List.append_nil]; exact e) hl u c
theorem Oq {i:Int} (h1:4 <= i) (h2:i < 10):∃ x ∈ G9,atI [D.str "+",.str "-",.str "=",.str "<",.str "and",.str "or"] (i - 4)=some (.str x):=
  IS (f:=D.str) (xs:=G9) (by omega) (by show i - 4 < 6; omega)
theorem H9 {w:Nat} {ns:List Str} (hns:∀ x ∈ ns,GoodName x) (hl:ns.length <= 1000):∀ (k n:Nat) (j:Int) (μ:Mh),j=k->1 <= k->k <= n->WellAt μ w->∃ (e:Ex) (μ':Mh),DS n [.ref w,.lst (ns.map D.str),.int j] μ=some (e.toD,μ') /\ e.Ok k /\ (∀ x ∈ e.vars,x ∈ ns) /\ Upd w μ μ'
  | 0,_,_,_,_,h,_,_=>by omega
  | _ + 1,0,_,_,_,_,h,_=>by omega
  | k + 1,n + 1,j,μ,hj,_,hn,hw=>by
    obtain ⟨r1,μ1,d1,a1,b1,u1⟩:=CJ (b:=10) hw (by decide) (by decide)
    have w1:=u1.well hw.lt
    by_cases c:j=1 ∨ r1 < 3
    . obtain ⟨e,μ',τ',q,ok,vs,u⟩:=SC (k:=k) (j:=j) (r1:=r1) w1 hns hl
      refine ⟨e,μ',?_,ok,vs,u1.trans u⟩
      refine Upd.fin (τ2:=τ') ?_ rfl (u1.trans u) (Ex.cl e)
      have t:mOr (AY (mOp BM (AC 2) (mC (.int 1)))) (AY (mOp GB (AC 3) (mC (.int 3)))) [some (.ref w),some (.lst (ns.map D.str)),some (.int j),some (.int r1),none,none,none] μ1=some (true,μ1):=by
        by_cases c1:j=1
        . wtm_at "own qev"
        . have c2:r1 < 3:=by omega
          wtm_at "own qev"
      exact AR (τ1:=[some (.ref w),some (.lst (ns.map D.str)),some (.int j),some (.int r1),none,none,none]) (μ1:=μ1) (Ah (AL (ds:=[.ref w,.int 10]) (μ1:=μ) rfl d1) rfl) (FC (Cn t q))
    . have c1:j ≠ 1:=by omega
      have c2:3 <= r1:=by omega
      by_cases c3:r1=3
      . obtain ⟨e,μ',q,ok,vs,u⟩:=H9 hns hl k n (j - 1) μ1 (by omega) (by omega) (by omega) w1
        refine ⟨.neg e,μ',?_,ok,vs,u1.trans u⟩
        refine Upd.fin (τ2:=[some (.ref w),some (.lst (ns.map D.str)),some (.int j),some (.int r1),none,none,none]) ?_ rfl (u1.trans u) (Ex.cl (.neg e))
        unfold Ex.toD
        refine AR (τ1:=[some (.ref w),some (.lst (ns.map D.str)),some (.int j),some (.int r1),none,none,none]) (μ1:=μ1) (Ah (AL (ds:=[.ref w,.int 10]) (μ1:=μ) rfl d1) rfl) ?_
        wtm_at "own qev"
      . have c4:4 <= r1:=by omega
        obtain ⟨wd,hwd,pw⟩:=Oq c4 b1
        obtain ⟨a,μ2,q2,ok2,vs2,u2⟩:=H9 hns hl k n (j - 1) μ1 (by omega) (by omega) (by omega) w1
        have w2:=u2.well w1.lt
        obtain ⟨b,μ3,q3,ok3,vs3,u3,kb,j2,m2⟩:∃ (b:Ex) (μ3:Mh),DS n [.ref w,.lst (ns.map D.str),.int (if 2 < j - 1 then 2 else j - 1)] μ2=some (b.toD,μ3) /\ b.Ok k /\ (∀ x ∈ b.vars,x ∈ ns) /\ Upd w μ2 μ3 /\ True /\ True /\ True:=by
          by_cases z:2 < j - 1
          . obtain ⟨b,μ3,q3,ok3,vs3,u3⟩:=H9 hns hl (min k 2) n 2 μ2 (by omega) (by omega) (by omega) w2
            exact ⟨b,μ3,by rw [if_pos z]; exact q3,ok3.mono (by omega),vs3,u3,trivial,trivial,trivial⟩
          . obtain ⟨b,μ3,q3,ok3,vs3,u3⟩:=H9 hns hl k n (j - 1) μ2 (by omega) (by omega) (by omega) w2
            exact ⟨b,μ3,by rw [if_neg z]; exact q3,ok3,vs3,u3,trivial,trivial,trivial⟩
        have w3:=u3.well w2.lt
        obtain ⟨r4,μ4,d4,a4,b4,u4⟩:=CJ (b:=2) w3 (by decide) (by decide)
        have U:=u1.trans (u2.trans (u3.trans u4))
        have mn:LY [.int (j - 1),.int 2] μ2=some (.int (if 2 < j - 1 then 2 else j - 1),μ2):=rfl
        have fin:∀ (e:Ex),atI [D.tup [.str wd,a.toD,b.toD],.tup [.str wd,b.toD,a.toD]] r4=some e.toD->DS (n + 1) [.ref w,.lst (ns.map D.str),.int j] μ=some (e.toD,μ4):=by
          intro e he
          refine Upd.fin (τ2:=[some (.ref w),some (.lst (ns.map D.str)),some (.int j),some (.int r1),some (.str wd),some a.toD,some b.toD]) ?_ rfl U (Ex.cl e)
          refine AR (τ1:=[some (.ref w),some (.lst (ns.map D.str)),some (.int j),some (.int r1),none,none,none]) (μ1:=μ1) (Ah (AL (ds:=[.ref w,.int 10]) (μ1:=μ) rfl d1) rfl) ?_
          refine AR (τ1:=[some (.ref w),some (.lst (ns.map D.str)),some (.int j),some (.int r1),none,none,none]) (μ1:=μ1) (by wtm_at "own qev") ?_
          refine AR (τ1:=[some (.ref w),some (.lst (ns.map D.str)),some (.int j),some (.int r1),none,none,none]) (μ1:=μ1) (by wtm_at "own qev") ?_
          refine AR (τ1:=[some (.ref w),some (.lst (ns.map D.str)),some (.int j),some (.int r1),some (.str wd),none,none]) (μ1:=μ1) (Ah (d:=.str wd) (μ1:=μ1) (by wtm_at "own qev") rfl) ?_
          refine AR (τ1:=[some (.ref w),some (.lst (ns.map D.str)),some (.int j),some (.int r1),some (.str wd),some a.toD,none]) (μ1:=μ2) (Ah (d:=a.toD) (μ1:=μ2) (by wtm_at "own qev") rfl) ?_
          refine AR (τ1:=[some (.ref w),some (.lst (ns.map D.str)),some (.int j),some (.int r1),some (.str wd),some a.toD,some b.toD]) (μ1:=μ3) (Ah (d:=b.toD) (μ1:=μ3) (AL (ds:=[.ref w,.lst (ns.map D.str),.int (if 2 < j - 1 then 2 else j - 1)]) (μ1:=μ2) rfl q3) rfl) ?_
          wtm_at "own qev"
        by_cases z:r4=0
        . refine ⟨.pair wd a b,μ4,fin _ (by subst z; rfl),⟨hwd,ok2,ok3⟩,fun x hx=>?_,U⟩
          rcases List.mem_append.mp (show x ∈ a.vars ++ b.vars from hx) with q | q
          . exact vs2 x q
          . exact vs3 x q
        . have z1:r4=1:=by omega
          refine ⟨.pair wd b a,μ4,fin _ (by subst z1; rfl),⟨hwd,ok3,ok2⟩,fun x hx=>?_,U⟩
          rcases List.mem_append.mp (show x ∈ b.vars ++ a.vars from hx) with q | q
          . exact vs3 x q
          . exact vs2 x q
end
end K1
set_option maxHeartbeats 4000000
namespace K1
open PySem L2 Mi
def F0 (ns:List Str) (wr:Bool):List Str:=ns ++ (if wr then (["v"]:List Str) else [])
def Rw.From (own bxs ns:List Str):Rw->Prop
  | .put bx _=>bx ∈ own
  | .get x bx=>x ∈ ns /\ bx ∈ bxs
  | .letr x _=>x ∈ ns
  | _=>True
structure Rw.Drawn (own bxs ns:List Str) (wr:Bool) (l:Int) (r:Rw):Prop where
  form:r.Form l
  ends:r.EndOk wr
  vars:∀ x ∈ r.vars,x ∈ F0 ns wr
  frm:r.From own bxs ns
section
variable {μ μ1 μ2 μ':Mh} {n w:Nat} {l:Int} {d:D} {x y:Str} {τ τ1 τ2:Sl}
theorem Rw.cl {k:Nat} (r:Rw):Cl k r.toD:=by
  cases r with
  | put bx e=>have:=Ex.cl (k:=k) e; simp [Rw.toD,Cl,ClL,this]
  | letr bx e=>have:=Ex.cl (k:=k) e; simp [Rw.toD,Cl,ClL,this]
  | «unless» e t=>have:=Ex.cl (k:=k) e; simp [Rw.toD,Cl,ClL,this]
  | tell e=>have:=Ex.cl (k:=k) e; simp [Rw.toD,Cl,ClL,this]
  | _=>simp [Rw.toD,Cl,ClL]
theorem Sd {i:Int} (h1:0 <= i) (h2:i < 4):∃ k:Int,1 <= k /\ k <= 5 /\ atI [D.int 1,.int 2,.int 3,.int 5] i=some (.int k):=by
  obtain ⟨k,hk,e⟩:=IS (f:=D.int) (xs:=[1,2,3,5]) h1 (by show i < 4; exact h2)
  simp at hk
  exact ⟨k,by omega,by omega,e⟩
theorem Q0 {ns:List Str} {wr:Bool} (hl:ns.length <= 1000) {τ:Sl} (h3:τ[3]? = some (some (.lst (ns.map D.str)))) (h5:τ[5]? = some (some (.bl wr))):mOp DM (AC 3) (mOp Er (AE A7 (AB (mC (.str "v")) AH)) (AE Ie (AB (AC 5) AH))) τ μ=some (.lst ((F0 ns wr).map D.str),μ):=by
  have hz:sizeLine=16777216:=by decide
  have s3:AC 3 τ μ=some (.lst (ns.map D.str),μ):=Dh h3
  have s5:AC 5 τ μ=some (.bl wr,μ):=Dh h5
  cases wr with
  | true=>
    have m:Er (.lst [.str "v"]) (.int 1) μ=some (.lst [.str "v"],μ):=rfl
    have a:DM (.lst (ns.map D.str)) (.lst [.str "v"]) μ=some (.lst (ns.map D.str ++ [.str "v"]),μ):=BY (by simp; omega)
    have e:(F0 ns true).map D.str=ns.map D.str ++ [.str "v"]:=by simp [F0]
    rw [e]
    exact AX s3 (AX (x:=.lst [.str "v"]) (y:=.int 1) (μ1:=μ) (μ2:=μ) rfl (AL (ds:=[.bl true]) (μ1:=μ) (AM s5 rfl) rfl) m) a
  | false=>
    have m:Er (.lst [.str "v"]) (.int 0) μ=some (.lst [],μ):=rfl
    have a:DM (.lst (ns.map D.str)) (.lst []) μ=some (.lst (ns.map D.str ++ []),μ):=BY (by simp; omega)
    have e:(F0 ns false).map D.str=ns.map D.str ++ []:=by simp [F0]
    rw [e]
    exact AX s3 (AX (x:=.lst [.str "v"]) (y:=.int 0) (μ1:=μ) (μ2:=μ) rfl (AL (ds:=[.bl false]) (μ1:=μ) (AM s5 rfl) rfl) m) a
theorem U6 {w:Nat} {own bxs ns:List Str} {many:Int} {wr:Bool} (hw:WellAt μ w) (hm:0 <= many) (hm2:many <= 60) (ho:∀ x ∈ own,GoodName x) (hb:∀ x ∈ bxs,GoodName x) (hn:∀ x ∈ ns,GoodName x) (hne:ns ≠ []) (lo:own.length <= 100) (lb:bxs.length <= 100) (ln:ns.length <= 100) :
    ∃ (r:Rw) (μ':Mh),Il [.ref w,.lst (own.map D.str),.lst (bxs.map D.str),.lst (ns.map D.str),.int many,.bl wr] μ=some (r.toD,μ') /\ r.Drawn own bxs ns wr many /\ Upd w μ μ':=by
  obtain ⟨r1,μ1,d1,a1,b1,u1⟩:=CJ (b:=8) hw (by decide) (by decide)
  have w1:=u1.well hw.lt
  obtain ⟨r2,μ2,d2,a2,b2,u2⟩:=CJ (b:=4) w1 (by decide) (by decide)
  have w2:=u2.well w1.lt
  obtain ⟨k0,k1,k2,ka⟩:=Sd a2 b2
  have ho':∀ x ∈ own,PyData.strOk x=true:=fun x hx=>(ho x hx).ok
  have hb':∀ x ∈ bxs,PyData.strOk x=true:=fun x hx=>(hb x hx).ok
  have hs:∀ x ∈ F0 ns wr,GoodName x:=by
    intro x hx
    rcases List.mem_append.mp (show x ∈ ns ++ (if wr then (["v"]:List Str) else []) from hx) with z | z
    . exact hn x z
    . cases wr with
      | true=>
        simp at z; subst z
        exact ⟨by decide +kernel,by decide +kernel,by unfold FF; decide +kernel⟩
      | false=>simp at z
  have hsl:(F0 ns wr).length <= 1000:=by
    unfold F0; rw [List.length_append]; cases wr <;> simp <;> omega
  obtain ⟨k,k3,k4,kd⟩:∃ k:Int,1 <= k /\ k <= 5 /\ sIf (AY (mOp KO (AC 4) (mC (.int 9)))) (An (AE LY (AB (AC 7) (AB (mC (.int 2)) AH))) (AN 7)) BI [some (.ref w),some (.lst (own.map D.str)),some (.lst (bxs.map D.str)),some (.lst (ns.map D.str)),some (.int many),some (.bl wr),some (.int r1),some (.int k0),none] μ2=some ((.next,[some (.ref w),some (.lst (own.map D.str)),some (.lst (bxs.map D.str)),some (.lst (ns.map D.str)),some (.int many),some (.bl wr),some (.int r1),some (.int k),none]),μ2):=by
    by_cases c:9 < many
    . refine ⟨if 2 < k0 then 2 else k0,by split <;> omega,by split <;> omega,?_⟩
      exact Cn (μ1:=μ2) (by wtm_at "own qev") (Ah (d:=.int (if 2 < k0 then 2 else k0)) (μ1:=μ2) (AL (ds:=[.int k0,.int 2]) (μ1:=μ2) rfl rfl) rfl)
    . refine ⟨k0,k1,k2,?_⟩
      wtm_at "own qev"
  have kn:((k.toNat:Nat):Int)=k:=by omega
  have X:∀ ν:Mh,WellAt ν w->∃ (e:Ex) (μ':Mh),DS 6 [.ref w,.lst ((F0 ns wr).map D.str),.int k] ν=some (e.toD,μ') /\ e.Ok 5 /\ (∀ x ∈ e.vars,x ∈ F0 ns wr) /\ Upd w ν μ':=by
    intro ν hν
    obtain ⟨e,μ',q,ok,vs,u⟩:=H9 hs hsl k.toNat 6 k ν kn.symm (by omega) (by omega) hν
    exact ⟨e,μ',q,ok.mono (by omega),vs,u⟩
  have P:∀ (r:Rw) (μ':Mh) (τ':Sl),Upd w μ2 μ'->
      (AU (sIf (FX (AY (mOp GB (AC 6) (mC (.int 2)))) (AY (mOp Bl (AC 1) (AE A7 AH)))) (A5 (AE Aw (AB (mC (.str "put")) (AB (mOp AS (AC 1) (AE BH (AB (AC 0) (AB (AE BO (AB (AC 1) AH)) AH)))) (AB (AE (DS 6) (AB (AC 0) (AB (AC 8) (AB (AC 7) AH)))) AH))))) BI)
    (AU (sIf (FX (AY (mOp GB (AC 6) (mC (.int 4)))) (AY (mOp Bl (AC 2) (AE A7 AH)))) (A5 (AE Aw (AB (mC (.str "get")) (AB (mOp AS (AC 3) (AE BH (AB (AC 0) (AB (AE BO (AB (AC 3) AH)) AH)))) (AB (mOp AS (AC 2) (AE BH (AB (AC 0) (AB (AE BO (AB (AC 2) AH)) AH)))) AH))))) BI)
    (AU (sIf (AY (mOp GB (AC 6) (mC (.int 5)))) (A5 (AE Aw (AB (mC (.str "let")) (AB (mOp AS (AC 3) (AE BH (AB (AC 0) (AB (AE BO (AB (AC 3) AH)) AH)))) (AB (AE (DS 6) (AB (AC 0) (AB (AC 8) (AB (AC 7) AH)))) AH))))) BI)
    (AU (sIf (AY (mOp BM (AC 6) (mC (.int 5)))) (A5 (AE Aw (AB (mC (.str "unless")) (AB (AE (DS 6) (AB (AC 0) (AB (AC 8) (AB (AC 7) AH)))) (AB (AE BH (AB (AC 0) (AB (mOp DM (AC 4) (mC (.int 1))) AH))) AH))))) BI)
    (AU (sIf (AY (mOp BM (AC 6) (mC (.int 6)))) (A5 (AE Aw (AB (mC (.str "jump")) (AB (AE BH (AB (AC 0) (AB (mOp DM (AC 4) (mC (.int 1))) AH))) AH)))) BI)
    (A5 (mOp AS (AE A7 (AB (AE Aw (AB (mC (.str "tell")) (AB (AE (DS 6) (AB (AC 0) (AB (AC 8) (AB (AC 7) AH)))) AH))) (AB (AE Aw (AB (mC (.str "done")) AH)) AH))) (AE Ie (AB (AC 5) AH))))))))) [some (.ref w),some (.lst (own.map D.str)),some (.lst (bxs.map D.str)),some (.lst (ns.map D.str)),some (.int many),some (.bl wr),some (.int r1),some (.int k),some (.lst ((F0 ns wr).map D.str))] μ2=some ((.rt r.toD,τ'),μ')->
      Il [.ref w,.lst (own.map D.str),.lst (bxs.map D.str),.lst (ns.map D.str),.int many,.bl wr] μ=some (r.toD,μ'):=by
    intro r μ' τ' u q
    refine Upd.fin (τ2:=τ') ?_ rfl (u1.trans (u2.trans u)) (Rw.cl r)
    refine AR (τ1:=[some (.ref w),some (.lst (own.map D.str)),some (.lst (bxs.map D.str)),some (.lst (ns.map D.str)),some (.int many),some (.bl wr),some (.int r1),none,none]) (μ1:=μ1) (Ah (AL (ds:=[.ref w,.int 8]) (μ1:=μ) rfl d1) rfl) ?_
    refine AR (τ1:=[some (.ref w),some (.lst (own.map D.str)),some (.lst (bxs.map D.str)),some (.lst (ns.map D.str)),some (.int many),some (.bl wr),some (.int r1),some (.int k0),none]) (μ1:=μ2) (Ah (d:=.int k0) (μ1:=μ2) (by wtm_at "own qev") rfl) ?_
    refine AR kd ?_
    exact AR (Ah (Q0 (by omega) rfl rfl) rfl) q
  have hlen:∀ xs:List Str,xs.length <= 100->xs ≠ []->(0:Int) < ((xs.map D.str).length:Nat) /\ (((xs.map D.str).length:Nat):Int) < 1073741824:=by
    intro xs h1 h2
    have:=List.length_pos_iff.mpr h2
    simp; omega
  by_cases cA:r1 < 2 /\ own ≠ []
  . obtain ⟨cA1,cA2⟩:=cA
    obtain ⟨p1,p2⟩:=hlen own lo cA2
    obtain ⟨r3,μ3,d3,a3,b3,u3⟩:=CJ w2 p1 p2
    obtain ⟨bx,hbx,px⟩:=IS (f:=D.str) (xs:=own) a3 (by simpa using b3)
    obtain ⟨e,μ4,q4,ok,vs,u4⟩:=X μ3 (u3.well w2.lt)
    refine ⟨.put bx e,μ4,P _ μ4 _ (u3.trans u4) (FC (Cn (CG (Aa (AX (x:=.int r1) (μ1:=μ2) rfl GL (OJ cA1))) (Aa (AX (x:=.lst (own.map D.str)) (μ1:=μ2) rfl (AL (ds:=[]) (μ1:=μ2) rfl (BY (by decide))) (IZ ho' cA2)))) (BB (AL (ds:=[.str "put",.str bx,e.toD]) (μ1:=μ4) (AM (μ1:=μ2) GL (AM (μ1:=μ3) (AX (x:=.lst (own.map D.str)) (y:=.int r3) (μ1:=μ2) (μ2:=μ3) rfl (AL (ds:=[.ref w,.int ((own.map D.str).length:Nat)]) (μ1:=μ2) rfl d3) (FI px)) (AM (μ1:=μ4) (AL (ds:=[.ref w,.lst ((F0 ns wr).map D.str),.int k]) (μ1:=μ3) rfl q4) rfl))) (BG (show 3 <= sizeLine by decide)))))),⟨⟨ho bx hbx,ok⟩,trivial,vs,hbx⟩,u1.trans (u2.trans (u3.trans u4))⟩
  have tA:∀ {τ:Sl},τ[1]? = some (some (.lst (own.map D.str)))->τ[6]? = some (some (.int r1))->FX (AY (mOp GB (AC 6) (mC (.int 2)))) (AY (mOp Bl (AC 1) (AE A7 AH))) τ μ2=some (false,μ2):=by
    intro τ h1 h6
    have s1:AC 1 τ μ2=some (.lst (own.map D.str),μ2):=Dh h1
    have s6:AC 6 τ μ2=some (.int r1,μ2):=Dh h6
    by_cases c:r1 < 2
    . have c0:own=[]:=by rcases Classical.em (own=[]) with z | z; exact z; exact absurd ⟨c,z⟩ cA
      subst c0
      exact CG (Aa (AX s6 GL (OJ c))) (Aa (AX s1 (AL (ds:=[]) (μ1:=μ2) rfl (BY (by decide))) Hn))
    . exact Dj (Aa (AX s6 GL (QE (by omega))))
  have tA':=tA (τ:=[some (.ref w),some (.lst (own.map D.str)),some (.lst (bxs.map D.str)),some (.lst (ns.map D.str)),some (.int many),some (.bl wr),some (.int r1),some (.int k),some (.lst ((F0 ns wr).map D.str))]) rfl rfl
  by_cases cB:r1 < 4 /\ bxs ≠ []
  . obtain ⟨cB1,cB2⟩:=cB
    obtain ⟨p1,p2⟩:=hlen ns ln hne
    obtain ⟨r3,μ3,d3,a3,b3,u3⟩:=CJ w2 p1 p2
    obtain ⟨x,hx,px⟩:=IS (f:=D.str) (xs:=ns) a3 (by simpa using b3)
    have w3:=u3.well w2.lt
    obtain ⟨p3,p4⟩:=hlen bxs lb cB2
    obtain ⟨r4,μ4,d4,a4,b4,u4⟩:=CJ w3 p3 p4
    obtain ⟨bx,hbx,pb⟩:=IS (f:=D.str) (xs:=bxs) a4 (by simpa using b4)
    refine ⟨.get x bx,μ4,P _ μ4 _ (u3.trans u4) (AR (BC tA' rfl) (FC (Cn (CG (Aa (AX (x:=.int r1) (μ1:=μ2) rfl GL (OJ cB1))) (Aa (AX (x:=.lst (bxs.map D.str)) (μ1:=μ2) rfl (AL (ds:=[]) (μ1:=μ2) rfl (BY (by decide))) (IZ hb' cB2)))) (BB (AL (ds:=[.str "get",.str x,.str bx]) (μ1:=μ4) (AM (μ1:=μ2) GL (AM (μ1:=μ3) (AX (x:=.lst (ns.map D.str)) (y:=.int r3) (μ1:=μ2) (μ2:=μ3) rfl (AL (ds:=[.ref w,.int ((ns.map D.str).length:Nat)]) (μ1:=μ2) rfl d3) (FI px)) (AM (μ1:=μ4) (AX (x:=.lst (bxs.map D.str)) (y:=.int r4) (μ1:=μ3) (μ2:=μ4) rfl (AL (ds:=[.ref w,.int ((bxs.map D.str).length:Nat)]) (μ1:=μ3) rfl d4) (FI pb)) rfl))) (BG (show 3 <= sizeLine by decide))))))),⟨⟨hn x hx,hb bx hbx⟩,trivial,?_,hx,hbx⟩,u1.trans (u2.trans (u3.trans u4))⟩
    intro y hy
    have:y=x:=by simpa [Rw.vars] using hy
    subst this
    exact List.mem_append_left _ hx
  have tB':FX (AY (mOp GB (AC 6) (mC (.int 4)))) (AY (mOp Bl (AC 2) (AE A7 AH))) [some (.ref w),some (.lst (own.map D.str)),some (.lst (bxs.map D.str)),some (.lst (ns.map D.str)),some (.int many),some (.bl wr),some (.int r1),some (.int k),some (.lst ((F0 ns wr).map D.str))] μ2=some (false,μ2):=by
    by_cases c:r1 < 4
    . have c0:bxs=[]:=by rcases Classical.em (bxs=[]) with z | z; exact z; exact absurd ⟨c,z⟩ cB
      subst c0
      exact CG (Aa (AX (x:=.int r1) (μ1:=μ2) rfl GL (OJ c))) (Aa (AX (x:=.lst []) (μ1:=μ2) rfl (AL (ds:=[]) (μ1:=μ2) rfl (BY (by decide))) Hn))
    . exact Dj (Aa (AX (x:=.int r1) (μ1:=μ2) rfl GL (QE (by omega))))
  by_cases cC:r1 < 5
  . obtain ⟨p1,p2⟩:=hlen ns ln hne
    obtain ⟨r3,μ3,d3,a3,b3,u3⟩:=CJ w2 p1 p2
    obtain ⟨x,hx,px⟩:=IS (f:=D.str) (xs:=ns) a3 (by simpa using b3)
    obtain ⟨e,μ4,q4,ok,vs,u4⟩:=X μ3 (u3.well w2.lt)
    refine ⟨.letr x e,μ4,P _ μ4 _ (u3.trans u4) (AR (BC tA' rfl) (AR (BC tB' rfl) (FC (Cn (Aa (AX (x:=.int r1) (μ1:=μ2) rfl GL (OJ cC))) (BB (AL (ds:=[.str "let",.str x,e.toD]) (μ1:=μ4) (AM (μ1:=μ2) GL (AM (μ1:=μ3) (AX (x:=.lst (ns.map D.str)) (y:=.int r3) (μ1:=μ2) (μ2:=μ3) rfl (AL (ds:=[.ref w,.int ((ns.map D.str).length:Nat)]) (μ1:=μ2) rfl d3) (FI px)) (AM (μ1:=μ4) (AL (ds:=[.ref w,.lst ((F0 ns wr).map D.str),.int k]) (μ1:=μ3) rfl q4) rfl))) (BG (show 3 <= sizeLine by decide)))))))),⟨⟨hn x hx,ok⟩,trivial,?_,hx⟩,u1.trans (u2.trans (u3.trans u4))⟩
    intro y hy
    rcases List.mem_cons.mp (show y ∈ x :: e.vars from hy) with z | z
    . subst z; exact List.mem_append_left _ hx
    . exact vs y z
  by_cases cD:r1=5
  . obtain ⟨e,μ3,q3,ok,vs,u3⟩:=X μ2 w2
    obtain ⟨r4,μ4,d4,a4,b4,u4⟩:=CJ (b:=many + 1) (u3.well w2.lt) (by omega) (by omega)
    have cC':5 <= r1:=by omega
    exact ⟨.unless e r4,μ4,P _ μ4 _ (u3.trans u4) (by simp only [Rw.toD]; exact AR (BC tA' rfl) (AR (BC tB' rfl) (by wtm_at "own qev"))),⟨⟨ok,a4,by omega⟩,trivial,vs,trivial⟩,u1.trans (u2.trans (u3.trans u4))⟩
  by_cases cE:r1=6
  . obtain ⟨r4,μ4,d4,a4,b4,u4⟩:=CJ (b:=many + 1) w2 (by omega) (by omega)
    have cC':5 <= r1:=by omega
    exact ⟨.jump r4,μ4,P _ μ4 _ u4 (by simp only [Rw.toD]; exact AR (BC tA' rfl) (AR (BC tB' rfl) (by wtm_at "own qev"))),⟨⟨a4,by omega⟩,trivial,by simp [Rw.vars],trivial⟩,u1.trans (u2.trans u4)⟩
  . obtain ⟨e,μ3,q3,ok,vs,u3⟩:=X μ2 w2
    have cC':5 <= r1:=by omega
    cases wr with
    | true=>
      have ii:Ie [.bl true] μ3=some (.int 1,μ3):=rfl
      exact ⟨.done,μ3,P _ μ3 _ u3 (by simp only [Rw.toD]; exact AR (BC tA' rfl) (AR (BC tB' rfl) (by wtm_at "own qev"))),⟨trivial,rfl,by simp [Rw.vars],trivial⟩,u1.trans (u2.trans u3)⟩
    | false=>
      have ii:Ie [.bl false] μ3=some (.int 0,μ3):=rfl
      exact ⟨.tell e,μ3,P _ μ3 _ u3 (by simp only [Rw.toD]; exact AR (BC tA' rfl) (AR (BC tB' rfl) (by wtm_at "own qev"))),⟨ok,rfl,vs,trivial⟩,u1.trans (u2.trans u3)⟩
end
end K1
set_option maxHeartbeats 4000000
namespace K1
open PySem L2 Mi
section
variable {μ μ1 μ2 μ' g:Mh} {n w:Nat} {l:Int} {d:D} {x y:Str} {τ τ1 τ2:Sl}
theorem WellAt.app (h:WellAt μ w):WellAt (μ ++ g) w:=by
  have hl:=h.lt
  obtain ⟨a,m,c,h,ha⟩:=h
  exact ⟨a,m,c,by rw [List.getElem?_append_left hl]; exact h,ha⟩
theorem Cz {b:Int} (hw:WellAt μ w) (hb:0 < b) (hb2:b < 1073741824):∃ r μ',BH [.ref w,.int b] (μ ++ g)=some (.int r,μ' ++ g) /\ 0 <= r /\ r < b /\ Upd w μ μ':=by
  obtain ⟨r,ν,e,h1,h2,u⟩:=CJ (hw.app (g:=g)) hb hb2
  obtain ⟨μ',u',rfl⟩:=u.app hw.lt
  exact ⟨r,μ',e,h1,h2,u'⟩
theorem TJ:∀ ns:List Int,∃ c:Int,ES [.scr ns,.int 0] μ=some (.int c,μ)
  | []=>by
    have l:BO [.scr []] μ=some (.int 0,μ):=rfl
    exact ⟨0,Ae (g:=[]) (τ2:=_) (by rw [List.append_nil]; unfold DZ; wtm_at "own qev") rfl (by unfold Cl; trivial)⟩
  | c :: ns=>by
    have l:BO [.scr (c :: ns)] μ=some (.int ((((c :: ns).map D.int).length:Nat):Int),μ):=rfl
    have h0:(0:Int) < ((((c :: ns).map D.int).length:Nat):Int):=by simp
    have i:AS (.scr (c :: ns)) (.int 0) μ=some (.int c,μ):=by
      show bnd (Ba (.scr (c :: ns))) (fun ds=>ixD ds 0) μ=_
      rw [AQ (show Ba (.scr (c :: ns)) μ=some ((c :: ns).map D.int,μ) from rfl)]
      unfold ixD
      rw [show atI ((c :: ns).map D.int) 0=some (.int c) from by
        unfold atI ixN; rw [if_pos (by decide),if_pos h0]; rfl]
      rfl
    exact ⟨c,Ae (g:=[]) (τ2:=_) (by rw [List.append_nil]; unfold DZ; wtm_at "own qev") rfl (by unfold Cl; trivial)⟩
theorem V0:Pg (.int 10) (.int 9) μ=some (.int 1000000000,μ):=by
  show (if (0:Int) <= 9 /\ (9:Int) <= 1000000 /\ (10:Int).natAbs < 2 ^ 64 then some (D.int ((10:Int) ^ (9:Int).toNat),μ) else none)=_
  rw [if_pos (by decide)]; rfl
theorem TF {c:Int}:∃ a m:Int,0 <= a /\ Gn [.int c] μ=some (.ref μ.length,μ ++ [.lst [.int a,.int m,.int 0]]):=by
  refine ⟨if c - 1000000000 > 0 then c - 1000000000 else 0,c % 2147483647,by split <;> omega,?_⟩
  have p:=V0 (μ:=μ)
  have mx:R6 [.int 0,.int (c - 1000000000)] μ=some (.int (if c - 1000000000 > 0 then c - 1000000000 else 0),μ):=rfl
  have e:Fp (BW 1 [.int c]) μ=some ((.rt (.ref μ.length),BW 1 [.int c]),μ ++ [.lst [.int (if c - 1000000000 > 0 then c - 1000000000 else 0),.int (c % 2147483647),.int 0]]):=by
    unfold Fp; wtm_at "own qev"
  exact Du (hw:=.all) e rfl (.inr ⟨_,rfl⟩) ⟨⟨[],by simp [FK]⟩,by simp [FK],fun j o q=>by
    have q:(μ ++ [MO.lst [.int (if c - 1000000000 > 0 then c - 1000000000 else 0),.int (c % 2147483647),.int 0]])[j]? = some o:=q
    by_cases hj:j < μ.length
    . left; rw [List.getElem?_append_left hj] at q; exact q
    . right
      rw [List.getElem?_append_right (by omega)] at q
      have:j - μ.length=0:=by
        have:=(List.getElem?_eq_some_iff.mp q).1
        simp at this; omega
      rw [this] at q
      cases q
      exact Qe,.inl ⟨rfl,by show Cl _ (D.ref μ.length); unfold Cl; simp [FK]⟩⟩
theorem S7:GoodName "abcdefgh" := ⟨by decide +kernel,by decide +kernel,by unfold FF; decide +kernel⟩
end
end K1
set_option maxHeartbeats 4000000
namespace K1
open PySem L2 Mi
section
variable {μ μ1 μ2 μ' g:Mh} {n w:Nat} {l:Int} {d:D} {x y:Str} {τ τ1 τ2:Sl} {ds es:List D}
theorem Bi (h:μ[n]? = some (.lst ds)):C5 (.ref n) μ=some ((),μ):=by
  unfold C5
  rw [AQ (show CB (.ref n) μ=some (ds,μ) from by unfold CB; dsimp only; rw [h])]; rfl
theorem Sm {k:List D->Option (D × List D)} (h:μ[n]? = some (.lst ds)) (hk:k ds=some (d,es)):JI n k μ=some (d,μ.set n (.lst es)):=by
  unfold JI
  rw [h]
  show (k ds).map _=_
  rw [hk]; rfl
theorem DP (h:μ[n]? = some (.lst ds)) (hl:ds.length < sizeLine):Ck (.ref n) [d] μ=some (.non,μ.set n (.lst (ds ++ [d]))):=Sm h (by rw [if_pos hl])
theorem Gr (k:Nat) (h:k <= ds.length):Fg ds (some (k:Int)) none=ds.drop k:=by
  unfold Fg
  rw [HT.KH,Nat.min_eq_left h]
  show (ds.drop k).take (ds.length - k)=_
  exact List.take_of_length_le (by simp)
theorem GM (k:Nat):Fg ds none (some (k:Int))=ds.take k:=by
  unfold Fg
  rw [HT.KH]
  show (ds.drop 0).take (min k ds.length - 0)=_
  rw [List.drop_zero,Nat.sub_zero]
  by_cases h:k <= ds.length
  . rw [Nat.min_eq_left h]
  . rw [Nat.min_eq_right (by omega),List.take_length,List.take_of_length_le (by omega)]
theorem MV {ma:Sl->M D} (h1:ma τ μ=some (.ref n,μ)) (h:μ[n]? = some (.lst ds)):FW ma τ μ=some (ds,μ):=by
  unfold FW
  rw [AQ h1]
  show (match μ[n]? with | some (.lst ds)=>some (ds,μ) | _=>none)=_
  rw [h]
theorem GI (h:μ[n]? = some (.lst ds)):Bu [.ref n] μ=some (.tup ds,μ):=by
  show bnd (CB (.ref n)) (fun ds=>Mi.ret (D.tup ds)) μ=_
  rw [AQ (show CB (.ref n) μ=some (ds,μ) from by unfold CB; dsimp only; rw [h])]; rfl
theorem UV:Bu [.lst ds] μ=some (.tup ds,μ):=rfl
theorem Ta {m:Int} (h:0 <= m):GY 0 m=(List.range' 0 m.toNat).map fun j:Nat=>D.int j:=by
  unfold GY
  rw [Int.sub_zero,List.range_eq_range']
  apply List.map_congr_left
  intro a _
  rw [Int.zero_add]
theorem P9 {ma:Sl->M (List D)} {m:Int} (h:ma τ μ=some ([.int m],μ1)) (h0:0 <= m) (h1:m <= 1000):Ds ma τ μ=some ((List.range' 0 m.toNat).map (fun j:Nat=>D.int j),μ1):=by
  unfold Ds
  rw [AQ h,← Ta h0]
  show (if -(2 ^ 62) <= m /\ m < 2 ^ 62 then some (GY 0 m,μ1) else none)=_
  rw [if_pos (by omega)]
theorem at1 {a b:MO} {e:Mh} {L:Nat} (h:μ.length=L):(μ ++ (a :: b :: e))[L + 1]? = some b:=by
  subst h; rw [List.getElem?_append_right (by omega)]; simp
theorem Wf {a b o:MO} {e:Mh} {L:Nat} (h:μ.length=L):(μ ++ (a :: b :: e)).set (L + 1) o=μ ++ (a :: o :: e):=by
  subst h; rw [List.set_append_right _ _ (by omega)]; simp
def base11:List Str:=["w", "r", "put", "makes", "box", "hand", "z", "not", "v", "safe", "x"]
def CL (x:Str):List Str:=base11.take 6 ++ x :: base11.drop 6
theorem Mp:base11.Nodup:=by decide +kernel
theorem Ol:∀ y ∈ base11,GoodName y:=by
  have h:∀ y ∈ base11,(1 <= y.length /\ y.length <= 8) /\ FF y:=by unfold FF; decide +kernel
  exact fun y hy=>⟨(h y hy).1.1,(h y hy).1.2,(h y hy).2⟩
theorem No:(CL x).Perm (x :: base11):=by
  unfold CL
  refine List.perm_middle.trans ?_
  rw [List.take_append_drop]
structure Si (sm:List Str):Prop where
  len:sm.length=12
  nd:sm.Nodup
  good:∀ y ∈ sm,GoodName y
theorem Rx (h:x ∉ base11) (hx:GoodName x) {sm:List Str} (p:sm.Perm (CL x)):Si sm:=by
  have p:=p.trans No
  refine ⟨by rw [p.length_eq]; rfl,p.nodup_iff.mpr (List.nodup_cons.mpr ⟨h,Mp⟩),fun y hy=>?_⟩
  rcases List.mem_cons.mp (p.mem_iff.mp hy) with z | z
  . rw [z]; exact hx
  . exact Ol y z
theorem PR {sm:List Str} (t:Nat):(sm.drop t ++ sm.take t).Perm sm:=by
  refine List.perm_append_comm.trans ?_
  rw [List.take_append_drop]
end
end K1
set_option maxHeartbeats 4000000
namespace K1
open PySem L2 Mi
section
variable {μ μ1 μ2 μ' g:Mh} {n w:Nat} {l:Int} {d:D} {x y:Str} {τ τ1 τ2:Sl} {ds es:List D}
theorem NN {i:Int} (h1:0 <= i) (h2:i < 3):∃ k ∈ (["safe", "steady", "whole"]:List Str),atI [D.str "safe",.str "steady",.str "whole"] i=some (.str k):=
  IS (f:=D.str) (xs:=["safe", "steady", "whole"]) h1 (by show i < 3; exact h2)
theorem Td {sm:List Str} (h:sm.length=12) {k:Nat} (hk:k < 12):∃ x,sm.reverse[k]? = some x /\ x ∈ sm /\ atI (sm.map D.str) (11 - (k:Int))=some (.str x):=by
  have hk':11 - k < sm.length:=by omega
  refine ⟨sm[11 - k],?_,List.getElem_mem hk',?_⟩
  . rw [List.getElem?_reverse (by omega)]
    rw [show sm.length - 1 - k=11 - k from by omega]
    exact List.getElem?_eq_getElem hk'
  . unfold atI ixN
    rw [if_pos (by omega),if_pos (by rw [List.length_map]; omega)]
    show (sm.map D.str)[(11 - (k:Int)).toNat]? = _
    rw [show (11 - (k:Int)).toNat=11 - k from by omega,List.getElem?_map,List.getElem?_eq_getElem hk']; rfl
structure Ky (sm ns:List Str) (k:Nat) (bs:List Bx):Prop where
  nms:bs.map Bx.nm=sm.reverse.take k
  wor:∀ b ∈ bs,L5 b.kd b.sz b.bg
  wri:∀ b ∈ bs,b.wr ∈ ns
end
end K1
set_option maxHeartbeats 4000000
namespace K1
open PySem L2 Mi
section
variable {μ μ1 μ2 μ' g:Mh} {n w:Nat} {l:Int} {d:D} {x y:Str} {τ τ1 τ2:Sl} {ds es:List D}
def own (bs:List Bx) (nm:Str):List Str:=(bs.filter fun b=>b.wr == nm).map Bx.nm
theorem QX {bs:List Bx} {nm:Str} {rn:List Str} {wr:Bool} {l:Int} (hnd:(bs.map Bx.nm).Nodup) (hrn:∀ y ∈ rn,GoodName y /\ y ∉ (["v", "not", "and", "or"]:List Str)) {r:Rw} (h:r.Drawn (own bs nm) (bs.map Bx.nm) rn wr l):r.Ok (bs.map kv) nm wr l:=by
  have nv:∀ y ∈ rn,y ≠ "v" := fun y hy z=>(hrn y hy).2 (by rw [z]; simp)
  refine ⟨h.form,h.ends,fun x hx=>?_,?_,?_⟩
  . rcases List.mem_append.mp (show x ∈ rn ++ (if wr then (["v"]:List Str) else []) from h.vars x hx) with z | z
    . refine ⟨(hrn x z).1.ok,fun q=>(hrn x z).2 ?_,.inr (nv x z)⟩
      simp at q ⊢; exact .inr q
    . cases wr with
      | true=>
        simp at z; subst z
        exact ⟨by decide +kernel,by decide +kernel,.inl rfl⟩
      | false=>simp at z
  . have f:=h.frm
    cases r with
    | get x bx=>exact nv x f.1
    | letr x e=>exact nv x f
    | _=>trivial
  . have f:=h.frm
    cases r with
    | put bx e=>
      have f:bx ∈ own bs nm:=f
      unfold own at f
      rw [List.mem_map] at f
      obtain ⟨b,hb,rfl⟩:=f
      rw [List.mem_filter] at hb
      have e2:b.wr=nm:=beq_iff_eq.mp hb.2
      show ET (bs.map kv) (.inr b.nm)=some (.str nm)
      rw [L6 hnd hb.1,e2]
    | get x bx=>
      have f:bx ∈ bs.map Bx.nm:=f.2
      rw [List.mem_map] at f
      obtain ⟨b,hb,rfl⟩:=f
      show (ET (bs.map kv) (.inr b.nm)).isSome=true
      rw [L6 hnd hb]; rfl
    | _=>trivial
theorem Pz {nm:Str} (hn:PyData.strOk nm=true):∀ (bs:List Bx) (ys:List D),(∀ b ∈ bs,PyData.strOk b.wr=true)->CZ (AN 0) (AY (mOp BM (mOp AS (AC 0) (mC (.int 4))) (AC 1))) (mOp AS (AC 0) (mC (.int 0))) [none,some (.str nm)] (bs.map Bx.toD) ys μ=some (ys ++ (own bs nm).map D.str,μ)
  | [],ys,_=>by show some (ys,μ)=_; simp [own]
  | b :: bs,ys,h=>by
    have ih:=fun ys=>Pz hn bs ys fun q hq=>h q (by simp [hq])
    have hb:=h b (by simp)
    show bnd (AN 0 b.toD [none,some (.str nm)]) _ μ=_
    rw [AQ (show AN 0 b.toD [none,some (.str nm)] μ=some ([some b.toD,some (.str nm)],μ) from rfl)]
    have t:AY (mOp BM (mOp AS (AC 0) (mC (.int 4))) (AC 1)) [some b.toD,some (.str nm)] μ=some (b.wr == nm,μ):=Aa (AX (x:=.str b.wr) (y:=.str nm) (μ1:=μ) (μ2:=μ) (AX (x:=b.toD) (y:=.int 4) (μ1:=μ) (μ2:=μ) rfl rfl (FH rfl)) rfl (QH hb hn))
    rw [AQ t]
    by_cases c:b.wr=nm
    . have c':(b.wr == nm)=true:=beq_iff_eq.mpr c
      rw [c',if_pos rfl,AQ (AX (x:=b.toD) (y:=.int 0) (d:=.str b.nm) (μ1:=μ) (μ2:=μ) (μ3:=μ) rfl rfl (FH rfl)),ih]
      simp [own,c']
    . have c':(b.wr == nm)=false:=beq_eq_false_iff_ne.mpr c
      rw [c',if_neg (by decide),ih]
      simp [own,c']
theorem Mn {bs:List Bx} (hl:bs.length <= 1000) {ma:Sl->M D} (hm:ma τ μ=some (.ref n,μ)) (h:μ[n]? = some (.lst (bs.map Bx.toD))):Bg 1 [] (FW ma) (AN 0) Bo (mOp AS (AC 0) (mC (.int 0))) A7 τ μ=some (.lst ((bs.map Bx.nm).map D.str),μ):=by
  have hz:sizeLine=16777216:=by decide
  have go:∀ (xs:List Bx) (ys:List D),CZ (AN 0) Bo (mOp AS (AC 0) (mC (.int 0))) (BX 1 [] τ) (xs.map Bx.toD) ys μ=some (ys ++ (xs.map Bx.nm).map D.str,μ):=by
    intro xs
    induction xs with
    | nil=>intro ys; show some (ys,μ)=_; simp
    | cons a xs ih=>
      intro ys
      show bnd (AN 0 a.toD (BX 1 [] τ)) _ μ=_
      rw [AQ (show AN 0 a.toD (BX 1 [] τ) μ=some ((BX 1 [] τ).set 0 (some a.toD),μ) from rfl),AQ (show Bo ((BX 1 [] τ).set 0 (some a.toD)) μ=some (true,μ) from rfl),if_pos rfl,AQ (AX (x:=a.toD) (y:=.int 0) (d:=.str a.nm) (μ1:=μ) (μ2:=μ) (μ3:=μ) (Dh rfl) GL (FH rfl)),ih]
      simp
  exact Di (MV hm h) (by simp; omega) (go bs []) (BY (by simp; omega))
noncomputable abbrev TZ:Sl->M D:=(AE Il (AB (AC 6) (AB (AC 4) (AB (Bg 1 [] (FW (AC 1)) (AN 0) Bo (mOp AS (AC 0) (mC (.int 0))) A7) (AB (AC 5) (AB (AC 3) (AB (mOp BM (AC 2) (mC (.int 0))) AH)))))))
end
end K1
set_option maxHeartbeats 4000000
namespace K1
open PySem L2 Mi
section
variable {μ μ1 μ2 μ' g:Mh} {n w:Nat} {l:Int} {d:D} {x y:Str} {τ τ1 τ2:Sl} {ds es:List D}
def four:List Str:=["x", "tell", "vv", "if"]
def S9:List Str:=four ++ (["v", "not", "and", "or"]:List Str)
def rn5 (x:Str):List Str:=four.take 1 ++ x :: four.drop 1
theorem VR (gx:GoodName x) (nx:x ∉ S9):∀ y ∈ rn5 x,GoodName y /\ y ∉ (["v", "not", "and", "or"]:List Str):=by
  have h:∀ y ∈ four,((1 <= y.length /\ y.length <= 8) /\ FF y) /\ y ∉ (["v", "not", "and", "or"]:List Str):=by unfold FF; decide +kernel
  intro y hy
  have hy:y ∈ x :: four:=by
    have p:(rn5 x).Perm (x :: four):=by
      unfold rn5
      refine List.perm_middle.trans ?_
      rw [List.take_append_drop]
    exact p.mem_iff.mp hy
  rcases List.mem_cons.mp hy with z | z
  . subst z; exact ⟨gx,fun q=>nx (List.mem_append_right _ q)⟩
  . exact ⟨⟨(h y z).1.1.1,(h y z).1.1.2,(h y z).1.2⟩,(h y z).2⟩
abbrev Su:Sl->M (Fl × Sl):=(sIf (AY (mOp BM (AC 5) (AC 9))) (An (mC (.int 60)) (AN 11)) BI)
structure Ms (bs:List Bx) (i:Nat) (h:Hd):Prop where
  lo:0 <= h.wi
  hi:h.wi <= 400
  most:h.rs.length <= 60
  rows:∀ r ∈ h.rs,r.Ok (bs.map kv) h.nm (i == 0) h.rs.length
theorem R7 {i:Int} (h1:0 <= i) (h2:i < 5):∃ k:Int,0 <= k /\ k <= 60 /\ atI [D.int 0,.int 1,.int 3,.int 5,.int 7] i=some (.int k):=by
  obtain ⟨k,hk,e⟩:=IS (f:=D.int) (xs:=[0,1,3,5,7]) h1 (by show i < 5; exact h2)
  simp at hk
  exact ⟨k,by omega,by omega,e⟩
theorem Nf {i:Int} (h1:0 <= i) (h2:i < 5):∃ k:Int,0 <= k /\ k <= 400 /\ atI [D.int 0,.int 1,.int 9,.int 99,.int 400] i=some (.int k):=by
  obtain ⟨k,hk,e⟩:=IS (f:=D.int) (xs:=[0,1,9,99,400]) h1 (by show i < 5; exact h2)
  simp at hk
  exact ⟨k,by omega,by omega,e⟩
end
end K1
set_option maxHeartbeats 4000000
namespace K1
open PySem L2 Mi
section
variable {μ μ1 μ2 μ' g:Mh} {n w:Nat} {l:Int} {d:D} {x y:Str} {τ τ1 τ2:Sl} {ds es:List D}
theorem Fv {α:Type} {f:α->D} {k:Nat} (h:∀ a,Cl k (f a)):∀ xs:List α,ClL k (xs.map f)
  | []=>by simp [ClL]
  | x :: r=>by rw [List.map_cons]; unfold ClL; exact ⟨h x,Fv h r⟩
theorem Bx.cl {k:Nat} (b:Bx):Cl k b.toD:=by simp [Bx.toD,Cl,ClL]
theorem Hd.cl {k:Nat} (b:Hd):Cl k b.toD:=by
  have:=Fv (k:=k) (f:=Rw.toD) (fun r=>r.cl) b.rs
  simp [Hd.toD,Cl,ClL,this]
theorem Mk.cl {k:Nat} (m:Mk):Cl k m.toD:=by
  have h1:=Fv (k:=k) (f:=Bx.toD) (fun r=>r.cl) m.bs
  have h2:=Fv (k:=k) (f:=Hd.toD) (fun r=>r.cl) m.hs
  simp [Mk.toD,Cl,ClL,h1,h2]
end
end K1
set_option maxHeartbeats 4000000
namespace K1
open PySem L2 Mi
section
variable {μ μ1 μ2 μ' g:Mh} {n w:Nat} {l:Int} {d:D} {x y:Str} {τ τ1 τ2:Sl} {ds es:List D}
end
end K1
set_option maxHeartbeats 4000000
namespace K1
open PySem L2 Mi
def Rw.pull (a:Int):Rw->Rw
  | .unless e t=>.unless e (if a < t then t - 1 else t)
  | .jump t=>.jump (if a < t then t - 1 else t)
  | r=>r
def Rw.cap (l:Int):Rw->Rw
  | .unless e t=>.unless e (if l < t then l else t)
  | .jump t=>.jump (if l < t then l else t)
  | r=>r
section
variable {μ:Mh} {L:List (Key × D)} {nm:Str} {wr:Bool} {r:Rw}
theorem Rw.Ok.pull {n a:Int} (h:r.Ok L nm wr (n + 1)) (h0:0 <= a) (ha:a <= n):(r.pull a).Ok L nm wr n:=by
  cases r with
  | «unless» e t=>
    obtain ⟨⟨f1,f2,f3⟩,en,vs,st,tb⟩:=h
    refine ⟨⟨f1,?_,?_⟩,en,vs,st,tb⟩
    . show 0 <= if a < t then t - 1 else t
      split <;> omega
    . show (if a < t then t - 1 else t) <= n
      split <;> omega
  | jump t=>
    obtain ⟨⟨f2,f3⟩,en,vs,st,tb⟩:=h
    refine ⟨⟨?_,?_⟩,en,vs,st,tb⟩
    . show 0 <= if a < t then t - 1 else t
      split <;> omega
    . show (if a < t then t - 1 else t) <= n
      split <;> omega
  | put bx e=>exact ⟨h.form,h.ends,h.vars,h.set,h.tab⟩
  | get x bx=>exact ⟨h.form,h.ends,h.vars,h.set,h.tab⟩
  | letr x e=>exact ⟨h.form,h.ends,h.vars,h.set,h.tab⟩
  | tell e=>exact ⟨h.form,h.ends,h.vars,h.set,h.tab⟩
  | done=>exact ⟨h.form,h.ends,h.vars,h.set,h.tab⟩
theorem Rw.Ok.cap {n l:Int} (h:r.Ok L nm wr n) (h0:0 <= l):(r.cap l).Ok L nm wr l:=by
  cases r with
  | «unless» e t=>
    obtain ⟨⟨f1,f2,f3⟩,en,vs,st,tb⟩:=h
    refine ⟨⟨f1,?_,?_⟩,en,vs,st,tb⟩
    . show 0 <= if l < t then l else t
      split <;> omega
    . show (if l < t then l else t) <= l
      split <;> omega
  | jump t=>
    obtain ⟨⟨f2,f3⟩,en,vs,st,tb⟩:=h
    refine ⟨⟨?_,?_⟩,en,vs,st,tb⟩
    . show 0 <= if l < t then l else t
      split <;> omega
    . show (if l < t then l else t) <= l
      split <;> omega
  | put bx e=>exact ⟨h.form,h.ends,h.vars,h.set,h.tab⟩
  | get x bx=>exact ⟨h.form,h.ends,h.vars,h.set,h.tab⟩
  | letr x e=>exact ⟨h.form,h.ends,h.vars,h.set,h.tab⟩
  | tell e=>exact ⟨h.form,h.ends,h.vars,h.set,h.tab⟩
  | done=>exact ⟨h.form,h.ends,h.vars,h.set,h.tab⟩
theorem D3 {α β:Type} {f:α->β}:∀ {xs:List α} {p:Nat} {x y:α},xs[p]? = some x->f y=f x->(xs.set p y).map f=xs.map f
  | [],_,_,_,e,_=>by simp at e
  | z :: xs,0,x,y,e,h=>by simp at e; subst e; simp [h]
  | z :: xs,p + 1,x,y,e,h=>by
    have:=D3 (xs:=xs) (p:=p) (x:=x) (y:=y) (by simpa using e) h
    simp [this]
theorem Mk.Ok.setBox {m:Mk} (h:m.Ok) {p:Nat} {b:Bx} (e:m.bs[p]? = some b) {kd:Str} (hk:kd ∈ (["safe", "steady", "whole"]:List Str)):(Mk.mk m.kd m.sz m.bg (m.bs.set p ⟨b.nm,kd,b.sz,b.bg,b.wr⟩) m.hs).Ok:=by
  have hb:b ∈ m.bs:=List.mem_iff_getElem?.mpr ⟨p,e⟩
  have hn:(m.bs.set p ⟨b.nm,kd,b.sz,b.bg,b.wr⟩).map Bx.nm=m.bs.map Bx.nm:=D3 e rfl
  have hkv:(m.bs.set p ⟨b.nm,kd,b.sz,b.bg,b.wr⟩).map kv=m.bs.map kv:=D3 e rfl
  have hm:∀ q ∈ m.bs.set p ⟨b.nm,kd,b.sz,b.bg,b.wr⟩,q ∈ m.bs ∨ q=⟨b.nm,kd,b.sz,b.bg,b.wr⟩:=fun q hq=>List.mem_or_eq_of_mem_set hq
  refine ⟨h.worth,fun q hq=>?_,by show (m.bs.set p _).length <= 6; rw [List.length_set]; exact h.most,by show ((m.bs.set p _).map Bx.nm).Nodup; rw [hn]; exact h.unlike,h.hands,h.least,h.mosth,h.unlikeh,fun q hq=>?_,fun i g hg r hr=>?_⟩
  . rcases hm q hq with z | z
    . exact h.boxes q z
    . subst z
      obtain ⟨h1,_,h3⟩:=h.boxes b hb
      exact ⟨h1,hk,h3⟩
  . rcases hm q hq with z | z
    . exact h.writers q z
    . subst z; exact h.writers b hb
  . show r.Ok ((m.bs.set p _).map kv) g.nm (i == 0) g.rs.length
    rw [hkv]; exact h.rows i g hg r hr
theorem Mk.Ok.setRows {m:Mk} (h:m.Ok) {k:Nat} {g:Hd} (e:m.hs[k]? = some g) {rs:List Rw} (hl:rs.length <= 60) (hr:∀ r ∈ rs,r.Ok (m.bs.map kv) g.nm (k == 0) rs.length):(Mk.mk m.kd m.sz m.bg m.bs (m.hs.set k ⟨g.nm,g.wi,rs⟩)).Ok:=by
  have hg:g ∈ m.hs:=List.mem_iff_getElem?.mpr ⟨k,e⟩
  have hk:k < m.hs.length:=(List.getElem?_eq_some_iff.mp e).1
  have hn:(m.hs.set k ⟨g.nm,g.wi,rs⟩).map Hd.nm=m.hs.map Hd.nm:=D3 e rfl
  refine ⟨h.worth,h.boxes,h.most,h.unlike,fun q hq=>?_,by show 2 <= (m.hs.set k _).length; rw [List.length_set]; exact h.least,by show (m.hs.set k _).length <= 4; rw [List.length_set]; exact h.mosth,by show ((m.hs.set k _).map Hd.nm).Nodup; rw [hn]; exact h.unlikeh,fun q hq=>?_,fun i q hq r hrr=>?_⟩
  . rcases List.mem_or_eq_of_mem_set hq with z | z
    . exact h.hands q z
    . subst z
      obtain ⟨h1,h2,h3,_⟩:=h.hands g hg
      exact ⟨h1,h2,h3,hl⟩
  . show q.wr ∈ (m.hs.set k _).map Hd.nm
    rw [hn]; exact h.writers q hq
  . have hq:(m.hs.set k ⟨g.nm,g.wi,rs⟩)[i]? = some q:=hq
    by_cases hi:i=k
    . subst hi
      rw [List.getElem?_set_self hk] at hq
      cases hq
      exact hr r hrr
    . rw [List.getElem?_set_ne (fun z=>hi z.symm)] at hq
      exact h.rows i q hq r hrr
theorem Mk.Ok.allRows {m:Mk} (h:m.Ok) {F:Nat->List Rw->List Rw} (hl:∀ k rs,(F k rs).length <= rs.length) (hr:∀ (k:Nat) (g:Hd),m.hs[k]? = some g->∀ r ∈ F k g.rs,r.Ok (m.bs.map kv) g.nm (k == 0) (F k g.rs).length) :
    (Mk.mk m.kd m.sz m.bg m.bs (m.hs.mapIdx fun k g=>⟨g.nm,g.wi,F k g.rs⟩)).Ok:=by
  have hn:(m.hs.mapIdx fun k g=>(⟨g.nm,g.wi,F k g.rs⟩:Hd)).map Hd.nm=m.hs.map Hd.nm:=by
    apply List.ext_getElem?
    intro i
    rw [List.getElem?_map,List.getElem?_mapIdx,List.getElem?_map]
    cases m.hs[i]? <;> rfl
  refine ⟨h.worth,h.boxes,h.most,h.unlike,fun q hq=>?_,by show 2 <= (m.hs.mapIdx _).length; rw [List.length_mapIdx]; exact h.least,by show (m.hs.mapIdx _).length <= 4; rw [List.length_mapIdx]; exact h.mosth,by show ((m.hs.mapIdx _).map Hd.nm).Nodup; rw [hn]; exact h.unlikeh,fun q hq=>?_,fun i q hq r hrr=>?_⟩
  . obtain ⟨i,hi⟩:=List.mem_iff_getElem?.mp hq
    have hi:(m.hs.mapIdx fun k g=>(⟨g.nm,g.wi,F k g.rs⟩:Hd))[i]? = some q:=hi
    rw [List.getElem?_mapIdx] at hi
    cases e:m.hs[i]? with
    | none=>rw [e] at hi; cases hi
    | some g=>
      rw [e] at hi; cases hi
      obtain ⟨h1,h2,h3,h4⟩:=h.hands g (List.mem_iff_getElem?.mpr ⟨i,e⟩)
      exact ⟨h1,h2,h3,Nat.le_trans (hl i g.rs) h4⟩
  . show q.wr ∈ (m.hs.mapIdx _).map Hd.nm
    rw [hn]; exact h.writers q hq
  . have hq:(m.hs.mapIdx fun k g=>(⟨g.nm,g.wi,F k g.rs⟩:Hd))[i]? = some q:=hq
    rw [List.getElem?_mapIdx] at hq
    cases e:m.hs[i]? with
    | none=>rw [e] at hq; cases hq
    | some g=>rw [e] at hq; cases hq; exact hr i g e r hrr
end
end K1
set_option maxHeartbeats 4000000
namespace K61
open PySem L2 Mi K1
section
variable {μ μ1 μ2 μ3 μ4 μ' g:Mh} {n w:Nat} {l:Int} {d x0:D} {x y:Str} {τ τ1 τ2:Sl} {ds es:List D}
theorem at0 {b:MO} {e:Mh} {L:Nat} (h:μ.length=L):(μ ++ (b :: e))[L]? = some b:=by
  subst h; rw [List.getElem?_append_right (by omega)]; simp
theorem LF {b o:MO} {e:Mh} {L:Nat} (h:μ.length=L):(μ ++ (b :: e)).set L o=μ ++ (o :: e):=by
  subst h; rw [List.set_append_right _ _ (by omega)]; simp
theorem Kf {lo hi:Option Int}:LO lo hi (.lst ds) μ=some (.lst (Fg ds lo hi),μ):=rfl
theorem GJ {lo hi:Option Int}:LO lo hi (.tup ds) μ=some (.tup (Fg ds lo hi),μ):=rfl
theorem Cm {ma:Sl->M D} {l h:Sl->M (Option Int)} {a b:Option Int} (h1:ma τ μ=some (x0,μ1)) (h2:l τ μ1=some (a,μ2)) (h3:h τ μ2=some (b,μ3)) (h4:LO a b x0 μ3=some (d,μ4)):CI ma l h τ μ=some (d,μ4):=by unfold CI; rw [AQ h1,AQ h2,AQ h3,h4]
theorem Ed {i j:Int}:Ak (.int i) (.int j) μ=some (.int (i + j),μ):=rfl
noncomputable abbrev Wy:Sl->M (Fl × Sl):=(AU (An (mOp Ak (mC (.int 2)) (AE BH (AB (AC 0) (AB (mC (.int 9)) AH)))) (AN 6))
    (AU (An (mOp AS (AE A7 (AB (mC (.str "safe")) (AB (mC (.str "steady")) (AB (mC (.str "whole")) AH)))) (AE BH (AB (AC 0) (AB (mC (.int 3)) AH)))) (AN 7))
    (AZ (A2 Ck (AC 4) (AB (AE Aw (AB (mOp AS (AC 1) (mOp Br (mC (.int 11)) (AC 5))) (AB (AC 7) (AB (AC 6) (AB (AE BH (AB (AC 0) (AB (AC 6) AH))) (AB (mOp AS (AC 3) (AE BH (AB (AC 0) (AB (AE BO (AB (AC 3) AH)) AH)))) AH)))))) AH)))))
theorem Ly {sm ns:List Str} {o2:Option D} {L:Nat} (hsm:sm.length=12) (hn:ns ≠ []) (hnl:ns.length <= 4):∀ (rest k:Nat) (bs:List Bx) (o5 o6 o7:Option D) (μ:Mh),WellAt μ w->μ.length=L->k + rest <= 6->Ky sm ns k bs->∃ (bs':List Bx) (o5' o6' o7':Option D) (μ':Mh),
    Bh (AN 5) Wy ((List.range' k rest).map fun j:Nat=>D.int j) [some (.ref w),some (.lst (sm.map D.str)),o2,some (.lst (ns.map D.str)),some (.ref L),o5,o6,o7,none,none,none,none,none,none,none] (μ ++ [MO.lst (bs.map Bx.toD)]) =
      some ((.next,[some (.ref w),some (.lst (sm.map D.str)),o2,some (.lst (ns.map D.str)),some (.ref L),o5',o6',o7',none,none,none,none,none,none,none]),μ' ++ [MO.lst (bs'.map Bx.toD)]) /\ Upd w μ μ' /\ Ky sm ns (k + rest) bs'
  | 0,k,bs,o5,o6,o7,μ,hw,hL,hk,ok=>⟨bs,o5,o6,o7,μ,rfl,hw.refl,ok⟩
  | rest + 1,k,bs,o5,o6,o7,μ,hw,hL,hk,ok=>by
    have hz:sizeLine=16777216:=by decide
    obtain ⟨r1,μ1,e1,a1,b1,u1⟩:=Cz (g:=[MO.lst (bs.map Bx.toD)]) (b:=9) hw (by decide) (by decide)
    have w1:=u1.well hw.lt
    obtain ⟨r2,μ2,e2,a2,b2,u2⟩:=Cz (g:=[MO.lst (bs.map Bx.toD)]) (b:=3) w1 (by decide) (by decide)
    have w2:=u2.well w1.lt
    obtain ⟨kd,hkd,ek⟩:=NN a2 b2
    obtain ⟨x,ex,hx,ei⟩:=Td (sm:=sm) (k:=k) hsm (by omega)
    obtain ⟨r3,μ3,e3,a3,b3,u3⟩:=Cz (g:=[MO.lst (bs.map Bx.toD)]) (b:=2 + r1) w2 (by omega) (by omega)
    have w3:=u3.well w2.lt
    have nl:0 < ns.length:=List.length_pos_iff.mpr hn
    have hln:(((ns.map D.str).length:Nat):Int)=ns.length:=by simp
    obtain ⟨r4,μ4,e4,a4,b4,u4⟩:=Cz (g:=[MO.lst (bs.map Bx.toD)]) (b:=(((ns.map D.str).length:Nat):Int)) w3 (by omega) (by omega)
    have w4:=u4.well w3.lt
    obtain ⟨wr,hwr,ew⟩:=IS (f:=D.str) (xs:=ns) a4 (by omega)
    have len4:μ4.length=L:=by rw [u4.len,u3.len,u2.len,u1.len,hL]
    have lbs:bs.length <= 6:=by
      have:=congrArg List.length ok.nms
      rw [List.length_map,List.length_take] at this
      omega
    have ok':Ky sm ns (k + 1) (bs ++ [⟨x,kd,2 + r1,r3,wr⟩]):=by
      refine ⟨?_,?_,?_⟩
      . rw [List.map_append,ok.nms,List.take_add_one,ex]; rfl
      . intro b hb
        rcases List.mem_append.mp hb with z | z
        . exact ok.wor b z
        . simp at z; subst z
          exact ⟨hkd,by show 2 <= 2 + r1; omega,by show 2 + r1 <= 10; omega,a3,by show r3 <= 2 + r1 - 1; omega⟩
      . intro b hb
        rcases List.mem_append.mp hb with z | z
        . exact ok.wri b z
        . simp at z; subst z; exact hwr
    obtain ⟨bs',o5',o6',o7',μ',q,u,okk⟩:=Ly (o2:=o2) hsm hn hnl rest (k + 1) (bs ++ [⟨x,kd,2 + r1,r3,wr⟩]) (some (.int k)) (some (.int (2 + r1))) (some (.str kd)) μ4 w4 len4 (by omega) ok'
    refine ⟨bs',o5',o6',o7',μ',?_,u1.trans (u2.trans (u3.trans (u4.trans u))),by rw [show k + (rest + 1)=k + 1 + rest from by omega]; exact okk⟩
    rw [List.range'_succ,List.map_cons]
    have ap:=DP (μ:=μ4 ++ [MO.lst (bs.map Bx.toD)]) (n:=L) (d:=(Bx.mk x kd (2 + r1) r3 wr).toD) (at0 len4) (by rw [List.length_map]; omega)
    rw [LF len4] at ap
    have eb:bs.map Bx.toD ++ [(Bx.mk x kd (2 + r1) r3 wr).toD]=(bs ++ [(⟨x,kd,2 + r1,r3,wr⟩:Bx)]).map Bx.toD:=by simp
    rw [eb] at ap
    refine Al (τ1:=[some (.ref w),some (.lst (sm.map D.str)),o2,some (.lst (ns.map D.str)),some (.ref L),some (.int k),o6,o7,none,none,none,none,none,none,none]) (μ1:=μ ++ [MO.lst (bs.map Bx.toD)]) rfl ?_ q
    refine AR (τ1:=[some (.ref w),some (.lst (sm.map D.str)),o2,some (.lst (ns.map D.str)),some (.ref L),some (.int k),some (.int (2 + r1)),o7,none,none,none,none,none,none,none]) (μ1:=μ1 ++ [MO.lst (bs.map Bx.toD)]) (Ah (AX (x:=.int 2) (y:=.int r1) rfl (AL (ds:=[.ref w,.int 9]) rfl e1) Ed) rfl) ?_
    refine AR (τ1:=[some (.ref w),some (.lst (sm.map D.str)),o2,some (.lst (ns.map D.str)),some (.ref L),some (.int k),some (.int (2 + r1)),some (.str kd),none,none,none,none,none,none,none]) (μ1:=μ2 ++ [MO.lst (bs.map Bx.toD)]) (Ah (AX (x:=.lst [D.str "safe",.str "steady",.str "whole"]) (y:=.int r2) rfl (AL (ds:=[.ref w,.int 3]) rfl e2) (FI ek)) rfl) ?_
    refine Bt (Cg (x:=.ref L) (μ1:=μ2 ++ [MO.lst (bs.map Bx.toD)]) rfl (Bi (at0 (by rw [u2.len,u1.len,hL]))) (AM (ds:=[]) (μ1:=μ4 ++ [MO.lst (bs.map Bx.toD)]) (AL (ds:=[.str x,.str kd,.int (2 + r1),.int r3,.str wr]) (μ1:=μ4 ++ [MO.lst (bs.map Bx.toD)]) ?_ (BG (by show 5 <= sizeLine; omega))) rfl) ap)
    exact AM (μ1:=μ2 ++ [MO.lst (bs.map Bx.toD)]) (AX (x:=.lst (sm.map D.str)) (y:=.int (11 - (k:Int))) rfl (AX (x:=.int 11) (y:=.int k) rfl rfl NL) (FI ei)) (AM (μ1:=μ2 ++ [MO.lst (bs.map Bx.toD)]) rfl (AM (μ1:=μ2 ++ [MO.lst (bs.map Bx.toD)]) rfl (AM (μ1:=μ3 ++ [MO.lst (bs.map Bx.toD)]) (AL (ds:=[.ref w,.int (2 + r1)]) rfl e3) (AM (μ1:=μ4 ++ [MO.lst (bs.map Bx.toD)]) (AX (x:=.lst (ns.map D.str)) (y:=.int r4) rfl (AL (ds:=[.ref w,.int ((ns.map D.str).length:Nat)]) rfl e4) (FI ew)) rfl))))
theorem M7 {bs:List Bx} {nm:Str} {rn:List Str} {many:Int} {k L:Nat} {ex:Mh} (hbs:∀ b ∈ bs,GoodName b.nm) (hbl:bs.length <= 6) (hrn:∀ y ∈ rn,GoodName y) (hne:rn ≠ []) (hrl:rn.length <= 100) (hm:0 <= many) (hm2:many <= 60):∀ (ds ys:List D) (μ:Mh),WellAt μ w->μ.length=L->∃ (rs:List Rw) (μ':Mh),
    CZ (AN 0) Bo TZ [none,some (.ref L),some (.int k),some (.int many),some (.lst ((own bs nm).map D.str)),some (.lst (rn.map D.str)),some (.ref w)] ds ys (μ ++ (MO.lst (bs.map Bx.toD) :: ex))=some (ys ++ rs.map Rw.toD,μ' ++ (MO.lst (bs.map Bx.toD) :: ex)) /\ rs.length=ds.length /\ (∀ r ∈ rs,r.Drawn (own bs nm) (bs.map Bx.nm) rn (k == 0) many) /\ Upd w μ μ'
  | [],ys,μ,hw,hL=>⟨[],μ,by show some (ys,_)=_; simp,rfl,by simp,hw.refl⟩
  | d :: ds,ys,μ,hw,hL=>by
    have ho:∀ x ∈ own bs nm,GoodName x:=fun x hx=>by
      unfold own at hx
      rw [List.mem_map] at hx
      obtain ⟨b,hb,rfl⟩:=hx
      exact hbs b (List.mem_filter.mp hb).1
    have hb:∀ x ∈ bs.map Bx.nm,GoodName x:=fun x hx=>by
      rw [List.mem_map] at hx
      obtain ⟨b,hb,rfl⟩:=hx
      exact hbs b hb
    have lo:(own bs nm).length <= 100:=by
      unfold own
      rw [List.length_map]
      exact Nat.le_trans (List.length_filter_le _ _) (by omega)
    obtain ⟨r,ν,e,dr,v⟩:=U6 (own:=own bs nm) (bxs:=bs.map Bx.nm) (ns:=rn) (many:=many) (wr:=k == 0) (hw.app (g:=MO.lst (bs.map Bx.toD) :: ex)) hm hm2 ho hb hrn hne lo (by rw [List.length_map]; omega) hrl
    obtain ⟨μ1,u1,rfl⟩:=v.app hw.lt
    have w1:=u1.well hw.lt
    obtain ⟨rs,μ',q,h1,h2,u⟩:=M7 (nm:=nm) (k:=k) (ex:=ex) hbs hbl hrn hne hrl hm hm2 ds (ys ++ [r.toD]) μ1 w1 (by rw [u1.len,hL])
    refine ⟨r :: rs,μ',?_,by simp [h1],fun q hq=>?_,u1.trans u⟩
    . show bnd (AN 0 d _) _ _=_
      have hk:(((k:Nat):Int) == 0)=(k == 0):=by
        by_cases z:k=0
        . subst z; rfl
        . rw [beq_eq_false_iff_ne.mpr z,beq_eq_false_iff_ne.mpr (by omega)]
      rw [AQ (show AN 0 d [none,some (.ref L),some (.int k),some (.int many),some (.lst ((own bs nm).map D.str)),some (.lst (rn.map D.str)),some (.ref w)] (μ ++ (MO.lst (bs.map Bx.toD) :: ex))=some ([some d,some (.ref L),some (.int k),some (.int many),some (.lst ((own bs nm).map D.str)),some (.lst (rn.map D.str)),some (.ref w)],μ ++ (MO.lst (bs.map Bx.toD) :: ex)) from rfl)]
      rw [AQ (show Bo [some d,some (.ref L),some (.int k),some (.int many),some (.lst ((own bs nm).map D.str)),some (.lst (rn.map D.str)),some (.ref w)] (μ ++ (MO.lst (bs.map Bx.toD) :: ex))=some (true,μ ++ (MO.lst (bs.map Bx.toD) :: ex)) from rfl),if_pos rfl]
      have c:TZ [some d,some (.ref L),some (.int k),some (.int many),some (.lst ((own bs nm).map D.str)),some (.lst (rn.map D.str)),some (.ref w)] (μ ++ (MO.lst (bs.map Bx.toD) :: ex))=some (r.toD,μ1 ++ (MO.lst (bs.map Bx.toD) :: ex)):=by
        refine AL (ds:=[.ref w,.lst ((own bs nm).map D.str),.lst ((bs.map Bx.nm).map D.str),.lst (rn.map D.str),.int many,.bl (k == 0)]) (μ1:=μ ++ (MO.lst (bs.map Bx.toD) :: ex)) ?_ e
        refine AM (μ1:=μ ++ (MO.lst (bs.map Bx.toD) :: ex)) rfl (AM (μ1:=μ ++ (MO.lst (bs.map Bx.toD) :: ex)) rfl (AM (μ1:=μ ++ (MO.lst (bs.map Bx.toD) :: ex)) (Mn (n:=L) (by omega) rfl (at0 hL)) (AM (μ1:=μ ++ (MO.lst (bs.map Bx.toD) :: ex)) rfl (AM (μ1:=μ ++ (MO.lst (bs.map Bx.toD) :: ex)) rfl (AM (μ1:=μ ++ (MO.lst (bs.map Bx.toD) :: ex)) (AX (x:=.int k) (y:=.int 0) (μ1:=μ ++ (MO.lst (bs.map Bx.toD) :: ex)) (μ2:=μ ++ (MO.lst (bs.map Bx.toD) :: ex)) rfl rfl ?_) rfl)))))
        rw [NM,hk]
      rw [AQ c,q]
      simp
    . rcases List.mem_cons.mp hq with z | z
      . rw [z]; exact dr
      . exact h2 q z
end
end K61
set_option maxHeartbeats 4000000
namespace K61
open PySem L2 Mi K1
section
variable {μ μ1 μ2 μ3 μ4 μ' g:Mh} {n w:Nat} {l:Int} {d x0:D} {x y:Str} {τ τ1 τ2:Sl} {ds es:List D}
noncomputable abbrev WD:Sl->M (Fl × Sl):=(AU (An (mOp AS (AE A7 (AB (mC (.int 0)) (AB (mC (.int 1)) (AB (mC (.int 3)) (AB (mC (.int 5)) (AB (mC (.int 7)) AH)))))) (AE BH (AB (AC 0) (AB (mC (.int 5)) AH)))) (AN 11))
    (AU Su
    (AU (An (Bg 1 [10] (FW (AC 4)) (AN 0) (AY (mOp BM (mOp AS (AC 0) (mC (.int 4))) (AC 1))) (mOp AS (AC 0) (mC (.int 0))) A7) (AN 12))
    (AU (An (CI (AE A7 (AB (mC (.str "x")) (AB (mC (.str "abcdefgh")) (AB (mC (.str "tell")) (AB (mC (.str "vv")) (AB (mC (.str "if")) AH)))))) Ay (BA (mOp Ak (mC (.int 1)) (AE BH (AB (AC 0) (AB (mC (.int 5)) AH)))))) (AN 13))
    (AU (An (Bg 1 [4,5,11,12,13,0] (Ds (AB (AC 11) AH)) (AN 0) Bo TZ A7) (AN 14))
    (AZ (A2 Ck (AC 8) (AB (AE Aw (AB (AC 10) (AB (mOp AS (AE A7 (AB (mC (.int 0)) (AB (mC (.int 1)) (AB (mC (.int 9)) (AB (mC (.int 99)) (AB (mC (.int 400)) AH)))))) (AE BH (AB (AC 0) (AB (mC (.int 5)) AH)))) (AB (AE Bu (AB (AC 14) AH)) AH)))) AH))))))))
theorem Jp {bs:List Bx} {L:Nat} {lg:Int} {o1 o2 o3 o6 o7:Option D} (hnd:(bs.map Bx.nm).Nodup) (hbs:∀ b ∈ bs,GoodName b.nm) (hbw:∀ b ∈ bs,PyData.strOk b.wr=true) (hbl:bs.length <= 6):∀ (rest:List Str) (k:Nat) (hs:List Hd) (o5 o10 o11 o12 o13 o14:Option D) (μ:Mh),WellAt μ w->μ.length=L->hs.length=k->k + rest.length <= 4->(∀ (i:Nat) (h:Hd),hs[i]? = some h->Ms bs i h)->(∀ x ∈ rest,GoodName x)->∃ (hs':List Hd) (o5' o10' o11' o12' o13' o14':Option D) (μ':Mh),
    Bh (EV [5,10]) WD (B1 k (rest.map D.str)) [some (.ref w),o1,o2,o3,some (.ref L),o5,o6,o7,some (.ref (L + 1)),some (.int lg),o10,o11,o12,o13,o14] (μ ++ [MO.lst (bs.map Bx.toD),MO.lst (hs.map Hd.toD)]) =
      some ((.next,[some (.ref w),o1,o2,o3,some (.ref L),o5',o6,o7,some (.ref (L + 1)),some (.int lg),o10',o11',o12',o13',o14']),μ' ++ [MO.lst (bs.map Bx.toD),MO.lst (hs'.map Hd.toD)]) /\ Upd w μ μ' /\ hs'.map Hd.nm=hs.map Hd.nm ++ rest /\ (∀ (i:Nat) (h:Hd),hs'[i]? = some h->Ms bs i h)
  | [],k,hs,o5,o10,o11,o12,o13,o14,μ,hw,hL,hk,hr,ok,gn=>⟨hs,o5,o10,o11,o12,o13,o14,μ,rfl,hw.refl,by simp,ok⟩
  | nm :: rest,k,hs,o5,o10,o11,o12,o13,o14,μ,hw,hL,hk,hr,ok,gn=>by
    have hz:sizeLine=16777216:=by decide
    have gnm:=gn nm (by simp)
    obtain ⟨r1,μ1,e1,a1,b1,u1⟩:=Cz (g:=[MO.lst (bs.map Bx.toD),MO.lst (hs.map Hd.toD)]) (b:=5) hw (by decide) (by decide)
    have w1:=u1.well hw.lt
    have len1:μ1.length=L:=by rw [u1.len,hL]
    obtain ⟨m0,m1,m2,em⟩:=R7 a1 b1
    obtain ⟨many,hm1,hm2,emany⟩:∃ many:Int,0 <= many /\ many <= 60 /\ Su [some (.ref w),o1,o2,o3,some (.ref L),some (.int k),o6,o7,some (.ref (L + 1)),some (.int lg),some (.str nm),some (.int m0),o12,o13,o14] (μ1 ++ [MO.lst (bs.map Bx.toD),MO.lst (hs.map Hd.toD)])=some ((.next,[some (.ref w),o1,o2,o3,some (.ref L),some (.int k),o6,o7,some (.ref (L + 1)),some (.int lg),some (.str nm),some (.int many),o12,o13,o14]),μ1 ++ [MO.lst (bs.map Bx.toD),MO.lst (hs.map Hd.toD)]):=by
      by_cases c:(k:Int)=lg
      . exact ⟨60,by decide,by decide,Cn (Aa (AX (x:=.int k) (y:=.int lg) rfl rfl (MZ c))) rfl⟩
      . exact ⟨m0,m1,m2,BC (Aa (AX (x:=.int k) (y:=.int lg) rfl rfl (Ma c))) rfl⟩
    obtain ⟨r3,μ3,e3,a3,b3,u3⟩:=Cz (g:=[MO.lst (bs.map Bx.toD),MO.lst (hs.map Hd.toD)]) (b:=5) w1 (by decide) (by decide)
    have w3:=u3.well w1.lt
    have len3:μ3.length=L:=by rw [u3.len,len1]
    obtain ⟨c,rfl⟩:=Int.eq_ofNat_of_zero_le a3
    have nx:("abcdefgh" : Str) ∉ S9:=by decide +kernel
    have hrn:∀ y ∈ (rn5 "abcdefgh").take (1 + c),GoodName y /\ y ∉ (["v", "not", "and", "or"]:List Str):=fun y hy=>VR S7 nx y (List.mem_of_mem_take hy)
    have l5:(rn5 "abcdefgh").length=5:=rfl
    have hne:(rn5 "abcdefgh").take (1 + c) ≠ []:=by
      intro z
      have:=congrArg List.length z
      rw [List.length_take,l5] at this
      simp at this
    have hrl:((rn5 "abcdefgh").take (1 + c)).length <= 100:=by
      rw [List.length_take]; omega
    obtain ⟨rs,μ4,q4,h41,h42,u4⟩:=M7 (nm:=nm) (k:=k) (ex:=[MO.lst (hs.map Hd.toD)]) (many:=many) hbs hbl (fun y hy=>(hrn y hy).1) hne hrl hm1 hm2 ((List.range' 0 many.toNat).map fun j:Nat=>D.int j) [] μ3 w3 len3
    have hrs:rs.length=many.toNat:=by rw [h41]; simp
    have hrsI:((rs.length:Nat):Int)=many:=by omega
    have w4:=u4.well w3.lt
    have len4:μ4.length=L:=by rw [u4.len,len3]
    obtain ⟨r5,μ5,e5,a5,b5,u5⟩:=Cz (g:=[MO.lst (bs.map Bx.toD),MO.lst (hs.map Hd.toD)]) (b:=5) w4 (by decide) (by decide)
    have w5:=u5.well w4.lt
    have len5:μ5.length=L:=by rw [u5.len,len4]
    obtain ⟨wi,i1,i2,ewi⟩:=Nf a5 b5
    have ok':∀ (i:Nat) (h:Hd),(hs ++ [(⟨nm,wi,rs⟩:Hd)])[i]? = some h->Ms bs i h:=by
      intro i h e
      by_cases hi:i < hs.length
      . rw [List.getElem?_append_left hi] at e; exact ok i h e
      . have hi2:=(List.getElem?_eq_some_iff.mp e).1
        simp at hi2
        have hik:i=hs.length:=by omega
        subst hik
        rw [List.getElem?_concat_length] at e
        cases e
        refine ⟨i1,i2,by show rs.length <= 60; omega,fun r hr=>?_⟩
        show r.Ok (bs.map kv) nm (hs.length == 0) rs.length
        rw [hrsI,hk]
        exact QX hnd hrn (h42 r hr)
    obtain ⟨hs',o5',o10',o11',o12',o13',o14',μ',q,u,hnm,okk⟩:=Jp (lg:=lg) (o1:=o1) (o2:=o2) (o3:=o3) (o6:=o6) (o7:=o7) hnd hbs hbw hbl rest (k + 1) (hs ++ [⟨nm,wi,rs⟩]) (some (.int k)) (some (.str nm)) (some (.int many)) (some (.lst ((own bs nm).map D.str))) (some (.lst (((rn5 "abcdefgh").take (1 + c)).map D.str))) (some (.lst (rs.map Rw.toD))) μ5 w5 len5 (by simp [hk]) (by simp at hr; omega) ok' (fun y hy=>gn y (by simp [hy]))
    refine ⟨hs',o5',o10',o11',o12',o13',o14',μ',?_,u1.trans (u3.trans (u4.trans (u5.trans u))),by rw [hnm]; simp,okk⟩
    have ap:=DP (μ:=μ5 ++ [MO.lst (bs.map Bx.toD),MO.lst (hs.map Hd.toD)]) (n:=L + 1) (d:=(Hd.mk nm wi rs).toD) (at1 len5) (by rw [List.length_map]; omega)
    rw [Wf len5] at ap
    have eb:hs.map Hd.toD ++ [(Hd.mk nm wi rs).toD]=(hs ++ [(⟨nm,wi,rs⟩:Hd)]).map Hd.toD:=by simp
    rw [eb] at ap
    rw [List.map_cons]
    refine Al (τ1:=[some (.ref w),o1,o2,o3,some (.ref L),some (.int k),o6,o7,some (.ref (L + 1)),some (.int lg),some (.str nm),o11,o12,o13,o14]) (μ1:=μ ++ [MO.lst (bs.map Bx.toD),MO.lst (hs.map Hd.toD)]) rfl ?_ q
    refine AR (τ1:=[some (.ref w),o1,o2,o3,some (.ref L),some (.int k),o6,o7,some (.ref (L + 1)),some (.int lg),some (.str nm),some (.int m0),o12,o13,o14]) (μ1:=μ1 ++ [MO.lst (bs.map Bx.toD),MO.lst (hs.map Hd.toD)]) (Ah (AX (x:=.lst [D.int 0,.int 1,.int 3,.int 5,.int 7]) (y:=.int r1) rfl (AL (ds:=[.ref w,.int 5]) rfl e1) (FI em)) rfl) ?_
    refine AR emany ?_
    refine AR (τ1:=[some (.ref w),o1,o2,o3,some (.ref L),some (.int k),o6,o7,some (.ref (L + 1)),some (.int lg),some (.str nm),some (.int many),some (.lst ((own bs nm).map D.str)),o13,o14]) (μ1:=μ1 ++ [MO.lst (bs.map Bx.toD),MO.lst (hs.map Hd.toD)]) (Ah (d:=.lst ((own bs nm).map D.str)) (Di (ds:=bs.map Bx.toD) (MV (n:=L) rfl (at0 len1)) (by rw [List.length_map]; omega) (Pz gnm.ok bs [] hbw) (BY (by rw [List.nil_append,List.length_map]; unfold own; rw [List.length_map]; exact Nat.le_trans (List.length_filter_le _ _) (by omega)))) rfl) ?_
    refine AR (τ1:=[some (.ref w),o1,o2,o3,some (.ref L),some (.int k),o6,o7,some (.ref (L + 1)),some (.int lg),some (.str nm),some (.int many),some (.lst ((own bs nm).map D.str)),some (.lst (((rn5 "abcdefgh").take (1 + c)).map D.str)),o14]) (μ1:=μ3 ++ [MO.lst (bs.map Bx.toD),MO.lst (hs.map Hd.toD)]) (Ah (Cm (x0:=.lst ((rn5 "abcdefgh").map D.str)) (a:=none) (b:=some ((1 + c:Nat):Int)) (μ1:=μ1 ++ [MO.lst (bs.map Bx.toD),MO.lst (hs.map Hd.toD)]) (μ2:=μ1 ++ [MO.lst (bs.map Bx.toD),MO.lst (hs.map Hd.toD)]) rfl rfl (FD (AX (x:=.int 1) (y:=.int c) (μ1:=μ1 ++ [MO.lst (bs.map Bx.toD),MO.lst (hs.map Hd.toD)]) rfl (AL (ds:=[.ref w,.int 5]) rfl e3) (by rw [Ed]; rfl))) (by rw [Kf,GM,List.map_take])) rfl) ?_
    refine AR (τ1:=[some (.ref w),o1,o2,o3,some (.ref L),some (.int k),o6,o7,some (.ref (L + 1)),some (.int lg),some (.str nm),some (.int many),some (.lst ((own bs nm).map D.str)),some (.lst (((rn5 "abcdefgh").take (1 + c)).map D.str)),some (.lst (rs.map Rw.toD))]) (μ1:=μ4 ++ [MO.lst (bs.map Bx.toD),MO.lst (hs.map Hd.toD)]) (Ah (d:=.lst (rs.map Rw.toD)) (Di (P9 (m:=many) rfl hm1 (by omega)) (by simp; omega) q4 (by rw [List.nil_append]; exact BY (by rw [List.length_map]; omega))) rfl) ?_
    exact Bt (Cg (x:=.ref (L + 1)) (μ1:=μ4 ++ [MO.lst (bs.map Bx.toD),MO.lst (hs.map Hd.toD)]) rfl (Bi (at1 len4)) (AM (ds:=[]) (AL (ds:=[.str nm,.int wi,.tup (rs.map Rw.toD)]) (μ1:=μ5 ++ [MO.lst (bs.map Bx.toD),MO.lst (hs.map Hd.toD)]) (AM (μ1:=μ4 ++ [MO.lst (bs.map Bx.toD),MO.lst (hs.map Hd.toD)]) rfl (AM (AX (x:=.lst [D.int 0,.int 1,.int 9,.int 99,.int 400]) (y:=.int r5) rfl (AL (ds:=[.ref w,.int 5]) rfl e5) (FI ewi)) (AM (ds:=[]) (AL (ds:=[.lst (rs.map Rw.toD)]) rfl UV) rfl))) (BG (by show 3 <= sizeLine; omega))) rfl) ap)
theorem O0 (hw:WellAt μ w):∃ (m:Mk) (μ':Mh),Et [.ref w] μ=some (m.toD,μ') /\ m.Ok /\ Upd w μ μ':=by
  have hz:sizeLine=16777216:=by decide
  have nx:("abcdefgh" : Str) ∉ base11:=by decide +kernel
  obtain ⟨r0,μ0,e0,a0,b0,u0⟩:=CJ (b:=12) hw (by decide) (by decide)
  have w0:=u0.well hw.lt
  obtain ⟨t,rfl⟩:=Int.eq_ofNat_of_zero_le a0
  have N:=Rx nx S7 (PR (sm:=CL "abcdefgh") t)
  have l12:(CL "abcdefgh").length=12:=rfl
  obtain ⟨r1,μ1,e1,a1,b1,u1⟩:=CJ (b:=3) w0 (by decide) (by decide)
  have w1:=u1.well w0.lt
  obtain ⟨c0,rfl⟩:=Int.eq_ofNat_of_zero_le a1
  have len1:μ1.length=μ.length:=by rw [u1.len,u0.len]
  generalize hsm:(CL "abcdefgh").drop t ++ (CL "abcdefgh").take t=sm at N
  generalize hc:2 + c0=c
  have c2:2 <= c:=by omega
  have c4:c <= 4:=by omega
  have ad:Ak (.lst (((CL "abcdefgh").map D.str).drop t)) (.lst (((CL "abcdefgh").map D.str).take t)) μ0=some (.lst (sm.map D.str),μ0):=by
    have e:((CL "abcdefgh").map D.str).drop t ++ ((CL "abcdefgh").map D.str).take t=sm.map D.str:=by rw [← hsm]; simp [List.map_drop,List.map_take]
    show A7 (((CL "abcdefgh").map D.str).drop t ++ ((CL "abcdefgh").map D.str).take t) _=_
    rw [e]
    exact BY (by rw [List.length_map,N.len]; omega)
  have nsl:(sm.take c).length=c:=by rw [List.length_take,N.len]; omega
  have nsne:sm.take c ≠ []:=by intro z; rw [z] at nsl; simp at nsl; omega
  have nsg:∀ y ∈ sm.take c,GoodName y:=fun y hy=>N.good y (List.mem_of_mem_take hy)
  have nsd:(sm.take c).Nodup:=N.nd.sublist (List.take_sublist _ _)
  obtain ⟨r2,μ2,e2,a2,b2,u2⟩:=Cz (g:=[.lst []]) (b:=7) w1 (by decide) (by decide)
  have w2:=u2.well w1.lt
  have len2:μ2.length=μ.length:=by rw [u2.len,len1]
  obtain ⟨bs,o5,o6,o7,μ3,q3,u3,B⟩:=Ly (sm:=sm) (ns:=sm.take c) (o2:=some (.int t)) (L:=μ.length) N.len nsne (by omega) r2.toNat 0 [] none none none μ2 w2 len2 (by omega) ⟨by simp,by simp,by simp⟩
  rw [Nat.zero_add] at B
  have w3:=u3.well w2.lt
  have len3:μ3.length=μ.length:=by rw [u3.len,len2]
  have bl:bs.length <= 6:=by
    have:=congrArg List.length B.nms
    rw [List.length_map,List.length_take] at this
    omega
  have bnd':(bs.map Bx.nm).Nodup:=by
    rw [B.nms]
    exact ((List.reverse_perm sm).nodup_iff.mpr N.nd).sublist (List.take_sublist _ _)
  have bg:∀ b ∈ bs,GoodName b.nm:=fun b hb=>by
    have:b.nm ∈ sm.reverse.take r2.toNat:=by rw [← B.nms]; exact List.mem_map.mpr ⟨b,hb,rfl⟩
    exact N.good _ (List.mem_reverse.mp (List.mem_of_mem_take this))
  have hln:((((sm.take c).map D.str).length:Nat):Int)=c:=by rw [List.length_map,nsl]
  obtain ⟨lg,μ4,e4,a4,b4,u4⟩:=Cz (g:=[.lst (bs.map Bx.toD),.lst []]) (b:=9 * ((((sm.take c).map D.str).length:Nat):Int)) w3 (by omega) (by omega)
  have w4:=u4.well w3.lt
  have len4:μ4.length=μ.length:=by rw [u4.len,len3]
  obtain ⟨hs,p5,p10,p11,p12,p13,p14,μ5,q5,u5,hnm,hok⟩:=Jp (bs:=bs) (L:=μ.length) (lg:=lg) (o1:=some (.lst (sm.map D.str))) (o2:=some (.int t)) (o3:=some (.lst ((sm.take c).map D.str))) (o6:=o6) (o7:=o7) bnd' bg (fun b hb=>(nsg _ (B.wri b hb)).ok) bl (sm.take c) 0 [] o5 none none none none none μ4 w4 len4 rfl (by rw [nsl]; omega) (by simp) nsg
  have w5:=u5.well w4.lt
  have len5:μ5.length=μ.length:=by rw [u5.len,len4]
  obtain ⟨r6,μ6,e6,a6,b6,u6⟩:=Cz (g:=[MO.lst (bs.map Bx.toD),MO.lst (hs.map Hd.toD)]) (b:=9) w5 (by decide) (by decide)
  have w6:=u6.well w5.lt
  obtain ⟨r7,μ7,e7,a7,b7,u7⟩:=Cz (g:=[MO.lst (bs.map Bx.toD),MO.lst (hs.map Hd.toD)]) (b:=3) w6 (by decide) (by decide)
  have w7:=u7.well w6.lt
  obtain ⟨kd,hkd,ek⟩:=NN a7 b7
  obtain ⟨r8,μ8,e8,a8,b8,u8⟩:=Cz (g:=[MO.lst (bs.map Bx.toD),MO.lst (hs.map Hd.toD)]) (b:=2 + r6) w7 (by omega) (by omega)
  have len8:μ8.length=μ.length:=by rw [u8.len,u7.len,u6.len,len5]
  have u:Upd w μ μ8:=u0.trans (u1.trans (u2.trans (u3.trans (u4.trans (u5.trans (u6.trans (u7.trans u8)))))))
  have hnm2:hs.map Hd.nm=sm.take c:=by rw [hnm]; rfl
  have hsl:hs.length=c:=by have:=congrArg List.length hnm2; rw [List.length_map,nsl] at this; exact this
  refine ⟨⟨kd,2 + r6,r8,bs,hs⟩,μ8,?_,?_,u⟩
  . refine Fw (g:=[MO.lst (bs.map Bx.toD),MO.lst (hs.map Hd.toD)]) (τ2:=[some (.ref w),some (.lst (sm.map D.str)),some (.int t),some (.lst ((sm.take c).map D.str)),some (.ref μ.length),p5,some (.int (2 + r6)),some (.str kd),some (.ref (μ.length + 1)),some (.int lg),p10,p11,p12,p13,p14]) ?_ rfl u (Mk.cl _)
    refine AR (τ1:=[some (.ref w),some (.lst ((CL "abcdefgh").map D.str)),none,none,none,none,none,none,none,none,none,none,none,none,none]) (μ1:=μ) rfl ?_
    refine AR (τ1:=[some (.ref w),some (.lst ((CL "abcdefgh").map D.str)),some (.int t),none,none,none,none,none,none,none,none,none,none,none,none]) (μ1:=μ0) (Ah (AL (ds:=[.ref w,.int 12]) rfl e0) rfl) ?_
    refine AR (τ1:=[some (.ref w),some (.lst (sm.map D.str)),some (.int t),none,none,none,none,none,none,none,none,none,none,none,none]) (μ1:=μ0) (Ah (AX (Cm (x0:=.lst ((CL "abcdefgh").map D.str)) (a:=some (t:Int)) (b:=none) (μ1:=μ0) (μ2:=μ0) (μ3:=μ0) rfl rfl rfl (by rw [Kf,Gr t (by rw [List.length_map,l12]; omega)])) (Cm (x0:=.lst ((CL "abcdefgh").map D.str)) (a:=none) (b:=some (t:Int)) (μ1:=μ0) (μ2:=μ0) (μ3:=μ0) rfl rfl rfl (by rw [Kf,GM t])) ad) rfl) ?_
    refine AR (τ1:=[some (.ref w),some (.lst (sm.map D.str)),some (.int t),some (.lst ((sm.take c).map D.str)),none,none,none,none,none,none,none,none,none,none,none]) (μ1:=μ1) (Ah (Cm (x0:=.lst (sm.map D.str)) (a:=none) (b:=some ((c:Nat):Int)) (μ1:=μ0) (μ2:=μ0) (μ3:=μ1) rfl rfl (FD (AX (x:=.int 2) (y:=.int c0) (μ1:=μ0) (μ2:=μ1) rfl (AL (ds:=[.ref w,.int 3]) rfl e1) (by rw [Ed,← hc]; rfl))) (by rw [Kf,GM,List.map_take])) rfl) ?_
    refine AR (τ1:=[some (.ref w),some (.lst (sm.map D.str)),some (.int t),some (.lst ((sm.take c).map D.str)),some (.ref μ.length),none,none,none,none,none,none,none,none,none,none]) (μ1:=μ1 ++ [.lst []]) (Ah (d:=.ref μ.length) (μ1:=μ1 ++ [.lst []]) (AL (ds:=[]) rfl (by rw [CD (by show 0 <= sizeLine; omega),len1])) rfl) ?_
    refine AR (Bf (P9 (m:=r2) (μ1:=μ2 ++ [.lst []]) (AM (ds:=[]) (AL (ds:=[.ref w,.int 7]) rfl e2) rfl) a2 (by omega)) q3) ?_
    refine AR (τ1:=[some (.ref w),some (.lst (sm.map D.str)),some (.int t),some (.lst ((sm.take c).map D.str)),some (.ref μ.length),o5,o6,o7,some (.ref (μ.length + 1)),none,none,none,none,none,none]) (μ1:=μ3 ++ [.lst (bs.map Bx.toD),.lst []]) (Ah (d:=.ref (μ.length + 1)) (μ1:=μ3 ++ [.lst (bs.map Bx.toD),.lst []]) (AL (ds:=[]) rfl (by rw [CD (by show 0 <= sizeLine; omega),List.length_append,len3,List.append_assoc]; rfl)) rfl) ?_
    refine AR (τ1:=[some (.ref w),some (.lst (sm.map D.str)),some (.int t),some (.lst ((sm.take c).map D.str)),some (.ref μ.length),o5,o6,o7,some (.ref (μ.length + 1)),some (.int lg),none,none,none,none,none]) (μ1:=μ4 ++ [.lst (bs.map Bx.toD),.lst []]) (Ah (AL (ds:=[.ref w,.int (9 * ((((sm.take c).map D.str).length:Nat):Int))]) (μ1:=μ3 ++ [.lst (bs.map Bx.toD),.lst []]) (AM (μ1:=μ3 ++ [.lst (bs.map Bx.toD),.lst []]) rfl (AM (ds:=[]) (μ1:=μ3 ++ [.lst (bs.map Bx.toD),.lst []]) (AX (x:=.int 9) (y:=.int ((((sm.take c).map D.str).length:Nat):Int)) (μ1:=μ3 ++ [.lst (bs.map Bx.toD),.lst []]) (μ2:=μ3 ++ [.lst (bs.map Bx.toD),.lst []]) rfl (AL (ds:=[.lst ((sm.take c).map D.str)]) rfl QF) (S5 (.inl (by omega)))) rfl)) e4) rfl) ?_
    refine AR (Bf (ds:=B1 0 ((sm.take c).map D.str)) (μ1:=μ4 ++ [.lst (bs.map Bx.toD),.lst []]) rfl q5) ?_
    refine AR (τ1:=[some (.ref w),some (.lst (sm.map D.str)),some (.int t),some (.lst ((sm.take c).map D.str)),some (.ref μ.length),p5,some (.int (2 + r6)),o7,some (.ref (μ.length + 1)),some (.int lg),p10,p11,p12,p13,p14]) (μ1:=μ6 ++ [MO.lst (bs.map Bx.toD),MO.lst (hs.map Hd.toD)]) (Ah (AX (x:=.int 2) (y:=.int r6) rfl (AL (ds:=[.ref w,.int 9]) rfl e6) Ed) rfl) ?_
    refine AR (τ1:=[some (.ref w),some (.lst (sm.map D.str)),some (.int t),some (.lst ((sm.take c).map D.str)),some (.ref μ.length),p5,some (.int (2 + r6)),some (.str kd),some (.ref (μ.length + 1)),some (.int lg),p10,p11,p12,p13,p14]) (μ1:=μ7 ++ [MO.lst (bs.map Bx.toD),MO.lst (hs.map Hd.toD)]) (Ah (AX (x:=.lst [D.str "safe",.str "steady",.str "whole"]) (y:=.int r7) rfl (AL (ds:=[.ref w,.int 3]) rfl e7) (FI ek)) rfl) ?_
    refine BB (AL (ds:=[.str kd,.int (2 + r6),.int r8,.tup (bs.map Bx.toD),.tup (hs.map Hd.toD)]) (μ1:=μ8 ++ [MO.lst (bs.map Bx.toD),MO.lst (hs.map Hd.toD)]) ?_ (BG (by show 5 <= sizeLine; omega)))
    exact AM (μ1:=μ7 ++ [MO.lst (bs.map Bx.toD),MO.lst (hs.map Hd.toD)]) rfl (AM (μ1:=μ7 ++ [MO.lst (bs.map Bx.toD),MO.lst (hs.map Hd.toD)]) rfl (AM (AL (ds:=[.ref w,.int (2 + r6)]) rfl e8) (AM (μ1:=μ8 ++ [MO.lst (bs.map Bx.toD),MO.lst (hs.map Hd.toD)]) (AL (ds:=[.ref μ.length]) rfl (GI (at0 len8))) (AM (μ1:=μ8 ++ [MO.lst (bs.map Bx.toD),MO.lst (hs.map Hd.toD)]) (AL (ds:=[.ref (μ.length + 1)]) rfl (GI (at1 len8))) rfl))))
  . refine ⟨⟨hkd,by show 2 <= 2 + r6; omega,by show 2 + r6 <= 10; omega,a8,by show r8 <= 2 + r6 - 1; omega⟩,fun b hb=>⟨bg b hb,B.wor b hb⟩,bl,bnd',fun h hh=>?_,by show 2 <= hs.length; omega,by show hs.length <= 4; omega,by show (hs.map Hd.nm).Nodup; rw [hnm2]; exact nsd,fun b hb=>?_,fun i h e=>(hok i h e).rows⟩
    . obtain ⟨i,e⟩:=List.mem_iff_getElem?.mp hh
      have H:=hok i h e
      exact ⟨nsg _ (by rw [← hnm2]; exact List.mem_map.mpr ⟨h,hh,rfl⟩),H.lo,H.hi,H.most⟩
    . show b.wr ∈ hs.map Hd.nm
      rw [hnm2]; exact B.wri b hb
end
end K61
set_option maxHeartbeats 4000000
namespace K1
open PySem L2 Mi
def Pl (k:Nat) (d:D):Prop:=∃ p:PyData,(∀ μ,toP μ d=some p) /\ PyData.canLay0 p=true /\ PyData.depth p <= k /\ PyData.eqv p p=true
def PlL (k:Nat) (ds:List D):Prop:=∃ ps:List PyData,(∀ μ,Ek μ ds=some ps) /\ PyData.canLayAll0 ps=true /\ PyData.depthAll ps <= k /\ PyData.eqvAll ps ps=true
section
variable {μ:Mh} {k:Nat} {d a b:D} {ds es:List D} {x:Str}
theorem Pl.int {i:Int}:Pl k (.int i):=⟨.int i,fun _=>rfl,rfl,by show 0 <= k; omega,by show (i == i)=true; simp⟩
theorem Pl.str (h:PyData.strOk x=true):Pl k (.str x):=⟨.str x,fun _=>rfl,h,by show 0 <= k; omega,by show (x == x)=true; simp⟩
theorem PlL.nil:PlL k []:=⟨[],fun _=>by unfold Ek; rfl,rfl,by show 0 <= k; omega,rfl⟩
theorem PlL.cons (h:Pl k d) (t:PlL k ds):PlL k (d :: ds):=by
  obtain ⟨p,h1,h2,h3,h4⟩:=h
  obtain ⟨ps,t1,t2,t3,t4⟩:=t
  refine ⟨p :: ps,fun μ=>by unfold Ek; rw [h1 μ,t1 μ]; rfl,?_,?_,?_⟩
  . show (PyData.canLay0 p && PyData.canLayAll0 ps)=true
    rw [h2,t2]; rfl
  . show max (PyData.depth p) (PyData.depthAll ps) <= k
    omega
  . show (PyData.eqv p p && PyData.eqvAll ps ps)=true
    rw [h4,t4]; rfl
theorem Pl.tup (h:PlL k ds):Pl (k + 1) (.tup ds):=by
  obtain ⟨ps,t1,t2,t3,t4⟩:=h
  exact ⟨.tuple ps,fun μ=>by unfold toP; rw [t1 μ]; rfl,t2,by show PyData.depthAll ps + 1 <= k + 1; omega,t4⟩
theorem Pl.mono {j:Nat} (h:Pl k d) (hj:k <= j):Pl j d:=by
  obtain ⟨p,h1,h2,h3,h4⟩:=h
  exact ⟨p,h1,h2,by omega,h4⟩
theorem PlL.all:∀ {ds:List D},(∀ d ∈ ds,Pl k d)->PlL k ds
  | [],_=>.nil
  | d :: ds,h=>.cons (h d (by simp)) (PlL.all fun q hq=>h q (by simp [hq]))
theorem PlL.map {α:Type} {f:α->D} {xs:List α} (h:∀ a ∈ xs,Pl k (f a)):PlL k (xs.map f):=PlL.all fun d hd=>by
  rw [List.mem_map] at hd
  obtain ⟨a,ha,rfl⟩:=hd
  exact h a ha
def neD (a b:D):Bool:=match toP [] a,toP [] b with
  | some p,some q=>!PyData.eqv p q
  | _,_=>false
theorem V1 (ha:Pl 60 a) (hb:Pl 60 b) (h1:∀ n,a ≠ .ref n) (h2:∀ n,b ≠ .ref n):Bl a b μ=some (.bl (neD a b),μ):=by
  obtain ⟨p,p1,p2,p3,p4⟩:=ha
  obtain ⟨q,q1,q2,q3,q4⟩:=hb
  have e1:IB μ a=some p:=by
    cases a with
    | ref n=>exact absurd rfl (h1 n)
    | _=>exact p1 μ
  have e2:IB μ b=some q:=by
    cases b with
    | ref n=>exact absurd rfl (h2 n)
    | _=>exact q1 μ
  have s1:SeqAt.shaped p=true:=by
    show (PyData.canLay0 p && decide (PyData.depth p <= 64))=true
    rw [p2,decide_eq_true (by omega)]; rfl
  have s2:SeqAt.shaped q=true:=by
    show (PyData.canLay0 q && decide (PyData.depth q <= 64))=true
    rw [q2,decide_eq_true (by omega)]; rfl
  unfold neD Bl F2
  rw [e1,e2,p1 [],q1 []]
  show (if SeqAt.shaped p=true /\ SeqAt.shaped q=true then some (D.bl (!PyData.eqv p q),μ) else none)=_
  rw [if_pos ⟨s1,s2⟩]
theorem QA {n:Nat} (h:PlL 60 ds) (hn:μ[n]? = some (.lst ds)):Bl (.ref n) (.lst ds) μ=some (.bl false,μ):=by
  obtain ⟨ps,t1,t2,t3,t4⟩:=h
  have e1:IB μ (.ref n)=some (.list ps):=by
    show (match μ[n]? with | some (.lst ds)=>(Ek μ ds).map PyData.list | _=>none)=_
    rw [hn]
    show (Ek μ ds).map PyData.list=_
    rw [t1 μ]; rfl
  have e2:IB μ (.lst ds)=some (.list ps):=by
    show toP μ (.lst ds)=_
    unfold toP; rw [t1 μ]; rfl
  have s1:SeqAt.shaped (.list ps)=true:=by
    show (PyData.canLayAll0 ps && decide (PyData.depthAll ps + 1 <= 64))=true
    rw [t2,decide_eq_true (by omega)]; rfl
  unfold Bl F2
  rw [e1,e2]
  show (if SeqAt.shaped (.list ps)=true /\ SeqAt.shaped (.list ps)=true then some (D.bl (!PyData.eqvAll ps ps),μ) else none)=_
  rw [if_pos ⟨s1,s1⟩,t4]; rfl
theorem Ex.pl:∀ {k:Nat} {e:Ex},e.Ok k->Pl (k + 1) e.toD
  | k + 1,.num i,_=>Pl.tup (.cons (.str (by decide +kernel)) (.cons .int .nil))
  | k + 1,.var x,h=>Pl.tup (.cons (.str (by decide +kernel)) (.cons (.str (GoodName.ok h)) .nil))
  | k + 1,.neg e,h=>Pl.tup (.cons (.str (by decide +kernel)) (.cons (Ex.pl (k:=k) (e:=e) h) .nil))
  | k + 1,.pair w a b,h=>by
    have hw:PyData.strOk w=true:=by
      have hw:w ∈ (["+", "-", "=", "<", "and", "or"]:List Str):=h.1
      simp only [List.mem_cons,List.not_mem_nil,or_false] at hw
      rcases hw with rfl | rfl | rfl | rfl | rfl | rfl <;> decide +kernel
    exact Pl.tup (.cons (.str hw) (.cons (Ex.pl (k:=k) (e:=a) h.2.1) (.cons (Ex.pl (k:=k) (e:=b) h.2.2) .nil)))
theorem Rw.pl {r:Rw} {l:Int} (h:r.Form l):Pl 7 r.toD:=by
  cases r with
  | put bx e=>exact Pl.tup (.cons (.str (by decide +kernel)) (.cons (.str h.1.ok) (.cons (Ex.pl h.2) .nil)))
  | get x bx=>exact Pl.tup (.cons (.str (by decide +kernel)) (.cons (.str h.1.ok) (.cons (.str h.2.ok) .nil)))
  | letr x e=>exact Pl.tup (.cons (.str (by decide +kernel)) (.cons (.str h.1.ok) (.cons (Ex.pl h.2) .nil)))
  | «unless» e t=>exact Pl.tup (.cons (.str (by decide +kernel)) (.cons (Ex.pl h.1) (.cons .int .nil)))
  | jump t=>exact Pl.tup (.cons (.str (by decide +kernel)) (.cons .int .nil))
  | tell e=>exact Pl.tup (.cons (.str (by decide +kernel)) (.cons (Ex.pl (show e.Ok 5 from h)) .nil))
  | done=>exact Pl.tup (.cons (.str (by decide +kernel)) .nil)
theorem Hq {kd:Str} (h:kd ∈ (["safe", "steady", "whole"]:List Str)):PyData.strOk kd=true:=by
  simp only [List.mem_cons,List.not_mem_nil,or_false] at h
  rcases h with rfl | rfl | rfl <;> decide +kernel
theorem Mk.Ok.pl {m:Mk} (h:m.Ok):Pl 12 m.toD:=by
  have hb:PlL 11 (m.bs.map Bx.toD):=PlL.map fun b hb=>by
    obtain ⟨g,w⟩:=h.boxes b hb
    have hw:b.wr ∈ m.hs.map Hd.nm:=h.writers b hb
    rw [List.mem_map] at hw
    obtain ⟨q,hq,e⟩:=hw
    exact (Pl.tup (k:=10) (.cons (.str g.ok) (.cons (.str (Hq w.1)) (.cons .int (.cons .int (.cons (.str (by rw [← e]; exact (h.hands q hq).1.ok)) .nil)))))).mono (by omega)
  have hh:PlL 10 (m.hs.map Hd.toD):=PlL.map fun g hg=>by
    obtain ⟨i,hi⟩:=List.mem_iff_getElem?.mp hg
    have hr:PlL 7 (g.rs.map Rw.toD):=PlL.map fun r hr=>Rw.pl (h.rows i g hi r hr).form
    exact (Pl.tup (k:=9) (.cons (.str (h.hands g hg).1.ok) (.cons .int (.cons ((Pl.tup hr).mono (by omega)) .nil)))).mono (by omega)
  have hb2:Pl 11 (.tup (m.bs.map Bx.toD)):=by
    have hb:PlL 10 (m.bs.map Bx.toD):=PlL.map fun b hb=>by
      obtain ⟨g,w⟩:=h.boxes b hb
      have hw:b.wr ∈ m.hs.map Hd.nm:=h.writers b hb
      rw [List.mem_map] at hw
      obtain ⟨q,hq,e⟩:=hw
      exact (Pl.tup (k:=9) (.cons (.str g.ok) (.cons (.str (Hq w.1)) (.cons .int (.cons .int (.cons (.str (by rw [← e]; exact (h.hands q hq).1.ok)) .nil)))))).mono (by omega)
    exact Pl.tup hb
  exact Pl.tup (.cons (.str (Hq h.worth.1)) (.cons .int (.cons .int (.cons hb2 (.cons (Pl.tup hh) .nil)))))
end
end K1
set_option maxHeartbeats 4000000
namespace K61
open PySem L2 Mi K1
section
variable {μ μ1 μ2 μ3 μ4 μ' g:Mh} {n w:Nat} {l:Int} {d x0:D} {x y:Str} {τ τ1 τ2:Sl} {ds es:List D}
theorem Dc (h:ds.length + es.length <= sizeLine):Ak (.tup ds) (.tup es) μ=some (.tup (ds ++ es),μ):=by
  cases ds with
  | nil=>rfl
  | cons a r=>exact BG (by simp at h ⊢; omega)
theorem Ki (h:ds.length + es.length <= sizeLine):Ak (.lst ds) (.lst es) μ=some (.lst (ds ++ es),μ):=BY (by simpa using h)
theorem Qx {α:Type} {xs:List α} {p:Nat} {a:α} (h:p < xs.length):xs.take p ++ [a] ++ xs.drop (p + 1)=xs.set p a:=by
  rw [List.set_eq_take_append_cons_drop,if_pos h]; simp
theorem Ca {p:Nat} (hp:p < ds.length) (hl:ds.length <= 1000) (hc:∀ k,ClL k (ds.set p d)):A3 [.tup ds,.int p,d] μ=some (.tup (ds.set p d),μ):=by
  have hz:sizeLine=16777216:=by decide
  refine Ae (g:=[]) (τ2:=[some (.tup ds),some (.int p),some d]) ?_ rfl (by unfold Cl; exact hc _)
  rw [List.append_nil,← Qx hp]
  refine BB (AX (x:=.tup (ds.take p ++ [d])) (y:=.tup (ds.drop (p + 1))) (μ1:=μ) (μ2:=μ) (AX (x:=.tup (ds.take p)) (y:=.tup [d]) (μ1:=μ) (μ2:=μ) (Cm (x0:=.tup ds) (a:=none) (b:=some (p:Int)) (μ1:=μ) (μ2:=μ) (μ3:=μ) rfl rfl rfl (by rw [GJ,GM])) (AL (ds:=[d]) (μ1:=μ) rfl (BG (by show 1 <= sizeLine; omega))) (Dc (by rw [List.length_take]; show min p ds.length + 1 <= sizeLine; omega))) (Cm (x0:=.tup ds) (a:=some ((p + 1:Nat):Int)) (b:=none) (μ1:=μ) (μ2:=μ) (μ3:=μ) rfl (FD (AX (x:=.int p) (y:=.int 1) (μ1:=μ) (μ2:=μ) rfl rfl (by rw [Ed]; rfl))) rfl (by rw [GJ,Gr (p + 1) hp])) (Dc (by simp; omega)))
theorem K3 {a:Int}:∀ {r:Rw},DC [r.toD,.int a] μ=some ((r.pull a).toD,μ):=by
  intro r
  have cl:=(r.pull a).cl (k:=μ.length)
  cases r with
  | «unless» e t=>
    by_cases c:a < t
    . have e1:(Rw.pull a (.unless e t))=.unless e (t - 1):=by show Rw.unless e (if a < t then t - 1 else t)=_; rw [if_pos c]
      rw [e1] at cl ⊢
      exact Ae (g:=[]) (τ2:=[some (Rw.unless e t).toD,some (.int a)]) (by
        rw [List.append_nil]
        exact FC (Cn (μ1:=μ) (CG (μ1:=μ) (Aa (AX (x:=.str "unless") (y:=.tup [.str "jump",.str "unless"]) (μ1:=μ) (μ2:=μ) rfl rfl (FJ (xs:=["jump", "unless"]) (by decide +kernel)))) (Aa (AX (x:=.int t) (y:=.int a) (μ1:=μ) (μ2:=μ) rfl rfl (QG c)))) (BB rfl))) rfl cl
    . have e1:(Rw.pull a (.unless e t))=.unless e t:=by show Rw.unless e (if a < t then t - 1 else t)=_; rw [if_neg c]
      rw [e1] at cl ⊢
      exact Ae (g:=[]) (τ2:=[some (Rw.unless e t).toD,some (.int a)]) (by
        rw [List.append_nil]
        exact AR (BC (μ1:=μ) (CG (μ1:=μ) (Aa (AX (x:=.str "unless") (y:=.tup [.str "jump",.str "unless"]) (μ1:=μ) (μ2:=μ) rfl rfl (FJ (xs:=["jump", "unless"]) (by decide +kernel)))) (Aa (AX (x:=.int t) (y:=.int a) (μ1:=μ) (μ2:=μ) rfl rfl (Lf (by omega))))) rfl) (BB rfl)) rfl cl
  | jump t=>
    by_cases c:a < t
    . have e1:(Rw.pull a (.jump t))=.jump (t - 1):=by show Rw.jump (if a < t then t - 1 else t)=_; rw [if_pos c]
      rw [e1] at cl ⊢
      exact Ae (g:=[]) (τ2:=[some (Rw.jump t).toD,some (.int a)]) (by
        rw [List.append_nil]
        exact FC (Cn (μ1:=μ) (CG (μ1:=μ) (Aa (AX (x:=.str "jump") (y:=.tup [.str "jump",.str "unless"]) (μ1:=μ) (μ2:=μ) rfl rfl (FJ (xs:=["jump", "unless"]) (by decide +kernel)))) (Aa (AX (x:=.int t) (y:=.int a) (μ1:=μ) (μ2:=μ) rfl rfl (QG c)))) (BB rfl))) rfl cl
    . have e1:(Rw.pull a (.jump t))=.jump t:=by show Rw.jump (if a < t then t - 1 else t)=_; rw [if_neg c]
      rw [e1] at cl ⊢
      exact Ae (g:=[]) (τ2:=[some (Rw.jump t).toD,some (.int a)]) (by
        rw [List.append_nil]
        exact AR (BC (μ1:=μ) (CG (μ1:=μ) (Aa (AX (x:=.str "jump") (y:=.tup [.str "jump",.str "unless"]) (μ1:=μ) (μ2:=μ) rfl rfl (FJ (xs:=["jump", "unless"]) (by decide +kernel)))) (Aa (AX (x:=.int t) (y:=.int a) (μ1:=μ) (μ2:=μ) rfl rfl (Lf (by omega))))) rfl) (BB rfl)) rfl cl
  | put bx e=>exact Ae (g:=[]) (τ2:=[some (Rw.put bx e).toD,some (.int a)]) (by rw [List.append_nil]; exact AR (BC (μ1:=μ) (Dj (Aa (AX (x:=.str "put") (y:=.tup [.str "jump",.str "unless"]) (μ1:=μ) (μ2:=μ) rfl rfl (Gj (xs:=["jump", "unless"]) (by decide +kernel))))) rfl) (BB rfl)) rfl cl
  | get x bx=>exact Ae (g:=[]) (τ2:=[some (Rw.get x bx).toD,some (.int a)]) (by rw [List.append_nil]; exact AR (BC (μ1:=μ) (Dj (Aa (AX (x:=.str "get") (y:=.tup [.str "jump",.str "unless"]) (μ1:=μ) (μ2:=μ) rfl rfl (Gj (xs:=["jump", "unless"]) (by decide +kernel))))) rfl) (BB rfl)) rfl cl
  | letr x e=>exact Ae (g:=[]) (τ2:=[some (Rw.letr x e).toD,some (.int a)]) (by rw [List.append_nil]; exact AR (BC (μ1:=μ) (Dj (Aa (AX (x:=.str "let") (y:=.tup [.str "jump",.str "unless"]) (μ1:=μ) (μ2:=μ) rfl rfl (Gj (xs:=["jump", "unless"]) (by decide +kernel))))) rfl) (BB rfl)) rfl cl
  | tell e=>exact Ae (g:=[]) (τ2:=[some (Rw.tell e).toD,some (.int a)]) (by rw [List.append_nil]; exact AR (BC (μ1:=μ) (Dj (Aa (AX (x:=.str "tell") (y:=.tup [.str "jump",.str "unless"]) (μ1:=μ) (μ2:=μ) rfl rfl (Gj (xs:=["jump", "unless"]) (by decide +kernel))))) rfl) (BB rfl)) rfl cl
  | done=>exact Ae (g:=[]) (τ2:=[some Rw.done.toD,some (.int a)]) (by rw [List.append_nil]; exact AR (BC (μ1:=μ) (Dj (Aa (AX (x:=.str "done") (y:=.tup [.str "jump",.str "unless"]) (μ1:=μ) (μ2:=μ) rfl rfl (Gj (xs:=["jump", "unless"]) (by decide +kernel))))) rfl) (BB rfl)) rfl cl
def Co (m:Mk) (k:Nat) (h:Hd) (rs:List Rw):Mk:=⟨m.kd,m.sz,m.bg,m.bs,m.hs.set k ⟨h.nm,h.wi,rs⟩⟩
theorem WJ {k:Nat} (hs:List Hd):ClL k (hs.map Hd.toD):=Fv (fun h=>h.cl) hs
theorem WK {k:Nat} (bs:List Bx):ClL k (bs.map Bx.toD):=Fv (fun h=>h.cl) bs
theorem HN {m:Mk} {k:Nat} {h:Hd} {rs:List Rw} (e:m.hs[k]? = some h) (hl:m.hs.length <= 4):DB [m.toD,.int k,.tup (rs.map Rw.toD)] μ=some ((Co m k h rs).toD,μ):=by
  have hk:k < m.hs.length:=(List.getElem?_eq_some_iff.mp e).1
  have ix:∀ ν:Mh,AS (.tup (m.hs.map Hd.toD)) (.int k) ν=some (h.toD,ν):=fun ν=>FH (by
    unfold atI ixN
    rw [if_pos (by omega),if_pos (by rw [List.length_map]; omega)]
    show (m.hs.map Hd.toD)[(k:Int).toNat]? = _
    rw [Int.toNat_natCast,List.getElem?_map,e]; rfl)
  have t1:A3 [h.toD,.int 2,.tup (rs.map Rw.toD)] μ=some ((Hd.mk h.nm h.wi rs).toD,μ):=Ca (p:=2) (ds:=[.str h.nm,.int h.wi,.tup (h.rs.map Rw.toD)]) (by simp) (by simp) fun j=>by
    have:=(Hd.mk h.nm h.wi rs).cl (k:=j)
    unfold Hd.toD Cl at this
    exact this
  have hset:(m.hs.map Hd.toD).set k (Hd.mk h.nm h.wi rs).toD=(m.hs.set k ⟨h.nm,h.wi,rs⟩).map Hd.toD:=by rw [List.map_set]
  have t2:A3 [.tup (m.hs.map Hd.toD),.int k,(Hd.mk h.nm h.wi rs).toD] μ=some (.tup ((m.hs.set k ⟨h.nm,h.wi,rs⟩).map Hd.toD),μ):=by
    rw [Ca (p:=k) (ds:=m.hs.map Hd.toD) (by rw [List.length_map]; exact hk) (by rw [List.length_map]; omega) (fun j=>by rw [hset]; exact WJ _),hset]
  have t3:A3 [m.toD,.int 4,.tup ((m.hs.set k ⟨h.nm,h.wi,rs⟩).map Hd.toD)] μ=some ((Co m k h rs).toD,μ):=Ca (p:=4) (ds:=[.str m.kd,.int m.sz,.int m.bg,.tup (m.bs.map Bx.toD),.tup (m.hs.map Hd.toD)]) (by simp) (by simp) fun j=>by
    have:=(Co m k h rs).cl (k:=j)
    unfold Mk.toD Cl at this
    exact this
  refine Ae (g:=[]) (τ2:=[some m.toD,some (.int k),some (.tup (rs.map Rw.toD)),some (Hd.mk h.nm h.wi rs).toD]) ?_ rfl (Mk.cl _)
  rw [List.append_nil]
  refine AR (τ1:=[some m.toD,some (.int k),some (.tup (rs.map Rw.toD)),some (Hd.mk h.nm h.wi rs).toD]) (μ1:=μ) (Ah (AL (ds:=[h.toD,.int 2,.tup (rs.map Rw.toD)]) (μ1:=μ) (AM (μ1:=μ) (AX (x:=.tup (m.hs.map Hd.toD)) (y:=.int k) (μ1:=μ) (μ2:=μ) rfl rfl (ix μ)) rfl) t1) rfl) ?_
  exact BB (AL (ds:=[m.toD,.int 4,.tup ((m.hs.set k ⟨h.nm,h.wi,rs⟩).map Hd.toD)]) (μ1:=μ) (AM (μ1:=μ) rfl (AM (μ1:=μ) rfl (AM (ds:=[]) (μ1:=μ) (AL (ds:=[.tup (m.hs.map Hd.toD),.int k,(Hd.mk h.nm h.wi rs).toD]) (μ1:=μ) rfl t2) rfl))) t3)
end
end K61
set_option maxHeartbeats 4000000
namespace K61
open PySem L2 Mi K1
def itD (p:D × Mk):D:=.tup [p.1,p.2.toD]
def wk (kd:Str):Option Str:=if kd = "steady" then some "safe" else if kd = "whole" then some "steady" else none
def setBox (m:Mk) (p:Nat) (b:Bx) (kd:Str):Mk:=⟨m.kd,m.sz,m.bg,m.bs.set p ⟨b.nm,kd,b.sz,b.bg,b.wr⟩,m.hs⟩
def itW (m:Mk) (p:Nat) (b:Bx) (kd:Str):D × Mk:=(.tup [.str "weaker",.str b.nm],setBox m p b kd)
def Gc (m:Mk) (p:Nat) (b:Bx):List (D × Mk):=match wk b.kd with
  | some kd=>[itW m p b kd]
  | none=>[]
def BR (m:Mk):Nat->List Bx->List (D × Mk)
  | _,[]=>[]
  | p,b :: bs=>Gc m p b ++ BR m (p + 1) bs
def A4 (rs:List Rw) (a:Nat):List Rw:=(rs.take a ++ rs.drop (a + 1)).map (Rw.pull a)
def itL (m:Mk) (k:Nat) (g:Hd) (a:Nat):D × Mk:=(.tup [.str "less",.str g.nm,.int a],Co m k g (A4 g.rs a))
def ER (m:Mk) (k:Nat) (g:Hd):List (D × Mk):=(List.range' 0 g.rs.length).map (itL m k g)
def B5 (m:Mk):Nat->List Hd->List (D × Mk)
  | _,[]=>[]
  | k,g :: hs=>ER m k g ++ B5 m (k + 1) hs
def At (rs:List Rw) (a:Nat):List Rw:=match rs[a]?,rs[a + 1]? with
  | some x,some y=>rs.take a ++ [y,x] ++ rs.drop (a + 2)
  | _,_=>rs
def itO (m:Mk) (k:Nat) (g:Hd) (a:Nat):D × Mk:=(.tup [.str "other",.str g.nm,.int a],Co m k g (At g.rs a))
def C2 (m:Mk) (k:Nat) (g:Hd):List (D × Mk):=(List.range' 0 (g.rs.length - 1)).map (itO m k g)
def Bs (m:Mk):Nat->List Hd->List (D × Mk)
  | _,[]=>[]
  | k,g :: hs=>C2 m k g ++ Bs m (k + 1) hs
def DT (m:Mk):List (D × Mk):=BR m 0 m.bs ++ B5 m 0 m.hs ++ Bs m 0 m.hs
structure Kx (p:D × Mk):Prop where
  ok:p.2.Ok
  pl:Pl 5 p.1
  cl:∀ k,Cl k p.1
section
variable {μ μ1 μ2 μ3 μ4 μ' g:Mh} {n w:Nat} {l:Int} {d x0:D} {x y:Str} {τ τ1 τ2:Sl} {ds es:List D} {m:Mk}
theorem DE {α:Type} {xs:List α} {p:Nat} {a:α} {r:List α} (h:xs.drop p=a :: r):xs[p]? = some a /\ xs.drop (p + 1)=r:=by
  have h1:(xs.drop p)[0]? = some a:=by rw [h]; rfl
  rw [List.getElem?_drop] at h1
  refine ⟨h1,?_⟩
  have:xs.drop (p + 1)=(xs.drop p).drop 1:=by rw [List.drop_drop]
  rw [this,h]; rfl
theorem Qo {kd kd':Str} (h:wk kd=some kd'):kd' ∈ (["safe", "steady", "whole"]:List Str):=by
  unfold wk at h
  split at h
  . cases h; decide +kernel
  . split at h
    . cases h; decide +kernel
    . cases h
theorem Ey (hm:m.Ok):∀ (bs:List Bx) (p:Nat),m.bs.drop p=bs->∀ q ∈ BR m p bs,Kx q
  | [],p,_,q,hq=>by cases hq
  | b :: bs,p,h,q,hq=>by
    obtain ⟨e,h2⟩:=DE h
    rcases List.mem_append.mp (show q ∈ Gc m p b ++ BR m (p + 1) bs from hq) with z | z
    . unfold Gc at z
      split at z
      . rename_i kd hk
        simp at z
        subst z
        exact ⟨hm.setBox e (Qo hk),(Pl.tup (k:=0) (.cons (.str (by decide +kernel)) (.cons (.str (hm.boxes b (List.mem_iff_getElem?.mpr ⟨p,e⟩)).1.ok) .nil))).mono (by omega),fun k=>by simp [itW,Cl,ClL]⟩
      . cases z
    . exact Ey hm bs (p + 1) h2 q z
theorem Gi {rs:List Rw} {a:Nat} (ha:a < rs.length):(A4 rs a).length + 1=rs.length:=by
  unfold A4
  rw [List.length_map,List.length_append,List.length_take,List.length_drop]; omega
theorem IY (hm:m.Ok) {k:Nat} {g:Hd} (e:m.hs[k]? = some g):∀ q ∈ ER m k g,Kx q:=by
  intro q hq
  unfold ER at hq
  rw [List.mem_map] at hq
  obtain ⟨a,ha,rfl⟩:=hq
  rw [List.mem_range'_1] at ha
  have hg:g ∈ m.hs:=List.mem_iff_getElem?.mpr ⟨k,e⟩
  obtain ⟨g1,g2,g3,g4⟩:=hm.hands g hg
  have hl:=Gi (rs:=g.rs) (a:=a) (by omega)
  refine ⟨hm.setRows e (by omega) fun r hr=>?_,(Pl.tup (k:=0) (.cons (.str (by decide +kernel)) (.cons (.str g1.ok) (.cons .int .nil)))).mono (by omega),fun k=>by simp [itL,Cl,ClL]⟩
  unfold A4 at hr
  rw [List.mem_map] at hr
  obtain ⟨r0,hr0,rfl⟩:=hr
  have hr1:r0 ∈ g.rs:=by
    rcases List.mem_append.mp hr0 with z | z
    . exact List.mem_of_mem_take z
    . exact List.mem_of_mem_drop z
  have ok:=hm.rows k g e r0 hr1
  have e2:((g.rs.length:Nat):Int)=((A4 g.rs a).length:Int) + 1:=by omega
  rw [e2] at ok
  exact ok.pull (by omega) (by omega)
theorem FZ (hm:m.Ok):∀ (hs:List Hd) (k:Nat),m.hs.drop k=hs->∀ q ∈ B5 m k hs,Kx q
  | [],p,_,q,hq=>by cases hq
  | g :: hs,k,h,q,hq=>by
    obtain ⟨e,h2⟩:=DE h
    rcases List.mem_append.mp (show q ∈ ER m k g ++ B5 m (k + 1) hs from hq) with z | z
    . exact IY hm e q z
    . exact FZ hm hs (k + 1) h2 q z
theorem PF {rs:List Rw} {a:Nat}:∀ r ∈ At rs a,r ∈ rs:=by
  intro r hr
  unfold At at hr
  split at hr
  . rename_i x y hx hy
    rw [List.append_assoc] at hr
    rcases List.mem_append.mp hr with z | z
    . exact List.mem_of_mem_take z
    . rcases List.mem_append.mp z with z | z
      . simp at z
        rcases z with z | z
        . subst z; exact List.mem_iff_getElem?.mpr ⟨_,hy⟩
        . subst z; exact List.mem_iff_getElem?.mpr ⟨_,hx⟩
      . exact List.mem_of_mem_drop z
  . exact hr
theorem LB {rs:List Rw} {a:Nat}:(At rs a).length=rs.length:=by
  unfold At
  split
  . rename_i x y hx hy
    have h2:=(List.getElem?_eq_some_iff.mp hy).1
    rw [List.length_append,List.length_append,List.length_take,List.length_drop]
    simp; omega
  . rfl
theorem HU (hm:m.Ok) {k:Nat} {g:Hd} (e:m.hs[k]? = some g):∀ q ∈ C2 m k g,Kx q:=by
  intro q hq
  unfold C2 at hq
  rw [List.mem_map] at hq
  obtain ⟨a,ha,rfl⟩:=hq
  have hg:g ∈ m.hs:=List.mem_iff_getElem?.mpr ⟨k,e⟩
  obtain ⟨g1,g2,g3,g4⟩:=hm.hands g hg
  refine ⟨hm.setRows e (by rw [LB]; exact g4) fun r hr=>?_,(Pl.tup (k:=0) (.cons (.str (by decide +kernel)) (.cons (.str g1.ok) (.cons .int .nil)))).mono (by omega),fun k=>by simp [itO,Cl,ClL]⟩
  rw [LB]
  exact hm.rows k g e r (PF r hr)
theorem E9 (hm:m.Ok):∀ (hs:List Hd) (k:Nat),m.hs.drop k=hs->∀ q ∈ Bs m k hs,Kx q
  | [],p,_,q,hq=>by cases hq
  | g :: hs,k,h,q,hq=>by
    obtain ⟨e,h2⟩:=DE h
    rcases List.mem_append.mp (show q ∈ C2 m k g ++ Bs m (k + 1) hs from hq) with z | z
    . exact HU hm e q z
    . exact E9 hm hs (k + 1) h2 q z
theorem GO (hm:m.Ok):∀ q ∈ DT m,Kx q:=by
  intro q hq
  unfold DT at hq
  rcases List.mem_append.mp hq with z | z
  . rcases List.mem_append.mp z with z | z
    . exact Ey hm m.bs 0 rfl q z
    . exact FZ hm m.hs 0 rfl q z
  . exact E9 hm m.hs 0 rfl q z
theorem Gy:∀ (bs:List Bx) (p:Nat),(BR m p bs).length <= bs.length
  | [],p=>Nat.le_refl _
  | b :: bs,p=>by
    have ih:=Gy bs (p + 1)
    show (Gc m p b ++ BR m (p + 1) bs).length <= bs.length + 1
    rw [List.length_append]
    have:(Gc m p b).length <= 1:=by unfold Gc; split <;> simp
    omega
theorem GH:∀ (hs:List Hd) (k:Nat),(∀ g ∈ hs,g.rs.length <= 60)->(B5 m k hs).length <= 60 * hs.length
  | [],p,_=>Nat.le_refl _
  | g :: hs,k,h=>by
    have ih:=GH hs (k + 1) fun q hq=>h q (by simp [hq])
    have hg:=h g (by simp)
    show (ER m k g ++ B5 m (k + 1) hs).length <= 60 * (hs.length + 1)
    rw [List.length_append]
    have:(ER m k g).length=g.rs.length:=by unfold ER; simp
    omega
theorem HV:∀ (hs:List Hd) (k:Nat),(∀ g ∈ hs,g.rs.length <= 60)->(Bs m k hs).length <= 60 * hs.length
  | [],p,_=>Nat.le_refl _
  | g :: hs,k,h=>by
    have ih:=HV hs (k + 1) fun q hq=>h q (by simp [hq])
    have hg:=h g (by simp)
    show (C2 m k g ++ Bs m (k + 1) hs).length <= 60 * (hs.length + 1)
    rw [List.length_append]
    have:(C2 m k g).length=g.rs.length - 1:=by unfold C2; simp
    omega
end
end K61
set_option maxHeartbeats 4000000
namespace K61
open PySem L2 Mi K1
section
variable {μ μ1 μ2 μ3 μ4 μ' g:Mh} {n w:Nat} {l:Int} {d x0:D} {x y:Str} {τ τ1 τ2:Sl} {ds es:List D} {m:Mk}
theorem Ov {p:Nat} {b:Bx} {kd:Str} (e:m.bs[p]? = some b) (hl:m.bs.length <= 6) :
    A3 [b.toD,.int 1,.str kd] μ=some ((Bx.mk b.nm kd b.sz b.bg b.wr).toD,μ) /\
    A3 [.tup (m.bs.map Bx.toD),.int p,(Bx.mk b.nm kd b.sz b.bg b.wr).toD] μ=some (.tup ((m.bs.set p ⟨b.nm,kd,b.sz,b.bg,b.wr⟩).map Bx.toD),μ) /\
    A3 [m.toD,.int 3,.tup ((m.bs.set p ⟨b.nm,kd,b.sz,b.bg,b.wr⟩).map Bx.toD)] μ=some ((setBox m p b kd).toD,μ):=by
  have hp:p < m.bs.length:=(List.getElem?_eq_some_iff.mp e).1
  have hset:(m.bs.map Bx.toD).set p (Bx.mk b.nm kd b.sz b.bg b.wr).toD=(m.bs.set p ⟨b.nm,kd,b.sz,b.bg,b.wr⟩).map Bx.toD:=by rw [List.map_set]
  refine ⟨Ca (p:=1) (ds:=[.str b.nm,.str b.kd,.int b.sz,.int b.bg,.str b.wr]) (by simp) (by simp) fun j=>by simp [ClL,Cl],?_,Ca (p:=3) (ds:=[.str m.kd,.int m.sz,.int m.bg,.tup (m.bs.map Bx.toD),.tup (m.hs.map Hd.toD)]) (by simp) (by simp) fun j=>by
    have:=(setBox m p b kd).cl (k:=j)
    unfold Mk.toD Cl at this
    exact this⟩
  rw [Ca (p:=p) (ds:=m.bs.map Bx.toD) (by rw [List.length_map]; exact hp) (by rw [List.length_map]; omega) (fun j=>by rw [hset]; exact WK _),hset]
noncomputable abbrev JS:Sl->M (Fl × Sl):=(sIf (AY (mOp Bl (mOp AS (AC 3) (mC (.int 1))) (mC (.str "safe")))) (AU (An (AE A3 (AB (AC 3) (AB (mC (.int 1)) (AB (mOp AS (mC Dl) (mOp Br (mUn (Ih ["safe", "steady", "whole"]) (mOp AS (AC 3) (mC (.int 1)))) (mC (.int 1)))) AH)))) (AN 4))
    (AZ (A2 Ck (AC 1) (AB (AE Aw (AB (AE Aw (AB (mC (.str "weaker")) (AB (mOp AS (AC 3) (mC (.int 0))) AH))) (AB (AE A3 (AB (AC 0) (AB (mC (.int 3)) (AB (AE A3 (AB (mOp AS (AC 0) (mC (.int 3))) (AB (AC 2) (AB (AC 4) AH)))) AH)))) AH))) AH)))) BI)
theorem Ng {p:Nat} {b:Bx} {kd:Str} {i:Int} {L:Nat} {acc:List D} {o4:Option D} (hL:μ.length=L) (e:m.bs[p]? = some b) (hl:m.bs.length <= 6) (hacc:acc.length <= 10000) (hne:b.kd ≠ "safe") (hok:PyData.strOk b.kd=true) (hi:∀ ν:Mh,Ih ["safe", "steady", "whole"] (.str b.kd) ν=some (.int i,ν)) (hx:∀ ν:Mh,AS Dl (.int (i - 1)) ν=some (.str kd,ν)) :
    JS [some m.toD,some (.ref L),some (.int p),some b.toD,o4] (μ ++ [.lst acc])=some ((.next,[some m.toD,some (.ref L),some (.int p),some b.toD,some (Bx.mk b.nm kd b.sz b.bg b.wr).toD]),μ ++ [.lst (acc ++ [itD (itW m p b kd)])]):=by
  have hz:sizeLine=16777216:=by decide
  obtain ⟨t1,t2,t3⟩:=Ov (μ:=μ ++ [.lst acc]) (kd:=kd) e hl
  refine Cn (μ1:=μ ++ [.lst acc]) (Aa (AX (x:=.str b.kd) (y:=.str "safe") (μ1:=μ ++ [.lst acc]) (μ2:=μ ++ [.lst acc]) rfl rfl (QB hok (by decide +kernel) hne))) ?_
  refine AR (τ1:=[some m.toD,some (.ref L),some (.int p),some b.toD,some (Bx.mk b.nm kd b.sz b.bg b.wr).toD]) (μ1:=μ ++ [.lst acc]) (Ah (AL (ds:=[b.toD,.int 1,.str kd]) (μ1:=μ ++ [.lst acc]) (AM (μ1:=μ ++ [.lst acc]) rfl (AM (μ1:=μ ++ [.lst acc]) rfl (AM (ds:=[]) (μ1:=μ ++ [.lst acc]) (AX (x:=Dl) (y:=.int (i - 1)) (μ1:=μ ++ [.lst acc]) (μ2:=μ ++ [.lst acc]) rfl (AX (x:=.int i) (y:=.int 1) (μ1:=μ ++ [.lst acc]) (μ2:=μ ++ [.lst acc]) (QR (x:=.str b.kd) (μ1:=μ ++ [.lst acc]) rfl (hi _)) rfl NL) (hx _)) rfl))) t1) rfl) ?_
  have ap:=DP (μ:=μ ++ [.lst acc]) (n:=L) (d:=itD (itW m p b kd)) (at0 hL) (by omega)
  rw [LF hL] at ap
  exact Bt (Cg (x:=.ref L) (μ1:=μ ++ [.lst acc]) rfl (Bi (at0 hL)) (AM (ds:=[]) (μ1:=μ ++ [.lst acc]) (AL (ds:=[.tup [.str "weaker",.str b.nm],(setBox m p b kd).toD]) (μ1:=μ ++ [.lst acc]) (AM (μ1:=μ ++ [.lst acc]) rfl (AM (ds:=[]) (μ1:=μ ++ [.lst acc]) (AL (ds:=[m.toD,.int 3,.tup ((m.bs.set p ⟨b.nm,kd,b.sz,b.bg,b.wr⟩).map Bx.toD)]) (μ1:=μ ++ [.lst acc]) (AM (μ1:=μ ++ [.lst acc]) rfl (AM (μ1:=μ ++ [.lst acc]) rfl (AM (ds:=[]) (μ1:=μ ++ [.lst acc]) (AL (ds:=[.tup (m.bs.map Bx.toD),.int p,(Bx.mk b.nm kd b.sz b.bg b.wr).toD]) (μ1:=μ ++ [.lst acc]) rfl t2) rfl))) t3) rfl)) (BG (by show 2 <= sizeLine; omega))) rfl) ap)
theorem Gx {L:Nat} (hm:m.Ok) (hL:μ.length=L):∀ (rest:List Bx) (p:Nat) (acc:List D) (o2 o3 o4:Option D),m.bs.drop p=rest->acc.length + rest.length <= 10000->∃ o2' o3' o4',Bh (EV [2,3]) JS (B1 p (rest.map Bx.toD)) [some m.toD,some (.ref L),o2,o3,o4] (μ ++ [.lst acc])=some ((.next,[some m.toD,some (.ref L),o2',o3',o4']),μ ++ [.lst (acc ++ (BR m p rest).map itD)])
  | [],p,acc,o2,o3,o4,h,hl=>⟨o2,o3,o4,by show some ((Fl.next,_),μ ++ [MO.lst acc])=_; simp [BR]⟩
  | b :: rest,p,acc,o2,o3,o4,h,hl=>by
    obtain ⟨e,h2⟩:=DE h
    have hb:b ∈ m.bs:=List.mem_iff_getElem?.mpr ⟨p,e⟩
    have hk:=(hm.boxes b hb).2.1
    have hok:=Hq hk
    have hl':acc.length + (rest.length + 1) <= 10000:=by simpa using hl
    rw [List.map_cons]
    simp only [List.mem_cons,List.not_mem_nil,or_false] at hk
    have st:∀ kd i,b.kd ≠ "safe" -> wk b.kd=some kd->(∀ ν:Mh,Ih ["safe", "steady", "whole"] (.str b.kd) ν=some (.int i,ν))->(∀ ν:Mh,AS Dl (.int (i - 1)) ν=some (.str kd,ν))->∃ o2' o3' o4',Bh (EV [2,3]) JS (B1 p (b.toD :: rest.map Bx.toD)) [some m.toD,some (.ref L),o2,o3,o4] (μ ++ [.lst acc])=some ((.next,[some m.toD,some (.ref L),o2',o3',o4']),μ ++ [.lst (acc ++ (BR m p (b :: rest)).map itD)]):=by
      intro kd i hne hwk hi hx
      obtain ⟨o2',o3',o4',ih⟩:=Gx hm hL rest (p + 1) (acc ++ [itD (itW m p b kd)]) (some (.int p)) (some b.toD) (some (Bx.mk b.nm kd b.sz b.bg b.wr).toD) h2 (by simp; omega)
      have ew:acc ++ (BR m p (b :: rest)).map itD=acc ++ [itD (itW m p b kd)] ++ (BR m (p + 1) rest).map itD:=by
        show acc ++ (Gc m p b ++ BR m (p + 1) rest).map itD=_
        unfold Gc; rw [hwk]; simp
      rw [ew]
      exact ⟨o2',o3',o4',Al (τ1:=[some m.toD,some (.ref L),some (.int p),some b.toD,o4]) (μ1:=μ ++ [.lst acc]) rfl (Ng hL e hm.most (by omega) hne hok hi hx) ih⟩
    rcases hk with hk | hk | hk
    . obtain ⟨o2',o3',o4',ih⟩:=Gx hm hL rest (p + 1) acc (some (.int p)) (some b.toD) o4 h2 (by omega)
      have ew:acc ++ (BR m p (b :: rest)).map itD=acc ++ (BR m (p + 1) rest).map itD:=by
        show acc ++ (Gc m p b ++ BR m (p + 1) rest).map itD=_
        unfold Gc wk; rw [hk,if_neg (by decide +kernel),if_neg (by decide +kernel)]; simp
      rw [ew]
      exact ⟨o2',o3',o4',Al (τ1:=[some m.toD,some (.ref L),some (.int p),some b.toD,o4]) (μ1:=μ ++ [.lst acc]) rfl (BC (μ1:=μ ++ [.lst acc]) (Aa (AX (x:=.str b.kd) (y:=.str "safe") (μ1:=μ ++ [.lst acc]) (μ2:=μ ++ [.lst acc]) rfl rfl (QC hok (by decide +kernel) hk))) rfl) ih⟩
    . refine st "safe" 1 (by rw [hk]; decide +kernel) (by unfold wk; rw [hk,if_pos rfl]) (fun ν=>?_) fun ν=>rfl
      rw [hk]
      unfold Ih
      dsimp only
      rw [show (["safe", "steady", "whole"]:List Str).findIdx? (· == ("steady" : Str))=some 1 from by decide +kernel]; rfl
    . refine st "steady" 2 (by rw [hk]; decide +kernel) (by unfold wk; rw [hk,if_neg (by decide +kernel),if_pos rfl]) (fun ν=>?_) fun ν=>rfl
      rw [hk]
      unfold Ih
      dsimp only
      rw [show (["safe", "steady", "whole"]:List Str).findIdx? (· == ("whole" : Str))=some 2 from by decide +kernel]; rfl
theorem Fc {ps:List (D × Mk)} (h:∀ q ∈ ps,Kx q) (k:Nat):ClL k (ps.map itD):=by
  induction ps with
  | nil=>simp [ClL]
  | cons p ps ih=>
    rw [List.map_cons]
    unfold ClL
    refine ⟨?_,ih fun q hq=>h q (by simp [hq])⟩
    have h1:=(h p (by simp)).cl k
    have h2:=p.2.cl (k:=k)
    simp [itD,Cl,ClL,h1,h2]
theorem JF (hm:m.Ok):Dd [m.toD] μ=some (.lst ((BR m 0 m.bs).map itD),μ):=by
  have hz:sizeLine=16777216:=by decide
  obtain ⟨o2,o3,o4,q⟩:=Gx (μ:=μ) hm rfl m.bs 0 [] none none none rfl (by have:=hm.most; simp; omega)
  rw [List.nil_append] at q
  refine Ci (g:=[.lst ((BR m 0 m.bs).map itD)]) (k:=μ.length) (τ2:=[some m.toD,some (.ref μ.length),o2,o3,o4]) ?_ rfl (Nat.le_refl _) (at0 rfl) (Fc (Ey hm m.bs 0 rfl) _)
  refine AR (τ1:=[some m.toD,some (.ref μ.length),none,none,none]) (μ1:=μ ++ [.lst []]) (Ah (AL (ds:=[]) (μ1:=μ) rfl (CD (by show 0 <= sizeLine; omega))) rfl) ?_
  exact AR (Bf (ds:=B1 0 (m.bs.map Bx.toD)) (μ1:=μ ++ [.lst []]) rfl q) (BB rfl)
end
end K61
set_option maxHeartbeats 4000000
namespace K61
open PySem L2 Mi K1
section
variable {μ μ1 μ2 μ3 μ4 μ' g:Mh} {n w:Nat} {l:Int} {d x0:D} {x y:Str} {τ τ1 τ2:Sl} {ds es:List D} {m:Mk}
theorem NB {a:Nat}:∀ (rs:List Rw) (ys:List D),CZ (AN 0) Bo (AE DC (AB (AC 0) (AB (AC 1) AH))) [none,some (.int a)] (rs.map Rw.toD) ys μ=some (ys ++ (rs.map (Rw.pull a)).map Rw.toD,μ)
  | [],ys=>by show some (ys,μ)=_; simp
  | r :: rs,ys=>by
    show bnd (AN 0 r.toD [none,some (.int a)]) _ μ=_
    rw [AQ (show AN 0 r.toD [none,some (.int a)] μ=some ([some r.toD,some (.int a)],μ) from rfl),AQ (show Bo [some r.toD,some (.int a)] μ=some (true,μ) from rfl),if_pos rfl,AQ (AL (ds:=[r.toD,.int a]) (μ1:=μ) rfl K3),NB rs]
    simp
noncomputable abbrev P7:Sl->M (Fl × Sl):=(AU (An (Bg 1 [4] (EU (mOp Ak (CI (mOp AS (AC 3) (mC (.int 2))) Ay (BA (AC 4))) (CI (mOp AS (AC 3) (mC (.int 2))) (BA (mOp Ak (AC 4) (mC (.int 1)))) Ay))) (AN 0) Bo (AE DC (AB (AC 0) (AB (AC 1) AH))) A7) (AN 5))
    (AZ (A2 Ck (AC 1) (AB (AE Aw (AB (AE Aw (AB (mC (.str "less")) (AB (mOp AS (AC 3) (mC (.int 0))) (AB (AC 4) AH)))) (AB (AE DB (AB (AC 0) (AB (AC 2) (AB (AE Bu (AB (AC 5) AH)) AH)))) AH))) AH))))
theorem OH {k a:Nat} {h:Hd} {L:Nat} {acc:List D} {o5:Option D} (hL:μ.length=L) (e:m.hs[k]? = some h) (hl:m.hs.length <= 4) (hr:h.rs.length <= 60) (ha:a < h.rs.length) (hacc:acc.length <= 10000) :
    P7 [some m.toD,some (.ref L),some (.int k),some h.toD,some (.int a),o5] (μ ++ [.lst acc])=some ((.next,[some m.toD,some (.ref L),some (.int k),some h.toD,some (.int a),some (.lst ((A4 h.rs a).map Rw.toD))]),μ ++ [.lst (acc ++ [itD (itL m k h a)])]):=by
  have hz:sizeLine=16777216:=by decide
  have hlr:=Gi ha
  have t:=HN (μ:=μ ++ [.lst acc]) (rs:=A4 h.rs a) e hl
  have cp:Bg 1 [4] (EU (mOp Ak (CI (mOp AS (AC 3) (mC (.int 2))) Ay (BA (AC 4))) (CI (mOp AS (AC 3) (mC (.int 2))) (BA (mOp Ak (AC 4) (mC (.int 1)))) Ay))) (AN 0) Bo (AE DC (AB (AC 0) (AB (AC 1) AH))) A7 [some m.toD,some (.ref L),some (.int k),some h.toD,some (.int a),o5] (μ ++ [.lst acc])=some (.lst ((A4 h.rs a).map Rw.toD),μ ++ [.lst acc]):=by
    have es:(h.rs.map Rw.toD).take a ++ (h.rs.map Rw.toD).drop (a + 1)=(h.rs.take a ++ h.rs.drop (a + 1)).map Rw.toD:=by simp [List.map_take,List.map_drop]
    refine Di (ds:=(h.rs.take a ++ h.rs.drop (a + 1)).map Rw.toD) (μ1:=μ ++ [.lst acc]) (Fe (x:=.tup ((h.rs.take a ++ h.rs.drop (a + 1)).map Rw.toD)) (μ1:=μ ++ [.lst acc]) (AX (x:=.tup ((h.rs.map Rw.toD).take a)) (y:=.tup ((h.rs.map Rw.toD).drop (a + 1))) (μ1:=μ ++ [.lst acc]) (μ2:=μ ++ [.lst acc]) (Cm (x0:=.tup (h.rs.map Rw.toD)) (a:=none) (b:=some (a:Int)) (μ1:=μ ++ [.lst acc]) (μ2:=μ ++ [.lst acc]) (μ3:=μ ++ [.lst acc]) rfl rfl rfl (by rw [GJ,GM])) (Cm (x0:=.tup (h.rs.map Rw.toD)) (a:=some ((a + 1:Nat):Int)) (b:=none) (μ1:=μ ++ [.lst acc]) (μ2:=μ ++ [.lst acc]) (μ3:=μ ++ [.lst acc]) rfl (FD (AX (x:=.int a) (y:=.int 1) (μ1:=μ ++ [.lst acc]) (μ2:=μ ++ [.lst acc]) rfl rfl (by rw [Ed]; rfl))) rfl (by rw [GJ,Gr (a + 1) (by rw [List.length_map]; exact ha)])) (by rw [Dc (by simp; omega),es])) Kg) (by simp; omega) (NB _ []) ?_
    rw [List.nil_append]
    exact BY (by simp; omega)
  refine AR (τ1:=[some m.toD,some (.ref L),some (.int k),some h.toD,some (.int a),some (.lst ((A4 h.rs a).map Rw.toD))]) (μ1:=μ ++ [.lst acc]) (Ah cp rfl) ?_
  have ap:=DP (μ:=μ ++ [.lst acc]) (n:=L) (d:=itD (itL m k h a)) (at0 hL) (by omega)
  rw [LF hL] at ap
  exact Bt (Cg (x:=.ref L) (μ1:=μ ++ [.lst acc]) rfl (Bi (at0 hL)) (AM (ds:=[]) (μ1:=μ ++ [.lst acc]) (AL (ds:=[.tup [.str "less",.str h.nm,.int a],(Co m k h (A4 h.rs a)).toD]) (μ1:=μ ++ [.lst acc]) (AM (μ1:=μ ++ [.lst acc]) rfl (AM (ds:=[]) (μ1:=μ ++ [.lst acc]) (AL (ds:=[m.toD,.int k,.tup ((A4 h.rs a).map Rw.toD)]) (μ1:=μ ++ [.lst acc]) rfl t) rfl)) (BG (by show 2 <= sizeLine; omega))) rfl) ap)
theorem Jj {k:Nat} {h:Hd} {L:Nat} (hL:μ.length=L) (e:m.hs[k]? = some h) (hl:m.hs.length <= 4) (hr:h.rs.length <= 60):∀ (cnt a:Nat) (acc:List D) (o4 o5:Option D),a + cnt <= h.rs.length->acc.length + cnt <= 10000->∃ o4' o5',Bh (AN 4) P7 ((List.range' a cnt).map fun j:Nat=>D.int j) [some m.toD,some (.ref L),some (.int k),some h.toD,o4,o5] (μ ++ [.lst acc])=some ((.next,[some m.toD,some (.ref L),some (.int k),some h.toD,o4',o5']),μ ++ [.lst (acc ++ ((List.range' a cnt).map (itL m k h)).map itD)])
  | 0,a,acc,o4,o5,_,_=>⟨o4,o5,by show some ((Fl.next,_),μ ++ [MO.lst acc])=_; simp⟩
  | cnt + 1,a,acc,o4,o5,ha,hacc=>by
    obtain ⟨o4',o5',ih⟩:=Jj hL e hl hr cnt (a + 1) (acc ++ [itD (itL m k h a)]) (some (.int a)) (some (.lst ((A4 h.rs a).map Rw.toD))) (by omega) (by simp; omega)
    rw [List.range'_succ,List.map_cons,List.map_cons,List.map_cons]
    have ew:acc ++ itD (itL m k h a) :: ((List.range' (a + 1) cnt).map (itL m k h)).map itD=acc ++ [itD (itL m k h a)] ++ ((List.range' (a + 1) cnt).map (itL m k h)).map itD:=by simp
    rw [ew]
    exact ⟨o4',o5',Al (τ1:=[some m.toD,some (.ref L),some (.int k),some h.toD,some (.int a),o5]) (μ1:=μ ++ [.lst acc]) rfl (OH hL e hl hr (by omega) (by omega)) ih⟩
theorem MX {ma:Sl->M (List D)} {c:Nat} (h:ma τ μ=some ([.int c],μ1)) (h1:c <= 1000):Ds ma τ μ=some ((List.range' 0 c).map (fun j:Nat=>D.int j),μ1):=by
  have:=P9 h (by omega) (by omega)
  rw [Int.toNat_natCast] at this
  exact this
theorem HX {L:Nat} (hm:m.Ok) (hL:μ.length=L):∀ (rest:List Hd) (k:Nat) (acc:List D) (o2 o3 o4 o5:Option D),m.hs.drop k=rest->acc.length + 60 * rest.length <= 10000->∃ o2' o3' o4' o5',Bh (EV [2,3]) (Cs (Ds (AB (AE BO (AB (mOp AS (AC 3) (mC (.int 2))) AH)) AH)) (AN 4) P7) (B1 k (rest.map Hd.toD)) [some m.toD,some (.ref L),o2,o3,o4,o5] (μ ++ [.lst acc])=some ((.next,[some m.toD,some (.ref L),o2',o3',o4',o5']),μ ++ [.lst (acc ++ (B5 m k rest).map itD)])
  | [],k,acc,o2,o3,o4,o5,h,hl=>⟨o2,o3,o4,o5,by show some ((Fl.next,_),μ ++ [MO.lst acc])=_; simp [B5]⟩
  | h :: rest,k,acc,o2,o3,o4,o5,hd,hl=>by
    obtain ⟨e,h2⟩:=DE hd
    have hh:=(hm.hands h (List.mem_iff_getElem?.mpr ⟨k,e⟩)).2.2.2
    have hl':acc.length + 60 * (rest.length + 1) <= 10000:=by simpa using hl
    obtain ⟨p4,p5,q⟩:=Jj hL e hm.mosth hh h.rs.length 0 acc o4 o5 (by omega) (by omega)
    obtain ⟨o2',o3',o4',o5',ih⟩:=HX hm hL rest (k + 1) (acc ++ (ER m k h).map itD) (some (.int k)) (some h.toD) p4 p5 h2 (by simp [ER]; omega)
    rw [List.map_cons]
    have ew:acc ++ (B5 m k (h :: rest)).map itD=acc ++ (ER m k h).map itD ++ (B5 m (k + 1) rest).map itD:=by
      show acc ++ (ER m k h ++ B5 m (k + 1) rest).map itD=_
      simp
    rw [ew]
    refine ⟨o2',o3',o4',o5',Al (τ1:=[some m.toD,some (.ref L),some (.int k),some h.toD,o4,o5]) (μ1:=μ ++ [.lst acc]) rfl (Bf (MX (c:=h.rs.length) (μ1:=μ ++ [.lst acc]) ?_ (by omega)) q) ih⟩
    refine AM (ds:=[]) (μ1:=μ ++ [.lst acc]) (AL (ds:=[.tup (h.rs.map Rw.toD)]) (μ1:=μ ++ [.lst acc]) rfl ?_) rfl
    rw [HC,List.length_map]
theorem Gz (hm:m.Ok):Ce [m.toD] μ=some (.lst ((B5 m 0 m.hs).map itD),μ):=by
  have hz:sizeLine=16777216:=by decide
  obtain ⟨o2,o3,o4,o5,q⟩:=HX (μ:=μ) hm rfl m.hs 0 [] none none none none rfl (by have:=hm.mosth; simp; omega)
  rw [List.nil_append] at q
  refine Ci (g:=[.lst ((B5 m 0 m.hs).map itD)]) (k:=μ.length) (τ2:=[some m.toD,some (.ref μ.length),o2,o3,o4,o5]) ?_ rfl (Nat.le_refl _) (at0 rfl) (Fc (FZ hm m.hs 0 rfl) _)
  refine AR (τ1:=[some m.toD,some (.ref μ.length),none,none,none,none]) (μ1:=μ ++ [.lst []]) (Ah (AL (ds:=[]) (μ1:=μ) rfl (CD (by show 0 <= sizeLine; omega))) rfl) ?_
  exact AR (Bf (ds:=B1 0 (m.hs.map Hd.toD)) (μ1:=μ ++ [.lst []]) rfl q) (BB rfl)
noncomputable abbrev MQ:Sl->M (Fl × Sl):=(AU (An (mOp Ak (mOp Ak (CI (AC 4) Ay (BA (AC 5))) (AE Aw (AB (mOp AS (AC 4) (mOp Ak (AC 5) (mC (.int 1)))) (AB (mOp AS (AC 4) (AC 5)) AH)))) (CI (AC 4) (BA (mOp Ak (AC 5) (mC (.int 2)))) Ay)) (AN 6))
    (AZ (A2 Ck (AC 1) (AB (AE Aw (AB (AE Aw (AB (mC (.str "other")) (AB (mOp AS (AC 3) (mC (.int 0))) (AB (AC 5) AH)))) (AB (AE DB (AB (AC 0) (AB (AC 2) (AB (AC 6) AH)))) AH))) AH))))
theorem Hu {rs:List Rw} {a:Nat} {r:Rw} (h:rs[a]? = some r):∀ ν:Mh,AS (.tup (rs.map Rw.toD)) (.int a) ν=some (r.toD,ν):=fun ν=>FH (by
  have ha:=(List.getElem?_eq_some_iff.mp h).1
  unfold atI ixN
  rw [if_pos (by omega),if_pos (by rw [List.length_map]; omega)]
  show (rs.map Rw.toD)[(a:Int).toNat]? = _
  rw [Int.toNat_natCast,List.getElem?_map,h]; rfl)
theorem MP {k a:Nat} {h:Hd} {L:Nat} {acc:List D} {o6:Option D} (hL:μ.length=L) (e:m.hs[k]? = some h) (hl:m.hs.length <= 4) (hr:h.rs.length <= 60) (ha:a + 1 < h.rs.length) (hacc:acc.length <= 10000) :
    MQ [some m.toD,some (.ref L),some (.int k),some h.toD,some (.tup (h.rs.map Rw.toD)),some (.int a),o6] (μ ++ [.lst acc])=some ((.next,[some m.toD,some (.ref L),some (.int k),some h.toD,some (.tup (h.rs.map Rw.toD)),some (.int a),some (.tup ((At h.rs a).map Rw.toD))]),μ ++ [.lst (acc ++ [itD (itO m k h a)])]):=by
  have hz:sizeLine=16777216:=by decide
  have t:=HN (μ:=μ ++ [.lst acc]) (rs:=At h.rs a) e hl
  obtain ⟨x,hx⟩:∃ x,h.rs[a]? = some x:=⟨_,List.getElem?_eq_getElem (by omega)⟩
  obtain ⟨y,hy⟩:∃ y,h.rs[a + 1]? = some y:=⟨_,List.getElem?_eq_getElem ha⟩
  have es:At h.rs a=h.rs.take a ++ [y,x] ++ h.rs.drop (a + 2):=by unfold At; rw [hx,hy]
  have cp:mOp Ak (mOp Ak (CI (AC 4) Ay (BA (AC 5))) (AE Aw (AB (mOp AS (AC 4) (mOp Ak (AC 5) (mC (.int 1)))) (AB (mOp AS (AC 4) (AC 5)) AH)))) (CI (AC 4) (BA (mOp Ak (AC 5) (mC (.int 2)))) Ay) [some m.toD,some (.ref L),some (.int k),some h.toD,some (.tup (h.rs.map Rw.toD)),some (.int a),o6] (μ ++ [.lst acc])=some (.tup ((At h.rs a).map Rw.toD),μ ++ [.lst acc]):=by
    have e2:(At h.rs a).map Rw.toD=(h.rs.map Rw.toD).take a ++ [y.toD,x.toD] ++ (h.rs.map Rw.toD).drop (a + 2):=by rw [es]; simp [List.map_take,List.map_drop]
    rw [e2]
    exact AX (x:=.tup ((h.rs.map Rw.toD).take a ++ [y.toD,x.toD])) (y:=.tup ((h.rs.map Rw.toD).drop (a + 2))) (μ1:=μ ++ [.lst acc]) (μ2:=μ ++ [.lst acc]) (AX (x:=.tup ((h.rs.map Rw.toD).take a)) (y:=.tup [y.toD,x.toD]) (μ1:=μ ++ [.lst acc]) (μ2:=μ ++ [.lst acc]) (Cm (x0:=.tup (h.rs.map Rw.toD)) (a:=none) (b:=some (a:Int)) (μ1:=μ ++ [.lst acc]) (μ2:=μ ++ [.lst acc]) (μ3:=μ ++ [.lst acc]) rfl rfl rfl (by rw [GJ,GM])) (AL (ds:=[y.toD,x.toD]) (μ1:=μ ++ [.lst acc]) (AM (μ1:=μ ++ [.lst acc]) (AX (x:=.tup (h.rs.map Rw.toD)) (y:=.int ((a + 1:Nat):Int)) (μ1:=μ ++ [.lst acc]) (μ2:=μ ++ [.lst acc]) rfl (AX (x:=.int a) (y:=.int 1) (μ1:=μ ++ [.lst acc]) (μ2:=μ ++ [.lst acc]) rfl rfl (by rw [Ed]; rfl)) (Hu hy _)) (AM (ds:=[]) (μ1:=μ ++ [.lst acc]) (AX (x:=.tup (h.rs.map Rw.toD)) (y:=.int a) (μ1:=μ ++ [.lst acc]) (μ2:=μ ++ [.lst acc]) rfl rfl (Hu hx _)) rfl)) (BG (by show 2 <= sizeLine; omega))) (Dc (by simp; omega))) (Cm (x0:=.tup (h.rs.map Rw.toD)) (a:=some ((a + 2:Nat):Int)) (b:=none) (μ1:=μ ++ [.lst acc]) (μ2:=μ ++ [.lst acc]) (μ3:=μ ++ [.lst acc]) rfl (FD (AX (x:=.int a) (y:=.int 2) (μ1:=μ ++ [.lst acc]) (μ2:=μ ++ [.lst acc]) rfl rfl (by rw [Ed]; rfl))) rfl (by rw [GJ,Gr (a + 2) (by rw [List.length_map]; omega)])) (Dc (by simp; omega))
  refine AR (τ1:=[some m.toD,some (.ref L),some (.int k),some h.toD,some (.tup (h.rs.map Rw.toD)),some (.int a),some (.tup ((At h.rs a).map Rw.toD))]) (μ1:=μ ++ [.lst acc]) (Ah cp rfl) ?_
  have ap:=DP (μ:=μ ++ [.lst acc]) (n:=L) (d:=itD (itO m k h a)) (at0 hL) (by omega)
  rw [LF hL] at ap
  exact Bt (Cg (x:=.ref L) (μ1:=μ ++ [.lst acc]) rfl (Bi (at0 hL)) (AM (ds:=[]) (μ1:=μ ++ [.lst acc]) (AL (ds:=[.tup [.str "other",.str h.nm,.int a],(Co m k h (At h.rs a)).toD]) (μ1:=μ ++ [.lst acc]) (AM (μ1:=μ ++ [.lst acc]) rfl (AM (ds:=[]) (μ1:=μ ++ [.lst acc]) (AL (ds:=[m.toD,.int k,.tup ((At h.rs a).map Rw.toD)]) (μ1:=μ ++ [.lst acc]) rfl t) rfl)) (BG (by show 2 <= sizeLine; omega))) rfl) ap)
theorem IU {k:Nat} {h:Hd} {L:Nat} (hL:μ.length=L) (e:m.hs[k]? = some h) (hl:m.hs.length <= 4) (hr:h.rs.length <= 60):∀ (cnt a:Nat) (acc:List D) (o5 o6:Option D),a + cnt + 1 <= h.rs.length ∨ cnt=0->acc.length + cnt <= 10000->∃ o5' o6',Bh (AN 5) MQ ((List.range' a cnt).map fun j:Nat=>D.int j) [some m.toD,some (.ref L),some (.int k),some h.toD,some (.tup (h.rs.map Rw.toD)),o5,o6] (μ ++ [.lst acc])=some ((.next,[some m.toD,some (.ref L),some (.int k),some h.toD,some (.tup (h.rs.map Rw.toD)),o5',o6']),μ ++ [.lst (acc ++ ((List.range' a cnt).map (itO m k h)).map itD)])
  | 0,a,acc,o5,o6,_,_=>⟨o5,o6,by show some ((Fl.next,_),μ ++ [MO.lst acc])=_; simp⟩
  | cnt + 1,a,acc,o5,o6,ha,hacc=>by
    obtain ⟨o5',o6',ih⟩:=IU hL e hl hr cnt (a + 1) (acc ++ [itD (itO m k h a)]) (some (.int a)) (some (.tup ((At h.rs a).map Rw.toD))) (by omega) (by simp; omega)
    rw [List.range'_succ,List.map_cons,List.map_cons,List.map_cons]
    have ew:acc ++ itD (itO m k h a) :: ((List.range' (a + 1) cnt).map (itO m k h)).map itD=acc ++ [itD (itO m k h a)] ++ ((List.range' (a + 1) cnt).map (itO m k h)).map itD:=by simp
    rw [ew]
    exact ⟨o5',o6',Al (τ1:=[some m.toD,some (.ref L),some (.int k),some h.toD,some (.tup (h.rs.map Rw.toD)),some (.int a),o6]) (μ1:=μ ++ [.lst acc]) rfl (MP hL e hl hr (by omega) (by omega)) ih⟩
theorem Gb {L:Nat} (hm:m.Ok) (hL:μ.length=L):∀ (rest:List Hd) (k:Nat) (acc:List D) (o2 o3 o4 o5 o6:Option D),m.hs.drop k=rest->acc.length + 60 * rest.length <= 10000->∃ o2' o3' o4' o5' o6',Bh (EV [2,3]) (AU (An (mOp AS (AC 3) (mC (.int 2))) (AN 4)) (Cs (Ds (AB (mOp Br (AE BO (AB (AC 4) AH)) (mC (.int 1))) AH)) (AN 5) MQ)) (B1 k (rest.map Hd.toD)) [some m.toD,some (.ref L),o2,o3,o4,o5,o6] (μ ++ [.lst acc])=some ((.next,[some m.toD,some (.ref L),o2',o3',o4',o5',o6']),μ ++ [.lst (acc ++ (Bs m k rest).map itD)])
  | [],k,acc,o2,o3,o4,o5,o6,h,hl=>⟨o2,o3,o4,o5,o6,by show some ((Fl.next,_),μ ++ [MO.lst acc])=_; simp [Bs]⟩
  | h :: rest,k,acc,o2,o3,o4,o5,o6,hd,hl=>by
    obtain ⟨e,h2⟩:=DE hd
    have hh:=(hm.hands h (List.mem_iff_getElem?.mpr ⟨k,e⟩)).2.2.2
    have hl':acc.length + 60 * (rest.length + 1) <= 10000:=by simpa using hl
    obtain ⟨p5,p6,q⟩:=IU hL e hm.mosth hh (h.rs.length - 1) 0 acc o5 o6 (by omega) (by omega)
    obtain ⟨o2',o3',o4',o5',o6',ih⟩:=Gb hm hL rest (k + 1) (acc ++ (C2 m k h).map itD) (some (.int k)) (some h.toD) (some (.tup (h.rs.map Rw.toD))) p5 p6 h2 (by simp [C2]; omega)
    rw [List.map_cons]
    have ew:acc ++ (Bs m k (h :: rest)).map itD=acc ++ (C2 m k h).map itD ++ (Bs m (k + 1) rest).map itD:=by
      show acc ++ (C2 m k h ++ Bs m (k + 1) rest).map itD=_
      simp
    rw [ew]
    refine ⟨o2',o3',o4',o5',o6',Al (τ1:=[some m.toD,some (.ref L),some (.int k),some h.toD,o4,o5,o6]) (μ1:=μ ++ [.lst acc]) rfl (AR (τ1:=[some m.toD,some (.ref L),some (.int k),some h.toD,some (.tup (h.rs.map Rw.toD)),o5,o6]) (μ1:=μ ++ [.lst acc]) rfl (Bf (μ1:=μ ++ [.lst acc]) ?_ q)) ih⟩
    have ea:AB (mOp Br (AE BO (AB (AC 4) AH)) (mC (.int 1))) AH [some m.toD,some (.ref L),some (.int k),some h.toD,some (.tup (h.rs.map Rw.toD)),o5,o6] (μ ++ [.lst acc])=some ([.int (((h.rs.map Rw.toD).length:Nat) - 1:Int)],μ ++ [.lst acc]):=rfl
    unfold Ds
    rw [AQ ea,List.length_map]
    have er:GY 0 ((h.rs.length:Int) - 1)=(List.range' 0 (h.rs.length - 1)).map fun j:Nat=>D.int j:=by
      unfold GY
      rw [Int.sub_zero,List.range_eq_range',show ((h.rs.length:Int) - 1).toNat=h.rs.length - 1 from by omega]
      apply List.map_congr_left
      intro a _
      rw [Int.zero_add]
    show (if -(2 ^ 62) <= (h.rs.length:Int) - 1 /\ (h.rs.length:Int) - 1 < 2 ^ 62 then some (GY 0 ((h.rs.length:Int) - 1),μ ++ [MO.lst acc]) else none)=_
    rw [if_pos (by omega),er]
theorem G0 (hm:m.Ok):Cf [m.toD] μ=some (.lst ((Bs m 0 m.hs).map itD),μ):=by
  have hz:sizeLine=16777216:=by decide
  obtain ⟨o2,o3,o4,o5,o6,q⟩:=Gb (μ:=μ) hm rfl m.hs 0 [] none none none none none rfl (by have:=hm.mosth; simp; omega)
  rw [List.nil_append] at q
  refine Ci (g:=[.lst ((Bs m 0 m.hs).map itD)]) (k:=μ.length) (τ2:=[some m.toD,some (.ref μ.length),o2,o3,o4,o5,o6]) ?_ rfl (Nat.le_refl _) (at0 rfl) (Fc (E9 hm m.hs 0 rfl) _)
  refine AR (τ1:=[some m.toD,some (.ref μ.length),none,none,none,none,none]) (μ1:=μ ++ [.lst []]) (Ah (AL (ds:=[]) (μ1:=μ) rfl (CD (by show 0 <= sizeLine; omega))) rfl) ?_
  exact AR (Bf (ds:=B1 0 (m.hs.map Hd.toD)) (μ1:=μ ++ [.lst []]) rfl q) (BB rfl)
end
end K61
set_option maxHeartbeats 4000000
namespace K61
open PySem L2 Mi K1
section
variable {μ μ1 μ2 μ3 μ4 μ' g:Mh} {n w:Nat} {l:Int} {d x0:D} {x y:Str} {τ τ1 τ2:Sl} {ds es:List D} {m:Mk}
def kept (m:Mk):List (D × Mk):=(DT m).filter fun p=>neD p.2.toD m.toD
theorem HD (hm:m.Ok):∀ q ∈ kept m,Kx q:=fun q hq=>GO hm q (List.mem_filter.mp hq).1
theorem Fz (hm:m.Ok):(DT m).length <= 1000:=by
  have h1:=Gy (m:=m) m.bs 0
  have hr:∀ g ∈ m.hs,g.rs.length <= 60:=fun g hg=>(hm.hands g hg).2.2.2
  have h2:=GH (m:=m) m.hs 0 hr
  have h3:=HV (m:=m) m.hs 0 hr
  have h4:=hm.most
  have h5:=hm.mosth
  unfold DT
  rw [List.length_append,List.length_append]
  omega
theorem Ia (hm:m.Ok):(kept m).length <= 1000:=Nat.le_trans (List.length_filter_le _ _) (Fz hm)
theorem Kl {φ:List D->M D} (hm:m.Ok) (hφ:∀ (q:Mk) (ν:Mh),q.Ok->φ [q.toD] ν=some (.bl true,ν)):∀ (ps:List (D × Mk)) (ys:List D),(∀ q ∈ ps,Kx q)->CZ (AN 0) (FX (AY (mOp Bl (mOp AS (AC 0) (mC (.int 1))) (AC 1))) (AY (AE φ (AB (mOp AS (AC 0) (mC (.int 1))) AH)))) (AC 0) [none,some m.toD] (ps.map itD) ys μ=some (ys ++ (ps.filter fun p=>neD p.2.toD m.toD).map itD,μ)
  | [],ys,_=>by show some (ys,μ)=_; simp
  | p :: ps,ys,h=>by
    have gp:=h p (by simp)
    have ih:=fun ys=>Kl (φ:=φ) hm hφ ps ys fun q hq=>h q (by simp [hq])
    show bnd (AN 0 (itD p) [none,some m.toD]) _ μ=_
    rw [AQ (show AN 0 (itD p) [none,some m.toD] μ=some ([some (itD p),some m.toD],μ) from rfl)]
    have t1:AY (mOp Bl (mOp AS (AC 0) (mC (.int 1))) (AC 1)) [some (itD p),some m.toD] μ=some (neD p.2.toD m.toD,μ):=Aa (AX (x:=p.2.toD) (y:=m.toD) (μ1:=μ) (μ2:=μ) (AX (x:=itD p) (y:=.int 1) (μ1:=μ) (μ2:=μ) rfl rfl (FH rfl)) rfl (V1 (gp.ok.pl.mono (by omega)) (hm.pl.mono (by omega)) (fun n z=>by cases z) (fun n z=>by cases z)))
    have t2:AY (AE φ (AB (mOp AS (AC 0) (mC (.int 1))) AH)) [some (itD p),some m.toD] μ=some (true,μ):=Aa (AL (ds:=[p.2.toD]) (μ1:=μ) (AM (ds:=[]) (μ1:=μ) (AX (x:=itD p) (y:=.int 1) (μ1:=μ) (μ2:=μ) rfl rfl (FH rfl)) rfl) (hφ p.2 μ gp.ok))
    cases hb:neD p.2.toD m.toD with
    | true=>
      rw [hb] at t1
      rw [AQ (CG t1 t2),if_pos rfl,AQ (show AC 0 [some (itD p),some m.toD] μ=some (itD p,μ) from rfl),ih]
      simp [hb]
    | false=>
      rw [hb] at t1
      rw [AQ (Dj t1),if_neg (by decide),ih]
      simp [hb]
theorem K5 (h:m.Ok):Eg [m.toD] μ=some (.bl true,μ):=by
  have k:=EG (μ:=μ) h
  exact Ae (g:=[]) (τ2:=[some m.toD]) (by rw [List.append_nil]; exact AR (Bt (AL (ds:=[m.toD]) (μ1:=μ) rfl k)) (BB rfl)) rfl (by unfold Cl; trivial)
theorem K4 (h:m.Ok):FB [m.toD] μ=some (.bl true,μ):=by
  have k:=EG (μ:=μ) h
  exact Ae (g:=[]) (τ2:=[some m.toD,some (.bl true)]) (by rw [List.append_nil]; exact AR (τ1:=[some m.toD,some (.bl true)]) (μ1:=μ) rfl (AR (Bt (AL (ds:=[m.toD]) (μ1:=μ) rfl k)) (BB rfl))) rfl (by unfold Cl; trivial)
theorem We (hm:m.Ok) {f1 f2 f3:List D->M D} {ν:Mh}:Ak (.lst ((BR m 0 m.bs).map itD)) (.lst ((B5 m 0 m.hs).map itD)) ν=some (.lst ((BR m 0 m.bs ++ B5 m 0 m.hs).map itD),ν) /\ Ak (.lst ((BR m 0 m.bs ++ B5 m 0 m.hs).map itD)) (.lst ((Bs m 0 m.hs).map itD)) ν=some (.lst ((DT m).map itD),ν):=by
  have hz:sizeLine=16777216:=by decide
  have hl:=Fz hm
  unfold DT at hl
  rw [List.length_append,List.length_append] at hl
  refine ⟨?_,?_⟩
  . rw [Ki (by simp; omega),← List.map_append]
  . rw [Ki (by simp; omega),← List.map_append]; rfl
theorem Ou (hm:m.Ok):DR [m.toD] μ=some (.ref μ.length,μ ++ [.lst ((kept m).map itD)]):=by
  have hz:sizeLine=16777216:=by decide
  obtain ⟨s1,s2⟩:=We hm (f1:=DR) (f2:=DR) (f3:=DR) (ν:=μ)
  have e:FV Dd Ce Cf Eg (BW 2 [m.toD]) μ=some ((.rt (.ref μ.length),[some m.toD,some (.lst ((DT m).map itD))]),μ ++ [.lst ((kept m).map itD)]):=by
    refine AR (τ1:=[some m.toD,some (.lst ((DT m).map itD))]) (μ1:=μ) (Ah (AX (μ1:=μ) (μ2:=μ) (AX (μ1:=μ) (μ2:=μ) (AL (ds:=[m.toD]) (μ1:=μ) rfl (JF hm)) (AL (ds:=[m.toD]) (μ1:=μ) rfl (Gz hm)) s1) (AL (ds:=[m.toD]) (μ1:=μ) rfl (G0 hm)) s2) rfl) ?_
    refine BB (Di (ds:=(DT m).map itD) (μ1:=μ) (Fe (x:=.lst ((DT m).map itD)) (μ1:=μ) rfl MW) (by rw [List.length_map]; have:=Fz hm; omega) (Kl hm (fun q ν h=>K5 h) (DT m) [] (GO hm)) ?_)
    rw [List.nil_append]
    exact CD (by rw [List.length_map]; have:=Ia hm; unfold kept at this; omega)
  refine Du (hw:=.all) e rfl (.inr ⟨_,rfl⟩) ⟨⟨[],by simp [FK]⟩,by simp [FK],fun j o q=>?_,.inl ⟨rfl,by show Cl _ (D.ref μ.length); unfold Cl; simp [FK]⟩⟩
  have q:(μ ++ [MO.lst ((kept m).map itD)])[j]? = some o:=q
  by_cases hj:j < μ.length
  . left; rw [List.getElem?_append_left hj] at q; exact q
  . right
    rw [List.getElem?_append_right (by omega)] at q
    have:j - μ.length=0:=by
      have:=(List.getElem?_eq_some_iff.mp q).1
      simp at this; omega
    rw [this] at q
    cases q
    exact Fc (HD hm) _
theorem Ot {k:Nat} {h:Hd} {rs:List Rw} {n:Nat} (e:m.hs[k]? = some h) (hl:m.hs.length <= 4) (hn:μ[n]? = some (.lst (rs.map Rw.toD))):Fu [m.toD,.int k,.ref n] μ=some ((Co m k h rs).toD,μ):=by
  have hz:sizeLine=16777216:=by decide
  have hk:k < m.hs.length:=(List.getElem?_eq_some_iff.mp e).1
  have hnl:n < μ.length:=(List.getElem?_eq_some_iff.mp hn).1
  have ixN_k:ixN (m.hs.map Hd.toD).length (k:Int)=some k:=by
    unfold ixN
    rw [if_pos (by omega),if_pos (by rw [List.length_map]; omega),Int.toNat_natCast]
  have a0:(μ ++ [MO.lst (m.hs.map Hd.toD)])[μ.length]? = some (.lst (m.hs.map Hd.toD)):=List.getElem?_concat_length
  have ix:AS (.ref μ.length) (.int k) (μ ++ [.lst (m.hs.map Hd.toD)])=some (h.toD,μ ++ [.lst (m.hs.map Hd.toD)]):=Kh a0 (by
    unfold atI; rw [ixN_k]
    show (m.hs.map Hd.toD)[k]? = _
    rw [List.getElem?_map,e]; rfl)
  have hset:(m.hs.map Hd.toD).set k (Hd.mk h.nm h.wi rs).toD=(m.hs.set k ⟨h.nm,h.wi,rs⟩).map Hd.toD:=by rw [List.map_set]
  have st:KF (.ref μ.length) (.int k) (Hd.mk h.nm h.wi rs).toD (μ ++ [.lst (m.hs.map Hd.toD)])=some ((),μ ++ [.lst ((m.hs.set k ⟨h.nm,h.wi,rs⟩).map Hd.toD)]):=by
    rw [Le a0 ixN_k,hset]
    simp
  have hn2:(μ ++ [MO.lst (m.hs.map Hd.toD)])[n]? = some (.lst (rs.map Rw.toD)):=by rw [List.getElem?_append_left hnl]; exact hn
  refine Ae (g:=[.lst ((m.hs.set k ⟨h.nm,h.wi,rs⟩).map Hd.toD)]) (τ2:=[some m.toD,some (.int k),some (.ref n),some (.ref μ.length)]) ?_ rfl (Mk.cl _)
  refine AR (τ1:=[some m.toD,some (.int k),some (.ref n),some (.ref μ.length)]) (μ1:=μ ++ [.lst (m.hs.map Hd.toD)]) (Ah (AL (ds:=[.tup (m.hs.map Hd.toD)]) (μ1:=μ) rfl ?_) rfl) ?_
  . show bnd (Ba (.tup (m.hs.map Hd.toD))) DX μ=_
    rw [AQ (show Ba (.tup (m.hs.map Hd.toD)) μ=some (m.hs.map Hd.toD,μ) from rfl)]
    exact CD (by rw [List.length_map]; omega)
  refine AR (τ1:=[some m.toD,some (.int k),some (.ref n),some (.ref μ.length)]) (μ1:=μ ++ [.lst ((m.hs.set k ⟨h.nm,h.wi,rs⟩).map Hd.toD)]) (Ah (d:=(Hd.mk h.nm h.wi rs).toD) (μ1:=μ ++ [.lst (m.hs.map Hd.toD)]) (AX (x:=.tup [.str h.nm,.int h.wi]) (y:=.tup [.tup (rs.map Rw.toD)]) (μ1:=μ ++ [.lst (m.hs.map Hd.toD)]) (μ2:=μ ++ [.lst (m.hs.map Hd.toD)]) (Cm (x0:=h.toD) (a:=none) (b:=some 2) (μ1:=μ ++ [.lst (m.hs.map Hd.toD)]) (μ2:=μ ++ [.lst (m.hs.map Hd.toD)]) (μ3:=μ ++ [.lst (m.hs.map Hd.toD)]) (AX (x:=.ref μ.length) (y:=.int k) (μ1:=μ ++ [.lst (m.hs.map Hd.toD)]) (μ2:=μ ++ [.lst (m.hs.map Hd.toD)]) rfl rfl ix) rfl rfl rfl) (AL (ds:=[.tup (rs.map Rw.toD)]) (μ1:=μ ++ [.lst (m.hs.map Hd.toD)]) (AM (ds:=[]) (μ1:=μ ++ [.lst (m.hs.map Hd.toD)]) (AL (ds:=[.ref n]) (μ1:=μ ++ [.lst (m.hs.map Hd.toD)]) rfl (GI hn2)) rfl) (BG (by show 1 <= sizeLine; omega))) (Dc (by simp; omega))) (Ip (x:=.ref μ.length) (y:=.int k) (μ1:=μ ++ [.lst (m.hs.map Hd.toD)]) (μ2:=μ ++ [.lst (m.hs.map Hd.toD)]) rfl rfl st)) ?_
  refine BB (AX (x:=.tup [.str m.kd,.int m.sz,.int m.bg,.tup (m.bs.map Bx.toD)]) (y:=.tup [.tup ((m.hs.set k ⟨h.nm,h.wi,rs⟩).map Hd.toD)]) (μ1:=μ ++ [.lst ((m.hs.set k ⟨h.nm,h.wi,rs⟩).map Hd.toD)]) (μ2:=μ ++ [.lst ((m.hs.set k ⟨h.nm,h.wi,rs⟩).map Hd.toD)]) (Cm (x0:=m.toD) (a:=none) (b:=some 4) (μ1:=μ ++ [.lst ((m.hs.set k ⟨h.nm,h.wi,rs⟩).map Hd.toD)]) (μ2:=μ ++ [.lst ((m.hs.set k ⟨h.nm,h.wi,rs⟩).map Hd.toD)]) (μ3:=μ ++ [.lst ((m.hs.set k ⟨h.nm,h.wi,rs⟩).map Hd.toD)]) rfl rfl rfl rfl) (AL (ds:=[.tup ((m.hs.set k ⟨h.nm,h.wi,rs⟩).map Hd.toD)]) (μ1:=μ ++ [.lst ((m.hs.set k ⟨h.nm,h.wi,rs⟩).map Hd.toD)]) (AM (ds:=[]) (μ1:=μ ++ [.lst ((m.hs.set k ⟨h.nm,h.wi,rs⟩).map Hd.toD)]) (AL (ds:=[.ref μ.length]) (μ1:=μ ++ [.lst ((m.hs.set k ⟨h.nm,h.wi,rs⟩).map Hd.toD)]) rfl (GI List.getElem?_concat_length)) rfl) (BG (by show 1 <= sizeLine; omega))) (Dc (by simp; omega)))
end
end K61
set_option maxHeartbeats 4000000
namespace K61
open PySem L2 Mi K1
section
variable {μ μ1 μ2 μ3 μ4 μ' g:Mh} {n w:Nat} {l:Int} {d x0:D} {x y:Str} {τ τ1 τ2:Sl} {ds es:List D} {m:Mk}
theorem U0 {a b:MO} {ex:Mh}:(μ ++ (a :: ex)) ++ [b]=μ ++ (a :: (ex ++ [b])):=by simp
abbrev wkD:List (Key × D):=[(.inr "steady",.str "safe"),(.inr "whole",.str "steady")]
theorem TC (kd:Str):(ET wkD (.inr kd)).getD .non=(match wk kd with | some k=>D.str k | none=>.non):=by
  unfold ET wk
  by_cases h1:kd = "steady"
  . subst h1
    rw [if_pos rfl]
    have e1:decide ((Sum.inr "steady" : Key)=.inr "steady")=true:=decide_eq_true rfl
    simp only [List.find?_cons,e1]; rfl
  . rw [if_neg h1]
    by_cases h2:kd = "whole"
    . subst h2
      rw [if_pos rfl]
      have e1:decide ((Sum.inr "steady" : Key)=.inr "whole")=false:=decide_eq_false fun z=>h1 (Sum.inr.inj z).symm
      have e2:decide ((Sum.inr "whole" : Key)=.inr "whole")=true:=decide_eq_true rfl
      simp only [List.find?_cons,e1,e2]; rfl
    . rw [if_neg h2]
      have e1:decide ((Sum.inr "steady" : Key)=.inr kd)=false:=decide_eq_false fun z=>h1 (Sum.inr.inj z).symm
      have e2:decide ((Sum.inr "whole" : Key)=.inr kd)=false:=decide_eq_false fun z=>h2 (Sum.inr.inj z).symm
      simp only [List.find?_cons,e1,e2,List.find?_nil,Option.map_none]; rfl
theorem Sc {mi:Sl->M D} {kvs:List (Key × D)} {kd:Str} (h:∀ ν:Mh,mi τ ν=some (.str kd,ν)):Ej (Jg kvs) mi τ μ=some ((ET kvs (.inr kd)).getD .non,μ ++ [.dK kvs]):=by
  unfold Ej
  rw [AQ (show Jg kvs τ μ=some (.ref μ.length,μ ++ [.dK kvs]) from rfl)]
  have ad:FE (.ref μ.length) (μ ++ [.dK kvs])=some ((μ.length,kvs),μ ++ [.dK kvs]):=by
    show (match (μ ++ [MO.dK kvs])[μ.length]? with | some (.dK l)=>some ((μ.length,l),μ ++ [MO.dK kvs]) | _=>none)=_
    rw [List.getElem?_concat_length]
  rw [AQ (show HG (.ref μ.length) (μ ++ [.dK kvs])=some ((),μ ++ [.dK kvs]) from by unfold HG; rw [AQ ad]; rfl),AQ (h _)]
  unfold Mg
  rw [AQ ad]; rfl
noncomputable abbrev TD:Sl->M (Fl × Sl):=(AU (An (Ej (Jg [(.inr "steady",.str "safe"),(.inr "whole",.str "steady")]) (mOp AS (AC 3) (mC (.int 1)))) (AN 4))
    (sIf (AY (mOp (Ph true) (AC 4) (mC .non))) (AU (An (AE IW (AB (mOp AS (AC 0) (mC (.int 3))) AH)) (AN 5))
    (AU (An (mOp Ak (AE Aw (AB (mOp AS (AC 3) (mC (.int 0))) (AB (AC 4) AH))) (CI (AC 3) (BA (mC (.int 2))) Ay)) (Hh (AC 5) (AC 2)))
    (AZ (A2 Ck (AC 1) (AB (AE Aw (AB (AE Aw (AB (mC (.str "weaker")) (AB (mOp AS (AC 3) (mC (.int 0))) AH))) (AB (mOp Ak (CI (AC 0) Ay (BA (mC (.int 3)))) (AE Aw (AB (AE Bu (AB (AC 5) AH)) (AB (mOp AS (AC 0) (mC (.int 4))) AH)))) AH))) AH))))) BI))
theorem F4 {L:Nat} (hm:m.Ok) (hL:μ.length=L):∀ (rest:List Bx) (p:Nat) (acc:List D) (ex:Mh) (o2 o3 o4 o5:Option D),m.bs.drop p=rest->acc.length + rest.length <= 10000->∃ ex' o2' o3' o4' o5',Bh (EV [2,3]) TD (B1 p (rest.map Bx.toD)) [some m.toD,some (.ref L),o2,o3,o4,o5] (μ ++ (.lst acc :: ex))=some ((.next,[some m.toD,some (.ref L),o2',o3',o4',o5']),μ ++ (.lst (acc ++ (BR m p rest).map itD) :: ex'))
  | [],p,acc,ex,o2,o3,o4,o5,h,hl=>⟨ex,o2,o3,o4,o5,by show some ((Fl.next,_),μ ++ (MO.lst acc :: ex))=_; simp [BR]⟩
  | b :: rest,p,acc,ex,o2,o3,o4,o5,h,hl=>by
    have hz:sizeLine=16777216:=by decide
    obtain ⟨e,h2⟩:=DE h
    have hp:p < m.bs.length:=(List.getElem?_eq_some_iff.mp e).1
    have hmost:=hm.most
    have hl':acc.length + (rest.length + 1) <= 10000:=by simpa using hl
    rw [List.map_cons]
    have dg:Ej (Jg [(.inr "steady",.str "safe"),(.inr "whole",.str "steady")]) (mOp AS (AC 3) (mC (.int 1))) [some m.toD,some (.ref L),some (.int p),some b.toD,o4,o5] (μ ++ (.lst acc :: ex))=some ((match wk b.kd with | some k=>D.str k | none=>.non),μ ++ (.lst acc :: (ex ++ [.dK wkD]))):=by
      rw [Sc (kd:=b.kd) fun ν=>AX (x:=b.toD) (y:=.int 1) (μ1:=ν) (μ2:=ν) rfl rfl (FH rfl),← TC,U0]
    cases hw:wk b.kd with
    | none=>
      rw [hw] at dg
      obtain ⟨ex',o2',o3',o4',o5',ih⟩:=F4 hm hL rest (p + 1) acc (ex ++ [.dK wkD]) (some (.int p)) (some b.toD) (some .non) o5 h2 (by omega)
      have ew:acc ++ (BR m p (b :: rest)).map itD=acc ++ (BR m (p + 1) rest).map itD:=by
        show acc ++ (Gc m p b ++ BR m (p + 1) rest).map itD=_
        unfold Gc; rw [hw]; simp
      rw [ew]
      exact ⟨ex',o2',o3',o4',o5',Al (τ1:=[some m.toD,some (.ref L),some (.int p),some b.toD,o4,o5]) (μ1:=μ ++ (.lst acc :: ex)) rfl (AR (τ1:=[some m.toD,some (.ref L),some (.int p),some b.toD,some .non,o5]) (Ah dg rfl) (BC (Aa (AX (x:=.non) (y:=.non) rfl rfl rfl)) rfl)) ih⟩
    | some kd=>
      rw [hw] at dg
      have hset:(m.bs.map Bx.toD).set p (Bx.mk b.nm kd b.sz b.bg b.wr).toD=(m.bs.set p ⟨b.nm,kd,b.sz,b.bg,b.wr⟩).map Bx.toD:=by rw [List.map_set]
      obtain ⟨ex',o2',o3',o4',o5',ih⟩:=F4 hm hL rest (p + 1) (acc ++ [itD (itW m p b kd)]) (ex ++ [.dK wkD] ++ [.lst ((m.bs.set p ⟨b.nm,kd,b.sz,b.bg,b.wr⟩).map Bx.toD)]) (some (.int p)) (some b.toD) (some (.str kd)) (some (.ref (μ ++ (MO.lst acc :: (ex ++ [.dK wkD]))).length)) h2 (by simp; omega)
      have ew:acc ++ (BR m p (b :: rest)).map itD=acc ++ [itD (itW m p b kd)] ++ (BR m (p + 1) rest).map itD:=by
        show acc ++ (Gc m p b ++ BR m (p + 1) rest).map itD=_
        unfold Gc; rw [hw]; simp
      rw [ew]
      refine ⟨ex',o2',o3',o4',o5',Al (τ1:=[some m.toD,some (.ref L),some (.int p),some b.toD,o4,o5]) (μ1:=μ ++ (.lst acc :: ex)) rfl (AR (τ1:=[some m.toD,some (.ref L),some (.int p),some b.toD,some (.str kd),o5]) (Ah dg rfl) (Cn (μ1:=μ ++ (.lst acc :: (ex ++ [.dK wkD]))) (Aa (AX (x:=.str kd) (y:=.non) rfl rfl rfl)) ?_)) ih⟩
      generalize hH:μ ++ (MO.lst acc :: (ex ++ [.dK wkD]))=H1
      have ixN_p:ixN (m.bs.map Bx.toD).length (p:Int)=some p:=by
        unfold ixN
        rw [if_pos (by omega),if_pos (by rw [List.length_map]; omega),Int.toNat_natCast]
      refine AR (τ1:=[some m.toD,some (.ref L),some (.int p),some b.toD,some (.str kd),some (.ref H1.length)]) (μ1:=H1 ++ [.lst (m.bs.map Bx.toD)]) (Ah (AL (ds:=[.tup (m.bs.map Bx.toD)]) (μ1:=H1) rfl ?_) rfl) ?_
      . show bnd (Ba (.tup (m.bs.map Bx.toD))) DX H1=_
        rw [AQ (show Ba (.tup (m.bs.map Bx.toD)) H1=some (m.bs.map Bx.toD,H1) from rfl)]
        exact CD (by rw [List.length_map]; omega)
      have st:KF (.ref H1.length) (.int p) (Bx.mk b.nm kd b.sz b.bg b.wr).toD (H1 ++ [.lst (m.bs.map Bx.toD)])=some ((),H1 ++ [.lst ((m.bs.set p ⟨b.nm,kd,b.sz,b.bg,b.wr⟩).map Bx.toD)]):=by
        rw [Le List.getElem?_concat_length ixN_p,hset]
        simp
      refine AR (τ1:=[some m.toD,some (.ref L),some (.int p),some b.toD,some (.str kd),some (.ref H1.length)]) (μ1:=H1 ++ [.lst ((m.bs.set p ⟨b.nm,kd,b.sz,b.bg,b.wr⟩).map Bx.toD)]) (Ah (d:=(Bx.mk b.nm kd b.sz b.bg b.wr).toD) (μ1:=H1 ++ [.lst (m.bs.map Bx.toD)]) (AX (x:=.tup [.str b.nm,.str kd]) (y:=.tup [.int b.sz,.int b.bg,.str b.wr]) (μ1:=H1 ++ [.lst (m.bs.map Bx.toD)]) (μ2:=H1 ++ [.lst (m.bs.map Bx.toD)]) rfl (Cm (x0:=b.toD) (a:=some 2) (b:=none) (μ1:=H1 ++ [.lst (m.bs.map Bx.toD)]) (μ2:=H1 ++ [.lst (m.bs.map Bx.toD)]) (μ3:=H1 ++ [.lst (m.bs.map Bx.toD)]) rfl rfl rfl rfl) (Dc (by simp; omega))) (Ip (x:=.ref H1.length) (y:=.int p) (μ1:=H1 ++ [.lst (m.bs.map Bx.toD)]) (μ2:=H1 ++ [.lst (m.bs.map Bx.toD)]) rfl rfl st)) ?_
      have tl:Bu [.ref H1.length] (H1 ++ [.lst ((m.bs.set p ⟨b.nm,kd,b.sz,b.bg,b.wr⟩).map Bx.toD)])=some (.tup ((m.bs.set p ⟨b.nm,kd,b.sz,b.bg,b.wr⟩).map Bx.toD),H1 ++ [.lst ((m.bs.set p ⟨b.nm,kd,b.sz,b.bg,b.wr⟩).map Bx.toD)]):=GI List.getElem?_concat_length
      have hH2:H1 ++ [MO.lst ((m.bs.set p ⟨b.nm,kd,b.sz,b.bg,b.wr⟩).map Bx.toD)]=μ ++ (.lst acc :: (ex ++ [.dK wkD] ++ [.lst ((m.bs.set p ⟨b.nm,kd,b.sz,b.bg,b.wr⟩).map Bx.toD)])):=by rw [← hH,U0]
      generalize hG:H1 ++ [MO.lst ((m.bs.set p ⟨b.nm,kd,b.sz,b.bg,b.wr⟩).map Bx.toD)]=H2 at tl hH2
      have ap:Ck (.ref L) [itD (itW m p b kd)] H2=some (.non,μ ++ (.lst (acc ++ [itD (itW m p b kd)]) :: (ex ++ [.dK wkD] ++ [.lst ((m.bs.set p ⟨b.nm,kd,b.sz,b.bg,b.wr⟩).map Bx.toD)]))):=by
        rw [hH2,DP (at0 hL) (by omega),LF hL]
      refine Bt (Cg (x:=.ref L) (μ1:=H2) rfl (Bi (ds:=acc) (by rw [hH2]; exact at0 hL)) (AM (ds:=[]) (μ1:=H2) (AL (ds:=[.tup [.str "weaker",.str b.nm],(setBox m p b kd).toD]) (μ1:=H2) (AM (μ1:=H2) rfl (AM (ds:=[]) (μ1:=H2) (AX (x:=.tup [.str m.kd,.int m.sz,.int m.bg]) (y:=.tup [.tup ((m.bs.set p ⟨b.nm,kd,b.sz,b.bg,b.wr⟩).map Bx.toD),.tup (m.hs.map Hd.toD)]) (μ1:=H2) (μ2:=H2) (Cm (x0:=m.toD) (a:=none) (b:=some 3) (μ1:=H2) (μ2:=H2) (μ3:=H2) rfl rfl rfl rfl) (AL (ds:=[.tup ((m.bs.set p ⟨b.nm,kd,b.sz,b.bg,b.wr⟩).map Bx.toD),.tup (m.hs.map Hd.toD)]) (μ1:=H2) (AM (μ1:=H2) (AL (ds:=[.ref H1.length]) (μ1:=H2) rfl tl) rfl) (BG (by show 2 <= sizeLine; omega))) (Dc (by simp; omega))) rfl)) (BG (by show 2 <= sizeLine; omega))) rfl) ap)
theorem Ni (hm:m.Ok):HJ [m.toD] μ=some (.lst ((BR m 0 m.bs).map itD),μ):=by
  have hz:sizeLine=16777216:=by decide
  obtain ⟨ex,o2,o3,o4,o5,q⟩:=F4 (μ:=μ) hm rfl m.bs 0 [] [] none none none none rfl (by have:=hm.most; simp; omega)
  rw [List.nil_append] at q
  refine Ci (g:=.lst ((BR m 0 m.bs).map itD) :: ex) (k:=μ.length) (τ2:=[some m.toD,some (.ref μ.length),o2,o3,o4,o5]) ?_ rfl (Nat.le_refl _) (at0 rfl) (Fc (Ey hm m.bs 0 rfl) _)
  refine AR (τ1:=[some m.toD,some (.ref μ.length),none,none,none,none]) (μ1:=μ ++ [.lst []]) (Ah (AL (ds:=[]) (μ1:=μ) rfl (CD (by show 0 <= sizeLine; omega))) rfl) ?_
  exact AR (Bf (ds:=B1 0 (m.bs.map Bx.toD)) (μ1:=μ ++ [.lst []]) rfl q) (BB rfl)
end
end K61
set_option maxHeartbeats 4000000
namespace K61
open PySem L2 Mi K1
section
variable {μ μ1 μ2 μ3 μ4 μ' g:Mh} {n w:Nat} {l:Int} {d x0:D} {x y:Str} {τ τ1 τ2:Sl} {ds es:List D} {m:Mk}
def Bc (a:Nat):Nat->List Rw->List Rw
  | _,[]=>[]
  | i,r :: rs=>(if i=a then [] else [r.pull a]) ++ Bc a (i + 1) rs
theorem Jk {a:Nat}:∀ (rs:List Rw) (i:Nat),a < i->Bc a i rs=rs.map (Rw.pull a)
  | [],i,_=>rfl
  | r :: rs,i,h=>by
    unfold Bc
    rw [if_neg (by omega),Jk rs (i + 1) (by omega)]; rfl
theorem NJ {a:Nat}:∀ (rs:List Rw) (i:Nat),i <= a->Bc a i rs=(rs.take (a - i) ++ rs.drop (a - i + 1)).map (Rw.pull a)
  | [],i,_=>by simp [Bc]
  | r :: rs,i,h=>by
    unfold Bc
    by_cases e:i=a
    . subst e
      rw [if_pos rfl,Jk rs (i + 1) (by omega)]
      simp
    . rw [if_neg e,NJ rs (i + 1) (by omega),show a - i=(a - (i + 1)) + 1 from by omega]
      simp
theorem OI {a:Nat} {rs:List Rw}:Bc a 0 rs=A4 rs a:=by rw [NJ rs 0 (Nat.zero_le _)]; rfl
abbrev NC:Sl->M (Fl × Sl):=(sIf (FX (AY (mOp (Dv false) (mOp AS (AC 9) (mC (.int 0))) (AE Aw (AB (mC (.str "unless")) (AB (mC (.str "jump")) AH))))) (AY (mOp KO (mOp AS (AC 9) (mUn EY (mC (.int 1)))) (AC 6)))) (An (mOp Ak (CI (AC 9) Ay (BA (mUn EY (mC (.int 1))))) (AE Aw (AB (mOp Br (mOp AS (AC 9) (mUn EY (mC (.int 1)))) (mC (.int 1))) AH))) (AN 9)) BI)
theorem Mu {a:Nat} {r:Rw} {o0 o1 o2 o3 o4 o5 o7 o8:Option D}:NC [o0,o1,o2,o3,o4,o5,some (.int a),o7,o8,some r.toD] μ=some ((.next,[o0,o1,o2,o3,o4,o5,some (.int a),o7,o8,some (r.pull a).toD]),μ):=by
  have no:∀ {w:Str} {ds:List D},w ∉ (["unless", "jump"]:List Str)->NC [o0,o1,o2,o3,o4,o5,some (.int a),o7,o8,some (.tup (.str w :: ds))] μ=some ((.next,[o0,o1,o2,o3,o4,o5,some (.int a),o7,o8,some (.tup (.str w :: ds))]),μ):=by
    intro w ds h
    exact BC (μ1:=μ) (Dj (Aa (AX (x:=.str w) (y:=.tup [.str "unless",.str "jump"]) (μ1:=μ) (μ2:=μ) (AX (x:=.tup (.str w :: ds)) (y:=.int 0) (μ1:=μ) (μ2:=μ) rfl rfl (FH (by unfold atI ixN; rw [if_pos (by decide),if_pos (by simp)]; rfl))) rfl (Gj (xs:=["unless", "jump"]) h)))) rfl
  cases r with
  | «unless» e t=>
    by_cases c:(a:Int) < t
    . have e1:(Rw.pull a (.unless e t))=.unless e (t - 1):=by show Rw.unless e (if (a:Int) < t then t - 1 else t)=_; rw [if_pos c]
      rw [e1]
      exact Cn (μ1:=μ) (CG (μ1:=μ) (Aa (AX (x:=.str "unless") (y:=.tup [.str "unless",.str "jump"]) (μ1:=μ) (μ2:=μ) rfl rfl (FJ (xs:=["unless", "jump"]) (by decide +kernel)))) (Aa (AX (x:=.int t) (y:=.int a) (μ1:=μ) (μ2:=μ) rfl rfl (QG c)))) rfl
    . have e1:(Rw.pull a (.unless e t))=.unless e t:=by show Rw.unless e (if (a:Int) < t then t - 1 else t)=_; rw [if_neg c]
      rw [e1]
      exact BC (μ1:=μ) (CG (μ1:=μ) (Aa (AX (x:=.str "unless") (y:=.tup [.str "unless",.str "jump"]) (μ1:=μ) (μ2:=μ) rfl rfl (FJ (xs:=["unless", "jump"]) (by decide +kernel)))) (Aa (AX (x:=.int t) (y:=.int a) (μ1:=μ) (μ2:=μ) rfl rfl (Lf (by omega))))) rfl
  | jump t=>
    by_cases c:(a:Int) < t
    . have e1:(Rw.pull a (.jump t))=.jump (t - 1):=by show Rw.jump (if (a:Int) < t then t - 1 else t)=_; rw [if_pos c]
      rw [e1]
      exact Cn (μ1:=μ) (CG (μ1:=μ) (Aa (AX (x:=.str "jump") (y:=.tup [.str "unless",.str "jump"]) (μ1:=μ) (μ2:=μ) rfl rfl (FJ (xs:=["unless", "jump"]) (by decide +kernel)))) (Aa (AX (x:=.int t) (y:=.int a) (μ1:=μ) (μ2:=μ) rfl rfl (QG c)))) rfl
    . have e1:(Rw.pull a (.jump t))=.jump t:=by show Rw.jump (if (a:Int) < t then t - 1 else t)=_; rw [if_neg c]
      rw [e1]
      exact BC (μ1:=μ) (CG (μ1:=μ) (Aa (AX (x:=.str "jump") (y:=.tup [.str "unless",.str "jump"]) (μ1:=μ) (μ2:=μ) rfl rfl (FJ (xs:=["unless", "jump"]) (by decide +kernel)))) (Aa (AX (x:=.int t) (y:=.int a) (μ1:=μ) (μ2:=μ) rfl rfl (Lf (by omega))))) rfl
  | put bx e=>exact no (by decide +kernel)
  | get x bx=>exact no (by decide +kernel)
  | letr x e=>exact no (by decide +kernel)
  | tell e=>exact no (by decide +kernel)
  | done=>exact no (by decide +kernel)
theorem atE {b o:MO} {ex:Mh} {L:Nat} (h:μ.length=L):(μ ++ (b :: (ex ++ [o])))[L + 1 + ex.length]? = some o:=by
  subst h
  rw [List.getElem?_append_right (by omega),show μ.length + 1 + ex.length - μ.length=ex.length + 1 from by omega]
  simp
theorem Qz {b o p:MO} {ex:Mh} {L:Nat} (h:μ.length=L):(μ ++ (b :: (ex ++ [o]))).set (L + 1 + ex.length) p=μ ++ (b :: (ex ++ [p])):=by
  subst h
  rw [List.set_append_right _ _ (by omega),show μ.length + 1 + ex.length - μ.length=ex.length + 1 from by omega]
  simp
theorem MS {b:MO} {ex:Mh} {L:Nat} (h:μ.length=L) (hl:ds.length <= sizeLine):DX ds (μ ++ (b :: ex))=some (.ref (L + 1 + ex.length),μ ++ (b :: (ex ++ [.lst ds]))):=by
  rw [CD hl,U0]
  subst h
  have e:(μ ++ (b :: ex)).length=μ.length + 1 + ex.length:=by simp; omega
  rw [e]
theorem HB {a L P:Nat} {o0 o1 o2 o3 o4 o5:Option D} {b:MO} {ex:Mh} (hL:μ.length=L) (hP:P=L + 1 + ex.length):∀ (rest:List Rw) (i:Nat) (acc:List Rw) (o8 o9:Option D),acc.length + rest.length <= 10000->∃ o8' o9',Bh (EV [8,9]) (AU NC (sIf (AY (mOp Bl (AC 8) (AC 6))) (AZ (A2 Ck (AC 7) (AB (AC 9) AH))) BI)) (B1 i (rest.map Rw.toD)) [o0,o1,o2,o3,o4,o5,some (.int a),some (.ref P),o8,o9] (μ ++ (b :: (ex ++ [.lst (acc.map Rw.toD)])))=some ((.next,[o0,o1,o2,o3,o4,o5,some (.int a),some (.ref P),o8',o9']),μ ++ (b :: (ex ++ [.lst ((acc ++ Bc a i rest).map Rw.toD)])))
  | [],i,acc,o8,o9,_=>⟨o8,o9,by show some ((Fl.next,_),μ ++ (b :: (ex ++ [MO.lst (acc.map Rw.toD)])))=_; simp [Bc]⟩
  | r :: rest,i,acc,o8,o9,hacc=>by
    have hz:sizeLine=16777216:=by decide
    have hacc':acc.length + (rest.length + 1) <= 10000:=by simpa using hacc
    rw [List.map_cons]
    by_cases c:i=a
    . obtain ⟨o8',o9',ih⟩:=HB (o0:=o0) (o1:=o1) (o2:=o2) (o3:=o3) (o4:=o4) (o5:=o5) (b:=b) hL hP rest (i + 1) acc (some (.int i)) (some (r.pull a).toD) (by omega)
      have ew:acc ++ Bc a i (r :: rest)=acc ++ Bc a (i + 1) rest:=by
        show acc ++ ((if i=a then [] else [r.pull a]) ++ Bc a (i + 1) rest)=_
        rw [if_pos c]; rfl
      rw [ew]
      exact ⟨o8',o9',Al (τ1:=[o0,o1,o2,o3,o4,o5,some (.int a),some (.ref P),some (.int i),some r.toD]) rfl (AR Mu (BC (Aa (AX (x:=.int i) (y:=.int a) rfl rfl (MY (by omega)))) rfl)) ih⟩
    . obtain ⟨o8',o9',ih⟩:=HB (o0:=o0) (o1:=o1) (o2:=o2) (o3:=o3) (o4:=o4) (o5:=o5) (b:=b) hL hP rest (i + 1) (acc ++ [r.pull a]) (some (.int i)) (some (r.pull a).toD) (by simp; omega)
      have ew:acc ++ Bc a i (r :: rest)=acc ++ [r.pull a] ++ Bc a (i + 1) rest:=by
        show acc ++ ((if i=a then [] else [r.pull a]) ++ Bc a (i + 1) rest)=_
        rw [if_neg c]; simp
      rw [ew]
      have ap:=DP (μ:=μ ++ (b :: (ex ++ [.lst (acc.map Rw.toD)]))) (n:=P) (d:=(r.pull a).toD) (ds:=acc.map Rw.toD) (by rw [hP]; exact atE hL) (by rw [List.length_map]; omega)
      rw [hP,Qz hL,← hP] at ap
      have eb:acc.map Rw.toD ++ [(r.pull a).toD]=(acc ++ [r.pull a]).map Rw.toD:=by simp
      rw [eb] at ap
      exact ⟨o8',o9',Al (τ1:=[o0,o1,o2,o3,o4,o5,some (.int a),some (.ref P),some (.int i),some r.toD]) (μ1:=μ ++ (b :: (ex ++ [.lst (acc.map Rw.toD)]))) rfl (AR Mu (Cn (μ1:=μ ++ (b :: (ex ++ [.lst (acc.map Rw.toD)]))) (Aa (AX (x:=.int i) (y:=.int a) rfl rfl (QD (by omega)))) (Bt (Cg (x:=.ref P) (μ1:=μ ++ (b :: (ex ++ [.lst (acc.map Rw.toD)]))) rfl (Bi (ds:=acc.map Rw.toD) (by rw [hP]; exact atE hL)) (AM (ds:=[]) rfl rfl) ap)))) ih⟩
noncomputable abbrev UR:Sl->M (Fl × Sl):=(AU (An (AE DX AH) (AN 7))
    (AU (Cs (FA (AB (AC 4) AH)) (EV [8,9]) (AU NC (sIf (AY (mOp Bl (AC 8) (AC 6))) (AZ (A2 Ck (AC 7) (AB (AC 9) AH))) BI)))
    (AZ (A2 Ck (AC 5) (AB (AE Aw (AB (AE Aw (AB (mC (.str "less")) (AB (AC 2) (AB (AC 6) AH)))) (AB (AE Fu (AB (AC 0) (AB (AC 1) (AB (AC 7) AH)))) AH))) AH)))))
theorem IX {k:Nat} {h:Hd} {L:Nat} (hL:μ.length=L) (e:m.hs[k]? = some h) (hl:m.hs.length <= 4) (hr:h.rs.length <= 60):∀ (cnt a:Nat) (acc:List D) (ex:Mh) (o6 o7 o8 o9:Option D),a + cnt <= h.rs.length->acc.length + cnt <= 10000->∃ ex' o6' o7' o8' o9',Bh (AN 6) UR ((List.range' a cnt).map fun j:Nat=>D.int j) [some m.toD,some (.int k),some (.str h.nm),some (.int h.wi),some (.tup (h.rs.map Rw.toD)),some (.ref L),o6,o7,o8,o9] (μ ++ (.lst acc :: ex))=some ((.next,[some m.toD,some (.int k),some (.str h.nm),some (.int h.wi),some (.tup (h.rs.map Rw.toD)),some (.ref L),o6',o7',o8',o9']),μ ++ (.lst (acc ++ ((List.range' a cnt).map (itL m k h)).map itD) :: ex'))
  | 0,a,acc,ex,o6,o7,o8,o9,_,_=>⟨ex,o6,o7,o8,o9,by show some ((Fl.next,_),μ ++ (MO.lst acc :: ex))=_; simp⟩
  | cnt + 1,a,acc,ex,o6,o7,o8,o9,ha,hacc=>by
    have hz:sizeLine=16777216:=by decide
    obtain ⟨p8,p9,q⟩:=HB (μ:=μ) (a:=a) (L:=L) (P:=L + 1 + ex.length) (o0:=some m.toD) (o1:=some (.int k)) (o2:=some (.str h.nm)) (o3:=some (.int h.wi)) (o4:=some (.tup (h.rs.map Rw.toD))) (o5:=some (.ref L)) (b:=.lst acc) (ex:=ex) hL rfl h.rs 0 [] o8 o9 (by simp; omega)
    rw [List.nil_append,OI] at q
    obtain ⟨ex',o6',o7',o8',o9',ih⟩:=IX hL e hl hr cnt (a + 1) (acc ++ [itD (itL m k h a)]) (ex ++ [.lst ((A4 h.rs a).map Rw.toD)]) (some (.int a)) (some (.ref (L + 1 + ex.length))) p8 p9 (by omega) (by simp; omega)
    rw [List.range'_succ,List.map_cons,List.map_cons,List.map_cons]
    have ew:acc ++ itD (itL m k h a) :: ((List.range' (a + 1) cnt).map (itL m k h)).map itD=acc ++ [itD (itL m k h a)] ++ ((List.range' (a + 1) cnt).map (itL m k h)).map itD:=by simp
    rw [ew]
    have t:=Ot (μ:=μ ++ (.lst acc :: (ex ++ [.lst ((A4 h.rs a).map Rw.toD)]))) (rs:=A4 h.rs a) (n:=L + 1 + ex.length) e hl (atE hL)
    have ap:Ck (.ref L) [itD (itL m k h a)] (μ ++ (.lst acc :: (ex ++ [.lst ((A4 h.rs a).map Rw.toD)])))=some (.non,μ ++ (.lst (acc ++ [itD (itL m k h a)]) :: (ex ++ [.lst ((A4 h.rs a).map Rw.toD)]))):=by
      rw [DP (at0 hL) (by omega),LF hL]
    refine ⟨ex',o6',o7',o8',o9',Al (τ1:=[some m.toD,some (.int k),some (.str h.nm),some (.int h.wi),some (.tup (h.rs.map Rw.toD)),some (.ref L),some (.int a),o7,o8,o9]) (μ1:=μ ++ (.lst acc :: ex)) rfl ?_ ih⟩
    refine AR (τ1:=[some m.toD,some (.int k),some (.str h.nm),some (.int h.wi),some (.tup (h.rs.map Rw.toD)),some (.ref L),some (.int a),some (.ref (L + 1 + ex.length)),o8,o9]) (μ1:=μ ++ (.lst acc :: (ex ++ [.lst []]))) (Ah (AL (ds:=[]) (μ1:=μ ++ (.lst acc :: ex)) rfl (MS hL (by show 0 <= sizeLine; omega))) rfl) ?_
    refine AR (Bf (ds:=B1 0 (h.rs.map Rw.toD)) (μ1:=μ ++ (.lst acc :: (ex ++ [.lst []]))) rfl q) ?_
    have gd:C5 (.ref L) (μ ++ (.lst acc :: (ex ++ [.lst ((A4 h.rs a).map Rw.toD)])))=some ((),μ ++ (.lst acc :: (ex ++ [.lst ((A4 h.rs a).map Rw.toD)]))):=Bi (at0 hL)
    generalize μ ++ (MO.lst acc :: (ex ++ [MO.lst ((A4 h.rs a).map Rw.toD)]))=H2 at t ap gd
    exact Bt (Cg (x:=.ref L) (μ1:=H2) rfl gd (AM (ds:=[]) (μ1:=H2) (AL (ds:=[.tup [.str "less",.str h.nm,.int a],(Co m k h (A4 h.rs a)).toD]) (μ1:=H2) (AM (μ1:=H2) rfl (AM (ds:=[]) (μ1:=H2) (AL (ds:=[m.toD,.int k,.ref (L + 1 + ex.length)]) (μ1:=H2) rfl t) rfl)) (BG (by show 2 <= sizeLine; omega))) rfl) ap)
theorem NP {k:Nat} {h:Hd} (e:m.hs[k]? = some h):∀ ν:Mh,AS (.tup (m.hs.map Hd.toD)) (.int k) ν=some (h.toD,ν):=fun ν=>FH (by
  have hk:=(List.getElem?_eq_some_iff.mp e).1
  unfold atI ixN
  rw [if_pos (by omega),if_pos (by rw [List.length_map]; omega)]
  show (m.hs.map Hd.toD)[(k:Int).toNat]? = _
  rw [Int.toNat_natCast,List.getElem?_map,e]; rfl)
theorem Qr {k:Nat} {h:Hd} (hm:m.Ok) (e:m.hs[k]? = some h):Hs [m.toD,.int k] μ=some (.lst ((ER m k h).map itD),μ):=by
  have hz:sizeLine=16777216:=by decide
  have hh:=(hm.hands h (List.mem_iff_getElem?.mpr ⟨k,e⟩)).2.2.2
  obtain ⟨ex,o6,o7,o8,o9,q⟩:=IX (μ:=μ) rfl e hm.mosth hh h.rs.length 0 [] [] none none none none (by omega) (by simp; omega)
  rw [List.nil_append] at q
  refine Ci (g:=.lst ((ER m k h).map itD) :: ex) (k:=μ.length) (τ2:=[some m.toD,some (.int k),some (.str h.nm),some (.int h.wi),some (.tup (h.rs.map Rw.toD)),some (.ref μ.length),o6,o7,o8,o9]) ?_ rfl (Nat.le_refl _) (at0 rfl) (Fc (IY hm e) _)
  refine AR (τ1:=[some m.toD,some (.int k),some (.str h.nm),some (.int h.wi),some (.tup (h.rs.map Rw.toD)),none,none,none,none,none]) (μ1:=μ) (Ah (d:=h.toD) (μ1:=μ) (AX (x:=.tup (m.hs.map Hd.toD)) (y:=.int k) (μ1:=μ) (μ2:=μ) rfl rfl (NP e μ)) rfl) ?_
  refine AR (τ1:=[some m.toD,some (.int k),some (.str h.nm),some (.int h.wi),some (.tup (h.rs.map Rw.toD)),some (.ref μ.length),none,none,none,none]) (μ1:=μ ++ [.lst []]) (Ah (AL (ds:=[]) (μ1:=μ) rfl (CD (by show 0 <= sizeLine; omega))) rfl) ?_
  refine AR (Bf (MX (c:=h.rs.length) (μ1:=μ ++ [.lst []]) ?_ (by omega)) q) (BB rfl)
  refine AM (ds:=[]) (μ1:=μ ++ [.lst []]) (AL (ds:=[.tup (h.rs.map Rw.toD)]) (μ1:=μ ++ [.lst []]) rfl ?_) rfl
  rw [HC,List.length_map]
theorem PD {rs:List Rw} {a:Nat} {x y:Rw} (hx:rs[a]? = some x) (hy:rs[a + 1]? = some y):(rs.set (a + 1) x).set a y=At rs a:=by
  have h2:=(List.getElem?_eq_some_iff.mp hy).1
  have es:At rs a=rs.take a ++ [y,x] ++ rs.drop (a + 2):=by unfold At; rw [hx,hy]
  rw [es]
  apply List.ext_getElem?
  intro i
  rw [List.getElem?_set]
  by_cases h1:a=i
  . subst h1
    rw [if_pos rfl,if_pos (by rw [List.length_set]; omega),List.append_assoc,List.getElem?_append_right (by rw [List.length_take]; omega),List.length_take,show a - min a rs.length=0 from by omega]
    rfl
  . rw [if_neg h1,List.getElem?_set]
    by_cases h3:a + 1=i
    . subst h3
      rw [if_pos rfl,if_pos (by omega),List.append_assoc,List.getElem?_append_right (by rw [List.length_take]; omega),List.length_take,show a + 1 - min a rs.length=1 from by omega]
      rfl
    . rw [if_neg h3]
      by_cases h4:i < a
      . rw [List.append_assoc,List.getElem?_append_left (by rw [List.length_take]; omega),List.getElem?_take_of_lt h4]
      . rw [List.getElem?_append_right (by rw [List.length_append,List.length_take]; simp; omega),List.length_append,List.length_take,List.getElem?_drop]
        congr 1
        simp; omega
noncomputable abbrev Rn:Sl->M (Fl × Sl):=(AU (An (AE IW (AB (AC 4) AH)) (AN 7))
    (AU (An (mOp AS (AC 4) (mOp Br (AC 6) (mC (.int 1)))) (Hh (AC 7) (AC 6)))
    (AU (An (mOp AS (AC 4) (AC 6)) (Hh (AC 7) (mOp Br (AC 6) (mC (.int 1)))))
    (AZ (A2 Ck (AC 5) (AB (AE Aw (AB (AE Aw (AB (mC (.str "other")) (AB (AC 2) (AB (mOp Br (AC 6) (mC (.int 1))) AH)))) (AB (AE Fu (AB (AC 0) (AB (AC 1) (AB (AC 7) AH)))) AH))) AH))))))
theorem HS {k:Nat} {h:Hd} {L:Nat} (hL:μ.length=L) (e:m.hs[k]? = some h) (hl:m.hs.length <= 4) (hr:h.rs.length <= 60):∀ (cnt a:Nat) (acc:List D) (ex:Mh) (o6 o7:Option D),a + cnt + 1 <= h.rs.length ∨ cnt=0->acc.length + cnt <= 10000->∃ ex' o6' o7',Bh (AN 6) Rn ((List.range' a cnt).map fun j:Nat=>D.int (1 + (j:Int))) [some m.toD,some (.int k),some (.str h.nm),some (.int h.wi),some (.tup (h.rs.map Rw.toD)),some (.ref L),o6,o7] (μ ++ (.lst acc :: ex))=some ((.next,[some m.toD,some (.int k),some (.str h.nm),some (.int h.wi),some (.tup (h.rs.map Rw.toD)),some (.ref L),o6',o7']),μ ++ (.lst (acc ++ ((List.range' a cnt).map (itO m k h)).map itD) :: ex'))
  | 0,a,acc,ex,o6,o7,_,_=>⟨ex,o6,o7,by show some ((Fl.next,_),μ ++ (MO.lst acc :: ex))=_; simp⟩
  | cnt + 1,a,acc,ex,o6,o7,ha,hacc=>by
    have hz:sizeLine=16777216:=by decide
    have ha2:a + 1 < h.rs.length:=by omega
    obtain ⟨x,hx⟩:∃ x,h.rs[a]? = some x:=⟨_,List.getElem?_eq_getElem (by omega)⟩
    obtain ⟨y,hy⟩:∃ y,h.rs[a + 1]? = some y:=⟨_,List.getElem?_eq_getElem ha2⟩
    obtain ⟨ex',o6',o7',ih⟩:=HS hL e hl hr cnt (a + 1) (acc ++ [itD (itO m k h a)]) (ex ++ [.lst ((At h.rs a).map Rw.toD)]) (some (.int (1 + (a:Int)))) (some (.ref (L + 1 + ex.length))) (by omega) (by simp; omega)
    rw [List.range'_succ,List.map_cons,List.map_cons,List.map_cons]
    have ew:acc ++ itD (itO m k h a) :: ((List.range' (a + 1) cnt).map (itO m k h)).map itD=acc ++ [itD (itO m k h a)] ++ ((List.range' (a + 1) cnt).map (itO m k h)).map itD:=by simp
    rw [ew]
    have sb:∀ ν:Mh,Br (.int (1 + (a:Int))) (.int 1) ν=some (.int a,ν):=fun ν=>by rw [NL,show 1 + (a:Int) - 1=a from by omega]
    have a1:(1 + (a:Int))=((a + 1:Nat):Int):=by omega
    have t:=Ot (μ:=μ ++ (.lst acc :: (ex ++ [.lst ((At h.rs a).map Rw.toD)]))) (rs:=At h.rs a) (n:=L + 1 + ex.length) e hl (atE hL)
    have ap:Ck (.ref L) [itD (itO m k h a)] (μ ++ (.lst acc :: (ex ++ [.lst ((At h.rs a).map Rw.toD)])))=some (.non,μ ++ (.lst (acc ++ [itD (itO m k h a)]) :: (ex ++ [.lst ((At h.rs a).map Rw.toD)]))):=by
      rw [DP (at0 hL) (by omega),LF hL]
    have gd:C5 (.ref L) (μ ++ (.lst acc :: (ex ++ [.lst ((At h.rs a).map Rw.toD)])))=some ((),μ ++ (.lst acc :: (ex ++ [.lst ((At h.rs a).map Rw.toD)]))):=Bi (at0 hL)
    have i1:ixN (h.rs.map Rw.toD).length (1 + (a:Int))=some (a + 1):=by
      unfold ixN
      rw [a1,if_pos (by omega),if_pos (by rw [List.length_map]; omega),Int.toNat_natCast]
    have i2:ixN ((h.rs.map Rw.toD).set (a + 1) x.toD).length (a:Int)=some a:=by
      unfold ixN
      rw [if_pos (by omega),if_pos (by rw [List.length_set,List.length_map]; omega),Int.toNat_natCast]
    have s1:KF (.ref (L + 1 + ex.length)) (.int (1 + (a:Int))) x.toD (μ ++ (.lst acc :: (ex ++ [.lst (h.rs.map Rw.toD)])))=some ((),μ ++ (.lst acc :: (ex ++ [.lst ((h.rs.map Rw.toD).set (a + 1) x.toD)]))):=by
      rw [Le (atE hL) i1,Qz hL]
    have s2:KF (.ref (L + 1 + ex.length)) (.int a) y.toD (μ ++ (.lst acc :: (ex ++ [.lst ((h.rs.map Rw.toD).set (a + 1) x.toD)])))=some ((),μ ++ (.lst acc :: (ex ++ [.lst ((At h.rs a).map Rw.toD)]))):=by
      rw [Le (atE hL) i2,Qz hL,← PD hx hy,List.map_set,List.map_set]
    have nb:=MS (μ:=μ) (b:=.lst acc) (ex:=ex) (L:=L) (ds:=h.rs.map Rw.toD) hL (by rw [List.length_map]; omega)
    have ly:∀ ν:Mh,AS (.tup (h.rs.map Rw.toD)) (.int (1 + (a:Int))) ν=some (y.toD,ν):=fun ν=>by rw [a1]; exact Hu hy ν
    refine ⟨ex',o6',o7',Al (τ1:=[some m.toD,some (.int k),some (.str h.nm),some (.int h.wi),some (.tup (h.rs.map Rw.toD)),some (.ref L),some (.int (1 + (a:Int))),o7]) (μ1:=μ ++ (.lst acc :: ex)) rfl ?_ ih⟩
    generalize μ ++ (MO.lst acc :: (ex ++ [MO.lst ((At h.rs a).map Rw.toD)]))=H4 at t ap gd s2
    generalize μ ++ (MO.lst acc :: (ex ++ [MO.lst ((h.rs.map Rw.toD).set (a + 1) x.toD)]))=H3 at s1 s2
    generalize μ ++ (MO.lst acc :: (ex ++ [MO.lst (h.rs.map Rw.toD)]))=H2 at s1 nb
    refine AR (τ1:=[some m.toD,some (.int k),some (.str h.nm),some (.int h.wi),some (.tup (h.rs.map Rw.toD)),some (.ref L),some (.int (1 + (a:Int))),some (.ref (L + 1 + ex.length))]) (μ1:=H2) (Ah (AL (ds:=[.tup (h.rs.map Rw.toD)]) (μ1:=μ ++ (.lst acc :: ex)) rfl ?_) rfl) ?_
    . show bnd (Ba (.tup (h.rs.map Rw.toD))) DX (μ ++ (.lst acc :: ex))=_
      rw [AQ (show Ba (.tup (h.rs.map Rw.toD)) (μ ++ (.lst acc :: ex))=some (h.rs.map Rw.toD,μ ++ (.lst acc :: ex)) from rfl)]
      exact nb
    refine AR (τ1:=[some m.toD,some (.int k),some (.str h.nm),some (.int h.wi),some (.tup (h.rs.map Rw.toD)),some (.ref L),some (.int (1 + (a:Int))),some (.ref (L + 1 + ex.length))]) (μ1:=H3) (Ah (d:=x.toD) (μ1:=H2) (AX (x:=.tup (h.rs.map Rw.toD)) (y:=.int a) (μ1:=H2) (μ2:=H2) rfl (AX (x:=.int (1 + (a:Int))) (y:=.int 1) (μ1:=H2) (μ2:=H2) rfl rfl (sb _)) (Hu hx _)) (Ip (x:=.ref (L + 1 + ex.length)) (y:=.int (1 + (a:Int))) (μ1:=H2) (μ2:=H2) rfl rfl s1)) ?_
    refine AR (τ1:=[some m.toD,some (.int k),some (.str h.nm),some (.int h.wi),some (.tup (h.rs.map Rw.toD)),some (.ref L),some (.int (1 + (a:Int))),some (.ref (L + 1 + ex.length))]) (μ1:=H4) (Ah (d:=y.toD) (μ1:=H3) (AX (x:=.tup (h.rs.map Rw.toD)) (y:=.int (1 + (a:Int))) (μ1:=H3) (μ2:=H3) rfl rfl (ly _)) (Ip (x:=.ref (L + 1 + ex.length)) (y:=.int a) (μ1:=H3) (μ2:=H3) rfl (AX (x:=.int (1 + (a:Int))) (y:=.int 1) (μ1:=H3) (μ2:=H3) rfl rfl (sb _)) s2)) ?_
    exact Bt (Cg (x:=.ref L) (μ1:=H4) rfl gd (AM (ds:=[]) (μ1:=H4) (AL (ds:=[.tup [.str "other",.str h.nm,.int a],(Co m k h (At h.rs a)).toD]) (μ1:=H4) (AM (μ1:=H4) (AL (ds:=[.str "other",.str h.nm,.int a]) (μ1:=H4) (AM (μ1:=H4) rfl (AM (μ1:=H4) rfl (AM (ds:=[]) (μ1:=H4) (AX (x:=.int (1 + (a:Int))) (y:=.int 1) (μ1:=H4) (μ2:=H4) rfl rfl (sb _)) rfl))) (BG (by show 3 <= sizeLine; omega))) (AM (ds:=[]) (μ1:=H4) (AL (ds:=[m.toD,.int k,.ref (L + 1 + ex.length)]) (μ1:=H4) rfl t) rfl)) (BG (by show 2 <= sizeLine; omega))) rfl) ap)
theorem UX {ma:Sl->M (List D)} {c:Nat} (h:ma τ μ=some ([.int 1,.int (c:Int)],μ1)) (h1:c <= 1000):NG ma τ μ=some ((List.range' 0 (c - 1)).map (fun j:Nat=>D.int (1 + (j:Int))),μ1):=by
  unfold NG
  rw [AQ h]
  have er:GY 1 (c:Int)=(List.range' 0 (c - 1)).map fun j:Nat=>D.int (1 + (j:Int)):=by
    have et:((c:Int) - 1).toNat=c - 1:=by omega
    unfold GY
    rw [et,List.range_eq_range']
  rw [← er]
  unfold PV
  dsimp only
  rw [if_pos (by omega)]
theorem O1 {k:Nat} {h:Hd} (hm:m.Ok) (e:m.hs[k]? = some h):Go [m.toD,.int k] μ=some (.lst ((C2 m k h).map itD),μ):=by
  have hz:sizeLine=16777216:=by decide
  have hh:=(hm.hands h (List.mem_iff_getElem?.mpr ⟨k,e⟩)).2.2.2
  obtain ⟨ex,o6,o7,q⟩:=HS (μ:=μ) rfl e hm.mosth hh (h.rs.length - 1) 0 [] [] none none (by omega) (by simp; omega)
  rw [List.nil_append] at q
  refine Ci (g:=.lst ((C2 m k h).map itD) :: ex) (k:=μ.length) (τ2:=[some m.toD,some (.int k),some (.str h.nm),some (.int h.wi),some (.tup (h.rs.map Rw.toD)),some (.ref μ.length),o6,o7]) ?_ rfl (Nat.le_refl _) (at0 rfl) (Fc (HU hm e) _)
  refine AR (τ1:=[some m.toD,some (.int k),some (.str h.nm),some (.int h.wi),some (.tup (h.rs.map Rw.toD)),none,none,none]) (μ1:=μ) (Ah (d:=h.toD) (μ1:=μ) (AX (x:=.tup (m.hs.map Hd.toD)) (y:=.int k) (μ1:=μ) (μ2:=μ) rfl rfl (NP e μ)) rfl) ?_
  refine AR (τ1:=[some m.toD,some (.int k),some (.str h.nm),some (.int h.wi),some (.tup (h.rs.map Rw.toD)),some (.ref μ.length),none,none]) (μ1:=μ ++ [.lst []]) (Ah (AL (ds:=[]) (μ1:=μ) rfl (CD (by show 0 <= sizeLine; omega))) rfl) ?_
  refine AR (Bf (ds:=(List.range' 0 (h.rs.length - 1)).map fun j:Nat=>D.int (1 + (j:Int))) (μ1:=μ ++ [.lst []]) ?_ q) (BB rfl)
  refine UX (c:=h.rs.length) (AM (x:=.int 1) (ds:=[.int (h.rs.length:Int)]) (μ1:=μ ++ [.lst []]) rfl (AM (ds:=[]) (μ1:=μ ++ [.lst []]) (AL (ds:=[.tup (h.rs.map Rw.toD)]) (μ1:=μ ++ [.lst []]) rfl ?_) rfl)) (by omega)
  rw [HC,List.length_map]
end
end K61
set_option maxHeartbeats 4000000
namespace K61
open PySem L2 Mi K1
section
variable {μ μ1 μ2 μ3 μ4 μ' g:Mh} {n w:Nat} {l:Int} {d x0:D} {x y:Str} {τ τ1 τ2:Sl} {ds es:List D} {m:Mk}
theorem HK {f:List D->M D} {F:Nat->Hd->List (D × Mk)} {G:Nat->List Hd->List (D × Mk)} (hG0:∀ k,G k []=[]) (hG:∀ k h hs,G k (h :: hs)=F k h ++ G (k + 1) hs) (hf:∀ (k:Nat) (h:Hd) (ν:Mh),m.hs[k]? = some h->f [m.toD,.int k] ν=some (.lst ((F k h).map itD),ν)) (hF:∀ (k:Nat) (h:Hd),m.hs[k]? = some h->(F k h).length <= 60):∀ (rest:List Hd) (k:Nat) (acc:List D) (o2:Option D),m.hs.drop k=rest->acc.length + 60 * rest.length <= 10000->∃ o2',Bh (AN 2) (An (mOp Ak (AC 1) (AE f (AB (AC 0) (AB (AC 2) AH)))) (AN 1)) ((List.range' k rest.length).map fun j:Nat=>D.int j) [some m.toD,some (.lst acc),o2] μ=some ((.next,[some m.toD,some (.lst (acc ++ (G k rest).map itD)),o2']),μ)
  | [],k,acc,o2,h,hl=>⟨o2,by show some ((Fl.next,_),μ)=_; rw [hG0]; simp⟩
  | h :: rest,k,acc,o2,hd,hl=>by
    have hz:sizeLine=16777216:=by decide
    obtain ⟨e,h2⟩:=DE hd
    have hl':acc.length + 60 * (rest.length + 1) <= 10000:=by simpa using hl
    have hF':=hF k h e
    obtain ⟨o2',ih⟩:=HK hG0 hG hf hF rest (k + 1) (acc ++ (F k h).map itD) (some (.int k)) h2 (by simp; omega)
    rw [List.length_cons,List.range'_succ,List.map_cons,hG]
    have ew:acc ++ (F k h ++ G (k + 1) rest).map itD=acc ++ (F k h).map itD ++ (G (k + 1) rest).map itD:=by simp
    rw [ew]
    exact ⟨o2',Al (τ1:=[some m.toD,some (.lst acc),some (.int k)]) (τ2:=[some m.toD,some (.lst (acc ++ (F k h).map itD)),some (.int k)]) (μ1:=μ) (μ2:=μ) rfl (Ah (AX (x:=.lst acc) (μ1:=μ) (μ2:=μ) rfl (AL (ds:=[m.toD,.int k]) (μ1:=μ) rfl (hf k h μ e)) (Ki (by simp; omega))) rfl) ih⟩
theorem U7 (hm:m.Ok):Im [m.toD] μ=some (.lst ((kept m).map itD),μ):=by
  have hz:sizeLine=16777216:=by decide
  have hr:∀ (k:Nat) (h:Hd),m.hs[k]? = some h->h.rs.length <= 60:=fun k h e=>(hm.hands h (List.mem_iff_getElem?.mpr ⟨k,e⟩)).2.2.2
  have hmh:=hm.mosth
  have hmo:=hm.most
  have h1:=Gy (m:=m) m.bs 0
  have h2:=GH (m:=m) m.hs 0 fun g hg=>(hm.hands g hg).2.2.2
  obtain ⟨p,q1⟩:=HK (μ:=μ) (m:=m) (f:=Hs) (F:=ER m) (G:=B5 m) (fun _=>rfl) (fun _ _ _=>rfl) (fun k h ν e=>Qr hm e) (fun k h e=>by have:=hr k h e; simp [ER]; omega) m.hs 0 ((BR m 0 m.bs).map itD) none rfl (by rw [List.length_map]; omega)
  obtain ⟨p2,q2⟩:=HK (μ:=μ) (m:=m) (f:=Go) (F:=C2 m) (G:=Bs m) (fun _=>rfl) (fun _ _ _=>rfl) (fun k h ν e=>O1 hm e) (fun k h e=>by have:=hr k h e; simp [C2]; omega) m.hs 0 ((BR m 0 m.bs).map itD ++ (B5 m 0 m.hs).map itD) p rfl (by rw [List.length_append,List.length_map,List.length_map]; omega)
  have ea:(BR m 0 m.bs).map itD ++ (B5 m 0 m.hs).map itD ++ (Bs m 0 m.hs).map itD=(DT m).map itD:=by unfold DT; simp
  rw [ea] at q2
  have rg:∀ {o1 o2:Option D},Ds (AB (AE BO (AB (mOp AS (AC 0) (mC (.int 4))) AH)) AH) [some m.toD,o1,o2] μ=some ((List.range' 0 m.hs.length).map (fun j:Nat=>D.int j),μ):=fun {o1 o2}=>by
    refine MX (c:=m.hs.length) (AM (ds:=[]) (μ1:=μ) (AL (ds:=[.tup (m.hs.map Hd.toD)]) (μ1:=μ) rfl ?_) rfl) (by omega)
    rw [HC,List.length_map]
  refine Ae (g:=[]) (τ2:=[some m.toD,some (.lst ((DT m).map itD)),p2]) ?_ rfl (by unfold Cl; exact Fc (HD hm) _)
  rw [List.append_nil]
  refine AR (τ1:=[some m.toD,some (.lst ((BR m 0 m.bs).map itD)),none]) (μ1:=μ) (Ah (AL (ds:=[m.toD]) (μ1:=μ) rfl (Ni hm)) rfl) ?_
  refine AR (Bf rg q1) (AR (Bf rg q2) ?_)
  refine BB (Di (ds:=(DT m).map itD) (μ1:=μ) (Fe (x:=.lst ((DT m).map itD)) (μ1:=μ) rfl MW) (by rw [List.length_map]; have:=Fz hm; omega) (Kl hm (fun q ν h=>K4 h) (DT m) [] (GO hm)) ?_)
  rw [List.nil_append]
  exact BY (by rw [List.length_map]; have:=Ia hm; unfold kept at this; omega)
def BL (n:Nat) (rs:List Rw):List Rw:=(rs.take n).map (Rw.cap ((rs.take n).length:Int))
def Ch (one:Int) (k:Nat):Nat:=if (k:Int)=one then 9 else 2
def Dy (one:Int):Nat->List Hd->List Hd
  | _,[]=>[]
  | k,h :: hs=>⟨h.nm,h.wi,BL (Ch one k) h.rs⟩ :: Dy one (k + 1) hs
theorem Jz {one:Int}:∀ (hs:List Hd) (k:Nat),Dy one k hs=hs.mapIdx fun i h=>⟨h.nm,h.wi,BL (Ch one (k + i)) h.rs⟩
  | [],k=>rfl
  | h :: hs,k=>by
    unfold Dy
    rw [Jz hs (k + 1),List.mapIdx_cons]
    congr 1
    apply List.ext_getElem?
    intro i
    rw [List.getElem?_mapIdx,List.getElem?_mapIdx]
    cases hs[i]? with
    | none=>rfl
    | some q=>simp only [Option.map_some]; rw [show k + 1 + i=k + (i + 1) from by omega]
def Lq (m:Mk) (one:Int):Mk:=⟨m.kd,m.sz,m.bg,m.bs,Dy one 0 m.hs⟩
theorem Qb (hm:m.Ok) {one:Int}:(Lq m one).Ok:=by
  unfold Lq
  rw [Jz]
  have:=hm.allRows (F:=fun k rs=>BL (Ch one (0 + k)) rs) (fun k rs=>by unfold BL; rw [List.length_map,List.length_take]; omega) fun k g e r hr=>by
    unfold BL at hr ⊢
    rw [List.mem_map] at hr
    obtain ⟨r0,hr0,rfl⟩:=hr
    rw [List.length_map]
    exact (hm.rows k g e r0 (List.mem_of_mem_take hr0)).cap (by omega)
  exact this
abbrev Mj:Sl->M (Fl × Sl):=(sIf (AY (mOp (Dv false) (mOp AS (AC 8) (mC (.int 0))) (AE Aw (AB (mC (.str "unless")) (AB (mC (.str "jump")) AH))))) (An (mOp Ak (CI (AC 8) Ay (BA (mUn EY (mC (.int 1))))) (AE Aw (AB (AE LY (AB (mOp AS (AC 8) (mUn EY (mC (.int 1)))) (AB (AE BO (AB (AC 6) AH)) AH))) AH))) (AN 8)) BI)
theorem TK {r:Rw} {rows:List Rw} {o0 o1 o2 o3 o4 o5 o7:Option D}:Mj [o0,o1,o2,o3,o4,o5,some (.tup (rows.map Rw.toD)),o7,some r.toD] μ=some ((.next,[o0,o1,o2,o3,o4,o5,some (.tup (rows.map Rw.toD)),o7,some (r.cap (rows.length:Int)).toD]),μ):=by
  have no:∀ {w:Str} {ds:List D},w ∉ (["unless", "jump"]:List Str)->Mj [o0,o1,o2,o3,o4,o5,some (.tup (rows.map Rw.toD)),o7,some (.tup (.str w :: ds))] μ=some ((.next,[o0,o1,o2,o3,o4,o5,some (.tup (rows.map Rw.toD)),o7,some (.tup (.str w :: ds))]),μ):=by
    intro w ds h
    exact BC (μ1:=μ) (Aa (AX (x:=.str w) (y:=.tup [.str "unless",.str "jump"]) (μ1:=μ) (μ2:=μ) (AX (x:=.tup (.str w :: ds)) (y:=.int 0) (μ1:=μ) (μ2:=μ) rfl rfl (FH (by unfold atI ixN; rw [if_pos (by decide),if_pos (by simp)]; rfl))) rfl (Gj (xs:=["unless", "jump"]) h))) rfl
  have ln:(((rows.map Rw.toD).length:Nat):Int)=rows.length:=by rw [List.length_map]
  cases r with
  | «unless» e t=>
    show Mj [o0,o1,o2,o3,o4,o5,some (.tup (rows.map Rw.toD)),o7,some (.tup [.str "unless",e.toD,.int t])] μ=some ((.next,[o0,o1,o2,o3,o4,o5,some (.tup (rows.map Rw.toD)),o7,some (.tup [.str "unless",e.toD,.int (if (rows.length:Int) < t then rows.length else t)])]),μ)
    rw [← ln]
    exact Cn (μ1:=μ) (Aa (AX (x:=.str "unless") (y:=.tup [.str "unless",.str "jump"]) (μ1:=μ) (μ2:=μ) rfl rfl (FJ (xs:=["unless", "jump"]) (by decide +kernel)))) rfl
  | jump t=>
    show Mj [o0,o1,o2,o3,o4,o5,some (.tup (rows.map Rw.toD)),o7,some (.tup [.str "jump",.int t])] μ=some ((.next,[o0,o1,o2,o3,o4,o5,some (.tup (rows.map Rw.toD)),o7,some (.tup [.str "jump",.int (if (rows.length:Int) < t then rows.length else t)])]),μ)
    rw [← ln]
    exact Cn (μ1:=μ) (Aa (AX (x:=.str "jump") (y:=.tup [.str "unless",.str "jump"]) (μ1:=μ) (μ2:=μ) rfl rfl (FJ (xs:=["unless", "jump"]) (by decide +kernel)))) rfl
  | put bx e=>exact no (by decide +kernel)
  | get x bx=>exact no (by decide +kernel)
  | letr x e=>exact no (by decide +kernel)
  | tell e=>exact no (by decide +kernel)
  | done=>exact no (by decide +kernel)
theorem Lv {L P:Nat} {rows:List Rw} {o0 o1 o2 o3 o4 o5:Option D} {b:MO} {ex:Mh} (hL:μ.length=L) (hP:P=L + 1 + ex.length):∀ (rest acc:List Rw) (o8:Option D),acc.length + rest.length <= 10000->∃ o8',Bh (AN 8) (AU Mj (AZ (A2 Ck (AC 7) (AB (AC 8) AH)))) (rest.map Rw.toD) [o0,o1,o2,o3,o4,o5,some (.tup (rows.map Rw.toD)),some (.ref P),o8] (μ ++ (b :: (ex ++ [.lst (acc.map Rw.toD)])))=some ((.next,[o0,o1,o2,o3,o4,o5,some (.tup (rows.map Rw.toD)),some (.ref P),o8']),μ ++ (b :: (ex ++ [.lst ((acc ++ rest.map (Rw.cap (rows.length:Int))).map Rw.toD)])))
  | [],acc,o8,_=>⟨o8,by show some ((Fl.next,_),μ ++ (b :: (ex ++ [MO.lst (acc.map Rw.toD)])))=_; simp⟩
  | r :: rest,acc,o8,hacc=>by
    have hz:sizeLine=16777216:=by decide
    have hacc':acc.length + (rest.length + 1) <= 10000:=by simpa using hacc
    obtain ⟨o8',ih⟩:=Lv (o0:=o0) (o1:=o1) (o2:=o2) (o3:=o3) (o4:=o4) (o5:=o5) (b:=b) (rows:=rows) hL hP rest (acc ++ [r.cap (rows.length:Int)]) (some (r.cap (rows.length:Int)).toD) (by simp; omega)
    rw [List.map_cons]
    have ew:acc ++ (r :: rest).map (Rw.cap (rows.length:Int))=acc ++ [r.cap (rows.length:Int)] ++ rest.map (Rw.cap (rows.length:Int)):=by simp
    rw [ew]
    have ap:=DP (μ:=μ ++ (b :: (ex ++ [.lst (acc.map Rw.toD)]))) (n:=P) (d:=(r.cap (rows.length:Int)).toD) (ds:=acc.map Rw.toD) (by rw [hP]; exact atE hL) (by rw [List.length_map]; omega)
    rw [hP,Qz hL,← hP] at ap
    have eb:acc.map Rw.toD ++ [(r.cap (rows.length:Int)).toD]=(acc ++ [r.cap (rows.length:Int)]).map Rw.toD:=by simp
    rw [eb] at ap
    exact ⟨o8',Al (τ1:=[o0,o1,o2,o3,o4,o5,some (.tup (rows.map Rw.toD)),some (.ref P),some r.toD]) (μ1:=μ ++ (b :: (ex ++ [.lst (acc.map Rw.toD)]))) rfl (AR TK (Bt (Cg (x:=.ref P) (μ1:=μ ++ (b :: (ex ++ [.lst (acc.map Rw.toD)]))) rfl (Bi (ds:=acc.map Rw.toD) (by rw [hP]; exact atE hL)) (AM (ds:=[]) rfl rfl) ap))) ih⟩
abbrev Wx:Sl->M (Fl × Sl):=(AU (An (CI (AC 6) Ay (BA (mOp AS (AE A7 (AB (mC (.int 2)) (AB (mC (.int 9)) AH))) (AE Ie (AB (mOp BM (AC 3) (AC 1)) AH))))) (AN 6))
    (AU (An (AE DX AH) (AN 7))
    (AU (Cs (EU (AC 6)) (AN 8) (AU Mj (AZ (A2 Ck (AC 7) (AB (AC 8) AH)))))
    (AZ (A2 Ck (AC 2) (AB (AE Aw (AB (AC 4) (AB (AC 5) (AB (AE Bu (AB (AC 7) AH)) AH)))) AH))))))
theorem Lo {L:Nat} {one:Int} (hL:μ.length=L):∀ (rest:List Hd) (k:Nat) (acc:List Hd) (ex:Mh) (o3 o4 o5 o6 o7 o8:Option D),(∀ h ∈ rest,h.rs.length <= 60)->acc.length + rest.length <= 10000->∃ ex' o3' o4' o5' o6' o7' o8',Bh (Na 3 [4,5,6]) Wx (B1 k (rest.map Hd.toD)) [some m.toD,some (.int one),some (.ref L),o3,o4,o5,o6,o7,o8] (μ ++ (.lst (acc.map Hd.toD) :: ex))=some ((.next,[some m.toD,some (.int one),some (.ref L),o3',o4',o5',o6',o7',o8']),μ ++ (.lst ((acc ++ Dy one k rest).map Hd.toD) :: ex'))
  | [],k,acc,ex,o3,o4,o5,o6,o7,o8,_,_=>⟨ex,o3,o4,o5,o6,o7,o8,by show some ((Fl.next,_),μ ++ (MO.lst (acc.map Hd.toD) :: ex))=_; simp [Dy]⟩
  | h :: rest,k,acc,ex,o3,o4,o5,o6,o7,o8,hr,hacc=>by
    have hz:sizeLine=16777216:=by decide
    have hh:=hr h (by simp)
    have hacc':acc.length + (rest.length + 1) <= 10000:=by simpa using hacc
    obtain ⟨p8,q⟩:=Lv (μ:=μ) (L:=L) (P:=L + 1 + ex.length) (rows:=h.rs.take (Ch one k)) (o0:=some m.toD) (o1:=some (.int one)) (o2:=some (.ref L)) (o3:=some (.int k)) (o4:=some (.str h.nm)) (o5:=some (.int h.wi)) (b:=.lst (acc.map Hd.toD)) (ex:=ex) hL rfl (h.rs.take (Ch one k)) [] o8 (by simp; omega)
    rw [List.nil_append] at q
    have q:Bh (AN 8) (AU Mj (AZ (A2 Ck (AC 7) (AB (AC 8) AH)))) ((h.rs.take (Ch one k)).map Rw.toD) [some m.toD,some (.int one),some (.ref L),some (.int k),some (.str h.nm),some (.int h.wi),some (.tup ((h.rs.take (Ch one k)).map Rw.toD)),some (.ref (L + 1 + ex.length)),o8] (μ ++ (.lst (acc.map Hd.toD) :: (ex ++ [.lst []])))=some ((.next,[some m.toD,some (.int one),some (.ref L),some (.int k),some (.str h.nm),some (.int h.wi),some (.tup ((h.rs.take (Ch one k)).map Rw.toD)),some (.ref (L + 1 + ex.length)),p8]),μ ++ (.lst (acc.map Hd.toD) :: (ex ++ [.lst ((BL (Ch one k) h.rs).map Rw.toD)]))):=q
    obtain ⟨ex',o3',o4',o5',o6',o7',o8',ih⟩:=Lo (one:=one) hL rest (k + 1) (acc ++ [⟨h.nm,h.wi,BL (Ch one k) h.rs⟩]) (ex ++ [.lst ((BL (Ch one k) h.rs).map Rw.toD)]) (some (.int k)) (some (.str h.nm)) (some (.int h.wi)) (some (.tup ((h.rs.take (Ch one k)).map Rw.toD))) (some (.ref (L + 1 + ex.length))) p8 (fun z hz=>hr z (by simp [hz])) (by simp; omega)
    rw [List.map_cons]
    have ew:acc ++ Dy one k (h :: rest)=acc ++ [⟨h.nm,h.wi,BL (Ch one k) h.rs⟩] ++ Dy one (k + 1) rest:=by
      show acc ++ (⟨h.nm,h.wi,BL (Ch one k) h.rs⟩ :: Dy one (k + 1) rest)=_
      simp
    rw [ew]
    have ap:Ck (.ref L) [(Hd.mk h.nm h.wi (BL (Ch one k) h.rs)).toD] (μ ++ (.lst (acc.map Hd.toD) :: (ex ++ [.lst ((BL (Ch one k) h.rs).map Rw.toD)])))=some (.non,μ ++ (.lst ((acc ++ [(⟨h.nm,h.wi,BL (Ch one k) h.rs⟩:Hd)]).map Hd.toD) :: (ex ++ [.lst ((BL (Ch one k) h.rs).map Rw.toD)]))):=by
      rw [DP (at0 hL) (by rw [List.length_map]; omega),LF hL]
      simp
    have gd:C5 (.ref L) (μ ++ (.lst (acc.map Hd.toD) :: (ex ++ [.lst ((BL (Ch one k) h.rs).map Rw.toD)])))=some ((),μ ++ (.lst (acc.map Hd.toD) :: (ex ++ [.lst ((BL (Ch one k) h.rs).map Rw.toD)]))):=Bi (at0 hL)
    have tl:Bu [.ref (L + 1 + ex.length)] (μ ++ (.lst (acc.map Hd.toD) :: (ex ++ [.lst ((BL (Ch one k) h.rs).map Rw.toD)])))=some (.tup ((BL (Ch one k) h.rs).map Rw.toD),μ ++ (.lst (acc.map Hd.toD) :: (ex ++ [.lst ((BL (Ch one k) h.rs).map Rw.toD)]))):=GI (atE hL)
    have nb:=MS (μ:=μ) (b:=.lst (acc.map Hd.toD)) (ex:=ex) (L:=L) (ds:=[]) hL (by show 0 <= sizeLine; omega)
    have pc:∀ {o6 o7 o8:Option D} {ν:Mh},mOp AS (AE A7 (AB (mC (.int 2)) (AB (mC (.int 9)) AH))) (AE Ie (AB (mOp BM (AC 3) (AC 1)) AH)) [some m.toD,some (.int one),some (.ref L),some (.int k),some (.str h.nm),some (.int h.wi),o6,o7,o8] ν=some (.int ((Ch one k:Nat):Int),ν):=fun {o6 o7 o8 ν}=>by
      by_cases c:(k:Int)=one
      . have ec:Ch one k=9:=by unfold Ch; rw [if_pos c]
        rw [ec]
        exact AX (x:=.lst [.int 2,.int 9]) (y:=.int 1) (μ1:=ν) (μ2:=ν) rfl (AL (ds:=[.bl true]) (μ1:=ν) (AM (ds:=[]) (μ1:=ν) (AX (x:=.int k) (y:=.int one) (μ1:=ν) (μ2:=ν) rfl rfl (MZ c)) rfl) rfl) rfl
      . have ec:Ch one k=2:=by unfold Ch; rw [if_neg c]
        rw [ec]
        exact AX (x:=.lst [.int 2,.int 9]) (y:=.int 0) (μ1:=ν) (μ2:=ν) rfl (AL (ds:=[.bl false]) (μ1:=ν) (AM (ds:=[]) (μ1:=ν) (AX (x:=.int k) (y:=.int one) (μ1:=ν) (μ2:=ν) rfl rfl (Ma c)) rfl) rfl) rfl
    refine ⟨ex',o3',o4',o5',o6',o7',o8',Al (τ1:=[some m.toD,some (.int one),some (.ref L),some (.int k),some (.str h.nm),some (.int h.wi),some (.tup (h.rs.map Rw.toD)),o7,o8]) (μ1:=μ ++ (.lst (acc.map Hd.toD) :: ex)) rfl ?_ ih⟩
    generalize μ ++ (MO.lst (acc.map Hd.toD) :: (ex ++ [MO.lst ((BL (Ch one k) h.rs).map Rw.toD)]))=H3 at ap gd tl q
    generalize μ ++ (MO.lst (acc.map Hd.toD) :: (ex ++ [MO.lst []]))=H2 at nb q
    generalize μ ++ (MO.lst (acc.map Hd.toD) :: ex)=H1 at nb
    refine AR (τ1:=[some m.toD,some (.int one),some (.ref L),some (.int k),some (.str h.nm),some (.int h.wi),some (.tup ((h.rs.take (Ch one k)).map Rw.toD)),o7,o8]) (μ1:=H1) (Ah (Cm (x0:=.tup (h.rs.map Rw.toD)) (a:=none) (b:=some ((Ch one k:Nat):Int)) (μ1:=H1) (μ2:=H1) (μ3:=H1) rfl rfl (FD pc) (by rw [GJ,GM,List.map_take])) rfl) ?_
    refine AR (τ1:=[some m.toD,some (.int one),some (.ref L),some (.int k),some (.str h.nm),some (.int h.wi),some (.tup ((h.rs.take (Ch one k)).map Rw.toD)),some (.ref (L + 1 + ex.length)),o8]) (μ1:=H2) (Ah (AL (ds:=[]) (μ1:=H1) rfl nb) rfl) ?_
    refine AR (Bf (ds:=(h.rs.take (Ch one k)).map Rw.toD) (μ1:=H2) rfl q) ?_
    exact Bt (Cg (x:=.ref L) (μ1:=H3) rfl gd (AM (ds:=[]) (μ1:=H3) (AL (ds:=[.str h.nm,.int h.wi,.tup ((BL (Ch one k) h.rs).map Rw.toD)]) (μ1:=H3) (AM (μ1:=H3) rfl (AM (μ1:=H3) rfl (AM (ds:=[]) (μ1:=H3) (AL (ds:=[.ref (L + 1 + ex.length)]) (μ1:=H3) rfl tl) rfl))) (BG (by show 3 <= sizeLine; omega))) rfl) ap)
theorem U8 (hm:m.Ok) {one:Int}:Io [m.toD,.int one] μ=some ((Lq m one).toD,μ):=by
  have hz:sizeLine=16777216:=by decide
  have hmh:=hm.mosth
  obtain ⟨ex,o3,o4,o5,o6,o7,o8,q⟩:=Lo (μ:=μ) (m:=m) (one:=one) rfl m.hs 0 [] [] none none none none none none (fun h hh=>(hm.hands h hh).2.2.2) (by simp; omega)
  rw [List.nil_append] at q
  have tl:Bu [.ref μ.length] (μ ++ (.lst ((Dy one 0 m.hs).map Hd.toD) :: ex))=some (.tup ((Dy one 0 m.hs).map Hd.toD),μ ++ (.lst ((Dy one 0 m.hs).map Hd.toD) :: ex)):=GI (at0 rfl)
  refine Ae (g:=.lst ((Dy one 0 m.hs).map Hd.toD) :: ex) (τ2:=[some m.toD,some (.int one),some (.ref μ.length),o3,o4,o5,o6,o7,o8]) ?_ rfl (Mk.cl _)
  refine AR (τ1:=[some m.toD,some (.int one),some (.ref μ.length),none,none,none,none,none,none]) (μ1:=μ ++ [.lst []]) (Ah (AL (ds:=[]) (μ1:=μ) rfl (CD (by show 0 <= sizeLine; omega))) rfl) ?_
  refine AR (Bf (ds:=B1 0 (m.hs.map Hd.toD)) (μ1:=μ ++ [.lst []]) rfl q) ?_
  generalize μ ++ (MO.lst ((Dy one 0 m.hs).map Hd.toD) :: ex)=H3 at tl
  exact BB (AX (x:=.tup [.str m.kd,.int m.sz,.int m.bg,.tup (m.bs.map Bx.toD)]) (y:=.tup [.tup ((Dy one 0 m.hs).map Hd.toD)]) (μ1:=H3) (μ2:=H3) (Cm (x0:=m.toD) (a:=none) (b:=some 4) (μ1:=H3) (μ2:=H3) (μ3:=H3) rfl rfl rfl rfl) (AL (ds:=[.tup ((Dy one 0 m.hs).map Hd.toD)]) (μ1:=H3) (AM (ds:=[]) (μ1:=H3) (AL (ds:=[.ref μ.length]) (μ1:=H3) rfl tl) rfl) (BG (by show 1 <= sizeLine; omega))) (Dc (by simp; omega)))
end
end K61
set_option maxHeartbeats 4000000
namespace K61
open PySem L2 Mi K1
section
variable {μ μ1 μ2 μ3 μ4 μ' g:Mh} {n w:Nat} {l:Int} {d x0:D} {x y:Str} {τ τ1 τ2:Sl} {ds es:List D} {m:Mk}
theorem NI:∀ (hs:List Hd) (ys:List D),CZ (AN 0) Bo (AE BO (AB (mOp AS (AC 0) (mC (.int 2))) AH)) [none] (hs.map Hd.toD) ys μ=some (ys ++ (hs.map fun h=>(h.rs.length:Int)).map D.int,μ)
  | [],ys=>by show some (ys,μ)=_; simp
  | h :: hs,ys=>by
    show bnd (AN 0 h.toD [none]) _ μ=_
    have e:AE BO (AB (mOp AS (AC 0) (mC (.int 2))) AH) [some h.toD] μ=some (.int (h.rs.length:Int),μ):=by
      refine AL (ds:=[.tup (h.rs.map Rw.toD)]) (μ1:=μ) rfl ?_
      rw [HC,List.length_map]
    rw [AQ (show AN 0 h.toD [none] μ=some ([some h.toD],μ) from rfl),AQ (show Bo [some h.toD] μ=some (true,μ) from rfl),if_pos rfl,AQ e,NI hs]
    simp
theorem Ju:∀ ns:List Int,Fd (ns.map D.int)=some (ns.map V.int)
  | []=>rfl
  | n :: r=>by show (Ha (.int n)).bind _=_; rw [Ju r]; rfl
theorem Jw:∀ {ns:List Int} {a:Int},a ∈ ns->∃ j,(ns.map V.int).findIdx? (fun z=>eqV z (.int a))=some j
  | n :: r,a,h=>by
    rw [List.map_cons,List.findIdx?_cons]
    cases hb:eqV (.int n) (.int a) with
    | true=>exact ⟨0,rfl⟩
    | false=>
      rcases List.mem_cons.mp h with z | z
      . subst z
        have:eqV (.int a) (.int a)=true:=by show (a == a)=true; simp
        rw [this] at hb; cases hb
      . obtain ⟨j,hj⟩:=Jw z
        rw [hj]
        exact ⟨j + 1,rfl⟩
theorem OK {ns:List Int} (h:ns ≠ []):∃ j:Nat,∀ {τ:Sl} {ν:Mh},τ[2]? = some (some (.lst (ns.map D.int)))->A2 Lm (AC 2) (AB (AE Jh (AB (AC 2) AH)) AH) τ ν=some (.int j,ν):=by
  obtain ⟨j,hj⟩:=Jw (LZ h)
  refine ⟨j,fun {τ ν} h2=>?_⟩
  have s2:AC 2 τ ν=some (.lst (ns.map D.int),ν):=Dh h2
  have mx:Jh [.lst (ns.map D.int)] ν=some (.int (JO ns),ν):=by
    cases ns with
    | nil=>exact absurd rfl h
    | cons i r=>
      unfold Jh
      dsimp only
      rw [AQ (show CB (.lst ((i :: r).map D.int)) ν=some ((i :: r).map D.int,ν) from rfl)]
      simp only [Jo]
  have gd:C5 (.lst (ns.map D.int)) ν=some ((),ν):=rfl
  have ix:Lm (.lst (ns.map D.int)) [.int (JO ns)] ν=some (.int j,ν):=by
    unfold Lm
    rw [AQ gd]
    unfold SR
    dsimp only
    rw [AQ (show Ba (.lst (ns.map D.int)) ν=some (ns.map D.int,ν) from rfl)]
    simp only [Ju]
    show ((ns.map V.int).findIdx? fun z=>eqV z (.int (JO ns))).map (fun (j:Nat)=>(D.int (j:Int),ν))=_
    rw [hj]; rfl
  exact Cg s2 gd (AM (AL (AM s2 rfl) mx) rfl) ix
theorem Ss {ps:List (D × Mk)}:∀ (ps:List (D × Mk)) (ys:List D),CZ (AN 0) (mOr (Gg (AY (AE CW (AB (AC 0) (AB (mC (.ty "tuple")) AH))))) (AY (mOp Bl (AE BO (AB (AC 0) AH)) (mC (.int 2))))) (AC 0) [none] (ps.map itD) ys μ=some (ys,μ)
  | [],ys=>rfl
  | p :: ps,ys=>by
    show bnd (AN 0 (itD p) [none]) _ μ=_
    have t:mOr (Gg (AY (AE CW (AB (AC 0) (AB (mC (.ty "tuple")) AH))))) (AY (mOp Bl (AE BO (AB (AC 0) AH)) (mC (.int 2)))) [some (itD p)] μ=some (false,μ):=
      Mf (μ1:=μ) (Kr (Aa (AL (ds:=[itD p,.ty "tuple"]) (μ1:=μ) rfl Jl))) (Aa (AX (x:=.int 2) (y:=.int 2) (μ1:=μ) (μ2:=μ) rfl rfl (MY rfl)))
    rw [AQ (show AN 0 (itD p) [none] μ=some ([some (itD p)],μ) from rfl),AQ t,if_neg (by decide),Ss (ps:=[]) ps]
noncomputable abbrev Wo:Sl->M (Fl × Sl):=(AU (An (AE DR (AB (AC 1) AH)) (AN 5))
    (AU (sIf (mOr (Gg (AY (AE CW (AB (AC 5) (AB (mC (.ty "list")) AH))))) (AY (mOp Bl (AC 5) (AC 3)))) (A5 (mC (.bl false))) BI)
    (AU (sIf (AY (mOp Bl (Bg 1 [] (FW (AC 5)) (AN 0) (mOr (Gg (AY (AE CW (AB (AC 0) (AB (mC (.ty "tuple")) AH))))) (AY (mOp Bl (AE BO (AB (AC 0) AH)) (mC (.int 2))))) (AC 0) A7) (AE A7 AH))) (A5 (mC (.bl false))) BI)
    (AZ (Gh Qd (AC 5))))))
theorem SK (hm:m.Ok):PlL 60 ((kept m).map itD):=PlL.map fun p hp=>by
  have gp:=HD hm p hp
  exact (Pl.tup (k:=12) (.cons (gp.pl.mono (by omega)) (.cons gp.ok.pl .nil))).mono (by omega)
theorem Ld {o0 o2 o4 o5:Option D} (hm:m.Ok):∃ o5' μ',Wo [o0,some m.toD,o2,some (.lst ((kept m).map itD)),o4,o5] μ=some ((.next,[o0,some m.toD,o2,some (.lst ((kept m).map itD)),o4,o5']),μ'):=by
  have hz:sizeLine=16777216:=by decide
  have hk:=Ia hm
  have at':(μ ++ [MO.lst ((kept m).map itD)])[μ.length]? = some (.lst ((kept m).map itD)):=List.getElem?_concat_length
  have il:CW [.ref μ.length,.ty "list"] (μ ++ [.lst ((kept m).map itD)])=some (.bl true,μ ++ [.lst ((kept m).map itD)]):=by
    unfold CW
    dsimp only
    have ty:tyD (μ ++ [MO.lst ((kept m).map itD)]) (.ref μ.length)=some "list" := by
      unfold tyD
      dsimp only
      rw [at']
    rw [ty]
    dsimp only
    rw [show Ee "list" "list" = some true from by decide]; rfl
  have ne:=QA (SK hm) at'
  have cp:Bg 1 [] (FW (AC 5)) (AN 0) (mOr (Gg (AY (AE CW (AB (AC 0) (AB (mC (.ty "tuple")) AH))))) (AY (mOp Bl (AE BO (AB (AC 0) AH)) (mC (.int 2))))) (AC 0) A7 [o0,some m.toD,o2,some (.lst ((kept m).map itD)),o4,some (.ref μ.length)] (μ ++ [.lst ((kept m).map itD)])=some (.lst [],μ ++ [.lst ((kept m).map itD)]):=Di (MV (n:=μ.length) rfl at') (by rw [List.length_map]; omega) (Ss (ps:=[]) (kept m) []) (BY (by show 0 <= sizeLine; omega))
  have gd:C5 (.ref μ.length) (μ ++ [.lst ((kept m).map itD)])=some ((),μ ++ [.lst ((kept m).map itD)]):=Bi at'
  have cl:Qd (.ref μ.length) [] (μ ++ [.lst ((kept m).map itD)])=some (.non,(μ ++ [MO.lst ((kept m).map itD)]).set μ.length (MO.lst [])):=Sm at' rfl
  refine ⟨some (.ref μ.length),(μ ++ [MO.lst ((kept m).map itD)]).set μ.length (MO.lst []),?_⟩
  refine AR (τ1:=[o0,some m.toD,o2,some (.lst ((kept m).map itD)),o4,some (.ref μ.length)]) (Ah (AL (ds:=[m.toD]) rfl (Ou hm)) rfl) ?_
  generalize μ ++ [MO.lst ((kept m).map itD)]=H at il ne cp gd cl
  refine AR (τ1:=[o0,some m.toD,o2,some (.lst ((kept m).map itD)),o4,some (.ref μ.length)]) (μ1:=H) (BC (μ1:=H) (Mf (μ1:=H) (Kr (Aa (AL (ds:=[.ref μ.length,.ty "list"]) (μ1:=H) rfl il))) (Aa (AX (x:=.ref μ.length) (y:=.lst ((kept m).map itD)) (μ1:=H) (μ2:=H) rfl rfl ne))) rfl) ?_
  refine AR (τ1:=[o0,some m.toD,o2,some (.lst ((kept m).map itD)),o4,some (.ref μ.length)]) (μ1:=H) (BC (μ1:=H) (Aa (AX (x:=.lst []) (y:=.lst []) (μ1:=H) (μ2:=H) cp (AL (ds:=[]) (μ1:=H) rfl (BY (by show 0 <= sizeLine; omega))) Hn)) rfl) ?_
  refine Bt (d:=.non) ?_
  unfold Gh
  rw [AQ (show AC 5 [o0,some m.toD,o2,some (.lst ((kept m).map itD)),o4,some (.ref μ.length)] H=some (.ref μ.length,H) from rfl),AQ gd]
  exact cl
theorem Wn:∀ ns:List Int,ns.length <= 63->∃ μ',QP [.scr ns] []=some (.bl true,μ'):=by
  intro ns hl
  have hz:sizeLine=16777216:=by decide
  obtain ⟨c,ec⟩:=TJ (μ:=[]) ns
  obtain ⟨a,b,ha,ew⟩:=TF (μ:=[]) (c:=c)
  have w1:WellAt ([] ++ [MO.lst [.int a,.int b,.int 0]]) 0:=⟨a,b,0,rfl,ha⟩
  obtain ⟨mk,μ1,em,ok,u1⟩:=O0 w1
  have hne:(mk.hs.map fun h=>(h.rs.length:Int)) ≠ []:=by
    intro z
    have:=congrArg List.length z
    rw [List.length_map] at this
    have h2:=ok.least
    simp at this
    rw [this] at h2
    simp at h2
  obtain ⟨j,hj⟩:=OK hne
  have ok2:(Lq mk j).Ok:=Qb ok
  generalize hcm:Lq mk j=m2 at ok2
  have e3:=U8 (μ:=μ1) ok (one:=(j:Int))
  rw [hcm] at e3
  have e4:=U7 (μ:=μ1) ok2
  obtain ⟨p5,μ5,q5⟩:=Ld (μ:=μ1) (m:=m2) (o0:=some (.scr ns)) (o2:=some (.lst ((mk.hs.map fun h=>(h.rs.length:Int)).map D.int))) (o4:=some (.int 0)) (o5:=none) ok2
  obtain ⟨p6,μ6,q6⟩:=Ld (μ:=μ5) (m:=m2) (o0:=some (.scr ns)) (o2:=some (.lst ((mk.hs.map fun h=>(h.rs.length:Int)).map D.int))) (o4:=some (.int 1)) (o5:=p5) ok2
  have kb:=EG (μ:=μ6) ok2
  have e:Ji ES Gn Et Io Im DR Be (BW 6 [.scr ns]) []=some ((.rt (.bl true),[some (.scr ns),some m2.toD,some (.lst ((mk.hs.map fun h=>(h.rs.length:Int)).map D.int)),some (.lst ((kept m2).map itD)),some (.int 1),p6]),μ6):=by
    refine AR (τ1:=[some (.scr ns),some mk.toD,none,none,none,none]) (μ1:=μ1) (Ah (AL (ds:=[.ref 0]) (μ1:=[] ++ [MO.lst [.int a,.int b,.int 0]]) (AM (ds:=[]) (μ1:=[] ++ [MO.lst [.int a,.int b,.int 0]]) (AL (ds:=[.int c]) (μ1:=[]) (AM (ds:=[]) (μ1:=[]) (AL (ds:=[.scr ns,.int 0]) (μ1:=[]) rfl ec) rfl) ew) rfl) em) rfl) ?_
    refine AR (τ1:=[some (.scr ns),some mk.toD,some (.lst ((mk.hs.map fun h=>(h.rs.length:Int)).map D.int)),none,none,none]) (μ1:=μ1) (Ah (d:=.lst ((mk.hs.map fun h=>(h.rs.length:Int)).map D.int)) (μ1:=μ1) (Di (ds:=mk.hs.map Hd.toD) (μ1:=μ1) (Fe (x:=.tup (mk.hs.map Hd.toD)) (μ1:=μ1) rfl Kg) (by rw [List.length_map]; have:=ok.mosth; omega) (NI mk.hs []) (by rw [List.nil_append]; exact BY (by rw [List.length_map,List.length_map]; have:=ok.mosth; omega))) rfl) ?_
    refine AR (τ1:=[some (.scr ns),some m2.toD,some (.lst ((mk.hs.map fun h=>(h.rs.length:Int)).map D.int)),none,none,none]) (μ1:=μ1) (Ah (AL (ds:=[mk.toD,.int j]) (μ1:=μ1) (AM (μ1:=μ1) rfl (AM (ds:=[]) (μ1:=μ1) (hj rfl) rfl)) e3) rfl) ?_
    refine AR (τ1:=[some (.scr ns),some m2.toD,some (.lst ((mk.hs.map fun h=>(h.rs.length:Int)).map D.int)),some (.lst ((kept m2).map itD)),none,none]) (μ1:=μ1) (Ah (AL (ds:=[m2.toD]) (μ1:=μ1) rfl e4) rfl) ?_
    refine AR (τ1:=[some (.scr ns),some m2.toD,some (.lst ((mk.hs.map fun h=>(h.rs.length:Int)).map D.int)),some (.lst ((kept m2).map itD)),some (.int 1),p6]) (μ1:=μ6) (Bf (ds:=[.int 0,.int 1]) (μ1:=μ1) rfl (Al (τ1:=[some (.scr ns),some m2.toD,some (.lst ((mk.hs.map fun h=>(h.rs.length:Int)).map D.int)),some (.lst ((kept m2).map itD)),some (.int 0),none]) (μ1:=μ1) rfl q5 (Al (τ1:=[some (.scr ns),some m2.toD,some (.lst ((mk.hs.map fun h=>(h.rs.length:Int)).map D.int)),some (.lst ((kept m2).map itD)),some (.int 1),p5]) (μ1:=μ5) rfl q6 rfl))) ?_
    exact BB (AX (x:=.non) (y:=.non) (μ1:=μ6) (μ2:=μ6) (AL (ds:=[m2.toD]) (μ1:=μ6) rfl kb) rfl rfl)
  exact ⟨[],by
    have h:=Du (hw:=.drop) (ps:=1) e rfl (.inr ⟨_,rfl⟩) ⟨⟨μ6,by simp [FK]⟩,by simp,fun j o z=>by simp [FK] at z,.inl ⟨rfl,by show Cl _ (D.bl true); unfold Cl; trivial⟩⟩
    show Ax .drop 6 1 (Ji ES Gn Et Io Im DR Be) [.scr ns] []=_
    simpa [FK,N7,He] using h⟩
end
end K61
open PySem PySem.W PyProof.Rows
local macro_rules | `(tactic| wtm_at "own qdf")=>`(tactic| (refine' Mi.WI ?qa ?ql ?qc ?qk; (case qa=>k_is); (case ql=>k_is); (case qc=>k_is); (case qk=>k_is)))
local macro_rules | `(tactic| wtm_at "own qtl")=>`(tactic| (refine' Mi.U9 ?pl ?pe; (case pl=>k_is); (case pe=>rfl)))
set_option maxRecDepth 100000 in
set_option maxHeartbeats 0 in
theorem PySem.Challenge.cw_strongboxes_k61_one_thing_turned_holds : PySem.Challenge.rw_strongboxes_k61_one_thing_turned.Holds := by
  w_on; o_law; k_head; (case hw=>w_witness2)
  k_fill
  refine Mi.U5 (k:=15) (l:=PySem.Challenge.rw_strongboxes_k61_one_thing_turned) rfl rfl (by decide) (fun w h Y=>PySem.W.kIn_of Y) ?F
  case F=>
    intro w mg fa h KX G hmg
    refine' K61.U1 K61.Wn KX G hmg ?e_Lcell_at ?e_Lwell ?e_Ldraw ?e_Lexpr ?e_Lrow ?e_Lmaking ?e_Lcut ?e_Lweaker ?e_Lwith ?e_Lless ?e_Lother ?e_is_tuple ?e_need ?e_is_whole ?e_check_worths ?e_is_name ?e_are_unlike ?e_check_boxes ?e_check_hands ?e_is_expression ?e_is_part ?e_check_form ?e_check_ending ?e_variables_in ?e_variables_of ?e_check_variables ?e_check_rows ?e_check_making ?e_Lis_making ?e_Ldue ?e_with_thing ?e_weaker_ones ?e_pulled_up ?e_with_rows ?e_ones_with_less ?e_exchanged_ones ?e_is_let_by ?e_turned ?e_law ?z_all ?z_bool ?z_enumerate ?z_int ?z_isinstance ?z_len ?z_list ?z_max ?z_min ?z_range ?z_set ?z_str ?z_tuple ?z_zip ?g_DEEPEST ?g_GREATEST ?g_KINDS ?g_LEAST_HANDS ?g_LEAST_SIZE ?g_LETTERS ?g_MOST_BOXES ?g_MOST_HANDS ?g_MOST_ROWS ?g_MOST_SIZE ?g_MOST_WITHIN ?g_NO_VARIABLES ?g_PAIR_WORDS ?k_PARTS ?q_KINDS
    (case e_Lcell_at=>wtm_at "own qdf")
    (case e_Lwell=>wtm_at "own qdf")
    (case e_Ldraw=>wtm_at "own qdf")
    (case e_Lexpr=>wtm_at "own qdf")
    (case e_Lrow=>wtm_at "own qdf")
    (case e_Lmaking=>wtm_at "own qdf")
    (case e_Lcut=>wtm_at "own qdf")
    (case e_Lweaker=>wtm_at "own qdf")
    (case e_Lwith=>wtm_at "own qdf")
    (case e_Lless=>wtm_at "own qdf")
    (case e_Lother=>wtm_at "own qdf")
    (case e_is_tuple=>wtm_at "own qdf")
    (case e_need=>wtm_at "own qdf")
    (case e_is_whole=>wtm_at "own qdf")
    (case e_check_worths=>wtm_at "own qdf")
    (case e_is_name=>wtm_at "own qdf")
    (case e_are_unlike=>wtm_at "own qdf")
    (case e_check_boxes=>wtm_at "own qdf")
    (case e_check_hands=>wtm_at "own qdf")
    (case e_is_expression=>wtm_at "own qdf")
    (case e_is_part=>wtm_at "own qdf")
    (case e_check_form=>wtm_at "own qdf")
    (case e_check_ending=>wtm_at "own qdf")
    (case e_variables_in=>wtm_at "own qdf")
    (case e_variables_of=>wtm_at "own qdf")
    (case e_check_variables=>wtm_at "own qdf")
    (case e_check_rows=>wtm_at "own qdf")
    (case e_check_making=>wtm_at "own qdf")
    (case e_Lis_making=>wtm_at "own qdf")
    (case e_Ldue=>wtm_at "own qdf")
    (case e_with_thing=>wtm_at "own qdf")
    (case e_weaker_ones=>wtm_at "own qdf")
    (case e_pulled_up=>wtm_at "own qdf")
    (case e_with_rows=>wtm_at "own qdf")
    (case e_ones_with_less=>wtm_at "own qdf")
    (case e_exchanged_ones=>wtm_at "own qdf")
    (case e_is_let_by=>wtm_at "own qdf")
    (case e_turned=>wtm_at "own qdf")
    (case e_law=>wtm_at "own qdf")
    (case z_all=>k_is)
    (case z_bool=>k_is)
    (case z_enumerate=>k_is)
    (case z_int=>k_is)
    (case z_isinstance=>k_is)
    (case z_len=>k_is)
    (case z_list=>k_is)
    (case z_max=>k_is)
    (case z_min=>k_is)
    (case z_range=>k_is)
    (case z_set=>k_is)
    (case z_str=>k_is)
    (case z_tuple=>k_is)
    (case z_zip=>k_is)
    (case g_DEEPEST=>refine' Mi.D7 KX G ?qa; (case qa=>k_is))
    (case g_GREATEST=>refine' Mi.D7 KX G ?qa; (case qa=>k_is))
    (case g_KINDS=>refine' Mi.Ko KX G ?qa ?ql ?qh; (case qa=>k_is); (case ql=>wtm_at "own qtl"); (case qh=>decide))
    (case g_LEAST_HANDS=>refine' Mi.D7 KX G ?qa; (case qa=>k_is))
    (case g_LEAST_SIZE=>refine' Mi.D7 KX G ?qa; (case qa=>k_is))
    (case g_LETTERS=>refine' Mi.ST KX G ?qa; (case qa=>k_is))
    (case g_MOST_BOXES=>refine' Mi.D7 KX G ?qa; (case qa=>k_is))
    (case g_MOST_HANDS=>refine' Mi.D7 KX G ?qa; (case qa=>k_is))
    (case g_MOST_ROWS=>refine' Mi.D7 KX G ?qa; (case qa=>k_is))
    (case g_MOST_SIZE=>refine' Mi.D7 KX G ?qa; (case qa=>k_is))
    (case g_MOST_WITHIN=>refine' Mi.D7 KX G ?qa; (case qa=>k_is))
    (case g_NO_VARIABLES=>refine' Mi.Ko KX G ?qa ?ql ?qh; (case qa=>k_is); (case ql=>wtm_at "own qtl"); (case qh=>decide))
    (case g_PAIR_WORDS=>refine' Mi.Ko KX G ?qa ?ql ?qh; (case qa=>k_is); (case ql=>wtm_at "own qtl"); (case qh=>decide))
    (case k_PARTS=>refine' Mi.SH KX G ?qa ?ql ?qk ?qs ?qT; (case qa=>k_is); (case ql=>k_is); (case qk=>exact ⟨⟨_,_,rfl,rfl⟩,⟨⟨_,_,rfl,rfl⟩,⟨⟨_,_,rfl,rfl⟩,⟨⟨_,_,rfl,rfl⟩,⟨⟨_,_,rfl,rfl⟩,⟨⟨_,_,rfl,rfl⟩,⟨⟨_,_,rfl,rfl⟩,trivial⟩⟩⟩⟩⟩⟩⟩); (case qs=>rfl); (case qT=>refine' ⟨_,_,_,_,_,rfl,rfl,rfl,?qt,?qu,?_⟩; (case qt=>wtm_at "own qtl"); (case qu=>decide); refine' ⟨_,_,_,_,_,rfl,rfl,rfl,?qt,?qu,?_⟩; (case qt=>wtm_at "own qtl"); (case qu=>decide); refine' ⟨_,_,_,_,_,rfl,rfl,rfl,?qt,?qu,?_⟩; (case qt=>wtm_at "own qtl"); (case qu=>decide); refine' ⟨_,_,_,_,_,rfl,rfl,rfl,?qt,?qu,?_⟩; (case qt=>wtm_at "own qtl"); (case qu=>decide); refine' ⟨_,_,_,_,_,rfl,rfl,rfl,?qt,?qu,?_⟩; (case qt=>wtm_at "own qtl"); (case qu=>decide); refine' ⟨_,_,_,_,_,rfl,rfl,rfl,?qt,?qu,?_⟩; (case qt=>wtm_at "own qtl"); (case qu=>decide); refine' ⟨_,_,_,_,_,rfl,rfl,rfl,?qt,?qu,?_⟩; (case qt=>wtm_at "own qtl"); (case qu=>decide); rfl))
    (case q_KINDS=>refine' Mi.SS KX G ?qa ?ql ?qe ?qh; (case qa=>k_is); (case ql=>k_is); (case qe=>rfl); (case qh=>decide))
