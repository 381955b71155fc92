import PyProof.Rows.All
import Wide.All
import OpenK.AllK
import Wide.FinOn
import PyProof.EqAt
import PyProof.EqKinds
import PyProof.TupleCall
import Lean
import PySem.Challenge.RW_strongboxes_k12_claims_of_whole_boxes
set_option Elab.async false
set_option linter.all false
set_option maxRecDepth 100000
set_option maxHeartbeats 4000000
def PySem.W.Fast.tw1845524500454412892:Nat:=0
def PySem.W.Fast.tw2331778350117636906:Nat:=0
def PySem.W.Fast.tw16048308806605568124:Nat:=0
def PySem.W.Fast.tw4575189305249229729:Nat:=0
def PySem.W.Fast.tw5105656692539949212:Nat:=0
def PySem.W.Fast.tw4827230301824528774:Nat:=0
def PySem.W.Fast.tw16666442328178084154:Nat:=0
def PySem.W.Fast.tw11899225219075091613:Nat:=0
def PySem.W.Fast.tw17270640180682184069:Nat:=0
def PySem.W.Fast.tw9269263035552226875:Nat:=0
def PySem.W.Fast.tw15395582918573069992:Nat:=0
def PySem.W.Fast.tw16375492990172998870:Nat:=0
def PySem.W.Fast.tw8341723930697525942:Nat:=0
def PySem.W.Fast.tw14738033679471275321:Nat:=0
def PySem.W.Fast.tw11259085537008447364:Nat:=0
def PySem.W.Fast.tw6212652526396362233:Nat:=0
def PySem.W.Fast.tw2477266802634978891:Nat:=0
def PySem.W.Fast.tw876146750347116101:Nat:=0
def PySem.W.Fast.tw15343415244576324321:Nat:=0
def PySem.W.Fast.tw8340599027256713533:Nat:=0
def PySem.W.Fast.tw14321483308255119832:Nat:=0
def PySem.W.Fast.tw3120809748492133949:Nat:=0
def PySem.W.Fast.tw10092330301396569246:Nat:=0
def PySem.W.Fast.tw8593805196737570832:Nat:=0
def PySem.W.Fast.tw17207402792566649421:Nat:=0
def PySem.W.Fast.tw5208678895825494014:Nat:=0
def PySem.W.Fast.tw18364302927203931065:Nat:=0
def PySem.W.Fast.tw1837916972573409534:Nat:=0
def PySem.W.Fast.tw11484746824054579567:Nat:=0
def PySem.W.Fast.tw17724436944969633299:Nat:=0
def PySem.W.Fast.tw9027240823354338439:Nat:=0
def PySem.W.Fast.tw3691580588680553873:Nat:=0
def PySem.W.Fast.tw4443328009406494194:Nat:=0
def PySem.W.Fast.tw15296649067591259148:Nat:=0
def PySem.W.Fast.tw8027359038874773409:Nat:=0
def PySem.W.Fast.tw7153870814452388357:Nat:=0
def PySem.W.Fast.tw10434639447330436558:Nat:=0
def PySem.W.Fast.tw17119758451305556548:Nat:=0
def PySem.W.Fast.tw151478904910527409:Nat:=0
def PySem.W.Fast.tw16510245226666467031:Nat:=0
def PySem.W.Fast.tw13848508542715244111:Nat:=0
def PySem.W.Fast.tw5286476320204932028:Nat:=0
def PySem.W.Fast.tw8308545686131296839:Nat:=0
def PySem.W.Fast.tw14140484088235276472:Nat:=0
def PySem.W.Fast.tw8718738780101235272:Nat:=0
def PySem.W.Fast.tw14695657632685700312:Nat:=0
def PySem.W.Fast.tw13816104381178722655:Nat:=0
def PySem.W.Fast.tw10800224588904850627:Nat:=0
def PySem.W.Fast.tw13607116227020748176:Nat:=0
def PySem.W.Fast.tw4866653712438089114:Nat:=0
def PySem.W.Fast.tw5932693842008998105:Nat:=0
def PySem.W.Fast.tw15296824763757945408:Nat:=0
def PySem.W.Fast.tw839661594820945064:Nat:=0
def PySem.W.Fast.tw10914555811444921794:Nat:=0
def PySem.W.Fast.tw4134946369167836020:Nat:=0
def PySem.W.Fast.tw4927149270658706493:Nat:=0
def PySem.W.Fast.tw16404841265750402720:Nat:=0
def PySem.W.Fast.tw3097959875755062097:Nat:=0
def PySem.W.Fast.tw8701450438025597463:Nat:=0
def PySem.W.Fast.tw16460674392094569842:Nat:=0
def PySem.W.Fast.tw3547793423001441763:Nat:=0
def PySem.W.Fast.tw232628840684762025:Nat:=0
def PySem.W.Fast.tw9667991239594219291:Nat:=0
def PySem.W.Fast.tw8823170178235733544:Nat:=0
def PySem.W.Fast.tw16936752149151865524:Nat:=0
def PySem.W.Fast.tw1587556852509350103:Nat:=0
def PySem.W.Fast.tw3892194272218797741:Nat:=0
def PySem.W.Fast.tw7243781014219215377:Nat:=0
def PySem.W.Fast.tw3058452453109414884:Nat:=0
def PySem.W.Fast.tw212531897305197842:Nat:=0
def PySem.W.Fast.tw13956354157720989730:Nat:=0
def PySem.W.Fast.tw4096592261535185140:Nat:=0
def PySem.W.Fast.tw17584751230893043001:Nat:=0
def PySem.W.Fast.tw14451255975746620959:Nat:=0
def PySem.W.Fast.tw6318425236553972193:Nat:=0
def PySem.W.Fast.tw11701460174829339530:Nat:=0
def PySem.W.Fast.tw2059163802079004881:Nat:=0
def PySem.W.Fast.tw12813073390814250826:Nat:=0
def PySem.W.Fast.tw10235344416036322249:Nat:=0
def PySem.W.Fast.tw856734015838899496:Nat:=0
def PySem.W.Fast.tw1632160552591106321:Nat:=0
def PySem.W.Fast.tw18066044712525002610:Nat:=0
def PySem.W.Fast.tw9059462438723558685:Nat:=0
def PySem.W.Fast.tw11959569986451033055:Nat:=0
def PySem.W.Fast.tw12283575063546894457:Nat:=0
def PySem.W.Fast.tw7279318863928813962:Nat:=0
def PySem.W.Fast.tw5747318547361415688:Nat:=0
def PySem.W.Fast.tw10920752767231912445:Nat:=0
def PySem.W.Fast.tw6951484837664508055:Nat:=0
def PySem.W.Fast.tw545046364575909017:Nat:=0
def PySem.W.Fast.tw2563101202351099844:Nat:=0
def PySem.W.Fast.tw15498845620253297315:Nat:=0
def PySem.W.Fast.tw7290810834773756870:Nat:=0
def PySem.W.Fast.tw12035116317716869536:Nat:=0
def PySem.W.Fast.tw14064824313020064448:Nat:=0
def PySem.W.Fast.tw5698138821372879721:Nat:=0
def PySem.W.Fast.tw17925250815282927262:Nat:=0
def PySem.W.Fast.tw1379761835277295858:Nat:=0
def PySem.W.Fast.tw1116195126603428252:Nat:=0
def PySem.W.Fast.tw16486384269863716956:Nat:=0
def PySem.W.Fast.tw14115237960111088105:Nat:=0
def PySem.W.Fast.tw9284334025138517799:Nat:=0
def PySem.W.Fast.tw8973811988768220064:Nat:=0
def PySem.W.Fast.tw7565676899597090315:Nat:=0
def PySem.W.Fast.tw6315269514135789219:Nat:=0
def PySem.W.Fast.tw5751736777952969888:Nat:=0
def PySem.W.Fast.tw2611416898299865010:Nat:=0
def PySem.W.Fast.tw2485976316688432167:Nat:=0
def PySem.W.Fast.tw16172875647603352586:Nat:=0
def PySem.W.Fast.tw3188032965439221381:Nat:=0
def PySem.W.Fast.tw2001947893121174354:Nat:=0
def PySem.W.Fast.tw2428704139140564774:Nat:=0
def PySem.W.Fast.tw8796514903139488392:Nat:=0
def PySem.W.Fast.tw857076574082911977:Nat:=0
def PySem.W.Fast.tw17101540798668125418:Nat:=0
def PySem.W.Fast.tw2852171543624638183:Nat:=0
def PySem.W.Fast.tw9547325029045441322:Nat:=0
def PySem.W.Fast.tw5474661686466523276:Nat:=0
def PySem.W.Fast.tw9479376125619159238:Nat:=0
def PySem.W.Fast.tw905446361565160769:Nat:=0
namespace L2
open PySem PySem.Spec PyProof.Rows
abbrev Key:=Sum Int Str
def SV:Key->Value->Bool
  | .inl k,v=>Value.isInt k v
  | .inr x,v=>Value.isStrOf x v
def WH (w:World):Key->Int
  | .inl k=>hashInt k
  | .inr x=>hashStr w x
theorem A3:∀ {k:Key} {v:Value},SV k v=true->(∃ i t,k=Sum.inl i /\ v=Value.int i t) ∨ (∃ x t,k=Sum.inr x /\ v=Value.str x t)
  | .inl i,v,h=>by
    obtain ⟨t,e⟩:=Value.isInt_shape (k:=i) (v:=v) h
    exact .inl ⟨i,t,rfl,e⟩
  | .inr x,v,h=>by
    obtain ⟨t,e⟩:=Value.isStrOf_shape (x:=x) (v:=v) h
    exact .inr ⟨x,t,rfl,e⟩
theorem UO (a b:Int):decide ((Sum.inl a:Key)=Sum.inl b)=(a == b):=by
  by_cases e:a=b
  . subst e; simp
  . have h : ¬ (Sum.inl a:Key)=Sum.inl b:=fun q=>e (Sum.inl.inj q)
    rw [decide_eq_false h]
    exact (beq_eq_false_iff_ne.mpr e).symm
theorem UL (a b:Str):decide ((Sum.inr a:Key)=Sum.inr b)=decide (a=b):=by
  by_cases e:a=b
  . subst e; simp
  . have h : ¬ (Sum.inr a:Key)=Sum.inr b:=fun q=>e (Sum.inr.inj q)
    rw [decide_eq_false h,decide_eq_false e]
theorem UN (a:Int) (b:Str):decide ((Sum.inl a:Key)=Sum.inr b)=false:=decide_eq_false (fun q=>nomatch q)
theorem UM (a:Str) (b:Int):decide ((Sum.inr a:Key)=Sum.inl b)=false:=decide_eq_false (fun q=>nomatch q)
def Iv (prog:Program) (w:World):PySem.KeyKind prog w Key where
  is:=SV
  hash:=WH w
  inj:=fun v a b ha hb=>by
    rcases A3 ha with ⟨i,t,rfl,rfl⟩ | ⟨x,t,rfl,rfl⟩
    . rcases A3 hb with ⟨j,u,rfl,e⟩ | ⟨y,u,rfl,e⟩
      . injection e with e1 _; rw [e1]
      . exact nomatch e
    . rcases A3 hb with ⟨j,u,rfl,e⟩ | ⟨y,u,rfl,e⟩
      . exact nomatch e
      . injection e with e1 _; rw [e1]
  byValue:=fun k v h=>by
    rcases A3 h with ⟨i,t,rfl,rfl⟩ | ⟨x,t,rfl,rfl⟩ <;> rfl
  pyHash:=fun hv h=>by
    rcases A3 hv with ⟨i,t,rfl,rfl⟩ | ⟨x,t,rfl,rfl⟩
    . exact wpAny_pyHash_int h
    . exact wpAny_pyHash_str h
  eqBool:=fun hu hv h=>by
    rcases A3 hu with ⟨i,t,rfl,rfl⟩ | ⟨x,t,rfl,rfl⟩
    . rcases A3 hv with ⟨j,u,rfl,rfl⟩ | ⟨y,u,rfl,rfl⟩
      . rw [UO] at h; exact wpAny_eqBool_int h
      . rw [UN] at h; exact SeqAt.EqAt.int_str i t y u _ _ _ _ h
    . rcases A3 hv with ⟨j,u,rfl,rfl⟩ | ⟨y,u,rfl,rfl⟩
      . rw [UM] at h; exact SeqAt.EqAt.str_int x t j u _ _ _ _ h
      . rw [UL] at h; exact wpAny_eqBool_str h
  «strs»:=fun k x t v h=>by
    rcases A3 h with ⟨i,u,rfl,e⟩ | ⟨y,u,rfl,e⟩
    . exact nomatch e
    . injection e with e1 _
      subst e1
      cases v <;> rfl
end L2
namespace L2
open PySem PySem.Spec PyProof.Rows
inductive V where
  | non | bl (b:Bool) | int (i:Int) | str (x:Str) | byt (b:Array UInt8) | flt (b:UInt64) | ref (a:Addr) | ty (n:String)
  deriving DecidableEq
def RelV:V->Value->Prop
  | .non,u=>u=Value.none
  | .bl b,u=>u=Value.bool b
  | .int i,u=>∃ t,u=Value.int i t
  | .str x,u=>∃ t,u=Value.str x t
  | .byt b,u=>∃ t,u=Value.bytes b t
  | .flt b,u=>∃ t,u=Value.float b t
  | .ref a,u=>u=Value.ref a
  | .ty n,u=>u=Value.type n
abbrev Vals:List V->List Value->Prop:=Paired RelV
theorem Vals.length {xs:List V} {us:List Value} (r:Vals xs us):xs.length=us.length:=Paired.length r
theorem Vals.get:∀ {xs:List V} {us:List Value} {i:Nat} {x:V},Vals xs us->xs[i]? = some x->∃ u,us[i]? = some u /\ RelV x u
  | _,_,_,_,.nil,e=>by simp at e
  | _,_,0,_,.cons r _,e=>by simp at e; subst e; exact ⟨_,rfl,r⟩
  | _,_,i + 1,x,.cons _ t,e=>by
    obtain ⟨u,h1,h2⟩:=Vals.get (i:=i) (x:=x) t (by simpa using e)
    exact ⟨u,by simpa using h1,h2⟩
theorem Vals.set {x:V} {u:Value} (r:RelV x u):∀ {xs:List V} {us:List Value} (i:Nat),Vals xs us->Vals (xs.set i x) (us.set i u)
  | _,_,_,.nil=>.nil
  | _,_,0,.cons _ t=>.cons r t
  | _,_,i + 1,.cons q t=>.cons q (Vals.set r i t)
theorem Vals.append:∀ {xs ys:List V} {us ws:List Value},Vals xs us->Vals ys ws->Vals (xs ++ ys) (us ++ ws)
  | _,_,_,_,.nil,s=>s
  | _,_,_,_,.cons r t,s=>.cons r (Vals.append t s)
theorem Vals.take:∀ {xs:List V} {us:List Value} (n:Nat),Vals xs us->Vals (xs.take n) (us.take n)
  | _,_,0,_=>.nil
  | _,_,_ + 1,.nil=>.nil
  | _,_,n + 1,.cons r t=>.cons r (Vals.take n t)
theorem Vals.drop:∀ {xs:List V} {us:List Value} (n:Nat),Vals xs us->Vals (xs.drop n) (us.drop n)
  | _,_,0,r=>r
  | _,_,_ + 1,.nil=>.nil
  | _,_,n + 1,.cons _ t=>Vals.drop n t
def Ul:Option V->Option Value->Prop
  | some v,some u=>RelV v u
  | none,none=>True
  | _,_=>False
def KV {κ:Type}:List (κ × V)->List (κ × Value)->Prop:=Paired fun (p:κ × V) (q:κ × Value)=>p.1=q.1 /\ RelV p.2 q.2
def kV:Key->V
  | .inl i=>.int i
  | .inr x=>.str x
inductive HO where
  | lst (xs:List V)
  | tup (xs:List V)
  | dK (kvs:List (Key × V)) | dT (kvs:List (List Key × V))
  | set (S:Int->Bool) (n:Nat)
  | ins (C dx:Addr) (fs:List (Str × V))
  | own (x:Addr)
  | xd (fs:List (Str × V))
  | met (f x:Addr)
  | rng (lo hi:Int)
  | frz (o:Obj) (u:HO)
  | tbl (ps:Array Value)
  | ext (φ:Heap->Prop)
abbrev Hp:=Addr->Option HO
def upd (H:Hp) (a:Addr) (o:HO):Hp:=fun b=>if b=a then some o else H b
theorem A0 {H:Hp} {a:Addr} {o:HO}:upd H a o a=some o:=by unfold upd; rw [if_pos rfl]
theorem Ap {H:Hp} {a b:Addr} {o:HO} (h:b ≠ a):upd H a o b=H b:=by unfold upd; rw [if_neg h]
theorem Bs {H:Hp} {a b:Addr} {o:HO} (h:H a=some o) (h':H b=none):a ≠ b:=by
  intro e; subst e; rw [h] at h'; cases h'
section
variable (P:Program) (w:World)
def ObjOk (H:Hp) (h:Heap) (a:Addr):HO->Prop
  | .lst xs=>xs.length <= sizeLine /\ ∃ (its:List Value) (n:Nat),Vals xs its /\ h.get? a=some { cls:=.type "list",data:=.seq its.toArray n }
  | .tup xs=>xs.length <= sizeLine /\ ∃ its:List Value,Vals xs its /\ IsTup h a its.toArray
  | .dK kvs=>kvs.length <= sizeLine /\ (a == sysModules)=false /\ ∃ vs,KV kvs vs /\ h.DictOf (Iv P w) a vs
  | .dT kvs=>kvs.length <= sizeLine /\ (a == sysModules)=false /\ ∃ xs:List (List Key × Addr × Value),
      Paired (fun (p:List Key × V) (q:List Key × Addr × Value)=>p.1=q.1 /\ H q.2.1=some (.tup (p.1.map kV)) /\ RelV p.2 q.2.2) kvs xs /\
      ∃ o es ep,h.get? a=some o /\ o.ExactDict /\ o.data=.dict es ep /\ es.toList=xs.map (entryOfKey (tupleKind (Iv P w))) /\ (xs.map (·.1)).Nodup
  | .set S n=>h.SetOf (intKind P w) a S n
  | .ins C dx fs=>H dx=some (.own a) /\ fs.length <= 1000 /\ dx ≠ a /\ h.get? a=some (PySem.W.instObj C dx) /\
      ∃ mA,h.Ns1 dx mA /\ (∀ f,Ul (fs.lookup f) (mA f)) /\ PySem.Within mA (fs.map (·.1))
  | .own _=>∃ o,h.get? a=some o
  | .xd fs=>∃ mA,h.Ns1 a mA /\ ∀ f,Ul (fs.lookup f) (mA f)
  | .rng lo hi=>∃ t u v,h.get? a=some { cls:=.type "range",data:=.fields #[.int lo t,.int hi u,.int 1 v] }
  | .frz o u=>h.get? a=some o /\ ObjOk H h a u
  | .tbl ps=>h.get? a=some { cls:=.none,data:=.fields ps }
  | .met f x=>h.get? a=some (PySem.W.methodObj (.ref f) (.ref x))
  | .ext φ=>φ h /\ (∃ o,h.get? a=some o) /\ ∀ h1 h2:Heap,φ h1->(∀ o,h1.get? a=some o->h2.get? a=some o)->φ h2
def HOk (H:Hp) (h:Heap):Prop:=∀ a o,H a=some o->ObjOk P w H h a o
end
section
variable {P:Program} {w:World} {H H':Hp} {h h':Heap} {a:Addr} {o:HO}
theorem ObjOk.lt (x:ObjOk P w H h a o):a < h.objs.size:=by
  cases o with
  | lst xs=>obtain ⟨_,_,_,_,e⟩:=x; exact Heap.lt_size e
  | tup xs=>obtain ⟨_,_,_,p⟩:=x; exact p.lt
  | dK kvs=>obtain ⟨_,_,_,_,o,_,_,e,_⟩:=x; exact Heap.lt_size e
  | dT kvs=>obtain ⟨_,_,_,_,o,_,_,e,_⟩:=x; exact Heap.lt_size e
  | set S n=>obtain ⟨o,_,_,_,e,_⟩:=x; exact Heap.lt_size e
  | ins C dx fs=>obtain ⟨_,_,_,e,_⟩:=x; exact Heap.lt_size e
  | own y=>obtain ⟨_,e⟩:=x; exact Heap.lt_size e
  | xd fs=>obtain ⟨_,⟨_,_,_,e,_⟩,_⟩:=x; exact Heap.lt_size e
  | rng lo hi=>obtain ⟨_,_,_,e⟩:=x; exact Heap.lt_size e
  | frz ob u=>obtain ⟨e,_⟩:=x; exact Heap.lt_size e
  | tbl ps=>exact Heap.lt_size (show h.get? a=some _ from x)
  | met f y=>exact Heap.lt_size (show h.get? a=some _ from x)
  | ext φ=>obtain ⟨_,⟨_,e⟩,_⟩:=x; exact Heap.lt_size e
theorem Paired.mapP {α β:Type} {F G:α->β->Prop}:∀ {l₁:List α} {l₂:List β},Paired F l₁ l₂->(∀ a b,F a b->G a b)->Paired G l₁ l₂
  | _,_,.nil,_=>.nil
  | _,_,.cons r t,f=>.cons (f _ _ r) (Paired.mapP t f)
theorem ObjOk.stay (x:ObjOk P w H h a o) (k:∀ b u,(b=a ∨ H b=some (.own a))->h.get? b=some u->h'.get? b=some u)
    (ho:∀ b,H b=some (.own a)->H' b=some (.own a)) (ht:∀ b xs,H b=some (.tup xs)->H' b=some (.tup xs)):ObjOk P w H' h' a o:=by
  induction o with
  | lst xs=>obtain ⟨z,its,n,r,e⟩:=x; exact ⟨z,its,n,r,k _ _ (.inl rfl) e⟩
  | tup xs=>obtain ⟨z,its,r,ob,e,c⟩:=x; exact ⟨z,its,r,ob,k _ _ (.inl rfl) e,c⟩
  | dK kvs=>obtain ⟨z,y,vs,r,ob,es,ep,e,c⟩:=x; exact ⟨z,y,vs,r,ob,es,ep,k _ _ (.inl rfl) e,c⟩
  | dT kvs=>
    obtain ⟨z,y,xs,r,ob,es,ep,e,c⟩:=x
    exact ⟨z,y,xs,Paired.mapP r fun p q z=>⟨z.1,ht _ _ z.2.1,z.2.2⟩,ob,es,ep,k _ _ (.inl rfl) e,c⟩
  | set S n=>obtain ⟨ob,es,ep,t,e,c⟩:=x; exact ⟨ob,es,ep,t,k _ _ (.inl rfl) e,c⟩
  | ins C dx fs=>
    obtain ⟨d,z,ne,e,mA,⟨od,es,ep,e2,c⟩,r⟩:=x
    exact ⟨ho _ d,z,ne,k _ _ (.inl rfl) e,mA,⟨od,es,ep,k _ _ (.inr d) e2,c⟩,r⟩
  | own y=>obtain ⟨ob,e⟩:=x; exact ⟨ob,k _ _ (.inl rfl) e⟩
  | xd fs=>obtain ⟨mA,⟨od,es,ep,e,c⟩,r⟩:=x; exact ⟨mA,⟨od,es,ep,k _ _ (.inl rfl) e,c⟩,r⟩
  | rng lo hi=>obtain ⟨t,u,v,e⟩:=x; exact ⟨t,u,v,k _ _ (.inl rfl) e⟩
  | frz ob u ih=>obtain ⟨e,q⟩:=x; exact ⟨k _ _ (.inl rfl) e,ih q⟩
  | tbl ps=>
    have e:h.get? a=some { cls:=.none,data:=.fields ps }:=x
    show h'.get? a=some { cls:=.none,data:=.fields ps }
    exact k a _ (.inl rfl) e
  | met f y=>
    have e:h.get? a=some (PySem.W.methodObj (.ref f) (.ref y)):=x
    show h'.get? a=some (PySem.W.methodObj (.ref f) (.ref y))
    exact k a _ (.inl rfl) e
  | ext φ=>obtain ⟨p,⟨o,e⟩,st⟩:=x; exact ⟨st _ _ p fun o q=>k _ _ (.inl rfl) q,⟨o,k _ _ (.inl rfl) e⟩,st⟩
theorem HOk.lt (x:HOk P w H h) (e:H a=some o):a < h.objs.size:=(x a o e).lt
theorem HOk.fresh (x:HOk P w H h) (e:h.objs.size <= a):H a=none:=by
  cases q:H a with
  | none=>rfl
  | some u=>exact absurd (Nat.lt_of_lt_of_le (x.lt q) e) (Nat.lt_irrefl _)
theorem HOk.kept (x:HOk P w H h) (k:∀ b u,h.get? b=some u->h'.get? b=some u):HOk P w H h':=fun a o e=>
  (x a o e).stay (fun b u _ q=>k b u q) (fun _ q=>q) fun _ _ q=>q
theorem HOk.laid (x:HOk P w H h) (k:∀ b u,h.get? b=some u->h'.get? b=some u) (hp:h.objs.size <= a) (new:ObjOk P w (upd H a o) h' a o):HOk P w (upd H a o) h':=fun b u e=>by
  have hn:=x.fresh hp
  by_cases hb:b=a
  . subst hb; rw [A0] at e; cases e; exact new
  . rw [Ap hb] at e
    exact (x b u e).stay (fun c v _ q=>k c v q) (fun c q=>by rw [Ap (Bs q hn)]; exact q) fun c xs q=>by rw [Ap (Bs q hn)]; exact q
end
def Rd (H:Hp) (a:Addr) (u:HO):Prop:=H a=some u ∨ ∃ o,H a=some (.frz o u)
theorem Rd.ok {P:Program} {w:World} {H:Hp} {h:Heap} {a:Addr} {u:HO} (r:Rd H a u) (x:HOk P w H h):ObjOk P w H h a u:=by
  rcases r with r | ⟨o,r⟩
  . exact x a u r
  . obtain ⟨_,q⟩:=x a _ r
    exact q
def Mut:Option HO->Prop
  | some (.lst _)=>True
  | some (.dK _)=>True
  | some (.dT _)=>True
  | some (.set _ _)=>True
  | some (.ins _ _ _)=>True
  | some (.ext _)=>True
  | _=>False
section
variable {P:Program} {w:World} {H:Hp} {h h':Heap} {x e:Addr} {o':HO}
theorem HOk.write (ok:HOk P w H h) (mu:Mut (H x)) (he:e=x ∨ H e=some (.own x)) (k:∀ b u,b ≠ e->h.get? b=some u->h'.get? b=some u) (heo:∃ u,h'.get? e=some u)
    (new:ObjOk P w (upd H x o') h' x o'):HOk P w (upd H x o') h':=fun b u q=>by
  have nown:∀ c y,H c=some (.own y)->c ≠ x:=fun c y r z=>by subst z; rw [r] at mu; exact mu
  have ntup:∀ c xs,H c=some (.tup xs)->c ≠ x:=fun c xs r z=>by subst z; rw [r] at mu; exact mu
  by_cases hb:b=x
  . subst hb; rw [A0] at q; cases q; exact new
  . rw [Ap hb] at q
    by_cases hbe:b=e
    . have q':H b=some (.own x):=by
        rcases he with z | z
        . exact absurd (hbe.trans z) hb
        . rw [hbe]; exact z
      rw [q] at q'; cases q'
      obtain ⟨v,hv⟩:=heo
      exact ⟨v,by rw [hbe]; exact hv⟩
    . refine (ok b u q).stay (fun c v hc r=>k c v ?_ r) (fun c r=>by rw [Ap (nown c b r)]; exact r) fun c xs r=>by rw [Ap (ntup c xs r)]; exact r
      rcases hc with rfl | hc
      . exact hbe
      . rintro rfl
        rcases he with z | z
        . exact nown c b hc z
        . rw [hc] at z; cases z; exact hb rfl
end
structure Un (fs ex:List Addr) (H H':Hp) (h h':Heap):Prop where
  keep:∀ b o,h.get? b=some o->H b=none->b ∉ fs->b ∉ ex->h'.get? b=some o
  slot:∀ b o,h.get? b=some o->H b=none->b ∈ fs->b ∉ ex->∃ sl,h'.get? b=some { o with slots:=sl }
  free:∀ b o,h.get? b=some o->H b=none->b ∉ ex->H' b=none
  there:∀ b o,h.get? b=some o->b ∉ ex->∃ o',h'.get? b=some o'
  tups:∀ b xs,H b=some (.tup xs)->H' b=some (.tup xs)
  frzs:∀ b o u,H b=some (.frz o u)->H' b=some (.frz o u)
  tbls:∀ b ps,H b=some (.tbl ps)->∃ more,H' b=some (.tbl (ps ++ more))
section
variable {fs fs' ex ex':List Addr} {H H1 H2:Hp} {h h1 h2 h':Heap} {a x e:Addr} {o:HO}
theorem Un.any (u:Un fs ex H H1 h h1) {b:Addr} {ob:Obj} (q:h.get? b=some ob) (n:H b=none) (hx:b ∉ ex):∃ sl,h1.get? b=some { ob with slots:=sl }:=by
  by_cases hb:b ∈ fs
  . exact u.slot b ob q n hb hx
  . exact ⟨ob.slots,u.keep b ob q n hb hx⟩
theorem Un.kept (k:∀ b u,h.get? b=some u->h'.get? b=some u):Un fs ex H H h h':=
  ⟨fun b ob q _ _ _=>k b ob q,fun b ob q _ _ _=>⟨ob.slots,k b ob q⟩,fun _ _ _ n _=>n,fun b ob q _=>⟨ob,k b ob q⟩,fun _ _ q=>q,fun _ _ _ q=>q,fun _ ps q=>⟨#[],by rw [q]; simp⟩⟩
theorem Un.refl:Un fs ex H H h h:=Un.kept fun _ _ q=>q
theorem Un.laid (k:∀ b u,h.get? b=some u->h'.get? b=some u) (hp:h.objs.size <= a) (hn:H a=none):Un fs ex H (upd H a o) h h' where
  keep:=fun b u q _ _ _=>k b u q
  slot:=fun b u q _ _ _=>⟨u.slots,k b u q⟩
  free:=fun b u q n _=>by rw [Ap (Nat.ne_of_lt (Nat.lt_of_lt_of_le (Heap.lt_size q) hp))]; exact n
  there:=fun b u q _=>⟨u,k b u q⟩
  tups:=fun b xs q=>by rw [Ap (Bs q hn)]; exact q
  frzs:=fun b u xs q=>by rw [Ap (Bs q hn)]; exact q
  tbls:=fun b ps q=>⟨#[],by rw [Ap (Bs q hn),q]; simp⟩
theorem Un.write (mu:Mut (H x)) (he:e=x ∨ H e=some (.own x)) (k:∀ b u,b ≠ e->h.get? b=some u->h'.get? b=some u) (heo:∃ u,h'.get? e=some u):Un fs ex H (upd H x o) h h':=by
  have hx:∀ b,H b=none->b ≠ x:=fun b n z=>by subst z; rw [n] at mu; exact mu
  have hb:∀ b,H b=none->b ≠ e:=fun b n z=>by
    subst z
    rcases he with r | r
    . exact hx b n r
    . rw [n] at r; cases r
  have hm:∀ b u,H b=some u->¬ Mut (some u)->b ≠ x:=fun b u q nm z=>by subst z; rw [q] at mu; exact nm mu
  refine ⟨fun b u q n _ _=>k b u (hb b n) q,fun b u q n _ _=>⟨u.slots,k b u (hb b n) q⟩,fun b u q n _=>by rw [Ap (hx b n)]; exact n,fun b u q _=>?_,
    fun b xs q=>by rw [Ap (hm b _ q fun z=>z)]; exact q,fun b u xs q=>by rw [Ap (hm b _ q fun z=>z)]; exact q,fun b ps q=>⟨#[],by rw [Ap (hm b _ q fun z=>z),q]; simp⟩⟩
  by_cases hbe:b=e
  . subst hbe; exact heo
  . exact ⟨u,k b u hbe q⟩
end
def trk (h:Heap) (H:Hp):List Addr:=(List.range h.objs.size).filter fun a=>(H a).isSome
def JB (h:Heap) (H:Hp):Heap:=PySem.W.hideAll h (trk h H)
theorem Nq (h:Heap) (H:Hp):(JB h H).objs.size=h.objs.size:=PySem.W.hideAll_size _ _
theorem Ph {h:Heap} {H:Hp} {b:Addr} {o:Obj} (e:h.get? b=some o) (n:H b=none):(JB h H).get? b=some o:=
  PySem.W.hideAll_get _ e fun hm=>by
    have q:(H b).isSome=true:=(List.mem_filter.mp hm).2
    rw [n] at q; simp at q
theorem Rj {h:Heap} {H:Hp} {b:Addr} {o:Obj} (e:(JB h H).get? b=some o):h.get? b=some o /\ H b=none:=by
  have e':h.get? b=some o:=PySem.W.of_hideAll (trk h H) e
  refine ⟨e',?_⟩
  cases q:H b with
  | none=>rfl
  | some x=>
    have hm:b ∈ trk h H:=List.mem_filter.mpr ⟨List.mem_range.mpr (Heap.lt_size e'),by simp [q]⟩
    have z:(JB h H).get? b=none:=PySem.W.hideAll_none (trk h H) hm
    rw [z] at e; cases e
end L2
namespace L2
open PySem PySem.Spec PyProof.Rows
structure Mod (K:PySem.W.Frag) (mg:Str->Option Value) (base:Heap):Prop where
  kin:K.In base
  glob:base.Ns mainGlobals mg
  blt:∃ mb,base.Ns builtinsNs mb /\ ∀ x:Str,x ≠ "__name__" -> mb x=bootBuiltins x
  nolimit:base.NoLimit
structure Cx where
  prog:Program
  w:World
  K:PySem.W.Frag
  mg:Str->Option Value
  base:Heap
  A:Around
  N:List Str
  s₀:Shared
  H₀:Hp
  env:Env
  outer:List Env
  stack:List Env
  ex:List Addr
  fn:Str->Bool
  calm:Bool
  pn:List (Addr × Obj)
  xe:Value->Shared->Prop
def frs (l:List Env):List Addr:=l.filterMap (·.frame)
abbrev Cx.fs (X:Cx):List Addr:=frs X.outer
def Vis (sc:Scope) (x:Str):Prop:=sc.names.lookup x=some .local ∨ sc.names.lookup x=some .cell ∨ sc.names.lookup x=some .free
def Loc (sc:Scope) (x:Str):Prop:=sc.names.lookup x=some .local ∨ sc.names.lookup x=some .cell
def WM (env:Env) (h:Heap) (m:Str->Option Value) (x:Str) (u:Value):Prop:=
  (env.kindOf x=some .local /\ m x=some u) ∨ ((env.kindOf x=some .cell ∨ env.kindOf x=some .free) /\ ∃ c,env.cells.lookup x=some c /\ h.IsCell c (some u))
structure Cx.Ok (X:Cx):Prop where
  mod:Mod X.K X.mg X.base
  kind:X.env.scope.kind=.function
  glob:X.env.globals=mainGlobals
  blt:X.env.builtins=builtinsNs
  above:X.s₀.heap.objs.size <= X.env.locals
  inj:∀ x y c,X.env.cells.lookup x=some c->X.env.cells.lookup y=some c->x=y
  has:∀ x,(X.env.kindOf x=some .cell ∨ X.env.kindOf x=some .free)->∃ c,X.env.cells.lookup x=some c
  cab:∀ x c,X.fn x=true->X.env.cells.lookup x=some c->X.s₀.heap.objs.size <= c
  hd:X.calm=true->X.A.handled=none
  frames:X.A.frames=some X.stack
  stk:X.stack=X.outer ∨ (X.stack=X.env :: X.outer /\ X.env.frame=some X.env.locals)
  exf:∀ b ∈ X.ex,b ≠ X.env.locals /\ ∀ x c,X.env.cells.lookup x=some c->c ≠ b
  bs:∀ b o,X.base.get? b=some o->X.s₀.heap.get? b=some o /\ X.H₀ b=none
  bsz:X.base.objs.size <= X.s₀.heap.objs.size
  noex:∀ b o,X.base.get? b=some o->b ∉ X.ex
  exfs:∀ b ∈ X.ex,b ∉ X.fs
  funs:X.s₀.heap.FunFrames X.base X.outer
  frf:∀ b ∈ X.fs,X.H₀ b=none
structure Inv (X:Cx) (pins:List (Addr × Obj)) (σ:List (Option V)) (H:Hp) (s:Shared):Prop where
  ok:X.Ok
  os:s.os=X.s₀.os
  bare:AllBare s.gens
  base:Un X.fs X.ex X.H₀ H X.s₀.heap s.heap
  loc:∃ m,s.heap.Ns X.env.locals m /\ ∀ (i:Nat) (x:Str) (v:V),X.N[i]? = some x->σ[i]? = some (some v)->Vis X.env.scope x->∃ u,RelV v u /\ WM X.env s.heap m x u
  cell:∀ x c,X.env.cells.lookup x=some c->∃ v,s.heap.IsCell c v
  free:H X.env.locals=none
  freeC:∀ x c,X.env.cells.lookup x=some c->H c=none
  pin:∀ p ∈ X.pn ++ pins,s.heap.get? p.1=some p.2 /\ H p.1=none /\ p.1 ≠ X.env.locals /\ p.1 ∉ X.fs /\ ∀ v,p.2.data ≠ .cell v
  hok:HOk X.prog X.w H s.heap
  len:σ.length=X.N.length
section
variable {X:Cx} {pins:List (Addr × Obj)} {σ:List (Option V)} {H H':Hp} {s:Shared} {h':Heap}
theorem Cx.Ok.nofr (ok:X.Ok) {b:Addr} {o:Obj} (e:X.base.get? b=some o):b ∉ X.fs:=fun hb=>by
  have:=(ok.funs.mem hb).1
  rw [e] at this; cases this
theorem Inv.bs (I:Inv X pins σ H s):∀ b o,X.base.get? b=some o->s.heap.get? b=some o /\ H b=none:=fun b o e=>
  ⟨I.base.keep b o (I.ok.bs b o e).1 (I.ok.bs b o e).2 (I.ok.nofr e) (I.ok.noex b o e),I.base.free b o (I.ok.bs b o e).1 (I.ok.bs b o e).2 (I.ok.noex b o e)⟩
theorem Inv.bk (I:Inv X pins σ H s):∀ b o,X.base.get? b=some o->s.heap.get? b=some o:=fun b o e=>(I.bs b o e).1
theorem Inv.mod (I:Inv X pins σ H s):Mod X.K X.mg X.base:=I.ok.mod
theorem Inv.kIn (I:Inv X pins σ H s):X.K.In s.heap:=I.ok.mod.kin.keeps I.bk
theorem Inv.fr (I:Inv X pins σ H s):∃ m,Fr X.base X.env.locals s.heap m:=
  let ⟨m,hn,_⟩:=I.loc
  ⟨m,hn,I.bk,Nat.le_trans I.ok.bsz I.ok.above⟩
theorem Inv.lt (I:Inv X pins σ H s):X.env.locals < s.heap.objs.size:=let ⟨_,hn,_⟩:=I.loc; hn.lt
theorem Inv.sz (I:Inv X pins σ H s):X.s₀.heap.objs.size <= s.heap.objs.size:=Nat.le_trans I.ok.above (Nat.le_of_lt I.lt)
theorem Inv.nofs (I:Inv X pins σ H s) {a:Addr} (h:s.heap.objs.size <= a):a ∉ X.fs:=fun hb=>by
  obtain ⟨_,o,ho,_⟩:=I.ok.funs.mem hb
  exact absurd (Nat.lt_of_lt_of_le (Heap.lt_size ho) (Nat.le_trans I.sz h)) (Nat.lt_irrefl _)
theorem Inv.cne (I:Inv X pins σ H s):∀ x c,X.env.cells.lookup x=some c->c ≠ X.env.locals:=fun x c e z=>by
  obtain ⟨v,o,ho,hd⟩:=I.cell x c e
  obtain ⟨m,⟨o',es,ep,ho',hd',_⟩,_⟩:=I.loc
  rw [z,ho'] at ho; cases ho; rw [hd'] at hd; cases hd
theorem Inv.funs (I:Inv X pins σ H s):s.heap.FunFrames X.base X.outer:=by
  have all:∀ (l:List Env),(∀ b ∈ frs l,b ∈ X.fs)->X.s₀.heap.FunFrames X.base l->s.heap.FunFrames X.base l:=by
    intro l
    induction l with
    | nil=>intro _ _; trivial
    | cons env r ih=>
      intro hs hl
      obtain ⟨hk,⟨L,o,hf,hn,ho,hd⟩,hr⟩:=hl
      have hL:L ∈ X.fs:=hs L (by unfold frs; rw [List.filterMap_cons,hf]; exact List.mem_cons_self)
      obtain ⟨sl,e⟩:=I.base.slot L o ho (I.ok.frf L hL) hL fun z=>I.ok.exfs L z hL
      exact ⟨hk,⟨L,_,hf,hn,e,hd⟩,ih (fun b hb=>hs b (by unfold frs; rw [List.filterMap_cons,hf]; exact List.mem_cons_of_mem _ hb)) hr⟩
  exact all X.outer (fun _ hb=>hb) I.ok.funs
theorem Inv.stack (I:Inv X pins σ H s):s.heap.FunFrames X.base X.stack:=by
  rcases I.ok.stk with e | ⟨e,hf⟩
  . rw [e]; exact I.funs
  . rw [e]
    obtain ⟨m,hn,_⟩:=I.loc
    refine .cons (by rw [I.ok.kind]; decide) hf hn ?_ I.funs
    exact Heap.get?_none_of_le (Nat.le_trans I.ok.bsz I.ok.above)
theorem Inv.stkSub (I:Inv X pins σ H s):∀ b ∈ frs X.stack,b ∈ X.env.locals :: X.fs:=fun b hb=>by
  rcases I.ok.stk with e | ⟨e,hf⟩
  . rw [e] at hb; exact List.mem_cons_of_mem _ hb
  . rw [e] at hb
    unfold frs at hb
    rw [List.filterMap_cons,hf] at hb
    exact hb
theorem Inv.stkFree (I:Inv X pins σ H s):∀ b ∈ frs X.stack,H b=none:=fun b hb=>by
  rcases List.mem_cons.mp (I.stkSub b hb) with e | hb
  . rw [e]; exact I.free
  . obtain ⟨_,o,ho,_⟩:=I.ok.funs.mem hb
    exact I.base.free b o ho (I.ok.frf b hb) fun z=>I.ok.exfs b z hb
theorem Inv.step {g':Array GenState} {t':Nat} {d':Drawn} {ch:List Addr} (I:Inv X pins σ H s)
    (hch:∀ b ∈ ch,(b ∈ X.ex ∨ X.s₀.heap.objs.size <= b) /\ b ≠ X.env.locals /\ (∀ x c,X.env.cells.lookup x=some c->c ≠ b) /\ ∀ p ∈ X.pn ++ pins,p.1 ≠ b)
    (keep:∀ b o,b ≠ X.env.locals->b ∉ X.fs->b ∉ ch->s.heap.get? b=some o->H b=none->h'.get? b=some o)
    (slot:∀ b o,b ≠ X.env.locals->b ∈ X.fs->b ∉ ch->s.heap.get? b=some o->H b=none->∃ sl,h'.get? b=some { o with slots:=sl }) (free:∀ b o,b ∉ ch->s.heap.get? b=some o->H b=none->H' b=none)
    (there:∀ b o,b ∉ ch->s.heap.get? b=some o->∃ o',h'.get? b=some o')
    (tups:∀ b xs,H b=some (.tup xs)->H' b=some (.tup xs)) (frzs:∀ b o u,H b=some (.frz o u)->H' b=some (.frz o u)) (tbls:∀ b ps,H b=some (.tbl ps)->∃ more,H' b=some (.tbl (ps ++ more)))
    (ns:∀ m,s.heap.Ns X.env.locals m->h'.Ns X.env.locals m) (hok:HOk X.prog X.w H' h') (hg:AllBare g') :
    Inv X pins σ H' { s with heap:=h',gens:=g',drawn:=d',toks:=t' }:=by
  have neL:∀ b o,X.s₀.heap.get? b=some o->b ≠ X.env.locals:=fun b o e=>Nat.ne_of_lt (Nat.lt_of_lt_of_le (Heap.lt_size e) I.ok.above)
  have neC:∀ b o,X.s₀.heap.get? b=some o->b ∉ X.ex->b ∉ ch:=fun b o e hx hb=>by
    rcases (hch b hb).1 with z | z
    . exact hx z
    . exact absurd (Nat.lt_of_lt_of_le (Heap.lt_size e) z) (Nat.lt_irrefl _)
  have cellK:∀ x c,X.env.cells.lookup x=some c->∀ v,s.heap.IsCell c v->h'.IsCell c v:=fun x c e v ⟨o,ho,hd⟩=>by
    have nch:c ∉ ch:=fun z=>(hch c z).2.2.1 x c e rfl
    by_cases hc:c ∈ X.fs
    . obtain ⟨sl,q⟩:=slot c o (I.cne x c e) hc nch ho (I.freeC x c e)
      exact ⟨_,q,hd⟩
    . exact ⟨o,keep c o (I.cne x c e) hc nch ho (I.freeC x c e),hd⟩
  refine ⟨I.ok,I.os,hg,⟨fun b o e n hb hx=>?_,fun b o e n hb hx=>?_,fun b o e n hx=>?_,fun b o e hx=>?_,fun b xs e=>tups b xs (I.base.tups b xs e),fun b o xs e=>frzs b o xs (I.base.frzs b o xs e),fun b ps e=>?_⟩,?_,fun x c e=>?_,?_,fun x c e=>?_,fun p hp=>?_,hok,I.len⟩
  . exact keep b o (neL b o e) hb (neC b o e hx) (I.base.keep b o e n hb hx) (I.base.free b o e n hx)
  . obtain ⟨sl,e1⟩:=I.base.slot b o e n hb hx
    obtain ⟨sl',e2⟩:=slot b _ (neL b o e) hb (neC b o e hx) e1 (I.base.free b o e n hx)
    exact ⟨sl',e2⟩
  . obtain ⟨o',e1⟩:=I.base.there b o e hx
    exact free b o' (neC b o e hx) e1 (I.base.free b o e n hx)
  . obtain ⟨o',e1⟩:=I.base.there b o e hx
    exact there b o' (neC b o e hx) e1
  . obtain ⟨m1,e1⟩:=I.base.tbls b ps e
    obtain ⟨m2,e2⟩:=tbls b _ e1
    exact ⟨m1 ++ m2,by rw [e2,Array.append_assoc]⟩
  . obtain ⟨m,hn,hl⟩:=I.loc
    refine ⟨m,ns m hn,fun i x v e1 e2 e3=>?_⟩
    obtain ⟨u,r,l⟩:=hl i x v e1 e2 e3
    refine ⟨u,r,?_⟩
    rcases l with l | ⟨k,c,e,z⟩
    . exact .inl l
    . exact .inr ⟨k,c,e,cellK x c e _ z⟩
  . obtain ⟨v,z⟩:=I.cell x c e
    exact ⟨v,cellK x c e v z⟩
  . obtain ⟨m,⟨o,_,_,ho,_⟩,_⟩:=I.loc
    exact free _ o (fun z=>(hch _ z).2.1 rfl) ho I.free
  . obtain ⟨v,o,ho,hd⟩:=I.cell x c e
    exact free c o (fun z=>(hch c z).2.2.1 x c e rfl) ho (I.freeC x c e)
  . obtain ⟨e,n,ne,nf,d⟩:=I.pin p hp
    have nch:p.1 ∉ ch:=fun z=>(hch p.1 z).2.2.2 p hp rfl
    exact ⟨keep p.1 p.2 ne nf nch e n,free p.1 p.2 nch e n,ne,nf,d⟩
theorem Inv.un {t':Nat} (I:Inv X pins σ H s) (u:Un X.fs [] H H' s.heap h') (hok:HOk X.prog X.w H' h'):Inv X pins σ H' { s with heap:=h',toks:=t' }:=by
  obtain ⟨m,⟨o,es,ep,ho,r⟩,_⟩:=id I.loc
  obtain ⟨sl,hL⟩:=u.any ho I.free (by simp)
  exact I.step (g':=s.gens) (d':=s.drawn) (ch:=[]) (fun _ z=>nomatch z) (fun b o _ hb _ e n=>u.keep b o e n hb (by simp)) (fun b o _ hb _ e n=>u.slot b o e n hb (by simp)) (fun b o _ e n=>u.free b o e n (by simp)) (fun b o _ e=>u.there b o e (by simp)) u.tups u.frzs u.tbls (fun m' hm=>by
    obtain ⟨o',es',ep',ho',r'⟩:=hm
    rw [ho] at ho'; cases ho'
    exact ⟨_,es',ep',hL,r'⟩) hok I.bare
theorem Inv.call {g':Array GenState} {t':Nat} {d':Drawn} {ch:List Addr} (I:Inv X pins σ H s) (u:Un (frs X.stack) ch H H' s.heap h') (hok:HOk X.prog X.w H' h') (hg:AllBare g')
    (hch:∀ b ∈ ch,(b ∈ X.ex ∨ X.s₀.heap.objs.size <= b) /\ b ≠ X.env.locals /\ (∀ x c,X.env.cells.lookup x=some c->c ≠ b) /\ ∀ p ∈ X.pn ++ pins,p.1 ≠ b) :
    Inv X pins σ H' { s with heap:=h',gens:=g',drawn:=d',toks:=t' }:=by
  obtain ⟨m,⟨o,es,ep,ho,r⟩,_⟩:=id I.loc
  obtain ⟨sl,hL⟩:=u.any ho I.free fun z=>(hch _ z).2.1 rfl
  exact I.step (ch:=ch) hch (fun b o hL hb hc e n=>u.keep b o e n (fun z=>(List.mem_cons.mp (I.stkSub b z)).elim hL hb) hc) (fun b o _ _ hc e n=>u.any e n hc) (fun b o hc e n=>u.free b o e n hc) (fun b o hc e=>u.there b o e hc) u.tups u.frzs u.tbls (fun m' hm=>by
    obtain ⟨o',es',ep',ho',r'⟩:=hm
    rw [ho] at ho'; cases ho'
    exact ⟨_,es',ep',hL,r'⟩) hok hg
theorem Inv.turned {t':Nat} {it:Addr} (I:Inv X pins σ H s) (k:∀ b o,b ≠ it->s.heap.get? b=some o->h'.get? b=some o) (hn:H it=none) (hL:it ≠ X.env.locals)
    (h1:it ∈ X.ex ∨ X.s₀.heap.objs.size <= it) (h2:∀ x c,X.env.cells.lookup x=some c->c ≠ it) (h3:∀ p ∈ X.pn ++ pins,p.1 ≠ it):Inv X pins σ H { s with heap:=h',toks:=t' }:=by
  have nit:∀ b u,H b=some u->b ≠ it:=fun b u e z=>by rw [z,hn] at e; cases e
  refine I.step (g':=s.gens) (d':=s.drawn) (ch:=[it]) (fun b hb=>?_) (fun b o _ _ hc e _=>k b o (fun z=>hc (by simp [z])) e) (fun b o _ _ hc e _=>⟨o.slots,k b o (fun z=>hc (by simp [z])) e⟩) (fun _ _ _ _ n=>n)
    (fun b o hc e=>⟨o,k b o (fun z=>hc (by simp [z])) e⟩) (fun _ _ e=>e) (fun _ _ _ e=>e) (fun b ps e=>⟨#[],by rw [e]; simp⟩) (fun m hm=>?_) (fun b u e=>?_) I.bare
  . have e:b=it:=by simpa using hb
    subst e
    exact ⟨h1,hL,h2,h3⟩
  . obtain ⟨o,es,ep,ho,r⟩:=hm
    exact ⟨o,es,ep,k _ o (Ne.symm hL) ho,r⟩
  . refine (I.hok b u e).stay (fun c v hc q=>k c v ?_ q) (fun _ q=>q) fun _ _ q=>q
    rcases hc with z | z
    . rw [z]; exact nit b u e
    . exact nit c _ z
theorem Inv.tok (I:Inv X pins σ H s) (t:Nat):Inv X pins σ H { s with toks:=t }:=I.un (h':=s.heap) (t':=t) Un.refl I.hok
theorem Inv.kept {t':Nat} (I:Inv X pins σ H s) (k:∀ b u,s.heap.get? b=some u->h'.get? b=some u):Inv X pins σ H { s with heap:=h',toks:=t' }:=I.un (Un.kept k) (I.hok.kept k)
theorem Inv.laid {a:Addr} {o:HO} {t':Nat} (I:Inv X pins σ H s) (k:∀ b u,s.heap.get? b=some u->h'.get? b=some u) (hp:s.heap.objs.size <= a) (new:ObjOk X.prog X.w (upd H a o) h' a o) :
    Inv X pins σ (upd H a o) { s with heap:=h',toks:=t' }:=I.un (Un.laid k hp (I.hok.fresh hp)) (I.hok.laid k hp new)
theorem Inv.write {x e:Addr} {o:HO} {t':Nat} (I:Inv X pins σ H s) (mu:Mut (H x)) (he:e=x ∨ H e=some (.own x)) (k:∀ b u,b ≠ e->s.heap.get? b=some u->h'.get? b=some u) (heo:∃ u,h'.get? e=some u)
    (new:ObjOk X.prog X.w (upd H x o) h' x o):Inv X pins σ (upd H x o) { s with heap:=h',toks:=t' }:=I.un (Un.write mu he k heo) (I.hok.write mu he k heo new)
theorem Inv.weak {σ':List (Option V)} (I:Inv X pins σ H s) (hl:σ'.length=σ.length) (w:∀ (i:Nat) v,σ'[i]? = some (some v)->σ[i]? = some (some v)):Inv X pins σ' H s:=
  ⟨I.ok,I.os,I.bare,I.base,let ⟨m,hn,hl'⟩:=I.loc; ⟨m,hn,fun i x v e1 e2 e3=>hl' i x v e1 (w i v e2) e3⟩,I.cell,I.free,I.freeC,I.pin,I.hok,hl.trans I.len⟩
theorem Inv.pins_of {pins':List (Addr × Obj)} (I:Inv X pins σ H s) (h:∀ p ∈ pins',s.heap.get? p.1=some p.2 /\ H p.1=none /\ p.1 ≠ X.env.locals /\ p.1 ∉ X.fs /\ ∀ v,p.2.data ≠ .cell v):Inv X pins' σ H s:=
  ⟨I.ok,I.os,I.bare,I.base,I.loc,I.cell,I.free,I.freeC,fun p hp=>(List.mem_append.mp hp).elim (fun z=>I.pin p (List.mem_append_left _ z)) (h p),I.hok,I.len⟩
theorem J5 {N:List Str} (hN:N.Nodup) {i j:Nat} {x:Str} (a:N[i]? = some x) (b:N[j]? = some x):i=j:=by
  obtain ⟨h1,e1⟩:=List.getElem?_eq_some_iff.mp a
  obtain ⟨h2,e2⟩:=List.getElem?_eq_some_iff.mp b
  exact (List.getElem_inj hN).mp (e1.trans e2.symm)
theorem FJ {M:Model} {A:Around} {E:Value->Shared->Prop} {i:Nat} {x:Str} {v:V} {u:Value} {Q:Unit->Shared->Prop} (I:Inv X pins σ H s) (hN:X.N.Nodup) (hi:X.N[i]? = some x) (hx:Loc X.env.scope x) (r:RelV v u)
    (h:∀ s',Inv X pins (σ.set i (some v)) H s'->(∃ a,Heap.SameBut a s.heap s'.heap /\ (a=X.env.locals ∨ X.env.cells.lookup x=some a))->Q () s') (hf:X.fn x=true ∨ X.env.scope.names.lookup x=some .local:=by first | exact .inl rfl | exact .inr rfl | assumption):wpAny M A (storeName X.env x u) Q E s:=by
  obtain ⟨m,hn,hl⟩:=id I.loc
  have hcls:(X.env.scope.kind == .class || (X.env.scope.kind == .module && X.env.locals != X.env.globals))=false:=by rw [I.ok.kind]; rfl
  have hiσ:i < σ.length:=by rw [I.len]; exact (List.getElem?_eq_some_iff.mp hi).1
  have cne:=I.cne
  have tracked:∀ {a:Addr} {h':Heap},(∃ o,s.heap.get? a=some o /\ H a=none)->Heap.SameBut a s.heap h'->HOk X.prog X.w H h':=fun {a h'} ha hs b ob e=>by
    obtain ⟨_,_,hfree⟩:=ha
    refine (I.hok b ob e).stay (fun c w' hc q=>(hs.2 c ?_).trans q) (fun _ q=>q) fun _ _ q=>q
    rintro rfl
    rcases hc with rfl | hc
    . rw [hfree] at e; cases e
    . rw [hfree] at hc; cases hc
  rcases hx with hk | hk
  . refine wpAny_storeName_local hk hn (fun h' hn' hs=>?_) hcls
    obtain ⟨oL,_,_,hoL,_⟩:=id hn
    refine h _ ⟨I.ok,I.os,I.bare,⟨fun b o e n hb hx=>?_,fun b o e n hb hx=>?_,I.base.free,fun b o e hx=>?_,I.base.tups,I.base.frzs,I.base.tbls⟩,⟨_,hn',fun j y v' e1 e2 e3=>?_⟩,fun y c e=>?_,I.free,I.freeC,fun p hp=>?_,tracked ⟨oL,hoL,I.free⟩ hs,by simpa using I.len⟩ ⟨_,hs,.inl rfl⟩
    . exact (hs.2 b (Nat.ne_of_lt (Nat.lt_of_lt_of_le (Heap.lt_size e) I.ok.above))).trans (I.base.keep b o e n hb hx)
    . obtain ⟨sl,e1⟩:=I.base.slot b o e n hb hx
      exact ⟨sl,(hs.2 b (Nat.ne_of_lt (Nat.lt_of_lt_of_le (Heap.lt_size e) I.ok.above))).trans e1⟩
    . obtain ⟨o',e1⟩:=I.base.there b o e hx
      exact ⟨o',(hs.2 b (Nat.ne_of_lt (Nat.lt_of_lt_of_le (Heap.lt_size e) I.ok.above))).trans e1⟩
    . by_cases hj:j=i
      . subst hj
        rw [hi] at e1; cases e1
        rw [List.getElem?_set_self hiσ] at e2
        cases e2
        exact ⟨u,r,.inl ⟨hk,by simp⟩⟩
      . rw [List.getElem?_set_ne (Ne.symm hj)] at e2
        obtain ⟨u',r',q⟩:=hl j y v' e1 e2 e3
        refine ⟨u',r',?_⟩
        rcases q with ⟨k,e⟩ | ⟨k,c,e,z⟩
        . refine .inl ⟨k,?_⟩
          have:y ≠ x:=fun e=>hj (J5 hN e1 (e ▸ hi))
          simp [this,e]
        . exact .inr ⟨k,c,e,z.sameBut hs (cne y c e)⟩
    . obtain ⟨w',z⟩:=I.cell y c e
      exact ⟨w',z.sameBut hs (cne y c e)⟩
    . obtain ⟨e,n,ne,nf,d⟩:=I.pin p hp
      exact ⟨(hs.2 p.1 ne).trans e,n,ne,nf,d⟩
  . have hfn:X.fn x=true:=by
      rcases hf with z | z
      . exact z
      . rw [z] at hk; cases hk
    obtain ⟨c,hc⟩:=I.ok.has x (.inl hk)
    obtain ⟨w',z⟩:=I.cell x c hc
    refine wpAny_storeName_cell I.ok.kind hk hc z (fun h' hc' hs=>?_)
    obtain ⟨oc,hoc,hocd⟩:=id z
    refine h { s with heap:=h' } ⟨I.ok,I.os,I.bare,⟨fun b o e n hb hx=>?_,fun b o e n hb hx=>?_,I.base.free,fun b o e hx=>?_,I.base.tups,I.base.frzs,I.base.tbls⟩,⟨m,hn.sameBut hs (Ne.symm (cne x c hc)),fun j y v' e1 e2 e3=>?_⟩,fun y c' e=>?_,I.free,I.freeC,fun p hp=>?_,tracked ⟨oc,hoc,I.freeC x c hc⟩ hs,by simpa using I.len⟩ ⟨c,hs,.inr hc⟩
    . exact (hs.2 b (Nat.ne_of_lt (Nat.lt_of_lt_of_le (Heap.lt_size e) (I.ok.cab x c hfn hc)))).trans (I.base.keep b o e n hb hx)
    . obtain ⟨sl,e1⟩:=I.base.slot b o e n hb hx
      exact ⟨sl,(hs.2 b (Nat.ne_of_lt (Nat.lt_of_lt_of_le (Heap.lt_size e) (I.ok.cab x c hfn hc)))).trans e1⟩
    . obtain ⟨o',e1⟩:=I.base.there b o e hx
      exact ⟨o',(hs.2 b (Nat.ne_of_lt (Nat.lt_of_lt_of_le (Heap.lt_size e) (I.ok.cab x c hfn hc)))).trans e1⟩
    . by_cases hj:j=i
      . subst hj
        rw [hi] at e1; cases e1
        rw [List.getElem?_set_self hiσ] at e2
        cases e2
        exact ⟨u,r,.inr ⟨.inl hk,c,hc,hc'⟩⟩
      . rw [List.getElem?_set_ne (Ne.symm hj)] at e2
        obtain ⟨u',r',q⟩:=hl j y v' e1 e2 e3
        refine ⟨u',r',?_⟩
        rcases q with q | ⟨k,c',e,z'⟩
        . exact .inl q
        . refine .inr ⟨k,c',e,z'.sameBut hs ?_⟩
          rintro rfl
          exact hj (J5 hN e1 (I.ok.inj _ _ _ e hc ▸ hi))
    . by_cases hcc:c'=c
      . subst hcc; exact ⟨_,hc'⟩
      . obtain ⟨w2,z2⟩:=I.cell y c' e
        exact ⟨w2,z2.sameBut hs hcc⟩
    . obtain ⟨e,n,ne,nf,d⟩:=I.pin p hp
      refine ⟨(hs.2 p.1 ?_).trans e,n,ne,nf,d⟩
      intro q
      rw [q,hoc] at e
      have q':oc=p.2:=Option.some.inj e
      exact d w' (by rw [← q']; exact hocd)
theorem JW {M:Model} {A:Around} {E:Value->Shared->Prop} {i:Nat} {x:Str} {v:V} {u:Value} {Q:Unit->Shared->Prop} (I:Inv X pins σ H s) (hN:X.N.Nodup) (hi:X.N[i]? = some x) (hx:Loc X.env.scope x) (r:RelV v u)
    (h:∀ s',Inv X pins (σ.set i (some v)) H s'->Q () s') (hf:X.fn x=true ∨ X.env.scope.names.lookup x=some .local:=by first | exact .inl rfl | exact .inr rfl | assumption):wpAny M A (storeName X.env x u) Q E s:=
  FJ I hN hi hx r (fun s' I' _=>h s' I') hf
theorem Inv.call' {s':Shared} {ch:List Addr} (I:Inv X pins σ H s) (ho:s'.os=s.os) (u:Un (frs X.stack) ch H H' s.heap s'.heap) (hok:HOk X.prog X.w H' s'.heap) (hg:AllBare s'.gens)
    (hch:∀ b ∈ ch,(b ∈ X.ex ∨ X.s₀.heap.objs.size <= b) /\ b ≠ X.env.locals /\ (∀ x c,X.env.cells.lookup x=some c->c ≠ b) /\ ∀ p ∈ X.pn ++ pins,p.1 ≠ b):Inv X pins σ H' s':=by
  obtain ⟨h',g',d',t',o'⟩:=s'
  have e:o'=s.os:=ho
  subst e
  exact I.call (g':=g') (t':=t') (d':=d') u hok hg hch
end
abbrev XK:=Value->Option Addr->Hp->Prop
abbrev St:=List (Option V)
abbrev VK:=V->Hp->Prop
abbrev TE:=St->Hp->VK->Prop
abbrev TT:=St->Hp->(Bool->Hp->Prop)->Prop
abbrev TA:=St->Hp->(List V->Hp->Prop)->Prop
structure Lg where
  nx:St->Hp->Prop
  rt:VK
  bk:St->Hp->Prop:=fun _ _=>False
  ct:St->Hp->Prop:=fun _ _=>False
abbrev TS:=Lg->St->Hp->Prop
def EP (X:Cx) (pins:List (Addr × Obj)) (σ:St) (Q:VK) (u:Value) (s':Shared):Prop:=∃ v H',Inv X pins σ H' s' /\ RelV v u /\ Q v H'
def TP (X:Cx) (pins:List (Addr × Obj)) (σ:St) (Q:Bool->Hp->Prop) (b:Bool) (s':Shared):Prop:=∃ H',Inv X pins σ H' s' /\ Q b H'
def AP (X:Cx) (pins:List (Addr × Obj)) (σ:St) (Q:List V->Hp->Prop) (us:List Value) (s':Shared):Prop:=∃ vs H',Inv X pins σ H' s' /\ Vals vs us /\ Q vs H'
def SP (X:Cx) (pins:List (Addr × Obj)) (D:Lg) (f:Flow) (s':Shared):Prop:=
  match f with
  | .next=>∃ σ' H',Inv X pins σ' H' s' /\ D.nx σ' H'
  | .brk=>∃ σ' H',Inv X pins σ' H' s' /\ D.bk σ' H'
  | .cont=>∃ σ' H',Inv X pins σ' H' s' /\ D.ct σ' H'
  | .ret u=>∃ v σ' H',Inv X pins σ' H' s' /\ RelV v u /\ D.rt v H'
def PE (X:Cx) (e:Expr) (t:TE):Prop:=
  ∀ (pins:List (Addr × Obj)) (s:Shared) (σ:St) (H:Hp) (Q:VK),Inv X pins σ H s->t σ H Q->wpAny (model X.prog X.w) X.A (eval e X.env) (EP X pins σ Q) X.xe s
def PT (X:Cx) (e:Expr) (t:TT):Prop:=
  ∀ (pins:List (Addr × Obj)) (s:Shared) (σ:St) (H:Hp) (Q:Bool->Hp->Prop),Inv X pins σ H s->t σ H Q->wpAny (model X.prog X.w) X.A (isTrue e X.env (eval e X.env)) (TP X pins σ Q) X.xe s
def PW (X:Cx) (e:Expr) (t:TT):Prop:=
  ∀ (whole:Sem Value) (pins:List (Addr × Obj)) (s:Shared) (σ:St) (H:Hp) (Q:Bool->Hp->Prop),Inv X pins σ H s->t σ H Q->wpAny (model X.prog X.w) X.A (isTrue e X.env whole) (TP X pins σ Q) X.xe s
theorem PW.pt {X:Cx} {e:Expr} {t:TT} (h:PW X e t):PT X e t:=h _
def PA (X:Cx) (es:List Expr) (t:TA):Prop:=
  ∀ (pos:Pos) (pins:List (Addr × Obj)) (s:Shared) (σ:St) (H:Hp) (Q:List V->Hp->Prop),Inv X pins σ H s->t σ H Q->wpAny (model X.prog X.w) X.A (spliced (backTo pos (starEach es X.env))) (AP X pins σ Q) X.xe s
def PS (X:Cx) (st:Stmt) (t:TS):Prop:=
  ∀ (pins:List (Addr × Obj)) (s:Shared) (σ:St) (H:Hp) (D:Lg),Inv X pins σ H s->t D σ H->wpAny (model X.prog X.w) X.A (exec st X.env) (SP X pins D) X.xe s
def PSs (X:Cx) (st:List Stmt) (t:TS):Prop:=
  ∀ (pins:List (Addr × Obj)) (s:Shared) (σ:St) (H:Hp) (D:Lg),Inv X pins σ H s->t D σ H->wpAny (model X.prog X.w) X.A (execs st X.env) (SP X pins D) X.xe s
theorem thn {α:Type} {t:Sem α} {Q Q':α->Shared->Prop} {M:Model} {A:Around} {E:Value->Shared->Prop} {s:Shared} (h:wpAny M A t Q E s) (hQ:∀ a s,Q a s->Q' a s):wpAny M A t Q' E s:=wpAny_mono h hQ fun _ _ x=>x
end L2
namespace L2
open PySem PySem.Spec PyProof.Rows
section
variable {X:Cx}
def Vv (i:Nat):TE:=fun σ H Q=>∃ v,σ[i]? = some (some v) /\ Q v H
def tC (v:V):TE:=fun _ H Q=>Q v H
theorem Tv {i:Nat} {x:Str} {pos:Pos} (hN:X.N[i]? = some x) (hv:Vis X.env.scope x) (hd:(x == ("__debug__" : Str))=false:=by decide) (hcd:(x == ("__classdict__" : Str))=false:=by decide):PE X (.Name x pos) (Vv i):=by
  intro pins s σ H Q I h
  obtain ⟨v,e,h⟩:=h
  obtain ⟨m,hn,hl⟩:=I.loc
  obtain ⟨u,r,l⟩:=hl i x v hN e hv
  have fin:EP X pins σ Q u s:=⟨v,H,I,r,h⟩
  rcases l with ⟨hk,hm⟩ | ⟨hk,c,hc,hcell⟩
  . exact wpAny_Name (wpAny_loadName_local I.ok.kind hk hn hm fin) hd
  . rcases hk with hk | hk
    . exact wpAny_Name (wpAny_loadName_cell I.ok.kind hk hc hcell fin) hd
    . exact wpAny_Name (wpAny_loadName_free I.ok.kind hk hc hcell fin hcd) hd
theorem Tz {i j pos}:PE X (.Constant (.int i) j pos) (tC (.int i)):=fun _ _ _ H _ I h=>wpAny_Constant_int ⟨.int i,H,I.tok _,⟨_,rfl⟩,h⟩
theorem VR {b j pos}:PE X (.Constant (.bool b) j pos) (tC (.bl b)):=fun _ _ _ H _ I h=>Constant_bool ⟨.bl b,H,I,rfl,h⟩
theorem Ty {j pos}:PE X (.Constant .none j pos) (tC .non):=fun _ _ _ H _ I h=>Constant_none ⟨.non,H,I,rfl,h⟩
theorem Tx {x j pos}:PE X (.Constant (.str x) j pos) (tC (.str x)):=fun _ _ _ H _ I h=>Calls.Constant_str ⟨.str x,H,I.tok _,⟨_,rfl⟩,h⟩
def Gl (X:Cx) (x:Str):Prop:=X.env.kindOf x=some .globalImplicit
theorem MW {E:Value->Shared->Prop} {pins:List (Addr × Obj)} {s:Shared} {σ:St} {H:Hp} {x:Str} {u:Value} {pos:Pos} {Q:Value->Shared->Prop} (I:Inv X pins σ H s) (hg:Gl X x) (hm:X.mg x=some u) (h:Q u s)
    (hd:(x == ("__debug__" : Str))=false:=by decide):wpAny (model X.prog X.w) X.A (eval (.Name x pos) X.env) Q E s:=
  Calls.Name_function_global I.ok.kind hg (Calls.loadGlobal_global (by rw [I.ok.glob]; exact I.mod.glob.keeps I.bk) hm h) hd
theorem Gh {E:Value->Shared->Prop} {pins:List (Addr × Obj)} {s:Shared} {σ:St} {H:Hp} {x:Str} {u:Value} {pos:Pos} {Q:Value->Shared->Prop} (I:Inv X pins σ H s) (hg:Gl X x) (hm:X.mg x=none) (hv:bootBuiltins x=some u) (h:Q u s)
    (hn:x ≠ "__name__" := by decide) (hd:(x == ("__debug__" : Str))=false:=by decide):wpAny (model X.prog X.w) X.A (eval (.Name x pos) X.env) Q E s:=by
  obtain ⟨mb,h1,h2⟩:=I.mod.blt
  exact Calls.Name_function_global I.ok.kind hg (Calls.loadGlobal_builtin (by rw [I.ok.glob]; exact I.mod.glob.keeps I.bk) hm (by rw [I.ok.blt]; exact h1.keeps I.bk) ((h2 x hn).trans hv) h) hd
theorem RU {x:Str} {v:V} {u:Value} {pos:Pos} (hg:Gl X x) (hm:X.mg x=some u) (r:RelV v u) (hd:(x == ("__debug__" : Str))=false:=by decide):PE X (.Name x pos) (tC v):=
  fun _ _ _ H _ I h=>MW I hg hm ⟨v,H,I,r,h⟩ hd
theorem RZ {x:Str} {v:V} {u:Value} {pos:Pos} (hg:Gl X x) (hm:X.mg x=none) (hv:bootBuiltins x=some u) (r:RelV v u) (hn:x ≠ "__name__" := by decide) (hd:(x == ("__debug__" : Str))=false:=by decide):PE X (.Name x pos) (tC v):=
  fun _ _ _ H _ I h=>Gh I hg hm hv ⟨v,H,I,r,h⟩ hn hd
variable {a b:Expr} {ta tb:TE} {pos:Pos}
def tB (t:TE):TT:=fun σ H Q=>t σ H fun x H1=>∃ c,x=.bl c /\ Q c H1
theorem To {e:Expr} {t:TE} (h:PE X e t) (he:∀ whole,isTrue e X.env whole=(do let v ← whole; standAt e.pos; holding [v] (truthy v)):=by intro _; rfl):PT X e (tB t):=by
  intro pins s σ H Q I hw
  refine isTrue_plain (thn (h pins s σ H _ I hw) fun v s1 ⟨x,H1,I1,r1,q1⟩=>?_) (he _)
  obtain ⟨d,rfl,q⟩:=q1
  cases r1
  exact wpAny_truthy_bool ⟨H1,I1,q⟩
variable {tA tB':TT} {rest:List Expr}
def V4 (t u:TT):TT:=fun σ H Q=>t σ H fun c H1=>if c=true then u σ H1 Q else Q false H1
def tOr (t u:TT):TT:=fun σ H Q=>t σ H fun c H1=>if c=true then Q true H1 else u σ H1 Q
def Vz (t:TT):TT:=fun σ H Q=>t σ H fun c H1=>Q (!c) H1
theorem RH (ha:PT X a tA):PW X (.BoolOp .And [a] pos) tA:=by
  intro wh pins s σ H Q I h
  refine isTrue_and (thn (ha pins s σ H Q I h) fun c s1 e=>?_)
  cases c with
  | true=>exact isTrue_and_nil e
  | false=>exact e
theorem Tm (ha:PT X a tA):PW X (.BoolOp .Or [a] pos) tA:=by
  intro wh pins s σ H Q I h
  refine isTrue_or (thn (ha pins s σ H Q I h) fun c s1 e=>?_)
  cases c with
  | false=>exact isTrue_or_nil e
  | true=>exact e
theorem Tn (ha:PT X a tA) (hb:PW X (.BoolOp .And (b :: rest) pos) tB'):PW X (.BoolOp .And (a :: b :: rest) pos) (V4 tA tB'):=by
  intro wh pins s σ H Q I h
  refine isTrue_and (thn (ha pins s σ H _ I h) fun c s1 ⟨H1,I1,q1⟩=>?_)
  cases c with
  | true=>exact hb wh pins s1 σ H1 Q I1 q1
  | false=>exact ⟨H1,I1,q1⟩
theorem VL (ha:PT X a tA) (hb:PW X (.BoolOp .Or (b :: rest) pos) tB'):PW X (.BoolOp .Or (a :: b :: rest) pos) (tOr tA tB'):=by
  intro wh pins s σ H Q I h
  refine isTrue_or (thn (ha pins s σ H _ I h) fun c s1 ⟨H1,I1,q1⟩=>?_)
  cases c with
  | true=>exact ⟨H1,I1,q1⟩
  | false=>exact hb wh pins s1 σ H1 Q I1 q1
theorem Tp (ha:PT X a tA):PT X (.UnaryOp .Not a pos) (Vz tA):=by
  intro pins s σ H Q I h
  exact isTrue_not (ha pins s σ H (fun c H1=>Q (!c) H1) I h)
def tIf (t:TT) (ta tb:TE):TE:=fun σ H Q=>t σ H fun c H1=>if c=true then ta σ H1 Q else tb σ H1 Q
theorem O7 {c:Expr} (hc:PT X c tA) (ha:PE X a ta) (hb:PE X b tb):PE X (.IfExp c a b pos) (tIf tA ta tb):=by
  intro pins s σ H Q I h
  refine wpAny_IfExp (thn (hc pins s σ H _ I h) fun d s1 ⟨H1,I1,q1⟩=>?_)
  cases d with
  | true=>exact ha pins s1 σ H1 Q I1 q1
  | false=>exact hb pins s1 σ H1 Q I1 q1
end
end L2
namespace L2
open PySem PySem.Spec PyProof.Rows
def SqL (K:PySem.W.Frag) (H:Hp) (a:Addr) (xs:List V):Prop:=
  Rd H a (.lst xs) ∨
    ∃ (o:Obj) (its:Array Value) (n:Nat),K.lookup a=some o /\ o.cls=.type "list" /\ o.dict=none /\ o.data=.seq its n /\ its.size <= sizeLine /\ Vals xs its.toList
def SqT (K:PySem.W.Frag) (H:Hp) (a:Addr) (xs:List V):Prop:=
  Rd H a (.tup xs) ∨
    ∃ (o:Obj) (its:Array Value) (n:Nat),K.lookup a=some o /\ o.cls=.type "tuple" /\ o.data=.seq its n /\ its.size <= sizeLine /\ Vals xs its.toList
def WK:Value->Option V
  | .none=>some .non
  | .bool b=>some (.bl b)
  | .int i _=>some (.int i)
  | .str x _=>some (.str x)
  | .bytes b _=>some (.byt b)
  | .float b _=>some (.flt b)
  | .ref a=>some (.ref a)
  | .type n=>some (.ty n)
  | _=>none
theorem RelV.abs {x:V} {u:Value} (r:RelV x u):WK u=some x:=by
  cases x with
  | non=>cases r; rfl
  | bl _=>cases r; rfl
  | int _=>obtain ⟨t,rfl⟩:=r; rfl
  | str _=>obtain ⟨t,rfl⟩:=r; rfl
  | byt _=>obtain ⟨t,rfl⟩:=r; rfl
  | flt _=>obtain ⟨t,rfl⟩:=r; rfl
  | ref _=>cases r; rfl
  | ty _=>cases r; rfl
theorem RelV.inj {x y:V} {u:Value} (r:RelV x u) (q:RelV y u):x=y:=Option.some.inj (r.abs.symm.trans q.abs)
theorem Vals.inj:∀ {xs ys:List V} {us:List Value},Vals xs us->Vals ys us->xs=ys
  | _,_,_,.nil,.nil=>rfl
  | _,_,_,.cons r t,.cons r' t'=>by rw [r.inj r',Vals.inj t t']
section
variable {X:Cx} {pins:List (Addr × Obj)} {σ:St} {H:Hp} {s:Shared} {a:Addr} {xs ys:List V}
theorem SqL.of {K:PySem.W.Frag} (h:H a=some (.lst xs)):SqL K H a xs:=.inl (.inl h)
theorem SqT.of {K:PySem.W.Frag} (h:H a=some (.tup xs)):SqT K H a xs:=.inl (.inl h)
theorem Inv.list (I:Inv X pins σ H s) (h:SqL X.K H a xs):∃ its:List Value,Vals xs its /\ PlainL s.heap a its.toArray /\ xs.length <= sizeLine:=by
  rcases h with h | ⟨o,its,n,hk,hc,hd,hs,hz,r⟩
  . obtain ⟨z,its,n,r,e⟩:=h.ok I.hok
    exact ⟨its,r,⟨_,n,e,rfl,rfl,rfl⟩,z⟩
  . refine ⟨its.toList,r,⟨o,n,I.kIn a o hk,hc,hd,by simpa using hs⟩,?_⟩
    have e:=r.length
    simp only [Array.length_toList] at e
    omega
theorem Inv.tuple (I:Inv X pins σ H s) (h:SqT X.K H a xs):∃ its:List Value,Vals xs its /\ IsTup s.heap a its.toArray /\ xs.length <= sizeLine:=by
  rcases h with h | ⟨o,its,n,hk,hc,hs,hz,r⟩
  . obtain ⟨z,its,r,p⟩:=h.ok I.hok
    exact ⟨its,r,p,z⟩
  . refine ⟨its.toList,r,⟨o,I.kIn a o hk,hc,n,by simpa using hs⟩,?_⟩
    have e:=r.length
    simp only [Array.length_toList] at e
    omega
theorem Inv.list_inj (I:Inv X pins σ H s) (h:SqL X.K H a xs) (h':SqL X.K H a ys):xs=ys:=by
  obtain ⟨its,r,⟨o,n,e,_,_,d⟩,_⟩:=I.list h
  obtain ⟨its',r',⟨o',n',e',_,_,d'⟩,_⟩:=I.list h'
  rw [e] at e'; cases e'
  rw [d] at d'
  injection d' with d1 _
  have:its=its':=by simpa using congrArg Array.toList d1
  subst this
  exact r.inj r'
theorem Inv.tuple_inj (I:Inv X pins σ H s) (h:SqT X.K H a xs) (h':SqT X.K H a ys):xs=ys:=by
  obtain ⟨its,r,⟨o,e,_,n,d⟩,_⟩:=I.tuple h
  obtain ⟨its',r',⟨o',e',_,n',d'⟩,_⟩:=I.tuple h'
  rw [e] at e'; cases e'
  rw [d] at d'
  injection d' with d1 _
  have:its=its':=by simpa using congrArg Array.toList d1
  subst this
  exact r.inj r'
end
abbrev Cx.wish (X:Cx) (E:Value->Shared->Prop):Cx:={ X with xe:=E }
abbrev Cx.nox (X:Cx):Cx:=X.wish fun _ _=>False
theorem Cx.Ok.wish {X:Cx} (ok:X.Ok) (E:Value->Shared->Prop):(X.wish E).Ok:=
  ⟨ok.mod,ok.kind,ok.glob,ok.blt,ok.above,ok.inj,ok.has,ok.cab,ok.hd,ok.frames,ok.stk,ok.exf,ok.bs,ok.bsz,ok.noex,ok.exfs,ok.funs,ok.frf⟩
theorem Cx.Ok.unwish {X:Cx} {E:Value->Shared->Prop} (ok:(X.wish E).Ok):X.Ok:=
  ⟨ok.mod,ok.kind,ok.glob,ok.blt,ok.above,ok.inj,ok.has,ok.cab,ok.hd,ok.frames,ok.stk,ok.exf,ok.bs,ok.bsz,ok.noex,ok.exfs,ok.funs,ok.frf⟩
section
variable {X:Cx} {pins:List (Addr × Obj)} {σ:St} {H:Hp} {s:Shared} {E:Value->Shared->Prop}
theorem Inv.wish (I:Inv X pins σ H s) (E:Value->Shared->Prop):Inv (X.wish E) pins σ H s:=⟨I.ok.wish E,I.os,I.bare,I.base,I.loc,I.cell,I.free,I.freeC,I.pin,I.hok,I.len⟩
theorem Inv.unwish (I:Inv (X.wish E) pins σ H s):Inv X pins σ H s:=⟨I.ok.unwish,I.os,I.bare,I.base,I.loc,I.cell,I.free,I.freeC,I.pin,I.hok,I.len⟩
theorem SP.unwish {D:Lg} {f:Flow} {s':Shared} (h:SP (X.wish E) pins D f s'):SP X pins D f s':=by
  cases f with
  | next=>obtain ⟨σ',H',I,q⟩:=h; exact ⟨σ',H',I.unwish,q⟩
  | brk=>obtain ⟨σ',H',I,q⟩:=h; exact ⟨σ',H',I.unwish,q⟩
  | cont=>obtain ⟨σ',H',I,q⟩:=h; exact ⟨σ',H',I.unwish,q⟩
  | ret u=>obtain ⟨v,σ',H',I,r,q⟩:=h; exact ⟨v,σ',H',I.unwish,r,q⟩
theorem PSs.nox {st:List Stmt} {t:TS} (h:PSs X.nox st t):PSs X st t:=fun pins s σ H D I hw=>
  wpAny_mono (h pins s σ H D (I.wish _) hw) (fun _ _ q=>q.unwish) fun _ _ z=>False.elim z
end
section
variable {X:Cx} {st:Stmt} {rest:List Stmt} {t u:TS} {e:Expr} {te:TE} {pos:Pos}
def U4:TS:=fun D σ H=>D.nx σ H
def Vx (t u:TS):TS:=fun D σ H=>t { D with nx:=u D } σ H
theorem RL:PSs X [] U4:=fun _ _ σ H _ I h=>wpAny_execs_nil ⟨σ,H,I,h⟩
theorem Ov (h1:PS X st t) (h2:PSs X rest u):PSs X (st :: rest) (Vx t u):=by
  intro pins s σ H D I h
  refine wpAny_execs_cons (thn (h1 pins s σ H { D with nx:=u D } I h) fun f s1 q=>?_)
  cases f with
  | next=>
    obtain ⟨σ',H',I',q⟩:=q
    exact h2 pins s1 σ' H' D I' q
  | ret v=>exact q
  | brk=>exact q
  | cont=>exact q
theorem RK (h1:PS X st t):PSs X [st] t:=by
  intro pins s σ H D I h
  refine wpAny_execs_cons (thn (h1 pins s σ H D I h) fun f s1 q=>?_)
  cases f with
  | next=>exact wpAny_execs_nil q
  | ret v=>exact q
  | brk=>exact q
  | cont=>exact q
theorem Inv.quiet {pins:List (Addr × Obj)} {σ:St} {H:Hp} {s:Shared} (I:Inv X pins σ H s):interactive X.env=false:=by simp [interactive,I.ok.kind]
def U6 (te:TE):TS:=fun D σ H=>te σ H fun _ H1=>D.nx σ H1
theorem RM (he:PE X e te) (hs:swapsWith e none pos.line X.env=pure false:=by rfl):PS X (.Expr e pos) (U6 te):=by
  intro pins s σ H D I h
  exact wpAny_Expr_any (thn (he pins s σ H _ I h) fun v s1 ⟨x,H1,I1,r1,q1⟩=>⟨σ,H1,I1,q1⟩) I.quiet hs
def Vy (te:TE):TS:=fun D σ H=>te σ H D.rt
theorem Tr (he:PE X e te):PS X (.Return (some e) pos) (Vy te):=by
  intro pins s σ H D I h
  exact wpAny_Return_some (thn (he pins s σ H _ I h) fun v s1 ⟨x,H1,I1,r1,q1⟩=>⟨x,σ,H1,I1,r1,q1⟩)
def V2 (c:TT) (t u:TS):TS:=fun D σ H=>c σ H fun b H1=>if b=true then t D σ H1 else u D σ H1
theorem VM {c:Expr} {a b:List Stmt} {tc:TT} (hc:PT X c tc) (ha:PSs X a t) (hb:PSs X b u):PS X (.If c a b pos) (V2 tc t u):=by
  intro pins s σ H D I h
  refine wpAny_If (thn (hc pins s σ H _ I h) fun d s1 ⟨H1,I1,q1⟩=>?_)
  cases d with
  | true=>exact ha pins s1 σ H1 D I1 q1
  | false=>exact hb pins s1 σ H1 D I1 q1
end
abbrev TG:=V->St->Hp->(St->Hp->Prop)->Prop
abbrev TGs:=List V->St->Hp->(St->Hp->Prop)->Prop
def PG (X:Cx) (target:Expr) (t:TG):Prop:=
  ∀ (pins:List (Addr × Obj)) (s:Shared) (σ:St) (H:Hp) (v:V) (u:Value) (Q:St->Hp->Prop),Inv X pins σ H s->RelV v u->t v σ H Q->
    wpAny (model X.prog X.w) X.A (assign target X.env u) (fun _ s'=>∃ σ' H',Inv X pins σ' H' s' /\ Q σ' H') X.xe s
def PGs (X:Cx) (ts:List Expr) (t:TGs):Prop:=
  ∀ (pins:List (Addr × Obj)) (s:Shared) (σ:St) (H:Hp) (vs:List V) (us:List Value) (Q:St->Hp->Prop),Inv X pins σ H s->Vals vs us->t vs σ H Q->
    wpAny (model X.prog X.w) X.A (assignInOrder ((assignEach ts X.env).map (·.2)) us) (fun _ s'=>∃ σ' H',Inv X pins σ' H' s' /\ Q σ' H') X.xe s
abbrev Uk:=V->V->V->Hp->(Hp->Prop)->Prop
def Vr (X:Cx) (t:Uk):Prop:=
  ∀ (pins:List (Addr × Obj)) (s:Shared) (σ:St) (H:Hp) (o i v:V) (ov iv u:Value) (Q:Hp->Prop),Inv X pins σ H s->RelV o ov->RelV i iv->RelV v u->t o i v H Q->
    wpAny (model X.prog X.w) X.A (setItem ov iv u) (fun _ s'=>∃ H',Inv X pins σ H' s' /\ Q H') X.xe s
section
variable {X:Cx} {pos:Pos}
def Di (i:Nat):TG:=fun v σ H Q=>Q (σ.set i (some v)) H
theorem AV {i:Nat} {x:Str} (hN:X.N.Nodup) (hi:X.N[i]? = some x) (hx:Loc X.env.scope x) (hf:X.fn x=true ∨ X.env.scope.names.lookup x=some .local:=by first | exact .inl rfl | exact .inr rfl | assumption):PG X (.Name x pos) (Di i):=by
  intro pins s σ H v u Q I r h
  exact wpAny_assign_Name (JW I hN hi hx r (fun s' I'=>⟨_,H,I',h⟩) hf)
def Vg:TGs:=fun vs σ H Q=>vs=[] /\ Q σ H
def Sa (t:TG) (u:TGs):TGs:=fun vs σ H Q=>∃ v r,vs=v :: r /\ t v σ H fun σ' H'=>u r σ' H' Q
theorem CL:PGs X [] Vg:=by
  intro pins s σ H vs us Q I r h
  obtain ⟨e,h⟩:=h
  subst e
  cases r
  exact assignInOrder_nil ⟨σ,H,I,h⟩
theorem Ad {e:Expr} {es:List Expr} {t:TG} {u:TGs} (h1:PG X e t) (h2:PGs X es u)
    (hs:(assignEach (e :: es) X.env).map (·.2)=assign e X.env :: (assignEach es X.env).map (·.2):=by rfl):PGs X (e :: es) (Sa t u):=by
  intro pins s σ H vs us Q I r h
  obtain ⟨v,vr,e1,h⟩:=h
  subst e1
  cases r with
  | cons r rr=>
    rw [hs]
    refine assignInOrder_cons (thn (h1 pins s σ H _ _ _ I r h) fun _ s1 ⟨σ1,H1,I1,q1⟩=>?_)
    exact h2 pins s1 σ1 H1 _ _ Q I1 rr q1
def UT (K:PySem.W.Frag) (n:Nat) (t:TGs):TG:=fun v σ H Q=>∃ a xs,v=.ref a /\ SqT K H a xs /\ xs.length=n /\ t xs σ H Q
theorem K6 {es:List Expr} {k:Nat} {t:TGs} {n:Nat} (hc:X.calm=true) (h:PGs X es t)
    (hn:(assignEach es X.env).length=n:=by rfl) (hst:(assignEach es X.env).findIdx? (·.1)=none:=by rfl):PG X (.Tuple es k pos) (UT X.K n t):=by
  intro pins s σ H v u Q I r hw
  obtain ⟨a,xs,e1,hq,hl,hw⟩:=hw
  subst e1
  cases r
  obtain ⟨its,rv,ht,hz⟩:=I.tuple hq
  refine assign_Tuple_tuple (I.ok.hd hc) ht (by simp [hn,← hl,rv.length]) hst fun h' hx=>?_
  have I1:Inv X pins σ H { s with heap:=h' }:=I.kept (t':=s.toks) fun b o e=>hx b o (Nat.ne_of_lt (Heap.lt_size e)) e
  exact h pins _ σ H xs _ Q I1 (by simpa using rv) hw
def WJ (to ti:TE) (t:Uk):TG:=fun v σ H Q=>to σ H fun o H1=>ti σ H1 fun i H2=>t o i v H2 fun H3=>Q σ H3
theorem Tu {o i:Expr} {to ti:TE} {t:Uk} (ho:PE X o to) (hi:PE X i ti) (hs:Vr X t)
    (ha:∀ v,assign (.Subscript o i pos) X.env v=(do
      let ov ← holding [v] (eval o X.env)
      let iv ← holding [v,ov] (eval i X.env)
      standAt pos
      holding [v,ov,iv] (setItem ov iv v)
      release [v,ov,iv] []):=by intro _; rfl):PG X (.Subscript o i pos) (WJ to ti t):=by
  intro pins s σ H v u Q I r h
  rw [ha]
  refine wpAny_bind (wpAny_holding (thn (ho pins s σ H _ I h) fun ov s1 ⟨x,H1,I1,r1,q1⟩=>?_))
  refine wpAny_bind (wpAny_holding (thn (hi pins s1 σ H1 _ I1 q1) fun iv s2 ⟨y,H2,I2,r2,q2⟩=>?_))
  refine wpAny_bind (wpAny_standAt (wpAny_bind (wpAny_holding (thn (hs pins s2 σ H2 x y v ov iv u _ I2 r1 r2 r q2) fun _ s3 ⟨H3,I3,q3⟩=>?_))))
  exact wpAny_release ⟨σ,H3,I3,q3⟩
def OV (te:TE) (g:TG):TS:=fun D σ H=>te σ H fun x H1=>g x σ H1 D.nx
theorem Ts {tg e:Expr} {te:TE} {g:TG} (he:PE X e te) (hg:PG X tg g) (hs:swapsWithSole [tg] e pos.line X.env=pure false:=by rfl) (hw:swappedStores [tg] e X.env=pure none:=by rfl)
    (h1:(assignEach [tg] X.env).map (·.2)=[assign tg X.env]:=by rfl):PS X (.Assign [tg] e pos) (OV te g):=by
  intro pins s σ H D I h
  refine wpAny_Assign_stores (thn (he pins s σ H _ I h) fun v s1 ⟨x,H1,I1,r1,q1⟩=>?_) hs hw
  rw [h1]
  exact thn (hg pins s1 σ H1 x v _ I1 r1 q1) fun _ s2 q=>q
theorem Tq {i:Nat} {x:Str} {e:Expr} {te:TE} {pos':Pos} (hN:X.N.Nodup) (hi:X.N[i]? = some x) (hx:Loc X.env.scope x) (he:PE X e te) (hs:swapsWith e (some (.Name x pos')) pos.line X.env=pure false:=by rfl) (hf:X.fn x=true ∨ X.env.scope.names.lookup x=some .local:=by first | exact .inl rfl | exact .inr rfl | assumption) :
    PS X (.Assign [.Name x pos'] e pos) (OV te (Di i)):=by
  intro pins s σ H D I h
  refine wpAny_Assign_Name (thn (he pins s σ H _ I h) fun v s1 ⟨y,H1,I1,r1,q1⟩=>?_) hs
  exact JW I1 hN hi hx r1 (fun s2 I2=>⟨_,H1,I2,q1⟩) hf
end
section
variable {X:Cx} {pos:Pos}
def TX (c:TT) (tb:TS):TS:=fun D σ H=>∃ W:Nat->St->Hp->Prop,(∃ m,W m σ H) /\ ∀ m σ H,W m σ H->
  c σ H fun b H1=>if b=true then ∃ N:St->Hp->Prop,(∀ σ' H',N σ' H'->∃ m',m' < m /\ W m' σ' H') /\ tb { D with nx:=N,ct:=N,bk:=D.nx } σ H1 else D.nx σ H1
theorem Ow {c:Expr} {body:List Stmt} {tc:TT} {tb:TS} (hp:PassesOwn (model X.prog X.w) X.A X.env X.xe) (hc:PT X c tc) (hb:PSs X body tb):PS X (.While c body [] pos) (TX tc tb):=by
  intro pins s σ H D I h
  obtain ⟨W,⟨m0,w0⟩,turn⟩:=h
  refine wpAny_While (codeAny_whileLoop (fun n s'=>∃ σ' H',Inv X pins σ' H' s' /\ W n σ' H') ?_ m0 ⟨σ,H,I,w0⟩)
  rintro n s1 ⟨σ1,H1,I1,w1⟩
  refine wpAny_passesOwn hp (thn (hc pins s1 σ1 H1 _ I1 (turn n σ1 H1 w1)) fun b s2 ⟨H2,I2,q2⟩=>?_)
  cases b with
  | true=>
    obtain ⟨N,hN,q2⟩:=q2
    rw [if_pos rfl]
    refine wpAny_passesOwn hp (thn (hb pins s2 σ1 H2 _ I2 q2) fun f s3 q3=>?_)
    cases f with
    | next=>
      obtain ⟨σ3,H3,I3,n3⟩:=q3
      obtain ⟨m',hm,w3⟩:=hN σ3 H3 n3
      exact ⟨m',hm,σ3,H3,I3,w3⟩
    | cont=>
      obtain ⟨σ3,H3,I3,n3⟩:=q3
      obtain ⟨m',hm,w3⟩:=hN σ3 H3 n3
      exact ⟨m',hm,σ3,H3,I3,w3⟩
    | brk=>exact q3
    | ret v=>exact q3
  | false=>
    rw [if_neg Bool.false_ne_true]
    exact wpAny_execs_nil ⟨σ1,H2,I2,q2⟩
end
structure It where
  go:Nat->Hp->Prop
  yld:Nat->Hp->V->Hp->Prop
  stop:Nat->Hp->Prop
def D5 (X:Cx) (pins:List (Addr × Obj)) (H:Hp) (b:Addr):Prop:=
  H b=none /\ b ≠ X.env.locals /\ b ∉ X.fs /\ (b ∈ X.ex ∨ X.s₀.heap.objs.size <= b) /\ (∀ x c,X.env.cells.lookup x=some c->c ≠ b) /\ ∀ p ∈ X.pn ++ pins,p.1 ≠ b
theorem Inv.fpOk {X:Cx} {pins:List (Addr × Obj)} {σ:St} {H H':Hp} {s:Shared} {b:Addr} (I:Inv X pins σ H s) (hb:s.heap.objs.size <= b) (hn:H' b=none):D5 X pins H' b:=by
  refine ⟨hn,Nat.ne_of_gt (Nat.lt_of_lt_of_le I.lt hb),I.nofs hb,.inr (Nat.le_trans I.sz hb),fun x c e z=>?_,fun p hp z=>?_⟩
  . obtain ⟨v,q⟩:=I.cell x c e
    exact absurd (Nat.lt_of_lt_of_le q.lt (by rw [z]; exact hb)) (Nat.lt_irrefl _)
  . exact absurd (Nat.lt_of_lt_of_le (Heap.lt_size (I.pin p hp).1) (by rw [z]; exact hb)) (Nat.lt_irrefl _)
structure Kh (P:Program) (w:World) (K:PySem.W.Frag) (tg:Expr) (J:It) (fp:List Addr) (it:Addr) (tn:Nat->Heap->Prop):Prop where
  mem:it ∈ fp
  obj:∀ i h,tn i h->∀ b ∈ fp,∃ o,h.get? b=some o /\ ∀ v,o.data ≠ .cell v
  keep:∀ i h h',tn i h->(∀ b ∈ fp,∀ o,h.get? b=some o->h'.get? b=some o)->tn i h'
  item:∀ (X:Cx),X.prog=P->X.w=w->X.K=K->X.calm=true->∀ (i:Nat) (pins:List (Addr × Obj)) (s:Shared) (σ:St) (H:Hp) (E:Value->Shared->Prop),Inv X pins σ H s->(∀ b ∈ fp,D5 X pins H b)->tn i s.heap->J.go i H->
    wpAny (model P w) X.A (pyNext (.ref it)) (fun r s1=>∃ u,r=some u /\
      wpAny (model P w) X.A (letOwnedTupleGo tg (.ref it) u) (fun _ s2=>∃ x H',Inv X pins σ H' s2 /\ RelV x u /\ J.yld i H x H' /\ tn (i + 1) s2.heap /\ ∀ b ∈ fp,H' b=none) E s1) E s
  done:∀ (X:Cx),X.prog=P->X.w=w->X.K=K->X.calm=true->∀ (i:Nat) (pins:List (Addr × Obj)) (s:Shared) (σ:St) (H:Hp) (E:Value->Shared->Prop),Inv X pins σ H s->(∀ b ∈ fp,D5 X pins H b)->tn i s.heap->J.stop i H->
    wpAny (model P w) X.A (pyNext (.ref it)) (fun r s1=>r=none /\ Inv X pins σ H s1) E s
  self:∀ (A:Around) (i:Nat) (s:Shared) (Q:Value->Shared->Prop) (E:Value->Shared->Prop),tn i s.heap->Q (.ref it) s->wpAny (model P w) A (pyIter (.ref it)) Q E s
abbrev TI:=St->Hp->(It->Hp->Prop)->Prop
def PIE (X:Cx) (pins:List (Addr × Obj)) (σ:St) (tg:Expr) (R:It->Hp->Prop) (itv:Value) (s2:Shared):Prop:=
  ∃ (it:Addr) (fp:List Addr) (tn:Nat->Heap->Prop) (J:It) (H':Hp),itv=.ref it /\ Inv X pins σ H' s2 /\ Kh X.prog X.w X.K tg J fp it tn /\ tn 0 s2.heap /\ (∀ b ∈ fp,D5 X pins H' b) /\ R J H'
def PI (X:Cx) (tg iter:Expr) (wi:TI):Prop:=
  ∀ (pins:List (Addr × Obj)) (s:Shared) (σ:St) (H:Hp) (R:It->Hp->Prop),Inv X pins σ H s->wi σ H R->
    wpAny (model X.prog X.w) X.A (eval iter X.env) (fun v s1=>wpAny (model X.prog X.w) X.A (pyIter v) (PIE X pins σ tg R) X.xe s1) X.xe s
theorem Pj {M:Model} {A:Around} {E:Value->Shared->Prop} {s:Shared} {tg:Expr} {it:Addr} {u:Value} {o:Obj} {n:String} {vs:Array Value} {Q:Unit->Shared->Prop} (ho:s.heap.get? it=some o) (hc:o.cls=.type n) (hd:o.data=.fields vs)
    (hn:["enumerate", "zip", "dict_itemiterator", "dict_reverseitemiterator", "odict_iterator", "itertools.zip_longest", "itertools.pairwise"].contains n=false) (hQ:Q () s):wpAny M A (letOwnedTupleGo tg (.ref it) u) Q E s:=by
  unfold letOwnedTupleGo
  cases tg <;> first
    | exact wpAny_pure hQ
    | (cases u <;> first
        | exact wpAny_pure hQ
        | (refine wpAny_bind (wpAny_load ho ?_)
           rw [hc,hd]
           show wpAny M A (if (["enumerate", "zip", "dict_itemiterator", "dict_reverseitemiterator", "odict_iterator", "itertools.zip_longest", "itertools.pairwise"].contains n && vs[0]? == some (rawInt _))=true then _ else _) Q E s
           rw [if_neg (by intro h; rw [hn,Bool.false_and] at h; cases h)]
           exact wpAny_pure hQ))
def Itl (K:PySem.W.Frag) (a:Addr):It:=
  ⟨fun i H=>∃ xs x,SqL K H a xs /\ xs[i]? = some x,fun i H x H'=>H'=H /\ ∀ xs,SqL K H a xs->xs[i]? = some x,fun i H=>∃ xs,SqL K H a xs /\ xs.length <= i⟩
def Itt (K:PySem.W.Frag) (a:Addr):It:=
  ⟨fun i H=>∃ xs x,SqT K H a xs /\ xs[i]? = some x,fun i H x H'=>H'=H /\ ∀ xs,SqT K H a xs->xs[i]? = some x,fun i H=>∃ xs,SqT K H a xs /\ xs.length <= i⟩
def Itr (lo:Int) (n:Nat):It:=⟨fun i _=>i < n,fun i H x H'=>H'=H /\ x=.int (lo + i),fun i _=>n <= i⟩
theorem NC {P:Program} {w:World} {K:PySem.W.Frag} {tg:Expr} (a it:Addr):Kh P w K tg (Itl K a) [it] it (fun i h=>h.IsListIter it a i) where
  mem:=by simp
  obj:=fun i h st b hb=>by
    have e:b=it:=by simpa using hb
    subst e
    obtain ⟨o,e,c,d⟩:=st
    exact ⟨o,e,fun v z=>by rw [d] at z; cases z⟩
  keep:=fun i h h' st k=>st.at fun o e=>k it (by simp) o e
  item:=by
    intro X hP hw hK hc i pins s σ H E I hf st hg
    subst hP hw hK
    obtain ⟨xs,x,hq,hx⟩:=hg
    obtain ⟨its,rv,p,hz⟩:=I.list hq
    obtain ⟨u,hu,ru⟩:=rv.get hx
    obtain ⟨f0,f1,f2,f3,f4,f5⟩:=hf it (by simp)
    refine wpAny_pyNext_list_item st p.isList (x:=u) (by simpa using hu) fun h' st' sb=>?_
    have I1:Inv X pins σ H { s with heap:=h' }:=I.turned (t':=s.toks) (fun b o hb e=>(sb.2 b hb).trans e) f0 f1 f3 f4 f5
    obtain ⟨o,e,c,d⟩:=id st'
    exact ⟨u,rfl,Pj (s:={ s with heap:=h' }) e c d (by decide) ⟨x,H,I1,ru,⟨rfl,fun ys hy=>by rw [I.list_inj hy hq]; exact hx⟩,st',fun b hb=>(hf b hb).1⟩⟩
  done:=by
    intro X hP hw hK hc i pins s σ H E I hf st hg
    subst hP hw hK
    obtain ⟨xs,hq,hx⟩:=hg
    obtain ⟨its,rv,p,hz⟩:=I.list hq
    obtain ⟨f0,f1,f2,f3,f4,f5⟩:=hf it (by simp)
    have hl:=rv.length
    exact wpAny_pyNext_list_end (I.ok.hd hc) st p.isList (by simp; omega) fun h' eb=>⟨rfl,I.turned (t':=s.toks) (fun b o hb e=>eb b o hb e) f0 f1 f3 f4 f5⟩
  self:=fun _ _ _ _ _ st h=>wpAny_pyIter_listiter st h
theorem Km {P:Program} {w:World} {K:PySem.W.Frag} {tg:Expr} (a it:Addr):Kh P w K tg (Itt K a) [it] it (fun i h=>h.IsTupleIter it a i) where
  mem:=by simp
  obj:=fun i h st b hb=>by
    have e:b=it:=by simpa using hb
    subst e
    obtain ⟨o,e,c,d⟩:=st
    exact ⟨o,e,fun v z=>by rw [d] at z; cases z⟩
  keep:=fun i h h' st k=>st.at fun o e=>k it (by simp) o e
  item:=by
    intro X hP hw hK hc i pins s σ H E I hf st hg
    subst hP hw hK
    obtain ⟨xs,x,hq,hx⟩:=hg
    obtain ⟨its,rv,p,hz⟩:=I.tuple hq
    obtain ⟨u,hu,ru⟩:=rv.get hx
    obtain ⟨f0,f1,f2,f3,f4,f5⟩:=hf it (by simp)
    refine wpAny_pyNext_tuple_item st (show s.heap.IsTuple a its.toArray from p) (x:=u) (by simpa using hu) fun h' st' sb=>?_
    have I1:Inv X pins σ H { s with heap:=h' }:=I.turned (t':=s.toks) (fun b o hb e=>(sb.2 b hb).trans e) f0 f1 f3 f4 f5
    obtain ⟨o,e,c,d⟩:=id st'
    exact ⟨u,rfl,Pj (s:={ s with heap:=h' }) e c d (by decide) ⟨x,H,I1,ru,⟨rfl,fun ys hy=>by rw [I.tuple_inj hy hq]; exact hx⟩,st',fun b hb=>(hf b hb).1⟩⟩
  done:=by
    intro X hP hw hK hc i pins s σ H E I hf st hg
    subst hP hw hK
    obtain ⟨xs,hq,hx⟩:=hg
    obtain ⟨its,rv,p,hz⟩:=I.tuple hq
    obtain ⟨f0,f1,f2,f3,f4,f5⟩:=hf it (by simp)
    have hl:=rv.length
    exact wpAny_pyNext_tuple_end (I.ok.hd hc) st (show s.heap.IsTuple a its.toArray from p) (by simp; omega) fun h' eb=>⟨rfl,I.turned (t':=s.toks) (fun b o hb e=>eb b o hb e) f0 f1 f3 f4 f5⟩
  self:=fun _ _ _ _ _ st h=>wpAny_pyIter_tupleiter st h
theorem Kn {P:Program} {w:World} {K:PySem.W.Frag} {tg:Expr} (it:Addr) (lo:Int) (n:Nat):Kh P w K tg (Itr lo n) [it] it (fun i h=>IsRangeIter h it (lo + (i:Nat) * 1) ((n:Int) - (i:Nat)) 1) where
  mem:=by simp
  obj:=fun i h st b hb=>by
    have e:b=it:=by simpa using hb
    subst e
    exact ⟨_,st,fun v z=>by
      have z':Data.fields _=Data.cell v:=z
      cases z'⟩
  keep:=fun i h h' st k=>k it (by simp) _ st
  item:=by
    intro X hP hw hK hc i pins s σ H E I hf st hg
    subst hP hw hK
    obtain ⟨f0,f1,f2,f3,f4,f5⟩:=hf it (by simp)
    have W:=Walks.range (prog:=X.prog) (w:=X.w) (I.ok.hd hc) it lo 1 n
    refine W.item i s _ _ hg st fun v h' tk hv st' kk=>?_
    obtain ⟨t,rfl⟩:=hv
    have I1:Inv X pins σ H { s with heap:=h',toks:=tk }:=I.turned (fun b o hb e=>kk b o (by simpa using hb) e) f0 f1 f3 f4 f5
    refine ⟨_,rfl,Pj (s:={ s with heap:=h',toks:=tk }) (n := "range_iterator") st' rfl rfl (by decide) ⟨.int (lo + i),H,I1,⟨t,?_⟩,⟨rfl,rfl⟩,st',fun b hb=>(hf b hb).1⟩⟩
    rw [Int.mul_one]
  done:=by
    intro X hP hw hK hc i pins s σ H E I hf st hg
    subst hP hw hK
    obtain ⟨f0,f1,f2,f3,f4,f5⟩:=hf it (by simp)
    exact wpAny_pyNext_range_end (I.ok.hd hc) st (by have:n <= i:=hg; omega) fun h' eb=>⟨rfl,I.turned (t':=s.toks) (fun b o hb e=>eb b o hb e) f0 f1 f3 f4 f5⟩
  self:=fun _ _ _ _ _ st h=>wpAny_pyIter_rangeiter st h
end L2
namespace L2
open PySem PySem.Spec PyProof.Rows
section
variable {X:Cx} {tg:Expr}
def SY (K:PySem.W.Frag) (tl:TE):TI:=fun σ H R=>tl σ H fun x H1=>∃ a,x=.ref a /\ (∃ xs,SqL K H1 a xs) /\ R (Itl K a) H1
def Ve (K:PySem.W.Frag) (tl:TE):TI:=fun σ H R=>tl σ H fun x H1=>∃ a,x=.ref a /\ (∃ xs,SqT K H1 a xs) /\ R (Itt K a) H1
theorem ML {l:Expr} {tl:TE} (hl:PE X l tl):PI X tg l (SY X.K tl):=by
  intro pins s σ H R I h
  refine thn (hl pins s σ H _ I h) fun v s1 ⟨x,H1,I1,r1,q1⟩=>?_
  obtain ⟨a,e,⟨xs,hq⟩,q⟩:=q1
  subst e
  cases r1
  obtain ⟨its,rv,p,hz⟩:=I1.list hq
  refine wpAny_pyIter_list p.isList ?_
  refine ⟨s1.heap.objs.size,[s1.heap.objs.size],_,_,H1,rfl,I1.kept (t':=s1.toks) fun b o e=>Heap.get?_push_of_some _ e,NC a _,⟨_,Heap.get?_push_size _ rfl,rfl,rfl⟩,fun b hb=>?_,q⟩
  have e:b=s1.heap.objs.size:=by simpa using hb
  subst e
  exact I1.fpOk (Nat.le_refl _) (I1.hok.fresh (Nat.le_refl _))
theorem Tt {l:Expr} {tl:TE} (hl:PE X l tl):PI X tg l (Ve X.K tl):=by
  intro pins s σ H R I h
  refine thn (hl pins s σ H _ I h) fun v s1 ⟨x,H1,I1,r1,q1⟩=>?_
  obtain ⟨a,e,⟨xs,hq⟩,q⟩:=q1
  subst e
  cases r1
  obtain ⟨its,rv,p,hz⟩:=I1.tuple hq
  refine wpAny_pyIter_tuple (show s1.heap.IsTuple a its.toArray from p) ?_
  refine ⟨s1.heap.objs.size,[s1.heap.objs.size],_,_,H1,rfl,I1.kept (t':=s1.toks) fun b o e=>Heap.get?_push_of_some _ e,Km a _,⟨_,Heap.get?_push_size _ rfl,rfl,rfl⟩,fun b hb=>?_,q⟩
  have e:b=s1.heap.objs.size:=by simpa using hb
  subst e
  exact I1.fpOk (Nat.le_refl _) (I1.hok.fresh (Nat.le_refl _))
theorem Oo {pins:List (Addr × Obj)} {σ:St} {H:Hp} {s:Shared} {R:It->Hp->Prop} {E:Value->Shared->Prop} {lo hi:Int} {t u v:Tok} {tk:Nat} (I:Inv X pins σ H s) (h1 : -(2 ^ 62) <= lo) (h2:lo < 2 ^ 62) (h3 : -(2 ^ 62) <= hi) (h4:hi < 2 ^ 62)
    (q:R (Itr lo (hi - lo).toNat) H):wpAny (model X.prog X.w) X.A (pyIter (.ref s.heap.objs.size)) (PIE X pins σ tg R) E { s with heap:=s.heap.push { cls:=.type "range",data:=.fields #[.int lo t,.int hi u,.int 1 v] },toks:=tk }:=by
  refine wpAny_pyIter_range (IsRange.new ..) (small_one h1 h2 h3 h4) ?_
  have I1:Inv X pins σ H { s with heap:=s.heap.push { cls:=.type "range",data:=.fields #[.int lo t,.int hi u,.int 1 v] },toks:=tk }:=I.kept fun b o e=>Heap.get?_push_of_some _ e
  refine ⟨(s.heap.push { cls:=.type "range",data:=.fields #[.int lo t,.int hi u,.int 1 v] }).objs.size,[(s.heap.push { cls:=.type "range",data:=.fields #[.int lo t,.int hi u,.int 1 v] }).objs.size],_,_,H,rfl,
    I1.kept (t':=tk) fun b o e=>Heap.get?_push_of_some _ e,Kn _ lo (hi - lo).toNat,?_,fun b hb=>?_,q⟩
  . have e1:lo + ((0:Nat):Int) * 1=lo:=by simp
    have e2:(((hi - lo).toNat:Nat):Int) - ((0:Nat):Int)=Builtin.Range.rangeSize lo hi 1:=by rw [rangeSize_one]; split <;> omega
    show IsRangeIter _ _ (lo + ((0:Nat):Int) * 1) ((((hi - lo).toNat:Nat):Int) - ((0:Nat):Int)) 1
    rw [e1,e2]
    exact Heap.get?_push_size _ rfl
  . have e:b=(s.heap.push { cls:=.type "range",data:=.fields #[.int lo t,.int hi u,.int 1 v] }).objs.size:=by simpa using hb
    subst e
    exact I1.fpOk (Nat.le_refl _) (I1.hok.fresh (Nat.le_refl _))
def Vf (ta:TA):TI:=fun σ H R=>ta σ H fun vs H1=>∃ j:Int,vs=[.int j] /\ -(2 ^ 62) <= j /\ j < 2 ^ 62 /\ R (Itr 0 j.toNat) H1
theorem Nb {a:Expr} {ta:TA} {p pos:Pos} (hg:Gl X "range") (hm:X.mg "range" = none) (ha:PA X [a] ta) (hs:starEach [a] X.env=[(false,eval a X.env)]:=by rfl):PI X tg (.Call (.Name "range" p) [a] [] pos) (Vf ta):=by
  intro pins s σ H R I h
  refine Call_ (Gh I hg hm boot_range (PyProof.Rows.callWith_type1 (thn (ha pos pins s σ H _ I h) fun us s1 ⟨vs,H1,I1,r1,q1⟩=>?_) hs rfl))
  obtain ⟨j,e,q1,q2,q⟩:=q1
  subst e
  cases r1 with
  | cons r rr=>
    cases rr
    obtain ⟨t,rfl⟩:=r
    exact call_range_1 (Oo I1 (by omega) (by omega) q1 q2 (by simpa using q))
def V3 (wi:TI) (g:TG) (tb:TS):TS:=fun D σ H=>wi σ H fun J H1=>∃ W:Nat->Nat->St->Hp->Prop,(∃ m,W 0 m σ H1) /\ ∀ i m σ H,W i m σ H->
  (J.stop i H /\ D.nx σ H) ∨ (J.go i H /\ ∃ N:St->Hp->Prop,(∀ σ' H',N σ' H'->∃ m',m' < m /\ W (i + 1) m' σ' H') /\ ∀ x H',J.yld i H x H'->g x σ H' fun σ2 H2=>tb { D with nx:=N,ct:=N,bk:=D.nx } σ2 H2)
def Il (fp:List Addr) (h:Heap):List (Addr × Obj):=fp.filterMap fun b=>(h.get? b).map fun o=>(b,o)
theorem A6 {fp:List Addr} {h:Heap} {b:Addr} {o:Obj} (hb:b ∈ fp) (e:h.get? b=some o):(b,o) ∈ Il fp h:=List.mem_filterMap.mpr ⟨b,hb,by rw [e]; rfl⟩
theorem Nd {fp:List Addr} {h:Heap} {p:Addr × Obj} (hp:p ∈ Il fp h):p.1 ∈ fp /\ h.get? p.1=some p.2:=by
  obtain ⟨b,hb,e⟩:=List.mem_filterMap.mp hp
  cases q:h.get? b with
  | none=>rw [q] at e; cases e
  | some o=>
    rw [q] at e
    have e':(b,o)=p:=Option.some.inj e
    subst e'
    exact ⟨hb,q⟩
theorem Inv.pinned {pins:List (Addr × Obj)} {σ:St} {H:Hp} {s:Shared} {fp:List Addr} (I:Inv X pins σ H s) (hf:∀ b ∈ fp,D5 X pins H b) (ho:∀ b ∈ fp,∃ o,s.heap.get? b=some o /\ ∀ v,o.data ≠ .cell v):Inv X (pins ++ Il fp s.heap) σ H s:=
  I.pins_of fun p hp=>(List.mem_append.mp hp).elim (fun z=>I.pin p (List.mem_append_right _ z)) fun z=>by
    obtain ⟨hb,e⟩:=Nd z
    obtain ⟨f0,f1,f2,_⟩:=hf p.1 hb
    obtain ⟨o,e',d⟩:=ho p.1 hb
    rw [e] at e'; cases e'
    exact ⟨e,f0,f1,f2,d⟩
theorem Inv.unpinned {pins pl:List (Addr × Obj)} {σ:St} {H:Hp} {s:Shared} (I:Inv X (pins ++ pl) σ H s):Inv X pins σ H s:=I.pins_of fun p hp=>I.pin p (List.mem_append_right _ (List.mem_append_left _ hp))
theorem Ox {iter:Expr} {body:List Stmt} {wi:TI} {g:TG} {tb:TS} {pos:Pos} (hp:PassesOwn (model X.prog X.w) X.A X.env X.xe) (hc:X.calm=true) (hi:PI X tg iter wi) (hg:PG X tg g) (hb:PSs X body tb)
    (hs:∀ x,foldedSetIterable iter X.env x=pure x:=by intro _; rfl):PS X (.For tg iter body [] pos) (V3 wi g tb):=by
  intro pins s σ H D I h
  refine wpAny_For (thn (hi pins s σ H _ I h) fun v s1 h1=>thn h1 fun itv s2 h2=>?_) hs
  obtain ⟨it,fp,tn,J,H2,e,I2,T,st2,f2,W,⟨m0,w0⟩,turn⟩:=h2
  subst e
  have stat:∀ {H':Hp},(∀ b ∈ fp,H' b=none)->∀ b ∈ fp,D5 X pins H' b:=fun hn b hb=>⟨hn b hb,(f2 b hb).2⟩
  refine codeAny_forLoop_any (fun n s'=>∃ i σ' H',Inv X pins σ' H' s' /\ tn i s'.heap /\ (∀ b ∈ fp,H' b=none) /\ W i n σ' H') ?_ m0 ⟨0,σ,H2,I2,st2,fun b hb=>(f2 b hb).1,w0⟩
  rintro n s3 ⟨i,σ3,H3,I3,st3,fr3,w3⟩
  rcases turn i n σ3 H3 w3 with ⟨stop,qn⟩ | ⟨go,N,hN,step⟩
  . refine wpAny_passesOwn hp (thn (T.done X rfl rfl rfl hc i pins s3 σ3 H3 X.xe I3 (stat fr3) st3 stop) fun r s4 ⟨hr,I4⟩=>?_)
    subst hr
    exact wpAny_execs_nil ⟨σ3,H3,I4,qn⟩
  . refine wpAny_passesOwn hp (thn (T.item X rfl rfl rfl hc i pins s3 σ3 H3 X.xe I3 (stat fr3) st3 go) fun r s4 ⟨u,hr,h4⟩=>?_)
    subst hr
    refine wpAny_passesOwn hp (thn h4 fun _ s5 ⟨x,H5,I5,r5,y5,st5,fr5⟩=>?_)
    have I5':=I5.pinned (stat fr5) (T.obj _ _ st5)
    refine wpAny_passesOwn hp (thn (hg _ s5 σ3 H5 x u _ I5' r5 (step x H5 y5)) fun _ s6 ⟨σ6,H6,I6,q6⟩=>?_)
    refine wpAny_passesOwn hp (thn (hb _ s6 σ6 H6 _ I6 q6) fun f s7 q7=>?_)
    have again:∀ {σ7:St} {H7:Hp},Inv X (pins ++ Il fp s5.heap) σ7 H7 s7->N σ7 H7->∃ m,m < n /\ ∃ i σ' H',Inv X pins σ' H' s7 /\ tn i s7.heap /\ (∀ b ∈ fp,H' b=none) /\ W i m σ' H':=fun {σ7 H7} I7 n7=>by
      obtain ⟨m',hm,w7⟩:=hN σ7 H7 n7
      refine ⟨m',hm,i + 1,σ7,H7,I7.unpinned,T.keep _ _ _ st5 fun b hb o e=>(I7.pin (b,o) (List.mem_append_right _ (List.mem_append_right _ (A6 hb e)))).1,fun b hb=>?_,w7⟩
      obtain ⟨o,e,d⟩:=T.obj _ _ st5 b hb
      exact (I7.pin (b,o) (List.mem_append_right _ (List.mem_append_right _ (A6 hb e)))).2.1
    cases f with
    | next=>obtain ⟨σ7,H7,I7,n7⟩:=q7; exact again I7 n7
    | cont=>obtain ⟨σ7,H7,I7,n7⟩:=q7; exact again I7 n7
    | brk=>obtain ⟨σ7,H7,I7,q7⟩:=q7; exact ⟨σ7,H7,I7.unpinned,q7⟩
    | ret v=>obtain ⟨x7,σ7,H7,I7,r7,q7⟩:=q7; exact ⟨x7,σ7,H7,I7.unpinned,r7,q7⟩
end
end L2
namespace L2
open PySem PySem.Spec PyProof.Rows
abbrev R2:=V->V->Hp->VK->Prop
def OpR (X:Cx) (f:Value->Value->Sem Value) (r:R2):Prop:=
  ∀ (pins:List (Addr × Obj)) (s:Shared) (σ:St) (H:Hp) (x y:V) (v u:Value) (Q:VK),Inv X pins σ H s->RelV x v->RelV y u->r x y H Q->
    wpAny (model X.prog X.w) X.A (f v u) (EP X pins σ Q) X.xe s
def UnR (X:Cx) (f:Value->Sem Value) (r:V->Hp->VK->Prop):Prop:=
  ∀ (pins:List (Addr × Obj)) (s:Shared) (σ:St) (H:Hp) (x:V) (v:Value) (Q:VK),Inv X pins σ H s->RelV x v->r x H Q->
    wpAny (model X.prog X.w) X.A (f v) (EP X pins σ Q) X.xe s
def BO (X:Cx) (f:Value) (r:List V->Hp->VK->Prop):Prop:=
  ∀ (pins:List (Addr × Obj)) (s:Shared) (σ:St) (H:Hp) (xs:List V) (us:List Value) (Q:VK),Inv X pins σ H s->Vals xs us->r xs H Q->
    wpAny (model X.prog X.w) X.A (call f us) (EP X pins σ Q) X.xe s
def WL (X:Cx) (r:V->Hp->(Bool->Hp->Prop)->Prop):Prop:=
  ∀ (pins:List (Addr × Obj)) (s:Shared) (σ:St) (H:Hp) (x:V) (v:Value) (Q:Bool->Hp->Prop),Inv X pins σ H s->RelV x v->r x H Q->
    wpAny (model X.prog X.w) X.A (truthy v) (TP X pins σ Q) X.xe s
def tOp (r:R2) (ta tb:TE):TE:=fun σ H Q=>ta σ H fun x H1=>tb σ H1 fun y H2=>r x y H2 Q
def tUn (r:V->Hp->VK->Prop) (ta:TE):TE:=fun σ H Q=>ta σ H fun x H1=>r x H1 Q
def rI (C:Int->Int->Prop) (g:Int->Int->V):R2:=fun x y H Q=>∃ i j,x=.int i /\ y=.int j /\ C i j /\ Q (g i j) H
def rI0 (g:Int->Int->V):R2:=fun x y H Q=>∃ i j,x=.int i /\ y=.int j /\ Q (g i j) H
def rU (g:Int->V):V->Hp->VK->Prop:=fun x H Q=>∃ i,x=.int i /\ Q (g i) H
section
variable {X:Cx} {a b c:Expr} {ta tb tc:TE} {pos:Pos}
theorem Ud (ha:PE X a ta) (hb:PE X b tb) {pins:List (Addr × Obj)} {s:Shared} {σ:St} {H:Hp} {R:V->V->Hp->Prop} (I:Inv X pins σ H s)
    (h:ta σ H fun x H1=>tb σ H1 fun y H2=>R x y H2) {Q:Value->Shared->Prop} {f:Value->Value->Sem Value}
    (hf:∀ v u s2 x y H2,Inv X pins σ H2 s2->RelV x v->RelV y u->R x y H2->wpAny (model X.prog X.w) X.A (f v u) Q X.xe s2) :
    wpAny (model X.prog X.w) X.A (eval a X.env) (fun v s₁=>wpAny (model X.prog X.w) X.A (eval b X.env) (fun u s₂=>wpAny (model X.prog X.w) X.A (f v u) Q X.xe s₂) X.xe s₁) X.xe s:=by
  refine thn (ha pins s σ H _ I h) fun v s1 ⟨x,H1,I1,r1,q1⟩=>?_
  refine thn (hb pins s1 σ H1 _ I1 q1) fun u s2 ⟨y,H2,I2,r2,q2⟩=>?_
  exact hf v u s2 x y H2 I2 r1 r2 q2
theorem VO {op:Operator} {r:R2} (ho:OpR X (binaryOp op) r) (ha:PE X a ta) (hb:PE X b tb):PE X (.BinOp a op b pos) (tOp r ta tb):=by
  intro pins s σ H Q I h
  exact wpAny_BinOp (Ud ha hb I h fun v u s2 x y H2 I2 rx ry q=>ho pins s2 σ H2 x y v u Q I2 rx ry q)
theorem VN {op:UnaryOp} {r:V->Hp->VK->Prop} (ho:UnR X (unaryOp op) r) (ha:PE X a ta):PE X (.UnaryOp op a pos) (tUn r ta):=by
  intro pins s σ H Q I h
  exact UnaryOp_ (thn (ha pins s σ H _ I h) fun v s1 ⟨x,H1,I1,r1,q1⟩=>ho pins s1 σ H1 x v Q I1 r1 q1)
theorem opI {f:Value->Value->Sem Value} {C:Int->Int->Prop} {g:Int->Int->Int}
    (rule:∀ (i j:Int) (t u:Tok) (s:Shared) (Q:Value->Shared->Prop) (E:Value->Shared->Prop),C i j->Q (.int (g i j) s.toks) { s with toks:=s.toks + 1 }->wpAny (model X.prog X.w) X.A (f (.int i t) (.int j u)) Q E s) :
    OpR X f (rI C fun i j=>.int (g i j)):=by
  intro pins s σ H x y v u Q I rx ry h
  obtain ⟨i,j,rfl,rfl,hc,q⟩:=h
  obtain ⟨t,rfl⟩:=rx
  obtain ⟨t',rfl⟩:=ry
  exact rule i j t t' s _ _ hc ⟨.int (g i j),H,I.tok _,⟨_,rfl⟩,q⟩
theorem VW {f:Value->Value->Sem Value} {g:Int->Int->Int}
    (rule:∀ (i j:Int) (t u:Tok) (s:Shared) (Q:Value->Shared->Prop) (E:Value->Shared->Prop),Q (.int (g i j) s.toks) { s with toks:=s.toks + 1 }->wpAny (model X.prog X.w) X.A (f (.int i t) (.int j u)) Q E s) :
    OpR X f (rI0 fun i j=>.int (g i j)):=by
  intro pins s σ H x y v u Q I rx ry h
  obtain ⟨i,j,rfl,rfl,q⟩:=h
  obtain ⟨t,rfl⟩:=rx
  obtain ⟨t',rfl⟩:=ry
  exact rule i j t t' s _ _ ⟨.int (g i j),H,I.tok _,⟨_,rfl⟩,q⟩
theorem UC {f:Value->Value->Sem Value} {g:Int->Int->Bool}
    (rule:∀ (i j:Int) (t u:Tok) (s:Shared) (Q:Value->Shared->Prop) (E:Value->Shared->Prop),Q (.bool (g i j)) s->wpAny (model X.prog X.w) X.A (f (.int i t) (.int j u)) Q E s) :
    OpR X f (rI0 fun i j=>.bl (g i j)):=by
  intro pins s σ H x y v u Q I rx ry h
  obtain ⟨i,j,rfl,rfl,q⟩:=h
  obtain ⟨t,rfl⟩:=rx
  obtain ⟨t',rfl⟩:=ry
  exact rule i j t t' s _ _ ⟨.bl (g i j),H,I,rfl,q⟩
def WR (i j:Int):Prop:=0 < j /\ j < 1073741824
def WQ (i j:Int):Prop:=0 <= j /\ j <= 1000000 /\ i.natAbs < 2 ^ 64
def CMul (i j:Int):Prop:=(-(2 ^ 64) < i /\ i < 2 ^ 64) ∨ (-(2 ^ 64) < j /\ j < 2 ^ 64)
theorem CMul.ok {i j:Int} (h:CMul i j):IntMulOk i j:=by
  rcases h with ⟨h1,h2⟩ | ⟨h1,h2⟩
  . exact .of_left (intBits_le_64 h1 h2)
  . exact .of_right (intBits_le_64 h1 h2)
theorem UB:OpR X (binaryOp .Add) (rI0 fun i j=>.int (i + j)):=VW fun _ _ _ _ _ _ _ q=>add_int q
theorem T3:OpR X (binaryOp .Sub) (rI0 fun i j=>.int (i - j)):=VW fun _ _ _ _ _ _ _ q=>sub_int q
theorem T7:OpR X (binaryOp .Mult) (rI CMul fun i j=>.int (i * j)):=opI fun _ _ _ _ _ _ _ hc q=>mul_int q hc.ok
theorem Rg:OpR X (binaryOp .FloorDiv) (rI WR fun i j=>.int (i / j)):=opI fun i j _ _ _ _ _ hc q=>by
  have h1:(0:Int) < j:=hc.1
  have h2:j < 1073741824:=hc.2
  exact floordiv_int (by omega) (by rw [Int.fdiv_eq_ediv_of_nonneg i (by omega)]; exact q) (.inl (PyProof.noPylong_small (by omega)))
theorem T8:OpR X (binaryOp .Mod) (rI (fun _ j=>0 < j) fun i j=>.int (i % j)):=opI fun i j _ _ _ _ _ hc q=>by
  have h1:(0:Int) < j:=hc
  exact mod_int' (by omega) (by rw [Int.fmod_eq_emod_of_nonneg i (by omega)]; exact q)
theorem T5:OpR X (binaryOp .Pow) (rI WQ fun i j=>.int (i ^ j.toNat)):=opI fun _ _ _ _ _ _ _ hc q=>pow_int_small hc.1 hc.2.1 hc.2.2 q
theorem unI {f:Value->Sem Value} {g:Int->Int}
    (rule:∀ (i:Int) (t:Tok) (s:Shared) (Q:Value->Shared->Prop) (E:Value->Shared->Prop),Q (.int (g i) s.toks) { s with toks:=s.toks + 1 }->wpAny (model X.prog X.w) X.A (f (.int i t)) Q E s) :
    UnR X f (rU fun i=>.int (g i)):=by
  intro pins s σ H x v Q I rx h
  obtain ⟨i,rfl,q⟩:=h
  obtain ⟨t,rfl⟩:=rx
  exact rule i t s _ _ ⟨.int (g i),H,I.tok _,⟨_,rfl⟩,q⟩
theorem TJ:UnR X (unaryOp .USub) (rU fun i=>.int (-i)):=unI fun _ _ _ _ _ q=>neg_int q
end
section
variable {X:Cx} {a b c:Expr} {ta tb tc:TE} {pos:Pos}
theorem LO {pins:List (Addr × Obj)} {σ:St} {H:Hp} {s:Shared} {Q:VK} {k k':Bool} (I:Inv X pins σ H s) (q:Q (.bl k) H) (e:k=k'):EP X pins σ Q (.bool k') s:=by
  subst e
  exact ⟨.bl k,H,I,rfl,q⟩
theorem VT:OpR X (compareOp .Lt) (rI0 fun i j=>.bl (decide (i < j))):=UC fun _ _ _ _ _ _ _ q=>lt_int q
theorem VU:OpR X (compareOp .Gt) (rI0 fun i j=>.bl (decide (j < i))):=UC fun _ _ _ _ _ _ _ q=>gt_int q
theorem VV:OpR X (compareOp .GtE) (rI0 fun i j=>.bl (decide (j <= i))):=UC fun _ _ _ _ _ _ _ q=>ge_int q
theorem T9:OpR X (compareOp .Is) (fun x y H Q=>y=.non /\ Q (.bl (decide (x=.non))) H):=by
  intro pins s σ H x y v u Q I rx ry h
  obtain ⟨rfl,q⟩:=h
  cases ry
  refine is_none_gen (LO I q ?_)
  cases x <;> first
    | (cases rx; rfl)
    | (obtain ⟨t,rfl⟩:=rx; rfl)
theorem Rf:OpR X (compareOp .IsNot) (fun x y H Q=>y=.non /\ Q (.bl (!decide (x=.non))) H):=by
  intro pins s σ H x y v u Q I rx ry h
  obtain ⟨rfl,q⟩:=h
  cases ry
  refine isnot_none_gen (LO I q ?_)
  cases x <;> first
    | (cases rx; rfl)
    | (obtain ⟨t,rfl⟩:=rx; rfl)
theorem Io:OpR X (compareOp .NotIn) (fun x y H Q=>∃ i j,x=.str i /\ y=.str j /\ Q (.bl (!(!(Builtin.Str.occurrences j i 0 j.length 1).isEmpty))) H):=by
  intro pins s σ H x y v u Q I rx ry h
  obtain ⟨i,j,rfl,rfl,q⟩:=h
  obtain ⟨t,rfl⟩:=rx
  obtain ⟨t',rfl⟩:=ry
  exact notIn_str (LO I q rfl)
theorem PX (b:Expr) {op:CmpOp} (h:op ≠ .In:=by decide) (h2:op ≠ .NotIn:=by decide):behindInMarks op b=false:=by
  have e1:(op == CmpOp.In)=false:=by cases op <;> first | rfl | exact absurd rfl h
  have e2:(op == CmpOp.NotIn)=false:=by cases op <;> first | rfl | exact absurd rfl h2
  cases b <;> simp [behindInMarks,e1,e2]
theorem RX {op:CmpOp} {r:R2} (ho:OpR X (compareOp op) r) (ha:PE X a ta) (hb:PE X b tb) (hm:behindInMarks op b=false):PE X (.Compare a [op] [b] pos) (tOp r ta tb):=by
  intro pins s σ H Q I h
  exact wpAny_Compare1 (Ud ha hb I h fun v u s2 x y H2 I2 rx ry q=>ho pins s2 σ H2 x y v u Q I2 rx ry q) hm
def U2 (t:TE):TT:=fun σ H Q=>t σ H fun x H'=>∃ k,x=.bl k /\ Q k H'
theorem RJ {op:CmpOp} {r:R2} (ho:OpR X (compareOp op) r) (ha:PE X a ta) (hb:PE X b tb) (hm:behindInMarks op b=false):PT X (.Compare a [op] [b] pos) (U2 (tOp r ta tb)):=by
  intro pins s σ H Q I h
  refine wpAny_isTrue_Compare1 (thn (ha pins s σ H _ I h) fun v s1 ⟨x,H1,I1,r1,q1⟩=>thn (hb pins s1 σ H1 _ I1 q1) fun u s2 ⟨y,H2,I2,r2,q2⟩=>
    thn (ho pins s2 σ H2 x y v u _ I2 r1 r2 q2) fun c s3 ⟨z,H3,I3,r3,k,e,q3⟩=>?_) hm
  subst e
  cases r3
  exact wpAny_truthy_bool ⟨H3,I3,q3⟩
def Vq (K:PySem.W.Frag) (x:V) (H:Hp) (k:Bool):Prop:=
  match x with
  | .non=>k=false
  | .bl b=>k=b
  | .int i=>k=(i != 0)
  | .str y=>y.length <= sizeLine /\ k=((y.length:Int) != 0)
  | .byt y=>y.size <= sizeLine /\ k=((y.size:Int) != 0)
  | .ref p=>(∃ xs,SqL K H p xs /\ k = !xs.isEmpty) ∨ (∃ xs,SqT K H p xs /\ k = !xs.isEmpty) ∨ ∃ kvs,H p=some (.dK kvs) /\ k = !kvs.isEmpty
  | _=>False
theorem LJ {κ:Type} {kvs:List (κ × V)} {vs:List (κ × Value)} (r:KV kvs vs):(!vs.isEmpty) = !kvs.isEmpty:=by
  cases r <;> rfl
theorem Gm {xs:List V} {its:List Value} (r:Vals xs its):(!its.toArray.isEmpty) = !xs.isEmpty:=by
  cases r <;> simp
theorem FS:(sizeLine:Nat) < 2 ^ 63:=by rw [sizeLine_eq]; decide
theorem TM:WL X (fun x H Q=>∃ k,Vq X.K x H k /\ Q k H):=by
  intro pins s σ H x v Q I rx h
  obtain ⟨k,e,q⟩:=h
  have hl:=FS
  have hs:sizeLine=16777216:=sizeLine_eq
  cases x with
  | non=>
    cases rx
    have e':k=false:=e
    subst e'
    exact truthy_none ⟨H,I,q⟩
  | bl b=>
    cases rx
    have e':k=b:=e
    subst e'
    exact wpAny_truthy_bool ⟨H,I,q⟩
  | int i=>
    obtain ⟨t,rfl⟩:=rx
    have e':k=(i != 0):=e
    subst e'
    exact PySem.P.truthy_int ⟨H,I,q⟩
  | str y=>
    obtain ⟨t,rfl⟩:=rx
    obtain ⟨hy,e'⟩:y.length <= sizeLine /\ k=((y.length:Int) != 0):=e
    subst e'
    exact PySem.P.truthy_str (by omega) ⟨H,I.tok _,q⟩
  | byt y=>
    obtain ⟨t,rfl⟩:=rx
    obtain ⟨hy,e'⟩:y.size <= sizeLine /\ k=((y.size:Int) != 0):=e
    subst e'
    exact PySem.W.truthy_bytes (by omega) ⟨H,I.tok _,q⟩
  | ref p=>
    cases rx
    have e':(∃ xs,SqL X.K H p xs /\ k = !xs.isEmpty) ∨ (∃ xs,SqT X.K H p xs /\ k = !xs.isEmpty) ∨ ∃ kvs,H p=some (.dK kvs) /\ k = !kvs.isEmpty:=e
    rcases e' with ⟨xs,hx,e'⟩ | ⟨xs,hx,e'⟩ | ⟨kvs,hx,e'⟩
    . subst e'
      obtain ⟨its,r,pl,hz⟩:=I.list hx
      have hlen:=r.length
      exact wpAny_truthy_list pl.isList (by simp only [List.size_toArray]; omega) ⟨H,I.tok _,by rw [Gm r]; exact q⟩
    . subst e'
      obtain ⟨its,r,pl,hz⟩:=I.tuple hx
      have hlen:=r.length
      exact truthy_tuple pl (by simp only [List.size_toArray]; omega) ⟨H,I.tok _,by rw [Gm r]; exact q⟩
    . subst e'
      obtain ⟨hz,hS,vs,r,m⟩:kvs.length <= sizeLine /\ (p == sysModules)=false /\ ∃ vs,KV kvs vs /\ s.heap.DictOf (Iv X.prog X.w) p vs:=I.hok p _ hx
      have hlen:kvs.length=vs.length:=Paired.length r
      exact wpAny_truthy_dict hS m (by omega) ⟨H,I.tok _,by rw [LJ r]; exact q⟩
  | _=>exact (show False from e).elim
theorem Ou (ha:PE X a ta) (he:∀ whole,isTrue a X.env whole=(do let v ← whole; standAt a.pos; holding [v] (truthy v))) :
    PT X a (fun σ H Q=>ta σ H fun x H'=>∃ k,Vq X.K x H' k /\ Q k H'):=by
  intro pins s σ H Q I h
  exact isTrue_plain (thn (ha pins s σ H _ I h) fun v s1 ⟨x,H1,I1,r1,q1⟩=>TM pins s1 σ H1 x v Q I1 r1 q1) (he _)
theorem K8:OpR X (binaryOp .Add) (fun x y H Q=>∃ i j,x=.str i /\ y=.str j /\ i.length + j.length <= sizeLine /\ Q (.str (i ++ j)) H):=by
  intro pins s σ H x y v u Q I rx ry h
  obtain ⟨i,j,rfl,rfl,hz,q⟩:=h
  obtain ⟨t,rfl⟩:=rx
  obtain ⟨t',rfl⟩:=ry
  exact add_str (fun t' tk=>⟨.str (i ++ j),H,I.tok _,⟨_,rfl⟩,q⟩) hz
theorem Fh {x:V} {us:List Value} (r:Vals [x] us):∃ u,us=[u] /\ RelV x u:=by
  cases r with
  | cons r1 r2=>cases r2; exact ⟨_,rfl,r1⟩
theorem Uz {x y:V} {us:List Value} (r:Vals [x,y] us):∃ u w',us=[u,w'] /\ RelV x u /\ RelV y w':=by
  cases r with
  | cons r1 r2=>
    cases r2 with
    | cons r3 r4=>cases r4; exact ⟨_,_,rfl,r1,r3⟩
theorem N0:BO X (.type "int") (fun xs H Q=>(∃ i,xs=[.int i] /\ Q (.int i) H) ∨ ∃ k,xs=[.bl k] /\ Q (.int (if k then 1 else 0)) H):=by
  intro pins s σ H xs us Q I r h
  rcases h with ⟨i,rfl,q⟩ | ⟨k,rfl,q⟩
  . obtain ⟨u,rfl,t,rfl⟩:=Fh r
    exact call_int_int ⟨.int i,H,I,⟨_,rfl⟩,q⟩
  . obtain ⟨u,rfl,r1⟩:=Fh r
    cases r1
    exact call_int_bool ⟨.int (if k then 1 else 0),H,I.tok _,⟨_,rfl⟩,q⟩
def WN (K:PySem.W.Frag) (x:V) (H:Hp) (n:Nat):Prop:=
  match x with
  | .str y=>y.length <= sizeLine /\ n=y.length
  | .byt y=>y.size <= sizeLine /\ n=y.size
  | .ref p=>(∃ xs,SqL K H p xs /\ n=xs.length) ∨ ∃ xs,SqT K H p xs /\ n=xs.length
  | _=>False
theorem QG:BO X (.builtin "len") (fun xs H Q=>∃ x n,xs=[x] /\ WN X.K x H n /\ Q (.int n) H):=by
  intro pins s σ H xs us Q I r h
  obtain ⟨x,n,rfl,e,q⟩:=h
  obtain ⟨u,rfl,rx⟩:=Fh r
  have hl:=FS
  have hs:sizeLine=16777216:=sizeLine_eq
  cases x with
  | str y=>
    obtain ⟨t,rfl⟩:=rx
    obtain ⟨hy,e'⟩:y.length <= sizeLine /\ n=y.length:=e
    subst e'
    exact len_str (by omega) ⟨.int _,H,I.tok _,⟨_,rfl⟩,q⟩
  | byt y=>
    obtain ⟨t,rfl⟩:=rx
    obtain ⟨hy,e'⟩:y.size <= sizeLine /\ n=y.size:=e
    subst e'
    exact PySem.W.len_bytes (by omega) ⟨.int _,H,I.tok _,⟨_,rfl⟩,q⟩
  | ref p=>
    cases rx
    have e':(∃ xs,SqL X.K H p xs /\ n=xs.length) ∨ ∃ xs,SqT X.K H p xs /\ n=xs.length:=e
    rcases e' with ⟨xs,hx,e'⟩ | ⟨xs,hx,e'⟩
    . subst e'
      obtain ⟨its,r',pl,hz⟩:=I.list hx
      have hlen:=r'.length
      exact Calls.call_len_list pl.isList (by simp only [List.size_toArray]; omega) ⟨.int xs.length,H,I.tok _,⟨_,by simp only [List.size_toArray]; rw [hlen]⟩,q⟩
    . subst e'
      obtain ⟨its,r',pl,hz⟩:=I.tuple hx
      have hlen:=r'.length
      exact len_tuple pl (by simp only [List.size_toArray]; omega) ⟨.int xs.length,H,I.tok _,⟨_,by simp only [List.size_toArray]; rw [hlen]⟩,q⟩
  | _=>exact (show False from e).elim
end
end L2
namespace L2
open PySem PySem.Spec PyProof.Rows
structure ObjM (h:Heap) (x dx C:Addr) (mA:Str->Option Value):Prop where
  obj:h.get? x=some (PySem.W.instObj C dx)
  ns:h.Ns1 dx mA
  ne:dx ≠ x
theorem Nl {h:Heap} {dx:Addr} {mA:Str->Option Value} (n:h.Ns1 dx mA):∃ od,h.get? dx=some od /\ ∀ name,PySem.W.lookIn name od=some (mA name):=by
  obtain ⟨o,es,ep,ho,hd,hk,_,hm⟩:=n
  refine ⟨o,ho,fun name=>?_⟩
  have e:=hm name
  unfold nsFind findBy at e
  rw [← Array.find?_toList] at e
  unfold PySem.W.lookIn
  rw [hd]
  dsimp only
  split
  . rename_i y q
    rw [q] at e
    exact congrArg some e
  . rename_i q
    rw [q] at e
    have a:es.toList.any (·.refKey)=false:=by
      rw [List.any_eq_false]
      intro y hy
      obtain ⟨z,t,hkey⟩:=hk y (Array.mem_toList_iff.mp hy)
      simp [DictEntry.refKey,hkey]
    have a' : ¬ es.toList.any (·.refKey)=true:=by rw [a]; exact Bool.false_ne_true
    rw [if_neg a']
    exact congrArg some e
theorem ObjM.look {h:Heap} {x dx C:Addr} {mA:Str->Option Value} (I:ObjM h x dx C mA):∃ od,PySem.W.InstAt h x (PySem.W.instObj C dx) C (some od) /\ ∀ name,PySem.W.lookIn name od=some (mA name):=
  let ⟨od,ho,hl⟩:=Nl I.ns
  ⟨od,⟨I.obj,rfl,rfl,ho⟩,hl⟩
section
variable {prog:Program} {w:World} {A:Around} {E:Value->Shared->Prop} {s:Shared} {K:PySem.W.Frag} {x dx C f:Addr} {mA:Str->Option Value} {name:Str} {v:Value}
end
section
variable {P:Program} {w:World} {H H':Hp} {h h':Heap} {a C dx:Addr} {fs fs':List (Str × V)}
theorem Rx (hok:HOk P w H h) (e:H a=some (.ins C dx fs)):∃ mA,ObjM h a dx C mA /\ (∀ f,Ul (fs.lookup f) (mA f)) /\ PySem.Within mA (fs.map (·.1)) /\ fs.length <= 1000 /\ H dx=some (.own a):=by
  obtain ⟨d,z,ne,ob,mA,n,r,q⟩:=(show ObjOk P w H h a (.ins C dx fs) from hok a _ e)
  exact ⟨mA,⟨ob,n,ne⟩,r,q,z,d⟩
end
structure Cls (K:PySem.W.Frag) (C:Addr):Prop where
  pg:PySem.W.plainGet K C Str.empty=true
  hd:PySem.W.hasDictIn K C=true
  po:PySem.W.plainOver K C=true
  sa:PySem.W.findIn K (.ref C) "__setattr__" = some (some (.builtin "object.__setattr__"))
theorem Cls.get {K:PySem.W.Frag} {C:Addr} (c:Cls K C) (f:Str):PySem.W.plainGet K C f=true:=c.pg
section
variable {X:Cx} {pins:List (Addr × Obj)} {σ:St} {H:Hp} {s:Shared} {a C dx:Addr} {fs:List (Str × V)} {f:Str} {v:V} {A:Around} {E:Value->Shared->Prop}
end
section
variable {X:Cx} {o e value:Expr} {f:Str} {pos pos' tpos:Pos} {ta tv:TE}
end
section
variable {X:Cx} {pins:List (Addr × Obj)} {σ:St} {H:Hp} {s:Shared} {A:Around} {E:Value->Shared->Prop} {Q:Value->Shared->Prop} {c:Value} {b:Bool}
inductive FG (K:PySem.W.Frag) (H:Hp):V->Value->Prop where
  | non:FG K H .non (.type "NoneType")
  | bl (x:Bool):FG K H (.bl x) (.type "bool")
  | int (i:Int):FG K H (.int i) (.type "int")
  | str (x:Str):FG K H (.str x) (.type "str")
  | flt (x:UInt64):FG K H (.flt x) (.type "float")
  | lst {a:Addr} {xs:List V} (e:H a=some (.lst xs)):FG K H (.ref a) (.type "list")
  | frz {a:Addr} {o:Obj} {xs:List V} (e:H a=some (.frz o (.lst xs))):FG K H (.ref a) (.type "list")
  | tup {a:Addr} {xs:List V} (e:H a=some (.tup xs)):FG K H (.ref a) (.type "tuple")
  | dK {a:Addr} {kvs:List (Key × V)} (e:H a=some (.dK kvs)):FG K H (.ref a) (.type "dict")
  | dT {a:Addr} {kvs:List (List Key × V)} (e:H a=some (.dT kvs)):FG K H (.ref a) (.type "dict")
  | ins {a C dx:Addr} {fs:List (Str × V)} (e:H a=some (.ins C dx fs)) (cl:Cls K C) (ha:PySem.W.findIn K (.ref C) "__class__" = some (some (.builtin "object.__class__")))
      (hn:PySem.W.specialIn K (.builtin "object.__class__") "__get__" = some (some (.builtin "getset_descriptor.__get__"))) (htk:PySem.W.takesIn K (.builtin "object.__class__")=some true)
      (hm:PySem.W.mroIn K C (.type "object")=some true):FG K H (.ref a) (.ref C)
theorem Nn {x:V} {u t:Value} (I:Inv X pins σ H s) (rx:RelV x u) (ty:FG X.K H x t) (e:PySem.W.kitOne X.K t c=some b) (h:∀ tk,Q (.bool b) { s with toks:=tk }) :
    wpAny (model X.prog X.w) A (call (.builtin "isinstance") [u,c]) Q E s:=by
  cases ty with
  | non=>cases (show u=Value.none from rx); exact PySem.W.kia_one PySem.W.kitx_none I.kIn True.intro e (fun z=>nomatch z) h
  | bl y=>cases (show u=Value.bool y from rx); exact PySem.W.kia_one PySem.W.kitx_bool I.kIn True.intro e (fun z=>nomatch z) h
  | int i=>obtain ⟨t,q⟩:=(show ∃ t,u=Value.int i t from rx); cases q; exact PySem.W.kia_one PySem.W.kitx_int I.kIn True.intro e (fun z=>nomatch z) h
  | str y=>obtain ⟨t,q⟩:=(show ∃ t,u=Value.str y t from rx); cases q; exact PySem.W.kia_one PySem.W.kitx_str I.kIn True.intro e (fun z=>nomatch z) h
  | flt y=>obtain ⟨t,q⟩:=(show ∃ t,u=Value.float y t from rx); cases q; exact PySem.W.kia_one PySem.W.kitx_float I.kIn True.intro e (fun z=>nomatch z) h
  | @lst a xs ea=>
    cases (show u=Value.ref a from rx)
    obtain ⟨_,_,n,_,h1⟩:=(show ObjOk X.prog X.w H s.heap a (.lst xs) from I.hok a _ ea)
    exact PySem.W.kia_one PySem.W.kitx_list I.kIn ⟨_,h1,rfl⟩ e (fun z=>nomatch z) h
  | @frz a ob xs ea=>
    cases (show u=Value.ref a from rx)
    obtain ⟨_,_,_,n,_,h1⟩:=(show ObjOk X.prog X.w H s.heap a (.frz ob (.lst xs)) from I.hok a _ ea)
    exact PySem.W.kia_one PySem.W.kitx_list I.kIn ⟨_,h1,rfl⟩ e (fun z=>nomatch z) h
  | @tup a xs ea=>
    cases (show u=Value.ref a from rx)
    obtain ⟨_,_,_,p⟩:=(show ObjOk X.prog X.w H s.heap a (.tup xs) from I.hok a _ ea)
    obtain ⟨o,h1,h2,_⟩:=p
    exact PySem.W.kia_one PySem.W.kitx_tuple I.kIn ⟨o,h1,h2⟩ e (fun z=>nomatch z) h
  | @dK a kvs ea=>
    cases (show u=Value.ref a from rx)
    obtain ⟨_,_,vs,_,p⟩:=(show ObjOk X.prog X.w H s.heap a (.dK kvs) from I.hok a _ ea)
    obtain ⟨o,es,ep,h1,h2,_⟩:=p
    exact PySem.W.kia_one PySem.W.kitx_dict I.kIn ⟨o,h1,h2.1⟩ e (fun z=>nomatch z) h
  | @dT a kvs ea=>
    cases (show u=Value.ref a from rx)
    obtain ⟨_,_,xs,_,o,es,ep,h1,h2,_⟩:=(show ObjOk X.prog X.w H s.heap a (.dT kvs) from I.hok a _ ea)
    exact PySem.W.kia_one PySem.W.kitx_dict I.kIn ⟨o,h1,h2.1⟩ e (fun z=>nomatch z) h
  | @ins a C dx fs ea cl ha hn htk hm=>
    cases (show u=Value.ref a from rx)
    obtain ⟨mA,O,_⟩:=Rx I.hok ea
    obtain ⟨od,J,_⟩:=O.look
    exact PySem.W.kia_one (PySem.W.kitx_own (cl.get _) cl.hd ha hn htk hm) I.kIn J e (fun z=>nomatch z) h
end
end L2
namespace L2
open PySem PySem.Spec PyProof.Rows
structure Room (k:Nat) (A:Around):Prop where
  hd:A.handled=none
  dp:A.depth + 3 * k + 5 < recursionLimit
  un:A.units + 16 * k + 200 < cLine
theorem Room.mono {j k:Nat} {A:Around} (r:Room k A) (h:j <= k):Room j A:=⟨r.hd,by have:=r.dp; omega,by have:=r.un; omega⟩
theorem Room.deeper {k:Nat} {A:Around} (r:Room (k + 1) A) (env:Env):Room k (A.deeper env):=
  ⟨r.hd,by have:=r.dp; show A.depth + 1 + 3 * k + 5 < _; omega,by have:=r.un; show A.units + 3 + 16 * k + 200 < _; omega⟩
theorem Room.depth {k:Nat} {A:Around} (r:Room k A):A.depth < recursionLimit:=by have:=r.dp; omega
theorem Room.units {k:Nat} {A:Around} (r:Room k A):A.units + 64 < cLine:=by have:=r.un; omega
def V0:TA:=fun _ H Q=>Q [] H
def U7 (ta:TE) (tr:TA):TA:=fun σ H Q=>ta σ H fun x H1=>tr σ H1 fun xs H2=>Q (x :: xs) H2
section
variable {X:Cx} {e:Expr} {es:List Expr} {te:TE} {t:TA} {pos:Pos}
theorem ET:PA X [] V0:=fun _ _ _ _ H Q I h=>Calls.spliced_nil ⟨[],H,I,.nil,h⟩
theorem DY (ha:PE X e te) (hr:PA X es t) (hs:starEach (e :: es) X.env=(false,eval e X.env) :: starEach es X.env:=by rfl):PA X (e :: es) (U7 te t):=by
  intro pos pins s σ H Q I h
  rw [hs]
  show wpAny _ _ (spliced ((false,eval e X.env) :: backTo pos (starEach es X.env))) _ _ s
  refine Calls.spliced_cons (thn (ha pins s σ H _ I h) fun u s1 ⟨x,H1,I1,r1,q1⟩=>?_)
  exact thn (hr pos pins s1 σ H1 _ I1 q1) fun us s2 ⟨xs,H2,I2,r2,q2⟩=>⟨x :: xs,H2,I2,.cons r1 r2,q2⟩
def Vw (t:TA):TE:=fun σ H Q=>t σ H fun xs H1=>xs.length <= sizeLine /\ ∀ p,H1 p=none->Q (.ref p) (upd H1 p (.tup xs))
def V1 (t:TA):TE:=fun σ H Q=>t σ H fun xs H1=>xs.length <= sizeLine /\ ∀ p,H1 p=none->Q (.ref p) (upd H1 p (.lst xs))
theorem Tw {x1} (h:PA X es t):PE X (.Tuple es x1 pos) (Vw t):=by
  intro pins s σ H Q I hq
  refine wpAny_Tuple_spliced (thn (h pos pins s σ H _ I hq) fun us s1 ⟨xs,H1,I1,r,z,q⟩=>⟨by rw [← r.length]; exact z,?_⟩)
  have hf:H1 s1.heap.objs.size=none:=I1.hok.fresh (Nat.le_refl _)
  refine ⟨.ref s1.heap.objs.size,upd H1 s1.heap.objs.size (.tup xs),I1.laid (t':=s1.toks) (fun b u e=>Heap.get?_push_of_some _ e) (Nat.le_refl _) ?_,rfl,q _ hf⟩
  exact ⟨z,us,r,⟨_,Heap.get?_push_size _ rfl,rfl,_,rfl⟩⟩
theorem O6 (h:PA X es t):PE X (.List es pos) (V1 t):=by
  intro pins s σ H Q I hq
  refine wpAny_List_spliced (thn (h pos pins s σ H _ I hq) fun us s1 ⟨xs,H1,I1,r,z,q⟩=>⟨by rw [← r.length]; exact z,?_⟩)
  have hf:H1 s1.heap.objs.size=none:=I1.hok.fresh (Nat.le_refl _)
  refine ⟨.ref s1.heap.objs.size,upd H1 s1.heap.objs.size (.lst xs),I1.laid (t':=s1.toks) (fun b u e=>Heap.get?_push_of_some _ e) (Nat.le_refl _) ?_,rfl,q _ hf⟩
  exact ⟨z,us,0,r,Heap.get?_push_size _ rfl⟩
end
abbrev Sp:=List V->Hp->VK->XK->Prop
abbrev CXT:=List Env->Hp->Shared->XK->Value->Shared->Prop
structure SK (P:Program) (w:World) (K:PySem.W.Frag) (mg:Str->Option Value) (base:Heap) (A:Around) (outer:List Env) (s:Shared) (H:Hp):Prop where
  frames:A.frames=some outer
  mod:Mod K mg base
  bs:∀ b o,base.get? b=some o->s.heap.get? b=some o /\ H b=none
  bsz:base.objs.size <= s.heap.objs.size
  funs:s.heap.FunFrames base outer
  frf:∀ b ∈ frs outer,H b=none
  hok:HOk P w H s.heap
  bare:AllBare s.gens
def CE (outer:List Env) (P:Program) (w:World) (H:Hp) (s:Shared) (Q:VK) (u:Value) (s':Shared):Prop:=
  ∃ v H',s'.os=s.os /\ AllBare s'.gens /\ Un (frs outer) [] H H' s.heap s'.heap /\ HOk P w H' s'.heap /\ RelV v u /\ Q v H'
def CR (CX:CXT) (outer:List Env) (P:Program) (w:World) (H:Hp) (s:Shared) (Q:VK) (E:XK) (r:Result) (s':Shared):Prop:=
  match r with
  | .ok (.ret u)=>CE outer P w H s Q u s'
  | .ok _=>False
  | .error e=>CX outer H s E e s'
structure FnOk (P:Program) (w:World) (K:PySem.W.Frag) (mg:Str->Option Value) (base:Heap) (CX:CXT) (k:Nat) (f:Addr) (fd:FuncData) (ps:List Str) (sp:Sp):Prop where
  len:∀ vs H Q E,sp vs H Q E->vs.length=ps.length
  run:∀ (A:Around) (outer:List Env) (s:Shared) (H:Hp) (args:Args) (us:List Value) (vs:List V) (Q:VK) (E:XK),Room k A->SK P w K mg base A outer s H->BindsTo s fd args (ps.zip us)->Vals vs us->sp vs H Q E->
    codeAny (model P w) A (.call (.ref f) args) (CR CX outer P w H s Q E) s
theorem FnOk.mono {P:Program} {w:World} {K:PySem.W.Frag} {mg:Str->Option Value} {base:Heap} {CX:CXT} {j k:Nat} {f:Addr} {fd:FuncData} {ps:List Str} {sp:Sp} (F:FnOk P w K mg base CX j f fd ps sp) (h:j <= k) :
    FnOk P w K mg base CX k f fd ps sp:=⟨F.len,fun A outer s H args us vs Q E hr=>F.run A outer s H args us vs Q E (hr.mono h)⟩
theorem FnOk.imp {P:Program} {w:World} {K:PySem.W.Frag} {mg:Str->Option Value} {base:Heap} {CX:CXT} {k:Nat} {f:Addr} {fd:FuncData} {ps:List Str} {sp sp':Sp} (F:FnOk P w K mg base CX k f fd ps sp)
    (h:∀ vs H Q E,sp' vs H Q E->sp vs H Q E):FnOk P w K mg base CX k f fd ps sp':=
  ⟨fun vs H Q E q=>F.len vs H Q E (h _ _ _ _ q),fun A outer s H args us vs Q E hr he hb hv hs=>F.run A outer s H args us vs Q E hr he hb hv (h _ _ _ _ hs)⟩
section
variable {X:Cx} {pins:List (Addr × Obj)} {σ:St} {H:Hp} {s s':Shared}
theorem Inv.env0 (I:Inv X pins σ H s):SK X.prog X.w X.K X.mg X.base X.A X.stack s H:=
  ⟨I.ok.frames,I.ok.mod,I.bs,Nat.le_trans I.ok.bsz I.sz,I.stack,I.stkFree,I.hok,I.bare⟩
theorem Inv.after {Q:VK} {u:Value} (I:Inv X pins σ H s) (h:CE X.stack X.prog X.w H s Q u s'):EP X pins σ Q u s':=by
  obtain ⟨v,H',os,bare,un,hok,r,q⟩:=h
  obtain ⟨hh,g,d,t,os'⟩:=s'
  obtain rfl:os'=s.os:=os
  exact ⟨v,H',I.call (h':=hh) (g':=g) (d':=d) (t':=t) (ch:=[]) un hok bare (fun b z=>absurd z (by simp)),r,q⟩
end
def U8 (sp:Sp) (dvs:List V) (E:XK) (t:TA):TE:=fun σ H Q=>t σ H fun vs H1=>sp (vs ++ dvs) H1 Q E
def Binds (K:PySem.W.Frag) (fd:FuncData) (ps:List Str) (ds:List Value):Prop:=
  ∀ (s:Shared) (us:List Value),K.In s.heap->(us ++ ds).length=ps.length->BindsTo s fd ⟨us,[]⟩ (ps.zip (us ++ ds))
theorem Binds.all {K:PySem.W.Frag} {fd:FuncData} {ps:List Str} (h:∀ us:List Value,us.length=ps.length->bindArgs fd ⟨us,[]⟩=pure (ps.zip us)):Binds K fd ps []:=fun s us _ hl=>by
  rw [List.append_nil] at hl ⊢
  exact .of_eq (h us hl)
def Le (CX:CXT) (X:Cx) (E:XK):Prop:=∀ (pins:List (Addr × Obj)) (σ:St) (H:Hp) (s:Shared) (e:Value) (s':Shared),Inv X pins σ H s->CX X.stack H s E e s'->X.xe e s'
section
variable {X:Cx} {CX:CXT} {k:Nat} {f C:Addr} {fd:FuncData} {ps:List Str} {sp:Sp} {dvs:List V} {ds:List Value} {E:XK} {x m:Str} {p pos apos:Pos} {e o:Expr} {es:List Expr} {ta:TE} {t:TA}
theorem Td {pins:List (Addr × Obj)} {σ:St} {H:Hp} {s:Shared} {Q:VK} {us:List Value} {vs:List V} (F:FnOk X.prog X.w X.K X.mg X.base CX k f fd ps sp) (hr:Room k X.A) (hb:Binds X.K fd ps ds) (hd:Vals dvs ds) (hx:Le CX X E)
    (I:Inv X pins σ H s) (r:Vals vs us) (h:sp (vs ++ dvs) H Q E):wpAny (model X.prog X.w) X.A (call (.ref f) us) (EP X pins σ Q) X.xe s:=by
  have r2:Vals (vs ++ dvs) (us ++ ds):=r.append hd
  have hl:(us ++ ds).length=ps.length:=by rw [← r2.length]; exact F.len _ _ _ _ h
  refine wpAny_call (codeAny_mono (F.run X.A X.stack s H ⟨us,[]⟩ (us ++ ds) (vs ++ dvs) Q E hr I.env0 (hb s us I.kIn hl) r2 h) fun r s' hq=>?_)
  cases r with
  | error e=>exact hx pins σ H s e s' I hq
  | ok fl=>
    cases fl with
    | ret u=>exact I.after hq
    | next=>exact False.elim hq
    | brk=>exact False.elim hq
    | cont=>exact False.elim hq
theorem RY (F:FnOk X.prog X.w X.K X.mg X.base CX k f fd ps sp) (hr:Room k X.A) (hg:Gl X x) (hm:X.mg x=some (.ref f)) (hk:PySem.W.keepIn X.K (.ref f)=true) (hb:Binds X.K fd ps ds) (hd:Vals dvs ds) (hx:Le CX X E)
    (ha:PA X (e :: es) t) (hdb:(x == ("__debug__" : Str))=false:=by decide) (he:starEach (e :: es) X.env=(false,eval e X.env) :: starEach es X.env:=by rfl) (hpl:(backTo pos (starEach es X.env)).any (·.1)=false:=by rfl) :
    PE X (.Call (.Name x p) (e :: es) [] pos) (U8 sp dvs E t):=by
  intro pins s σ H Q I h
  refine wpAny_Call_Name_kw (MW I hg hm ?_ hdb)
  refine PySem.W.callWith_K (h₀:=X.base) I.ok.mod.kin hk (thn (ha pos pins s σ H _ I h) fun us s1 ⟨vs,H1,I1,r,q⟩=>⟨I1.kIn,?_⟩) he hpl
  exact Td F hr hb hd hx I1 r q
end
section
variable {X:Cx} {CX:CXT} {k:Nat} {f C:Addr} {fd:FuncData} {ps ks:List Str} {sp:Sp} {E:XK} {x m:Str} {p pos apos kpos:Pos} {e o:Expr} {es:List Expr} {kws:List Keyword} {te ta:TE} {t tk:TA} {nm:Option Str}
variable {g:List Value->List Value->List Value} {gV:List V->List V->List V}
end
structure Ac (N P:List Str) (sc:Scope):Prop where
  kind:sc.kind=.function
  co:sc.isCoroutine=false
  gen:sc.isGenerator=false
  nd:N.Nodup
  pre:N.take P.length=P
  par:∀ x ∈ P,sc.names.lookup x=some .local ∨ sc.names.lookup x=some .cell
  nofree:∀ y ∈ sc.names,y.2 ≠ .free
theorem IF {kindOf:Str->Option NameKind} {x:Str}:∀ {binds:List (Str × Value)} {m:Str->Option Value},(∀ v,(x,v) ∉ binds)->bindL kindOf binds m x=m x
  | [],_,_=>rfl
  | (n,v) :: r,m,h=>by
    unfold bindL
    rw [IF fun w hw=>h w (List.mem_cons_of_mem _ hw)]
    split
    . have:x ≠ n:=by rintro rfl; exact h v List.mem_cons_self
      simp [this]
    . rfl
theorem IH {kindOf:Str->Option NameKind} {x:Str}:∀ {binds:List (Str × Value)} {m:Str->Option Value},(∀ v,(x,v) ∉ binds)->bindC kindOf binds m x=m x
  | [],_,_=>rfl
  | (n,v) :: r,m,h=>by
    unfold bindC
    rw [IH fun w hw=>h w (List.mem_cons_of_mem _ hw)]
    split
    . rfl
    . have:x ≠ n:=by rintro rfl; exact h v List.mem_cons_self
      simp [this]
theorem IG {kindOf:Str->Option NameKind} {x:Str} {v:Value}:∀ {P:List Str} {vs:List Value} {i:Nat} {m:Str->Option Value},P.Nodup->P[i]? = some x->vs[i]? = some v->kindOf x=some .local->
    bindL kindOf (P.zip vs) m x=some v
  | [],_,_,_,_,h,_,_=>by simp at h
  | _ :: _,[],_,_,_,_,h,_=>by simp at h
  | p :: P,w :: vs,0,m,nd,h1,h2,hk=>by
    simp at h1 h2; subst h1; subst h2
    show bindL kindOf ((p,w) :: P.zip vs) m p=_
    unfold bindL
    rw [IF fun v hv=>(List.nodup_cons.mp nd).1 (List.of_mem_zip hv).1,if_pos hk]
    simp
  | p :: P,w :: vs,i + 1,m,nd,h1,h2,hk=>by
    show bindL kindOf ((p,w) :: P.zip vs) m x=_
    unfold bindL
    exact IG (i:=i) (List.nodup_cons.mp nd).2 (by simpa using h1) (by simpa using h2) hk
theorem II {kindOf:Str->Option NameKind} {x:Str} {v:Value}:∀ {P:List Str} {vs:List Value} {i:Nat} {m:Str->Option Value},P.Nodup->P[i]? = some x->vs[i]? = some v->kindOf x ≠ some .local->
    bindC kindOf (P.zip vs) m x=some v
  | [],_,_,_,_,h,_,_=>by simp at h
  | _ :: _,[],_,_,_,_,h,_=>by simp at h
  | p :: P,w :: vs,0,m,nd,h1,h2,hk=>by
    simp at h1 h2; subst h1; subst h2
    show bindC kindOf ((p,w) :: P.zip vs) m p=_
    unfold bindC
    rw [IH fun v hv=>(List.nodup_cons.mp nd).1 (List.of_mem_zip hv).1,if_neg hk]
    simp
  | p :: P,w :: vs,i + 1,m,nd,h1,h2,hk=>by
    show bindC kindOf ((p,w) :: P.zip vs) m x=_
    unfold bindC
    exact II (i:=i) (List.nodup_cons.mp nd).2 (by simpa using h1) (by simpa using h2) hk
def start (N:List Str) (vs:List V):St:=vs.map some ++ List.replicate (N.length - vs.length) none
def Bb (CX:CXT) (P:Program) (w:World) (K:PySem.W.Frag) (mg:Str->Option Value) (base:Heap) (N:List Str) (qual:Str) (scope:Scope) (f:Addr) (cd:Value) (A:Around) (outer:List Env) (s:Shared) (H:Hp) (E:XK):Cx where
  prog:=P
  w:=w
  K:=K
  mg:=mg
  base:=base
  A:=A.deeper (envOfC qual scope s.heap.objs.size f cd)
  N:=N
  s₀:=s
  H₀:=H
  env:=envOfC qual scope s.heap.objs.size f cd
  outer:=outer
  stack:=envOfC qual scope s.heap.objs.size f cd :: outer
  ex:=[]
  calm:=true
  fn:=fun _=>true
  pn:=[]
  xe:=fun e s'=>wpAny (model P w) (A.deeper (envOfC qual scope s.heap.objs.size f cd)) (leaving (envOfC qual scope s.heap.objs.size f cd) e) (fun _ s''=>CX outer H s E e s'') (fun e' s''=>CX outer H s E e' s'') s'
theorem KQ {sc:Scope} {n:Nat} {x:Str} (h:sc.names.lookup x=some .cell):∃ c,(cellsFrom n sc.names []).lookup x=some c:=by
  have q:=PySem.W.cellsFrom_some sc.names n [] (.inl h)
  exact Option.isSome_iff_exists.mp q
theorem No {CX:CXT} {P:Program} {w:World} {K:PySem.W.Frag} {mg:Str->Option Value} {base:Heap} {N ps:List Str} {qual:Str} {scope:Scope} {f:Addr} {cd:Value} {A:Around} {outer:List Env} {s s1:Shared} {H:Hp} {E:XK} {us:List Value} {vs:List V}
    (S:Ac N ps scope) (hd:A.handled=none) (e0:SK P w K mg base A outer s H) (hl:vs.length=ps.length) (r:Vals vs us)
    (x:InCallC s s.heap.objs.size (bindL (envOfC qual scope s.heap.objs.size f cd).kindOf (ps.zip us) fun _=>none) (cellsFrom (s.heap.objs.size + 1) scope.names []) (bindC (envOfC qual scope s.heap.objs.size f cd).kindOf (ps.zip us) fun _=>none) s1) :
    Inv (Bb CX P w K mg base N qual scope f cd A outer s H E) [] (start N vs) H s1:=by
  have hpl:ps.length <= N.length:=by have:=congrArg List.length S.pre; rw [List.length_take] at this; omega
  obtain ⟨h1,tk,rfl,hk⟩:=x.done
  have noA:∀ b:Addr,b ∉ (Bb CX P w K mg base N qual scope f cd A outer s H E).ex:=fun b z=>absurd (show b ∈ ([]:List Addr) from z) (by simp)
  refine ⟨⟨e0.mod,S.kind,rfl,rfl,Nat.le_refl _,fun y z c h1 h2=>?_,fun y hy=>?_,fun y c _ h=>?_,fun _=>hd,Around.frames_deeper e0.frames,.inr ⟨rfl,rfl⟩,fun b z=>absurd z (noA b),e0.bs,e0.bsz,fun b _ _=>noA b,fun b z=>absurd z (noA b),e0.funs,e0.frf⟩,
    rfl,e0.bare,Un.kept hk,⟨_,x.toInCall.ns,fun i y v h1 h2 h3=>?_⟩,fun y c h=>⟨_,x.cell y c h⟩,e0.hok.fresh (Nat.le_refl _),fun y c h=>?_,fun p hp=>absurd (show p ∈ ([]:List (Addr × Obj)) from hp) (by simp),e0.hok.kept hk,?_⟩
  . exact name_of_addr x.apart (PySem.mem_of_lookup h1) (PySem.mem_of_lookup h2)
  . have hy:scope.names.lookup y=some .cell ∨ scope.names.lookup y=some .free:=hy
    rcases hy with hy | hy
    . exact KQ hy
    . exact absurd rfl (S.nofree _ (PySem.mem_of_lookup hy))
  . exact Nat.le_of_lt (x.above y c (PySem.mem_of_lookup h))
  . have hi:i < vs.length:=by
      unfold start at h2
      by_cases hi:i < vs.length
      . exact hi
      . rw [List.getElem?_append_right (by simpa using hi)] at h2
        rw [List.getElem?_replicate] at h2
        split at h2 <;> cases h2
    have ha:vs[i]? = some v:=by
      unfold start at h2
      rw [List.getElem?_append_left (by simpa using hi),List.getElem?_map] at h2
      cases e:vs[i]? with
      | none=>rw [e] at h2; cases h2
      | some a=>rw [e] at h2; cases h2; rfl
    obtain ⟨u,hu,rv⟩:=r.get ha
    have hp:ps[i]? = some y:=by
      rw [← S.pre,List.getElem?_take_of_lt (by omega)]; exact h1
    have ndP:ps.Nodup:=by rw [← S.pre]; exact S.nd.sublist (List.take_sublist _ _)
    refine ⟨u,rv,?_⟩
    rcases S.par y (List.mem_of_getElem? hp) with k | k
    . exact .inl ⟨k,IG ndP hp hu k⟩
    . obtain ⟨c,e⟩:=KQ (n:=s.heap.objs.size + 1) k
      refine .inr ⟨.inl k,c,e,?_⟩
      have q:=x.cell y c e
      rw [II ndP hp hu (by show scope.names.lookup y ≠ _; rw [k]; decide)] at q
      exact q
  . exact e0.hok.fresh (Nat.le_of_lt (x.above y c (PySem.mem_of_lookup h)))
  . unfold start
    show _=N.length
    rw [List.length_append,List.length_map,List.length_replicate]
    omega
theorem Vh {CX:CXT} {P:Program} {w:World} {K:PySem.W.Frag} {mg:Str->Option Value} {base:Heap} {k:Nat} {f:Addr} {name qual:Str} {params:Arguments} {body:List Stmt} {scope:Scope} {dV kV doc pm cdv ct oc:Value} {an od:Option Addr}
    {osl:Array (Option Value)} {N ps:List Str} {sp:Sp} (lk:K.lookup f=some ⟨oc,od,.func (PySem.W.fnOf name qual params body scope dV kV doc pm an cdv ct),osl⟩) (hcd:PySem.W.codeIn K cdv qual=true) (S:Ac N ps scope)
    (len:∀ vs H Q E,sp vs H Q E->vs.length=ps.length)
    (hbody:∀ (A:Around) (outer:List Env) (s:Shared) (H:Hp) (vs:List V) (Q:VK) (E:XK),Room k (A.deeper (envOfC qual scope s.heap.objs.size f cdv))->sp vs H Q E->
      ∃ t,PSs (Bb CX P w K mg base N qual scope f cdv A outer s H E) body t /\ t { nx:=fun _ H'=>Q .non H',rt:=Q } (start N vs) H) :
    FnOk P w K mg base CX (k + 1) f (PySem.W.fnOf name qual params body scope dV kV doc pm an cdv ct) ps sp:=by
  refine ⟨len,fun A outer s H args us vs Q E hr e0 hb r hsp=>?_⟩
  have hl:=len _ _ _ _ hsp
  have KX:K.In s.heap:=e0.mod.kin.keeps fun b o e=>(e0.bs b o e).1
  have lim:s.heap.NoLimit:=e0.mod.nolimit.keeps fun b o e=>(e0.bs b o e).1
  have hkind:∀ y ∈ ps.zip us,scope.names.lookup y.1=some .local ∨ (scope.names.lookup y.1=some .cell /\ ((cellsFrom (s.heap.objs.size + 1) scope.names []).lookup y.1).isSome=true):=fun ⟨n,v⟩ hy=>by
    rcases S.par n (List.of_mem_zip hy).1 with q | q
    . exact .inl q
    . exact .inr ⟨q,PySem.W.cellsFrom_some _ _ _ (.inl q)⟩
  refine codeAny_call_function hr.depth (KX _ _ lk) rfl S.co S.gen rfl (PySem.W.codeRec_of KX hcd) (hb _ _ _ _ ?_)
  refine wpAny_newFunctionEnv_cells S.kind hkind fun env he s1 x=>?_
  subst he
  refine ⟨lim.keeps x.toInCall.keep,codeAny_func ?_⟩
  obtain ⟨t,ht,hq⟩:=hbody A outer s H vs Q E (hr.deeper _) hsp
  have I:Inv (Bb CX P w K mg base N qual scope f cdv A outer s H E) [] (start N vs) H s1:=No S hr.hd e0 hl r x
  refine wpAny_mono (ht [] s1 (start N vs) H _ I hq) (fun fl s' hs=>?_) fun e s' hs=>hs
  have fin:∀ {σ':St} {H':Hp} {v:V} {u:Value},Inv (Bb CX P w K mg base N qual scope f cdv A outer s H E) [] σ' H' s'->RelV v u->Q v H'->CE outer P w H s Q u s':=
    fun {σ' H' v u} J rv q=>⟨v,H',J.os,J.bare,J.base,J.hok,rv,q⟩
  cases fl with
  | ret u=>
    obtain ⟨v,σ',H',J,rv,q⟩:=hs
    exact fin J rv q
  | next=>
    obtain ⟨σ',H',J,q⟩:=hs
    exact fin (v:=V.non) (u:=Value.none) J rfl q
  | brk=>
    obtain ⟨_,_,_,q⟩:=hs
    exact False.elim q
  | cont=>
    obtain ⟨_,_,_,q⟩:=hs
    exact False.elim q
end L2
namespace L2
open PySem PySem.Spec PyProof.Rows
section
variable {X:Cx} {x:Str} {p pos:Pos} {e:Expr} {es:List Expr} {t:TA} {id T:String} {r:List V->Hp->VK->Prop}
def tCB (r:List V->Hp->VK->Prop) (t:TA):TE:=fun σ H Q=>t σ H fun vs H1=>r vs H1 Q
theorem GX (hc:BO X (.builtin id) r) (hg:Gl X x) (hm:X.mg x=none) (hv:bootBuiltins x=some (.builtin id)) (ha:PA X (e :: es) t) (hn:x ≠ "__name__" := by decide) (hdb:(x == ("__debug__" : Str))=false:=by decide)
    (he:starEach (e :: es) X.env=(false,eval e X.env) :: starEach es X.env:=by rfl) (hpl:(backTo pos (starEach es X.env)).any (·.1)=false:=by rfl):PE X (.Call (.Name x p) (e :: es) [] pos) (tCB r t):=by
  intro pins s σ H Q I h
  refine wpAny_Call_Name_kw (Gh I hg hm hv ?_ hn hdb)
  exact PyProof.Rows.callWith_builtin1 (thn (ha pos pins s σ H _ I h) fun us s1 ⟨vs,H1,I1,r1,q1⟩=>hc pins s1 σ H1 vs us Q I1 r1 q1) he hpl
theorem DJ (hc:BO X (.type T) r) (hg:Gl X x) (hm:X.mg x=none) (hv:bootBuiltins x=some (.type T)) (ha:PA X (e :: es) t) (hn:x ≠ "__name__" := by decide) (hdb:(x == ("__debug__" : Str))=false:=by decide)
    (he:starEach (e :: es) X.env=(false,eval e X.env) :: starEach es X.env:=by rfl) (hpl:(backTo pos (starEach es X.env)).any (·.1)=false:=by rfl):PE X (.Call (.Name x p) (e :: es) [] pos) (tCB r t):=by
  intro pins s σ H Q I h
  refine wpAny_Call_Name_kw (Gh I hg hm hv ?_ hn hdb)
  exact PyProof.Rows.callWith_type1 (thn (ha pos pins s σ H _ I h) fun us s1 ⟨vs,H1,I1,r1,q1⟩=>hc pins s1 σ H1 vs us Q I1 r1 q1) he hpl
end
end L2
namespace HT
open PySem PyProof.Rows
def B5:List Int->List Int->Bool
  | [],[]=>false
  | [],_ :: _=>true
  | _ :: _,[]=>false
  | x :: xs,y :: ys=>if x=y then B5 xs ys else decide (x < y)
theorem BG (x y:Int) (xs ys:List Int):B5 (x :: xs) (y :: ys)=if x=y then B5 xs ys else decide (x < y):=rfl
theorem HS:B5 [] []=false:=rfl
theorem Gf (y:Int) (ys:List Int):B5 [] (y :: ys)=true:=rfl
theorem Gg (x:Int) (xs:List Int):B5 (x :: xs) []=false:=rfl
theorem Pw (A:Around) (s:Shared) (a:Int) (t:Tok) (c:Int) (u:Tok):∃ e,SeqAt.EqAt A s (.int a t) (.int c u) e /\ (e=true ↔ a=c):=
  ⟨(a == c),SeqAt.EqAt.int_int a t c u,by simp⟩
theorem On (A:Around) (s:Shared) (a:Int) (t:Tok) (c:Int) (u:Tok) (prog:Program) (w:World) (E:Value->Shared->Prop) (Q:Value->Shared->Prop) (h:Q (.bool (decide (a < c))) s) :
    wpAny (model prog w) A (richCompare .Lt (.int a t) (.int c u)) Q E s:=
  (PyProof.Rows.lt_int h:wpAny (model prog w) A (compareOp .Lt (.int a t) (.int c u)) Q E s)
section
open PySem.SeqAt
open PySem.AutoSeq1 (wpAny_loadPart')
open PySem.MeetsSeq PySem.MeetsSeq2 PySem.MeetsSeq3
theorem HJ (l b:Addr) (items items2:Array Value) (n n2:Nat) (dd dd2:Option Addr) (sl sl2:Array (Option Value)) (ns ms:List Int) (hi:IntsAre items.toList ns) (hj:IntsAre items2.toList ms) :
    Meets (Builtin.«tuple.__lt__» ⟨[.ref l,.ref b],[]⟩)
      (fun _ R s=>s.heap.get? l=some { cls:=.type "tuple",dict:=dd,data:=.seq items n,slots:=sl } /\ s.heap.get? b=some { cls:=.type "tuple",dict:=dd2,data:=.seq items2 n2,slots:=sl2 } /\
        R (.ok (.ret (.bool (B5 ns ms)))) s):=
  .of_wp fun prog w A R s h=>by
    obtain ⟨hp,g,d,tk,os⟩:=s; obtain ⟨hl,hb,h⟩:=h
    have f2:=AutoSeq1.sub_tuple_tuple
    have z1:items.size=ns.length:=by rw [← hi.length]; simp
    have z2:items2.size=ms.length:=by rw [← hj.length]; simp
    wp_walk using wpAny_loadPart' hl,wpAny_loadPart' hb,wpAny_forIn_list _ (fun rest b s'=>b.1=none /\ s'=⟨hp,g,d,tk,os⟩ /\ ∃ (vs ws:List Value) (ns' ms':List Int),rest=vs.zip ws /\
      IntsAre vs ns' /\ IntsAre ws ms' /\ ns'.length + items2.size=ms'.length + items.size /\ R (.ok (.ret (.bool (B5 ns' ms')))) ⟨hp,g,d,tk,os⟩) _
    case turn=>
      rintro ⟨y,x⟩ rest b s' ⟨hb',rfl,vs,ws,ns',ms',hz,hvi,hwi,hlen,hR⟩
      cases hvi with
      | nil=>rw [List.zip_nil_left] at hz; cases hz
      | cons a t hvi'=>
        cases hwi with
        | nil=>rw [List.zip_nil_right] at hz; cases hz
        | cons c u hwi'=>
          rw [List.zip_cons_cons] at hz
          injection hz with hyx hrest
          injection hyx with hy hx
          subst hy hx
          rw [BG] at hR
          simp only [List.length_cons] at hlen
          obtain ⟨e,he,hiff⟩:=Pw A.in1 ⟨hp,g,d,tk,os⟩ a t c u
          refine wpAny_bind (he prog w _ _ ?_)
          cases e with
          | true=>
            rw [if_pos (hiff.mp rfl)] at hR
            wp_walk
            exact ⟨rfl,rfl,_,_,_,_,hrest,hvi',hwi',by omega,hR⟩
          | false=>
            rw [if_neg (fun q=>absurd (hiff.mpr q) Bool.false_ne_true)] at hR
            have hri:=On A.in1 ⟨hp,g,d,tk,os⟩ a t c u prog w
            wp_walk using hri
            exact ⟨_,rfl,by simpa using hR⟩
    case fin=>
      rintro ⟨b1,b2⟩ s' ⟨hb',rfl,vs,ws,ns',ms',hz,hvi,hwi,hlen,hR⟩
      simp only at hb'
      subst hb'
      have hv:B5 ns' ms'=decide (items.size < items2.size):=by
        cases hvi with
        | nil=>
          cases hwi with
          | nil=>
            simp only [List.length_nil] at hlen
            rw [HS]
            exact (decide_eq_false (by omega)).symm
          | cons c u hw=>
            simp only [List.length_nil,List.length_cons] at hlen
            rw [Gf]
            exact (decide_eq_true (by omega)).symm
        | cons a t hv=>
          cases hwi with
          | nil=>
            simp only [List.length_nil,List.length_cons] at hlen
            rw [Gg]
            exact (decide_eq_false (by omega)).symm
          | cons c u hw=>
            rw [List.zip_cons_cons] at hz
            cases hz
      rw [hv] at hR
      wp_walk
      exact ⟨_,rfl,by simpa [Builtin.Tuple.tupleCompareSizes] using hR⟩
    case h=>
      exact ⟨rfl,rfl,items.toList,items2.toList,ns,ms,rfl,hi,hj,by omega,h⟩
end
section
variable {prog:Program} {w:World} {A:Around} {E:Value->Shared->Prop} {s:Shared}
theorem LD {l b:Addr} {items items2:Array Value} {ns ms:List Int} {Q:Value->Shared->Prop} (hl:IsTup s.heap l items) (hb:IsTup s.heap b items2) (hi:IntsAre items.toList ns) (hj:IntsAre items2.toList ms)
    (hu:A.units < cLine) (h:Q (.bool (B5 ns ms)) s):wpAny (model prog w) A (compareOp .Lt (.ref l) (.ref b)) Q E s:=by
  obtain ⟨⟨cls,dd,data,sl⟩,ho,hc,n,hd⟩:=id hl
  obtain ⟨⟨cls2,dd2,data2,sl2⟩,ho2,hc2,n2,hd2⟩:=id hb
  simp only at hc hd hc2 hd2
  subst hc hd hc2 hd2
  exact richCompare_meets_room (op:=.Lt) ⟨_,ho,rfl⟩ ⟨_,ho2,rfl⟩ PySem.F.slot_tuple_lt PySem.F.entry_tuple_lt (PySem.F.args_tuple_lt_2 _ _) (HJ l b items items2 n n2 dd dd2 sl sl2 ns ms hi hj)
    ⟨ho,ho2,show Value.bool (B5 ns ms) ≠ Value.notImplemented /\ Q (.bool (B5 ns ms)) s from ⟨(fun x=>nomatch x),h⟩⟩ hu
theorem SC {t b:Addr} {vs ws:List Value} {Q:Value->Shared->Prop} (ht:IsTup s.heap t vs.toArray) (hb:IsTup s.heap b ws.toArray) (hv:vs ≠ [])
    (h1:ws=[]->Q (.ref t) s) (h2:ws ≠ []->Q (.ref s.heap.objs.size) { s with heap:=s.heap.push { cls:=.type "tuple",data:=.seq (vs ++ ws).toArray } })
    (hsz:vs.length + ws.length <= sizeLine):wpAny (model prog w) A (binaryOp .Add (.ref t) (.ref b)) Q E s:=by
  obtain ⟨⟨cls,dd,data,sl⟩,ho,hc,n,hd⟩:=id ht
  obtain ⟨⟨cls2,dd2,data2,sl2⟩,ho2,hc2,n2,hd2⟩:=id hb
  simp only at hc hd hc2 hd2
  subst hc hd hc2 hd2
  have e:vs.toArray ++ ws.toArray=(vs ++ ws).toArray:=by simp
  by_cases hw:ws=[]
  . exact concat_meets ⟨_,ho,rfl⟩ ⟨_,ho2,rfl⟩ noFill_tuple_add seq_tuple_add PySem.F.slot_tuple_add PySem.F.entry_tuple_add (PySem.F.args_tuple_add_2 _ _)
      (tuple_addW1 t b vs.toArray ws.toArray n n2 dd dd2 sl sl2 (by simpa using hv) (by simp [hw])) ⟨ho,ho2,h1 hw⟩
  . refine concat_meets ⟨_,ho,rfl⟩ ⟨_,ho2,rfl⟩ noFill_tuple_add seq_tuple_add PySem.F.slot_tuple_add PySem.F.entry_tuple_add (PySem.F.args_tuple_add_2 _ _)
      (tuple_addW2 t b vs.toArray ws.toArray n n2 dd dd2 sl sl2 (by simpa using hv) (by simpa using hw) (by rw [List.size_toArray,List.size_toArray]; exact hsz)) ⟨ho,ho2,?_⟩
    rw [e]
    exact h2 hw
def sIx (n d:Nat):Option Int->Nat
  | none=>d
  | some v=>if v < 0 then (v + (n:Int)).toNat else min v.toNat n
theorem Jh (n d:Nat):sIx n d none=d:=rfl
theorem IZ (n d k:Nat):sIx n d (some (k:Int))=min k n:=by
  show (if (k:Int) < 0 then ((k:Int) + (n:Int)).toNat else min (k:Int).toNat n)=min k n
  rw [if_neg (by omega),Int.toNat_natCast]
theorem Tb (n d:Nat) (hd:d <= n) (o:Option Int):sIx n d o <= n:=by
  cases o with
  | none=>exact hd
  | some v=>
    show (if v < 0 then (v + (n:Int)).toNat else min v.toNat n) <= n
    by_cases hv:v < 0
    . rw [if_pos hv]; omega
    . rw [if_neg hv]; exact Nat.min_le_right _ _
theorem Mq (v:Int) (n d:Nat):(if v < 0 then max (v + (n:Int)) 0 else min v (n:Int))=((sIx n d (some v):Nat):Int):=by
  show (if v < 0 then max (v + (n:Int)) 0 else min v (n:Int))=(((if v < 0 then (v + (n:Int)).toNat else min v.toNat n):Nat):Int)
  by_cases hv:v < 0
  . simp only [if_pos hv]; omega
  . simp only [if_neg hv]; omega
theorem Ld (lo hi:Option Int) (n:Nat):Builtin.Slice.sliceAdjust lo hi 1 (n:Int)=(((sIx n 0 lo:Nat):Int),((sIx n n hi:Nat):Int)):=by
  have h1 : ¬ ((1:Int) < 0):=by omega
  unfold Builtin.Slice.sliceAdjust
  simp only [h1,if_false]
  refine Prod.ext ?_ ?_
  . cases lo with
    | none=>rfl
    | some v=>exact Mq v n 0
  . cases hi with
    | none=>rfl
    | some v=>exact Mq v n n
theorem K5 (i j:Nat):Builtin.Slice.slicePlaces (i:Int) (j:Int) 1=j - i:=by
  unfold Builtin.Slice.slicePlaces
  have h1:(1:Int) > 0:=by omega
  simp only [h1,if_true,Int.ediv_one]
  split <;> omega
theorem GM {v:Value} {o:Option Int} {Q:Option Int->Shared->Prop} (p:IsPart v o) (h:Q o s):wpAny (model prog w) A (Builtin.Slice.slicePartIndex v) Q E s:=by
  cases p with
  | none=>exact slicePart_none h
  | int i t=>exact slicePart_int h
theorem C9 {sl:Addr} {vl vu:Value} {lo hi:Option Int} {n:Nat} {Q:Int × Int × Nat->Shared->Prop} (hs:s.heap.IsSliceOf sl vl vu .none) (pl:IsPart vl lo) (pu:IsPart vu hi)
    (h:Q (((sIx n 0 lo:Nat):Int),1,sIx n n hi - sIx n 0 lo) s):wpAny (model prog w) A (Builtin.Slice.sliceApplied (.ref sl) (pure (n:Int))) Q E s:=by
  obtain ⟨os,hos,hcs,hds⟩:=id hs
  unfold Builtin.Slice.sliceApplied Builtin.Slice.sliceFields
  refine wpAny_bind (wpAny_bind (wpAny_field hos hds (x:=vl) rfl (wpAny_bind (wpAny_field hos hds (x:=vu) rfl (wpAny_bind (wpAny_field hos hds (x:=.none) rfl (wpAny_pure ?_)))))))
  refine wpAny_bind (slicePart_none ?_)
  show wpAny _ _ (if ((1:Int) == 0)=true then _ else _) _ _ s
  rw [if_neg (by decide)]
  refine wpAny_bind (GM pl (wpAny_bind (GM pu (wpAny_bind (wpAny_pure ?_)))))
  show wpAny _ _ (match Builtin.Slice.sliceAdjust lo hi 1 (n:Int) with | (lo,hi)=>pure (lo,(1:Int),Builtin.Slice.slicePlaces lo hi 1)) _ _ s
  rw [Ld lo hi n]
  show wpAny _ _ (pure (((sIx n 0 lo:Nat):Int),(1:Int),Builtin.Slice.slicePlaces ((sIx n 0 lo:Nat):Int) ((sIx n n hi:Nat):Int) 1)) _ _ s
  rw [K5]
  exact wpAny_pure h
theorem O1 (xs:Array Value) (i k:Nat):((List.range k).filterMap fun (m:Nat)=>xs[((i:Int) + (m:Int) * 1).toNat]?).toArray=((xs.toList.drop i).take k).toArray:=by
  have e:(fun (m:Nat)=>xs[((i:Int) + (m:Int) * 1).toNat]?)=fun m=>xs[i + m]?:=by
    funext m
    have:((i:Int) + (m:Int) * 1).toNat=i + m:=by omega
    rw [this]
  rw [e]
  have:=pick_run xs i k
  rw [List.filterMap_map] at this
  have e2:((fun x=>xs[x]?) ∘ fun x=>i + x)=fun m=>xs[i + m]?:=rfl
  rw [e2] at this
  rw [this]
theorem Ey {t sl:Addr} {items:Array Value} {vl vu:Value} {lo hi:Option Int} {Q:Value->Shared->Prop} (ht:IsTup s.heap t items) (hs:s.heap.IsSliceOf sl vl vu .none) (pl:IsPart vl lo) (pu:IsPart vu hi)
    (hw : ¬ (sIx items.size 0 lo=0 /\ sIx items.size items.size hi=items.size))
    (h:Q (.ref s.heap.objs.size) { s with heap:=s.heap.push { cls:=.type "tuple",data:=.seq ((items.toList.drop (sIx items.size 0 lo)).take (sIx items.size items.size hi - sIx items.size 0 lo)).toArray } })
    (hsz:items.size <= sizeLine):wpAny (model prog w) A (getItem (.ref t) (.ref sl)) Q E s:=by
  have htake:sizeOk (.seq ((items.toList.drop (sIx items.size 0 lo)).take (sIx items.size items.size hi - sIx items.size 0 lo)).toArray):=by
    show ((items.toList.drop (sIx items.size 0 lo)).take (sIx items.size items.size hi - sIx items.size 0 lo)).toArray.size <= sizeLine
    rw [List.size_toArray,List.length_take,List.length_drop,Array.length_toList]
    omega
  have hj:sIx items.size items.size hi <= items.size:=Tb _ _ (Nat.le_refl _) hi
  obtain ⟨os,hos,hcs,hds⟩:=id hs
  have hTs:s.TypeIs (.ref sl) "slice" := ⟨os,hos,hcs⟩
  unfold getItem
  try with_reducible refine wpAny_holding ?_
  first | refine wpAny_bind (wpAny_pure ?_) | skip
  refine wpAny_bind (wpAny_sequenceKey ht.typeIs (by decide) ?_)
  refine wpAny_bind (wpAny_callSpecial?_slot (name:=Str.ofString "__getitem__") ht.typeIs PyProof.Rows.slot_tuple_getitem
    (wpAny_call_entry PyProof.Rows.slot_tuple_getitem ht.typeIs entry_tuple_getitem ?_ (args_tuple_getitem _ _)))
  show wpAny _ _ (Builtin.Tuple.tupleItemsOf (.ref t) >>= _) _ _ s
  refine wpAny_bind (tupleItemsOf_ ht ?_)
  refine wpAny_bind (wpAny_typeOf hTs ?_)
  rw [if_pos (by decide)]
  refine wpAny_bind (C9 hs pl pu ?_)
  have hno : ¬ ((((sIx items.size 0 lo:Nat):Int) == 0 && (1:Int) == 1 && (sIx items.size items.size hi - sIx items.size 0 lo) == items.size)=true):=by
    intro q
    rw [Bool.and_eq_true,Bool.and_eq_true] at q
    have q1:((sIx items.size 0 lo:Nat):Int)=0:=eq_of_beq q.1.1
    have q2:sIx items.size items.size hi - sIx items.size 0 lo=items.size:=eq_of_beq q.2
    exact hw ⟨by omega,by omega⟩
  show wpAny _ _ (if (((sIx items.size 0 lo:Nat):Int) == 0 && (1:Int) == 1 && (sIx items.size items.size hi - sIx items.size 0 lo) == items.size)=true then _ else _) _ _ s
  rw [if_neg hno,O1]
  first
    | exact wpAny_bind (m:=Builtin.Tuple.tupleExact _) (wpAny_newObj_type (wpAny_pure ⟨_,rfl,wpAny_pure h⟩) htake)
    | exact wpAny_bind (m:=Builtin.Tuple.tupleExact _) (wpAny_newObj_type (wpAny_bind (wpAny_pure (wpAny_pure ⟨_,rfl,wpAny_pure h⟩))) htake)
    | exact wpAny_bind (wpAny_bind (m:=Builtin.Tuple.tupleExact _) (wpAny_newObj_type (wpAny_pure (wpAny_pure ⟨_,rfl,wpAny_pure h⟩)) htake))
    | exact wpAny_bind (wpAny_bind (m:=Builtin.Tuple.tupleExact _) (wpAny_newObj_type (wpAny_pure ⟨_,rfl,wpAny_pure h⟩) htake))
end
end HT
namespace L2
open PySem PySem.Spec PyProof.Rows
abbrev TO:=St->Hp->(Option Int->Hp->Prop)->Prop
def PO (X:Cx) (e:Option Expr) (t:TO):Prop:=
  ∀ (pins:List (Addr × Obj)) (s:Shared) (σ:St) (H:Hp) (Q:Option Int->Hp->Prop),Inv X pins σ H s->t σ H Q->
    wpAny (model X.prog X.w) X.A (evalPart e X.env) (fun u s'=>∃ o H',Inv X pins σ H' s' /\ IsPart u o /\ Q o H') X.xe s
def Qu:TO:=fun _ H Q=>Q none H
def U3 (t:TE):TO:=fun σ H Q=>t σ H fun x H1=>∃ i,x=.int i /\ Q (some i) H1
theorem Go {ns:List Int}:∀ {us:List Value},Vals (ns.map V.int) us->IntsAre us ns:=by
  induction ns with
  | nil=>intro us r; rw [List.map_nil] at r; cases r; exact .nil
  | cons n ns ih=>
    intro us r
    rw [List.map_cons] at r
    cases r with
    | cons r1 r2=>
      obtain ⟨t,e⟩:=r1
      subst e
      exact .cons n t (ih r2)
section
variable {X:Cx} {e:Expr} {te:TE} {lo hi:Option Expr} {tl th:TO} {pos p2:Pos}
theorem RQ:PO X none Qu:=by
  intro pins s σ H Q I h
  rw [evalPart_none]
  exact wpAny_pure ⟨none,H,I,.none,h⟩
theorem RP (h:PE X e te):PO X (some e) (U3 te):=by
  intro pins s σ H Q I hw
  rw [evalPart_some]
  refine thn (h pins s σ H _ I hw) fun u s1 ⟨x,H1,I1,r1,q1⟩=>?_
  obtain ⟨i,rfl,q⟩:=q1
  obtain ⟨t,rfl⟩:=r1
  exact ⟨some i,H1,I1,.int i t,q⟩
def SlR (X:Cx) (r:V->Option Int->Option Int->Hp->VK->Prop):Prop:=
  ∀ (pins:List (Addr × Obj)) (s:Shared) (σ:St) (H:Hp) (x:V) (v vl vu:Value) (lo hi:Option Int) (sl:Addr) (Q:VK),Inv X pins σ H s->RelV x v->s.heap.IsSliceOf sl vl vu .none->IsPart vl lo->IsPart vu hi->r x lo hi H Q->
    ∃ T id,typeLookup (.type T) "__getitem__" = pure (some (.builtin id)) /\ s.TypeIs v T /\ wpAny (model X.prog X.w) X.A (getItem v (.ref sl)) (EP X pins σ Q) X.xe s
theorem SlR.or {r r':V->Option Int->Option Int->Hp->VK->Prop} (h:SlR X r) (h':SlR X r'):SlR X (fun x lo hi H Q=>r x lo hi H Q ∨ r' x lo hi H Q):=by
  intro pins s σ H x v vl vu lo hi sl Q I rx hs pl pu q
  rcases q with q | q
  . exact h pins s σ H x v vl vu lo hi sl Q I rx hs pl pu q
  . exact h' pins s σ H x v vl vu lo hi sl Q I rx hs pl pu q
def tSl (r:V->Option Int->Option Int->Hp->VK->Prop) (te:TE) (tl th:TO):TE:=fun σ H Q=>te σ H fun x H1=>tl σ H1 fun l H2=>th σ H2 fun u H3=>r x l u H3 Q
theorem O5 {r:V->Option Int->Option Int->Hp->VK->Prop} (hr:SlR X r) (he:PE X e te) (hl:PO X lo tl) (hu:PO X hi th):PE X (.Subscript e (.Slice lo hi none p2) pos) (tSl r te tl th):=by
  intro pins s σ H Q I h
  refine Subscript_ (thn (he pins s σ H _ I h) fun v s1 ⟨x,H1,I1,r1,q1⟩=>?_)
  refine wpAny_Slice (thn (hl pins s1 σ H1 _ I1 q1) fun vl s2 ⟨l,H2,I2,pl,q2⟩=>thn (hu pins s2 σ H2 _ I2 q2) fun vu s3 ⟨u,H3,I3,pu,q3⟩=>?_)
  rw [evalPart_none]
  refine wpAny_pure ?_
  have I4:Inv X pins σ H3 { s3 with heap:=s3.heap.push { cls:=.type "slice",data:=.fields #[vl,vu,.none] } }:=I3.kept (t':=s3.toks) fun b ob q=>Heap.get?_push_of_some _ q
  obtain ⟨T,id,hT,ht,hg⟩:=hr pins { s3 with heap:=s3.heap.push { cls:=.type "slice",data:=.fields #[vl,vu,.none] } } σ H3 x v vl vu l u s3.heap.objs.size Q I4 r1 (Heap.IsSliceOf.new ..) pl pu q3
  show wpAny (model X.prog X.w) X.A (subscriptTail e (.Slice lo hi none p2) v (.ref s3.heap.objs.size)) (EP X pins σ Q) X.xe { s3 with heap:=s3.heap.push { cls:=.type "slice",data:=.fields #[vl,vu,.none] } }
  exact tail_any (ops:=[.ref s3.heap.objs.size,v]) ht hT hg (by with_unfolding_all rfl)
def KM (xs:List V) (lo hi:Option Int):List V:=(xs.drop (HT.sIx xs.length 0 lo)).take (HT.sIx xs.length xs.length hi - HT.sIx xs.length 0 lo)
theorem Fq (xs:List V) (lo hi:Option Int):(KM xs lo hi).length <= xs.length:=by
  unfold KM
  rw [List.length_take,List.length_drop]
  omega
def V5 (K:PySem.W.Frag):V->Option Int->Option Int->Hp->VK->Prop:=fun x lo hi H Q=>∃ a xs,x=.ref a /\ SqT K H a xs /\
  ¬ (HT.sIx xs.length 0 lo=0 /\ HT.sIx xs.length xs.length hi=xs.length) /\ ∀ p,H p=none->Q (.ref p) (upd H p (.tup (KM xs lo hi)))
theorem Ta:SlR X (V5 X.K):=by
  intro pins s σ H x v vl vu lo hi sl Q I rx hs pl pu h
  obtain ⟨a,xs,rfl,hx,hw,q⟩:=h
  cases rx
  obtain ⟨its,r,ht,hz⟩:=I.tuple hx
  have hlen:its.toArray.size=xs.length:=by rw [List.size_toArray]; exact r.length.symm
  refine ⟨"tuple",_,PyProof.Rows.slot_tuple_getitem.lookup,ht.typeIs,?_⟩
  refine HT.Ey ht hs pl pu (by rw [hlen]; exact hw) ?_ (by rw [hlen]; exact hz)
  rw [hlen]
  refine ⟨.ref s.heap.objs.size,_,I.laid (t':=s.toks) (o:=.tup (KM xs lo hi)) (fun b ob q=>Heap.get?_push_of_some _ q) (Nat.le_refl _) ?_,rfl,q _ (I.hok.fresh (Nat.le_refl _))⟩
  exact ⟨Nat.le_trans (Fq xs lo hi) hz,_,(r.drop (HT.sIx xs.length 0 lo)).take (HT.sIx xs.length xs.length hi - HT.sIx xs.length 0 lo),IsTup.new _ _⟩
def VI (K:PySem.W.Frag):R2:=fun x y H Q=>∃ a b xs ys,x=.ref a /\ y=.ref b /\ SqT K H a xs /\ SqT K H b ys /\ xs ≠ [] /\ xs.length + ys.length <= sizeLine /\
  (ys=[]->Q (.ref a) H) /\ (ys ≠ []->∀ p,H p=none->Q (.ref p) (upd H p (.tup (xs ++ ys))))
theorem Vals.nil_iff {xs:List V} {us:List Value} (r:Vals xs us):us=[] ↔ xs=[]:=by
  cases r with
  | nil=>simp
  | cons _ _=>simp
theorem Rh:OpR X (binaryOp .Add) (VI X.K):=by
  intro pins s σ H x y v u Q I rx ry h
  obtain ⟨a,b,xs,ys,rfl,rfl,ha,hb,hx,hz,q1,q2⟩:=h
  cases rx
  cases ry
  obtain ⟨its,r1,p1,_⟩:=I.tuple ha
  obtain ⟨its2,r2,p2,_⟩:=I.tuple hb
  refine HT.SC p1 p2 (fun z=>hx (r1.nil_iff.mp z)) (fun z=>⟨.ref a,H,I,rfl,q1 (r2.nil_iff.mp z)⟩) (fun z=>?_) (by rw [← r1.length,← r2.length]; exact hz)
  refine ⟨.ref s.heap.objs.size,_,I.laid (t':=s.toks) (o:=.tup (xs ++ ys)) (fun b ob q=>Heap.get?_push_of_some _ q) (Nat.le_refl _) ?_,rfl,q2 (fun w=>z (r2.nil_iff.mpr w)) _ (I.hok.fresh (Nat.le_refl _))⟩
  exact ⟨by rw [List.length_append]; exact hz,_,r1.append r2,IsTup.new _ _⟩
theorem KR:BO X (.type "tuple") (fun xs H Q=>∃ a ys,xs=[.ref a] /\ SqT X.K H a ys /\ Q (.ref a) H):=by
  intro pins s σ H xs us Q I r h
  obtain ⟨a,ys,rfl,ha,q⟩:=h
  obtain ⟨u,rfl,ru⟩:=Fh r
  cases ru
  obtain ⟨its,_,p1,_⟩:=I.tuple ha
  exact call_tuple_same (items:=its.toArray) p1 ⟨.ref a,H,I,rfl,q⟩
end
end L2
namespace L2
open PySem PySem.Spec PyProof.Rows
def ixN (n:Nat) (i:Int):Option Nat:=if 0 <= i then (if i < n then some i.toNat else none) else if -(n:Int) <= i then some (i + n).toNat else none
def atI {α:Type} (xs:List α) (i:Int):Option α:=(ixN xs.length i).bind fun j=>xs[j]?
theorem Mb {n:Nat} {i:Int} {j:Nat} (h:ixN n i=some j):seqIndex? i n=some j /\ j < n /\ -(n:Int) <= i /\ i < n:=by
  unfold ixN at h
  by_cases h0:0 <= i
  . rw [if_pos h0] at h
    by_cases h1:i < n
    . rw [if_pos h1] at h
      have e:i.toNat=j:=Option.some.inj h
      exact ⟨by rw [seqIndex_of h0 h1,e],by omega,by omega,h1⟩
    . rw [if_neg h1] at h; cases h
  . rw [if_neg h0] at h
    by_cases h1 : -(n:Int) <= i
    . rw [if_pos h1] at h
      have e:(i + n).toNat=j:=Option.some.inj h
      exact ⟨by rw [seqIndex_neg (by omega) h1,e],by omega,h1,by omega⟩
    . rw [if_neg h1] at h; cases h
theorem JH {α:Type} {xs:List α} {i:Int} {v:α} (h:atI xs i=some v):∃ j,seqIndex? i xs.length=some j /\ xs[j]? = some v /\ j < xs.length /\ -(xs.length:Int) <= i /\ i < xs.length:=by
  unfold atI at h
  cases e:ixN xs.length i with
  | none=>rw [e] at h; cases h
  | some j=>
    rw [e] at h
    obtain ⟨h1,h2,h3,h4⟩:=Mb e
    exact ⟨j,h1,h,h2,h3,h4⟩
def Mz (b:Expr):Prop:=∀ o i,subscripted b false o i=operate [o,i] (getItem o i)
def IxR (X:Cx) (r:R2):Prop:=
  ∀ (value slice:Expr) (pins:List (Addr × Obj)) (s:Shared) (σ:St) (H:Hp) (x y:V) (v u:Value) (Q:VK),Inv X pins σ H s->RelV x v->RelV y u->r x y H Q->
    subscripted slice false v u=operate [v,u] (getItem v u)->wpAny (model X.prog X.w) X.A (subscriptTail value slice v u) (EP X pins σ Q) X.xe s
def MtR (X:Cx) (id:String) (r:V->List V->Hp->VK->Prop):Prop:=
  ∀ (pins:List (Addr × Obj)) (s:Shared) (σ:St) (H:Hp) (x:V) (xs:List V) (v:Value) (us:List Value) (Q:VK),Inv X pins σ H s->RelV x v->Vals xs us->r x xs H Q->
    wpAny (model X.prog X.w) X.A (call (.builtin id) (v :: us)) (EP X pins σ Q) X.xe s
section
variable {X:Cx} {a b:Expr} {ta tb:TE} {pos:Pos}
theorem IxR.or {r r':R2} (h:IxR X r) (h':IxR X r'):IxR X (fun x y H Q=>r x y H Q ∨ r' x y H Q):=by
  intro value slice pins s σ H x y v u Q I rx ry q hs
  rcases q with q | q
  . exact h value slice pins s σ H x y v u Q I rx ry q hs
  . exact h' value slice pins s σ H x y v u Q I rx ry q hs
theorem VP {r:R2} (hr:IxR X r) (ha:PE X a ta) (hb:PE X b tb) (hs:Mz b):PE X (.Subscript a b pos) (tOp r ta tb):=by
  intro pins s σ H Q I h
  exact Subscript_ (Ud ha hb I h fun v u s2 x y H2 I2 rx ry q=>hr a b pins s2 σ H2 x y v u Q I2 rx ry q (hs _ _))
def VH (K:PySem.W.Frag):R2:=fun x y H Q=>∃ p xs i v,x=.ref p /\ y=.int i /\ SqL K H p xs /\ atI xs i=some v /\ Q v H
def VF (K:PySem.W.Frag):R2:=fun x y H Q=>∃ p xs i v,x=.ref p /\ y=.int i /\ SqT K H p xs /\ atI xs i=some v /\ Q v H
def VG:R2:=fun x y H Q=>∃ z i c,x=.str z /\ y=.int i /\ z.length <= sizeLine /\ atI z.cps.toList i=some c /\ Q (.str ⟨#[c]⟩) H
theorem ix_list:IxR X (VH X.K):=by
  intro value slice pins s σ H x y v u Q I rx ry h hs
  obtain ⟨p,xs,i,z,rfl,rfl,hq,he,q⟩:=h
  cases rx
  obtain ⟨t,rfl⟩:=ry
  obtain ⟨its,r,pl,hz⟩:=I.list hq
  obtain ⟨j,h1,h2,h3,h4,h5⟩:=JH he
  obtain ⟨w,ew,rw'⟩:=r.get h2
  have hl:=r.length
  have hn:=FS
  have fin:EP X pins σ Q w s:=⟨z,H,I,rw',q⟩
  by_cases h0:0 <= i
  . have hj:i.toNat=j:=by
      rw [seqIndex_of h0 h5] at h1
      exact Option.some.inj h1
    exact item_listR pl.isList h0 (by omega) (by rw [hj]; simpa using ew) fin hs
  . have hj:(i + (its.toArray.size:Int)).toNat=j:=by
      rw [seqIndex_neg (by omega) h4] at h1
      rw [List.size_toArray,← hl]
      exact Option.some.inj h1
    exact subscriptTail_builtinR (x:=w) pl.isList.typeIs slot_list_getitem.lookup
      (wpAny_getItem_list_neg (Q:=fun r s'=>r=w /\ EP X pins σ Q r s') pl.isList (by omega) (by rw [List.size_toArray] <;> omega) (by omega) (by rw [hj]; simpa using ew) ⟨rfl,fin⟩) hs
theorem ix_tup:IxR X (VF X.K):=by
  intro value slice pins s σ H x y v u Q I rx ry h hs
  obtain ⟨p,xs,i,z,rfl,rfl,hq,he,q⟩:=h
  cases rx
  obtain ⟨t,rfl⟩:=ry
  obtain ⟨its,r,pl,hz⟩:=I.tuple hq
  obtain ⟨j,h1,h2,h3,h4,h5⟩:=JH he
  obtain ⟨w,ew,rw'⟩:=r.get h2
  have hl:=r.length
  have hn:=FS
  have fin:EP X pins σ Q w s:=⟨z,H,I,rw',q⟩
  exact subscriptTail_builtinR (x:=w) pl.typeIs slot_tuple_getitem.lookup
    (getItem_tuple (j:=j) (Q:=fun r s'=>r=w /\ EP X pins σ Q r s') pl (by omega) (by omega) (by rw [List.size_toArray,← hl]; exact h1) (by simpa using ew) ⟨rfl,fin⟩) hs
theorem UP:IxR X VG:=by
  intro value slice pins s σ H x y v u Q I rx ry h hs
  obtain ⟨z,i,c,rfl,rfl,hz,he,q⟩:=h
  obtain ⟨t,rfl⟩:=rx
  obtain ⟨t',rfl⟩:=ry
  obtain ⟨j,h1,h2,h3,h4,h5⟩:=JH he
  have hl:z.cps.toList.length=z.length:=by simp [Str.length]
  rw [hl] at h1 h4 h5
  have hn:=FS
  exact tail_any (typeIs_str s z t) slot_str_getitem.lookup (getItem_str (c:=c) (by
    have e1:decide (i < -(2 ^ 63:Int))=false:=decide_eq_false (by omega)
    have e2:decide (i ≥ 2 ^ 63)=false:=decide_eq_false (by omega)
    rw [e1,e2,Bool.or_false]) (by rw [h1]; simpa using h2) ⟨.str ⟨#[c]⟩,H,I.tok _,⟨_,rfl⟩,q⟩) hs
def rIx (K:PySem.W.Frag):R2:=fun x y H Q=>VH K x y H Q ∨ VF K x y H Q ∨ VG x y H Q
theorem LG:IxR X (rIx X.K):=ix_list.or (ix_tup.or UP)
theorem LC (its:List Value) (n j:Nat) (u:Value):Obj.mapSeq (·.setIfInBounds j u) { cls:=.type "list",data:=.seq its.toArray n }={ cls:=.type "list",data:=.seq (its.set j u).toArray n }:=by
  simp [Obj.mapSeq]
theorem Inv.lst {pins:List (Addr × Obj)} {σ:St} {H:Hp} {s:Shared} {p:Addr} {xs:List V} (I:Inv X pins σ H s) (h:H p=some (.lst xs)) :
    ∃ (its:List Value) (n:Nat),Vals xs its /\ s.heap.get? p=some { cls:=.type "list",data:=.seq its.toArray n } /\ xs.length <= sizeLine:=by
  obtain ⟨z,its,n,r,e⟩:=I.hok p _ h
  exact ⟨its,n,r,e,z⟩
theorem Inv.lstUpd {pins:List (Addr × Obj)} {σ:St} {H:Hp} {s:Shared} {p:Addr} {xs ys:List V} {its its':List Value} {n n':Nat} {f:Obj->Obj} (I:Inv X pins σ H s) (h:H p=some (.lst xs))
    (ho:s.heap.get? p=some { cls:=.type "list",data:=.seq its.toArray n }) (hf:f { cls:=.type "list",data:=.seq its.toArray n }={ cls:=.type "list",data:=.seq its'.toArray n' }) (r:Vals ys its') (hz:ys.length <= sizeLine) (t:Nat) :
    Inv X pins σ (upd H p (.lst ys)) { s with heap:=s.heap.update p f,toks:=t }:=by
  have e:(s.heap.update p f).get? p=some { cls:=.type "list",data:=.seq its'.toArray n' }:=by
    rw [Heap.get?_update_self f ho (by rw [hf] <;> rfl),hf]
  refine I.write (x:=p) (e:=p) (by rw [h]; trivial) (.inl rfl) (fun b u hb q=>(Heap.get?_update_other _ _ (Ne.symm hb)).trans q) ⟨_,e⟩ ?_
  exact ⟨hz,its',n',r,e⟩
def VE:V->V->V->Hp->(Hp->Prop)->Prop:=fun o i v H Q=>∃ p xs k j,o=.ref p /\ i=.int k /\ H p=some (.lst xs) /\ ixN xs.length k=some j /\ Q (upd H p (.lst (xs.set j v)))
theorem OZ:Vr X VE:=by
  intro pins s σ H o i v ov iv u Q I ro ri rv h
  obtain ⟨p,xs,k,j,rfl,rfl,hp,hj,q⟩:=h
  cases ro
  obtain ⟨t,rfl⟩:=ri
  obtain ⟨its,n,r,ho,hz⟩:=I.lst hp
  obtain ⟨h1,h2,h3,h4⟩:=Mb hj
  have hl:=r.length
  have hn:=FS
  have I':Inv X pins σ (upd H p (.lst (xs.set j v))) { s with heap:=s.heap.update p (Obj.mapSeq (·.setIfInBounds j u)) }:=
    I.lstUpd hp ho (LC its n j u) (r.set rv j) (by rw [List.length_set]; exact hz) s.toks
  by_cases h0:0 <= k
  . have hk:k.toNat=j:=by
      rw [seqIndex_of h0 h4] at h1
      exact Option.some.inj h1
    exact PySem.W.ki_setAt ho h0 (by omega) (by rw [List.size_toArray,← hl]; exact h4) (by rw [hk]; exact ⟨_,I',q⟩)
  . have hk:(k + (its.toArray.size:Int)).toNat=j:=by
      rw [seqIndex_neg (by omega) h3] at h1
      rw [List.size_toArray,← hl]
      exact Option.some.inj h1
    exact PySem.W.ki_setBack ho (by omega) (by rw [List.size_toArray,← hl]; exact h3) (by omega) (by rw [hk]; exact ⟨_,I',q⟩)
theorem IX (lo hi:Option Int) (n:Nat):(sliceBounds lo hi none n).1=((HT.sIx n 0 lo:Nat):Int) /\ (sliceBounds lo hi none n).2.1=((HT.sIx n n hi:Nat):Int) /\ (sliceBounds lo hi none n).2.2=1:=by
  refine ⟨?_,?_,rfl⟩
  . cases lo with
    | none=>simp [sliceBounds,HT.sIx]
    | some i=>
      simp only [sliceBounds,HT.sIx,Option.getD_none,show (1:Int) > 0 by decide,if_true]
      by_cases h:i < 0
      . simp only [h,if_true] <;> omega
      . simp only [h,if_false] <;> omega
  . cases hi with
    | none=>simp [sliceBounds,HT.sIx]
    | some i=>
      simp only [sliceBounds,HT.sIx,Option.getD_none,show (1:Int) > 0 by decide,if_true]
      by_cases h:i < 0
      . simp only [h,if_true] <;> omega
      . simp only [h,if_false] <;> omega
theorem HL (its:List Value) (lo hi:Option Int):slicePick its.toArray lo hi none=((its.drop (HT.sIx its.length 0 lo)).take (HT.sIx its.length its.length hi - HT.sIx its.length 0 lo)).toArray:=by
  obtain ⟨h1,h2,h3⟩:=IX lo hi its.toArray.size
  unfold slicePick
  rw [h1,h2,h3]
  simp only [sliceRange_one,pick_run,List.size_toArray] <;> rfl
def V6 (K:PySem.W.Frag):V->Option Int->Option Int->Hp->VK->Prop:=fun x lo hi H Q=>∃ a xs,x=.ref a /\ SqL K H a xs /\ ∀ p,H p=none->Q (.ref p) (upd H p (.lst (KM xs lo hi)))
theorem Qz:SlR X (V6 X.K):=by
  intro pins s σ H x v vl vu lo hi sl Q I rx hs pl pu h
  obtain ⟨a,xs,rfl,hx,q⟩:=h
  cases rx
  obtain ⟨its,r,ht,hz⟩:=I.list hx
  have hlen:=r.length
  refine ⟨"list",_,slot_list_getitem.lookup,ht.isList.typeIs,?_⟩
  refine wpAny_getItem_list_slice ht.isList hs pl pu .none (by simp) ?_ (by rw [List.size_toArray] <;> omega)
  rw [HL,← hlen]
  refine ⟨.ref s.heap.objs.size,_,I.laid (t':=s.toks) (o:=.lst (KM xs lo hi)) (fun b ob q=>Heap.get?_push_of_some _ q) (Nat.le_refl _) ?_,rfl,q _ (I.hok.fresh (Nat.le_refl _))⟩
  exact ⟨Nat.le_trans (Fq xs lo hi) hz,_,0,(r.drop (HT.sIx xs.length 0 lo)).take (HT.sIx xs.length xs.length hi - HT.sIx xs.length 0 lo),Heap.get?_push_size _ rfl⟩
def EK:V->Bool
  | .non=>true
  | .bl _=>true
  | .int _=>true
  | .str _=>true
  | _=>false
def eqV:V->V->Bool
  | .non,.non=>true
  | .bl a,.bl b=>a == b
  | .bl a,.int b=>(if a then 1 else 0) == b
  | .int a,.bl b=>a == (if b then 1 else 0)
  | .int a,.int b=>a == b
  | .str a,.str b=>a == b
  | _,_=>false
theorem UY {A:Around} {s:Shared} {y x:V} {u v:Value} (ry:RelV y u) (rx:RelV x v) (fy:EK y=true) (fx:EK x=true):SeqAt.EqAt A s u v (eqV y x):=by
  cases y with
  | non=>
    cases ry
    cases x with
    | non=>cases rx; exact SeqAt.EqAt.same _
    | bl b=>cases rx; exact SeqAt.EqAt.none_bool b
    | int b=>obtain ⟨t,rfl⟩:=rx; exact SeqAt.EqAt.none_int b t
    | str b=>obtain ⟨t,rfl⟩:=rx; exact SeqAt.EqAt.none_str b t
    | _=>exact absurd (show false=true from fx) Bool.false_ne_true
  | bl a=>
    cases ry
    cases x with
    | non=>cases rx; exact SeqAt.EqAt.bool_none a
    | bl b=>cases rx; exact SeqAt.EqAt.bool_bool a b
    | int b=>obtain ⟨t,rfl⟩:=rx; exact SeqAt.EqAt.bool_int a b t
    | str b=>obtain ⟨t,rfl⟩:=rx; exact SeqAt.EqAt.bool_str a b t
    | _=>exact absurd (show false=true from fx) Bool.false_ne_true
  | int a=>
    obtain ⟨t',rfl⟩:=ry
    cases x with
    | non=>cases rx; exact SeqAt.EqAt.int_none a t'
    | bl b=>cases rx; exact SeqAt.EqAt.int_bool a t' b
    | int b=>obtain ⟨t,rfl⟩:=rx; exact SeqAt.EqAt.int_int a t' b t
    | str b=>obtain ⟨t,rfl⟩:=rx; exact SeqAt.EqAt.int_str a t' b t
    | _=>exact absurd (show false=true from fx) Bool.false_ne_true
  | str a=>
    obtain ⟨t',rfl⟩:=ry
    cases x with
    | non=>cases rx; exact SeqAt.EqAt.str_none a t'
    | bl b=>cases rx; exact SeqAt.EqAt.str_bool a t' b
    | int b=>obtain ⟨t,rfl⟩:=rx; exact SeqAt.EqAt.str_int a t' b t
    | str b=>obtain ⟨t,rfl⟩:=rx; exact SeqAt.EqAt.str_str a t' b t
    | _=>exact absurd (show false=true from fx) Bool.false_ne_true
  | _=>exact absurd (show false=true from fy) Bool.false_ne_true
def eqU (x:V) (u:Value):Bool:=match u with
  | .none=>eqV .non x
  | .bool b=>eqV (.bl b) x
  | .int i _=>eqV (.int i) x
  | .str z _=>eqV (.str z) x
  | _=>false
theorem Pu {x y:V} {u:Value} (r:RelV y u) (f:EK y=true):eqU x u=eqV y x:=by
  cases y with
  | non=>cases r; rfl
  | bl b=>cases r; rfl
  | int i=>obtain ⟨t,rfl⟩:=r; rfl
  | str z=>obtain ⟨t,rfl⟩:=r; rfl
  | _=>exact absurd (show false=true from f) Bool.false_ne_true
theorem JJ {x:V}:∀ {xs:List V} {us:List Value},Vals xs us->xs.all EK=true->us.any (eqU x)=xs.any fun y=>eqV y x
  | _,_,.nil,_=>rfl
  | y :: xs,u :: us,.cons r t,f=>by
    rw [List.all_cons,Bool.and_eq_true] at f
    rw [List.any_cons,List.any_cons,Pu r f.1,JJ t f.2]
theorem Ga {A:Around} {s:Shared} {x:V} {v:Value} (rx:RelV x v) (fx:EK x=true):∀ {xs:List V} {us:List Value},Vals xs us->xs.all EK=true->∀ u ∈ us,SeqAt.EqAt A s u v (eqU x u)
  | _,_,.nil,_=>fun u hu=>by cases hu
  | y :: xs,u :: us,.cons r t,f=>fun u' hu=>by
    rw [List.all_cons,Bool.and_eq_true] at f
    rcases List.mem_cons.mp hu with rfl | hu
    . rw [Pu r f.1]; exact UY r rx f.1 fx
    . exact Ga rx fx t f.2 u' hu
def inV (x:V) (xs:List V):Bool:=xs.any fun y=>eqV y x
def rIn (K:PySem.W.Frag) (neg:Bool):R2:=fun x y H Q=>∃ p xs,y=.ref p /\ (SqL K H p xs ∨ SqT K H p xs) /\ EK x=true /\ xs.all EK=true /\ Q (.bl (if neg then !inV x xs else inV x xs)) H
theorem Ip:OpR X (compareOp .NotIn) (rIn X.K true):=by
  intro pins s σ H x y v u Q I rx ry h
  obtain ⟨p,xs,rfl,hq,fx,fs,q⟩:=h
  cases ry
  rcases hq with hq | hq
  . obtain ⟨its,r,pl,hz⟩:=I.list hq
    refine SeqAt.notIn_listAt (eqU x) pl.isList (fun w hw=>Ga rx fx r fs w (by simpa using hw)) ⟨.bl _,H,I,rfl,?_⟩
    rw [show its.toArray.any (eqU x)=its.any (eqU x) by simp,JJ r fs]
    exact q
  . obtain ⟨its,r,pl,hz⟩:=I.tuple hq
    refine SeqAt.notIn_tupleAt (eqU x) pl (fun w hw=>Ga rx fx r fs w (by simpa using hw)) ⟨.bl _,H,I,rfl,?_⟩
    rw [show its.toArray.any (eqU x)=its.any (eqU x) by simp,JJ r fs]
    exact q
theorem JG:BO X (.type "list") (fun xs H Q=>∃ p ys,xs=[.ref p] /\ (SqL X.K H p ys ∨ SqT X.K H p ys) /\ ∀ l,H l=none->Q (.ref l) (upd H l (.lst ys))):=by
  intro pins s σ H xs us Q I r h
  obtain ⟨p,ys,rfl,hq,q⟩:=h
  obtain ⟨u,rfl,rx⟩:=Fh r
  cases rx
  have fin:∀ (its:List Value),Vals ys its->ys.length <= sizeLine->∀ (h':Heap) (c':Nat),(∀ b o',s.heap.get? b=some o'->h'.get? b=some o')->
      h'.get? s.heap.objs.size=some { cls:=.type "list",dict:=none,data:=.seq its.toArray c',slots:=#[] }->EP X pins σ Q (.ref s.heap.objs.size) { s with heap:=h' }:=fun its r' hz h' c' kp e=>
    ⟨.ref s.heap.objs.size,_,I.laid (t':=s.toks) kp (Nat.le_refl _) (show ObjOk X.prog X.w _ h' _ (.lst ys) from ⟨hz,its,c',r',e⟩),rfl,q _ (I.hok.fresh (Nat.le_refl _))⟩
  rcases hq with hq | hq
  . obtain ⟨its,r',pl,hz⟩:=I.list hq
    have hlen:=r'.length
    obtain ⟨o,ho,hc,n,hd⟩:=pl.isList
    exact call_list_seq p (.inl rfl) ho hc hd (fun h' c' kp e=>fin its r' hz h' c' kp e) (by simp only [List.size_toArray] <;> omega)
  . obtain ⟨its,r',pl,hz⟩:=I.tuple hq
    have hlen:=r'.length
    obtain ⟨o,ho,hc,n,hd⟩:=pl
    exact call_list_seq p (.inr rfl) ho hc hd (fun h' c' kp e=>fin its r' hz h' c' kp e) (by simp only [List.size_toArray] <;> omega)
def tyV (K:PySem.W.Frag) (T:String) (x:V) (H:Hp):Prop:=match x with
  | .str _=>T = "str"
  | .int _=>T = "int"
  | .ref p=>(T = "list" /\ ∃ xs,SqL K H p xs) ∨ (T = "tuple" /\ ∃ o,K.lookup p=some o /\ o.cls=.type "tuple" /\ o.dict=none) ∨
      (T = "dict" /\ ((∃ kvs,H p=some (.dK kvs)) ∨ ∃ kvs,H p=some (.dT kvs))) ∨ (T = "set" /\ ∃ S n,H p=some (.set S n))
  | _=>False
theorem OO {pins:List (Addr × Obj)} {σ:St} {H:Hp} {s:Shared} {T:String} {x:V} {v:Value} (I:Inv X pins σ H s) (r:RelV x v) (ty:tyV X.K T x H) :
    s.TypeIs v T /\ ∀ a,v=.ref a->∃ ob,s.heap.get? a=some ob /\ ob.dict=none:=by
  cases x with
  | str z=>
    obtain ⟨t,rfl⟩:=r
    cases (show T = "str" from ty)
    exact ⟨typeIs_str s z t,fun _ e=>nomatch e⟩
  | int i=>
    obtain ⟨t,rfl⟩:=r
    cases (show T = "int" from ty)
    exact ⟨typeIs_int s i t,fun _ e=>nomatch e⟩
  | ref p=>
    cases r
    rcases ty with ⟨rfl,xs,hq⟩ | ⟨rfl,o,hk,hc,hd⟩ | ⟨rfl,hk⟩ | ⟨rfl,S,n,hk⟩
    . obtain ⟨its,_,pl,_⟩:=I.list hq
      refine ⟨pl.isList.typeIs,fun a e=>?_⟩
      cases e
      obtain ⟨o,n,e,c,hd,_⟩:=pl
      exact ⟨o,e,hd⟩
    . refine ⟨⟨o,I.kIn p o hk,hc⟩,fun a e=>?_⟩
      cases e
      exact ⟨o,I.kIn _ o hk,hd⟩
    . have z:∃ o,s.heap.get? p=some o /\ o.ExactDict:=by
        rcases hk with ⟨kvs,hk⟩ | ⟨kvs,hk⟩
        . obtain ⟨_,_,_,_,o,_,_,e,ex,_⟩:=I.hok p _ hk
          exact ⟨o,e,ex⟩
        . obtain ⟨_,_,_,_,o,_,_,e,ex,_⟩:=I.hok p _ hk
          exact ⟨o,e,ex⟩
      obtain ⟨o,e,ex⟩:=z
      refine ⟨⟨o,e,ex.1⟩,fun a e2=>?_⟩
      cases e2
      exact ⟨o,e,ex.2.1⟩
    . obtain ⟨o,_,_,_,e,ex,_⟩:=I.hok p _ hk
      refine ⟨⟨o,e,ex.1⟩,fun a e2=>?_⟩
      cases e2
      exact ⟨o,e,ex.2.1⟩
  | _=>exact False.elim ty
def VA (K:PySem.W.Frag) (T:String) (r:V->List V->Hp->VK->Prop) (to:TE):TE:=fun σ H Q=>to σ H fun x H1=>tyV K T x H1 /\ r x [] H1 Q
def tBM (K:PySem.W.Frag) (T:String) (r:V->List V->Hp->VK->Prop) (to:TE) (t:TA):TE:=fun σ H Q=>to σ H fun x H1=>tyV K T x H1 /\ t σ H1 fun xs H2=>r x xs H2 Q
variable {o e:Expr} {es:List Expr} {to:TE} {t:TA} {name:Str} {apos cpos:Pos} {T id:String} {r:V->List V->Hp->VK->Prop}
theorem T0 (pa:PlainAttrs T) (slot:Slot T name id) (hty:typeOf (.builtin id)=pure (.type "method_descriptor")) (hm:MtR X id r) (ho:PE X o to)
    (hbase:attributeBase o name X.env (eval o X.env)=eval o X.env:=by rfl) (hline:(apos.endLine == cpos.line)=true:=by rfl):PE X (.Call (.Attribute o name apos) [] [] cpos) (VA X.K T r to):=by
  intro pins s σ H Q I h
  refine wpAny_Call_method0_late hbase hline (thn (ho pins s σ H _ I h) fun v s1 ⟨x,H1,I1,r1,ty,q1⟩=>?_)
  obtain ⟨h1,h2⟩:=OO I1 r1 ty
  exact ⟨T,id,pa,slot,hty,h1,h2,Calls.callWith_builtin rfl (PySem.evalArgs_none (hm pins s1 σ H1 x [] v [] Q I1 r1 .nil q1))⟩
theorem VQ (pa:PlainAttrs T) (slot:Slot T name id) (hty:typeOf (.builtin id)=pure (.type "method_descriptor")) (hm:MtR X id r) (ho:PE X o to) (ha:PA X (e :: es) t)
    (hbase:attributeBase o name X.env (eval o X.env)=eval o X.env:=by rfl)
    (hfew:((backTo cpos (starEach (e :: es) X.env)).all (fun x=>!x.1) && (backToKw cpos (keywordEach [] X.env)).all (fun x=>x.1.isSome)
      && decide ((e :: es).length + ([]:List Keyword).length + (if ([]:List Keyword).isEmpty then 0 else 1) < 30))=true:=by rfl)
    (hline:(apos.endLine == cpos.line)=true:=by rfl) (hs:starEach (e :: es) X.env=(false,eval e X.env) :: starEach es X.env:=by rfl) (hplain:(backTo cpos (starEach es X.env)).any (·.1)=false:=by rfl) :
    PE X (.Call (.Attribute o name apos) (e :: es) [] cpos) (tBM X.K T r to t):=by
  intro pins s σ H Q I h
  refine wpAny_Call_method_late hbase hfew hline rfl (thn (ho pins s σ H _ I h) fun v s1 ⟨x,H1,I1,r1,ty,q1⟩=>?_)
  obtain ⟨h1,h2⟩:=OO I1 r1 ty
  refine ⟨T,id,pa,slot,hty,h1,h2,?_⟩
  have hA:=ha cpos pins s1 σ H1 _ I1 q1
  rw [hs] at hA ⊢
  refine Calls.callWith_builtin (by show (false || (backTo cpos (starEach es X.env)).any (·.1))=false; rw [hplain] <;> rfl) (Calls.evalArgs_plain ?_)
  exact thn hA fun us s2 ⟨vs,H2,I2,r2,q2⟩=>hm pins s2 σ H2 x vs v us Q I2 r1 r2 q2
end
end L2
namespace L2
open PySem PySem.Spec PyProof.Rows
def MtM (X:Cx) (id:String) (r:V->List V->Hp->VK->Prop):Prop:=
  ∀ (pins:List (Addr × Obj)) (s:Shared) (σ:St) (H:Hp) (x:V) (xs:List V) (v:Value) (us:List Value) (Q:VK),Inv X pins σ H s->RelV x v->Vals xs us->r x xs H Q->
    wpAny (model X.prog X.w) X.A (call (.builtin id) (v :: us)) (EP X pins σ Q) X.xe s
theorem Vals.one:∀ {x:V} {us:List Value},Vals [x] us->∃ u,us=[u] /\ RelV x u
  | _,_,.cons r .nil=>⟨_,rfl,r⟩
theorem Vals.two:∀ {x y:V} {us:List Value},Vals [x,y] us->∃ u v,us=[u,v] /\ RelV x u /\ RelV y v
  | _,_,_,.cons r (.cons q .nil)=>⟨_,_,rfl,r,q⟩
theorem Vals.zero:∀ {us:List Value},Vals [] us->us=[]
  | _,.nil=>rfl
theorem Vals.dropLast {xs:List V} {us:List Value} (h:Vals xs us):Vals xs.dropLast us.dropLast:=by
  induction h with
  | nil=>exact .nil
  | cons r t ih=>
    cases t with
    | nil=>exact .nil
    | cons q t'=>exact .cons r ih
theorem Vals.rep {xs:List V} {us:List Value} (h:Vals xs us):∀ k:Nat,Vals (List.replicate k xs).flatten (List.replicate k us).flatten
  | 0=>.nil
  | k + 1=>by
    rw [List.replicate_succ,List.replicate_succ,List.flatten_cons,List.flatten_cons]
    exact Vals.append h (Vals.rep h k)
theorem LQ {α:Type} (l:List α):l.eraseIdx (l.length - 1)=l.dropLast:=by
  induction l with
  | nil=>rfl
  | cons a r ih=>
    cases r with
    | nil=>rfl
    | cons b r=>
      have e:(a :: b :: r).length - 1=((b :: r).length - 1) + 1:=by
        have h1:(a :: b :: r).length=r.length + 2:=rfl
        have h2:(b :: r).length=r.length + 1:=rfl
        omega
      rw [e,List.eraseIdx_cons_succ,ih]
      all_goals rfl
theorem Hu (its:List Value):∀ (k:Nat) (acc:List Value),
    List.foldl (fun x1 x2=>x1 ++ x2) acc.toArray (List.replicate k its.toArray)=(acc ++ (List.replicate k its).flatten).toArray
  | 0,acc=>by simp
  | k + 1,acc=>by
    have e:acc.toArray ++ its.toArray=(acc ++ its).toArray:=by simp
    have e2:(acc ++ its) ++ (List.replicate k its).flatten=acc ++ (List.replicate (k + 1) its).flatten:=by
      rw [List.replicate_succ,List.flatten_cons,List.append_assoc]
    rw [← e2,← Hu its k (acc ++ its),← e,List.replicate_succ,List.foldl_cons]
section
variable {X:Cx} {pins:List (Addr × Obj)} {σ:St} {H:Hp} {s:Shared} {l b:Addr} {xs ys zs:List V}
theorem Inv.lset {its its':List Value} {n:Nat} {f:Array Value->Array Value} {t':Nat} (I:Inv X pins σ H s) (hH:H l=some (.lst xs))
    (e:s.heap.get? l=some { cls:=.type "list",data:=.seq its.toArray n }) (hf:f its.toArray=its'.toArray) (hv:Vals ys its') (hz:ys.length <= sizeLine) :
    Inv X pins σ (upd H l (.lst ys)) { s with heap:=s.heap.update l (Obj.mapSeq f),toks:=t' }:=by
  have q:=PySem.IsL.update e f
  rw [hf] at q
  refine I.write (x:=l) (e:=l) (by rw [hH]; exact trivial) (.inl rfl) (fun b' u hb hu=>(Heap.get?_update_other s.heap (Obj.mapSeq f) (Ne.symm hb)).trans hu) ⟨_,q⟩ ?_
  exact ⟨hz,its',_,hv,q⟩
theorem Inv.lnew {its:List Value} {t':Nat} (I:Inv X pins σ H s) (hv:Vals ys its) (hz:ys.length <= sizeLine) :
    Inv X pins σ (upd H s.heap.objs.size (.lst ys)) { s with heap:=s.heap.push { cls:=.type "list",data:=.seq its.toArray },toks:=t' }:=
  I.laid (fun _ _ q=>Heap.get?_push_of_some _ q) (Nat.le_refl _) ⟨hz,its,0,hv,Heap.get?_push_size _ rfl⟩
theorem Inv.fresh (I:Inv X pins σ H s):H s.heap.objs.size=none:=I.hok.fresh (Nat.le_refl _)
theorem Inv.lstM (I:Inv X pins σ H s) (hH:H l=some (.lst xs)):xs.length <= sizeLine /\ ∃ (its:List Value) (n:Nat),Vals xs its /\ xs.length=its.length /\ s.heap.get? l=some { cls:=.type "list",data:=.seq its.toArray n }:=by
  obtain ⟨z,its,n,r,e⟩:=I.hok l _ hH
  exact ⟨z,its,n,r,r.length,e⟩
theorem PU {n:Nat} (h:n <= sizeLine):Builtin.List.listTooLong n=false:=by
  unfold Builtin.List.listTooLong
  exact decide_eq_false (by omega)
end
section
variable {X:Cx}
def RF:V->List V->Hp->VK->Prop:=fun x vs H Q=>∃ l xs y,x=.ref l /\ vs=[y] /\ H l=some (.lst xs) /\ xs.length < sizeLine /\ Q .non (upd H l (.lst (xs ++ [y])))
theorem Nj:MtM X "list.append" RF:=by
  intro pins s σ H x vs v us Q I rx rv h
  obtain ⟨l,xs,y,rfl,rfl,hH,hz,q⟩:=h
  cases rx
  obtain ⟨u,rfl,ru⟩:=rv.one
  obtain ⟨z,its,n,r,hl,e⟩:=I.lstM hH
  refine call_meets F.slot_list_append ⟨_,e,rfl⟩ F.entry_list_append (F.args_list_append_2 _ _) (PySem.list_append l its.toArray n u (by rw [List.size_toArray]; omega)) ⟨e,?_⟩
  refine ⟨.non,_,I.lset (its':=its ++ [u]) hH e (by simp) (r.append (.cons ru .nil)) ?_,rfl,q⟩
  rw [List.length_append,List.length_singleton]
  omega
def V8:V->List V->Hp->VK->Prop:=fun x vs H Q=>∃ l xs y,x=.ref l /\ vs=[] /\ H l=some (.lst xs) /\ xs[xs.length - 1]? = some y /\ Q y (upd H l (.lst xs.dropLast))
theorem UH:MtM X "list.pop" V8:=by
  intro pins s σ H x vs v us Q I rx rv h
  obtain ⟨l,xs,y,rfl,rfl,hH,hy,q⟩:=h
  cases rx
  have hus:=rv.zero
  subst hus
  obtain ⟨z,its,n,r,hl,e⟩:=I.lstM hH
  obtain ⟨u,hu,ru⟩:=r.get hy
  have hy':its.toArray[its.toArray.size - 1]? = some u:=by
    show its.toArray[its.length - 1]? = some u
    rw [← Array.getElem?_toList,← hl]
    exact hu
  refine call_meets F.slot_list_pop ⟨_,e,rfl⟩ F.entry_list_pop (F.args_list_pop_1 _) (MeetsSeq.list_pop_last l its.toArray n u hy' (by rw [List.size_toArray]; omega)) ⟨e,?_⟩
  refine ⟨y,_,I.lset (its':=its.dropLast) hH e ?_ r.dropLast ?_,ru,q⟩
  . show its.toArray.eraseIdxIfInBounds (its.toArray.size - 1)=its.dropLast.toArray
    rw [List.size_toArray,List.eraseIdxIfInBounds_toArray,LQ]
  . rw [List.length_dropLast]
    omega
def WA:R2:=fun x y H Q=>∃ l b xs zs,x=.ref l /\ y=.ref b /\ H l=some (.lst xs) /\ H b=some (.lst zs) /\ xs.length + zs.length <= sizeLine /\ ∀ p,H p=none->Q (.ref p) (upd H p (.lst (xs ++ zs)))
theorem PK:OpR X (binaryOp .Add) WA:=by
  intro pins s σ H x y v u Q I rx ry h
  obtain ⟨l,b,xs,zs,rfl,rfl,hH,hB,hz,q⟩:=h
  cases rx
  cases ry
  obtain ⟨z,its,n,r,hl,e⟩:=I.lstM hH
  obtain ⟨z2,its2,n2,r2,hl2,e2⟩:=I.lstM hB
  refine PySem.P.add_list e e2 ?_ (by rw [List.size_toArray,List.size_toArray]; omega)
  have ea:its.toArray ++ its2.toArray=(its ++ its2).toArray:=by simp
  rw [ea]
  exact ⟨.ref _,_,I.lnew (t':=s.toks) (r.append r2) (by rw [List.length_append]; omega),rfl,q _ I.fresh⟩
def V7:R2:=fun x y H Q=>∃ l k xs,x=.ref l /\ y=.int k /\ H l=some (.lst xs) /\ -(2 ^ 63) <= k /\ k < 2 ^ 63 /\ xs.length * k.toNat <= sizeLine /\
  ∀ p,H p=none->Q (.ref p) (upd H p (.lst (List.replicate k.toNat xs).flatten))
theorem Iy {α:Type} (xs:List α) (k:Nat):(List.replicate k xs).flatten.length=k * xs.length:=by
  induction k with
  | zero=>simp
  | succ k ih=>rw [List.replicate_succ,List.flatten_cons,List.length_append,ih,Nat.succ_mul,Nat.add_comm]
theorem T4:OpR X (binaryOp .Mult) V7:=by
  intro pins s σ H x y v u Q I rx ry h
  obtain ⟨l,k,xs,rfl,rfl,hH,h1,h2,hz,q⟩:=h
  cases rx
  obtain ⟨t,rfl⟩:=ry
  obtain ⟨z,its,n,r,hl,e⟩:=I.lstM hH
  have hlen:its.toArray.size * k.toNat <= sizeLine:=by rw [List.size_toArray,← hl]; exact hz
  have hcap : ¬ its.toArray.size * k.toNat > (2 ^ 63 - 1) / 8:=by
    have:(sizeLine:Nat) <= (2 ^ 63 - 1) / 8:=by decide
    omega
  have hfit : ¬ (!Builtin.List.listFitsIndex k)=true:=by
    rw [fitsIndex_both h1 h2]
    exact Bool.false_ne_true
  have hlong : ¬ Builtin.List.listTooLong (its.toArray.size * k.toNat)=true:=by
    rw [PU hlen]
    exact Bool.false_ne_true
  have hnew:List.foldl (fun x1 x2=>x1 ++ x2) #[] (List.replicate (if its.toArray.isEmpty=true then 0 else k.toNat) its.toArray)=(List.replicate k.toNat its).flatten.toArray:=by
    have f0:∀ m:Nat,List.foldl (fun x1 x2=>x1 ++ x2) #[] (List.replicate m its.toArray)=(List.replicate m its).flatten.toArray:=fun m=>by
      have:=Hu its m []
      rw [List.nil_append] at this
      exact this
    rw [f0]
    cases its with
    | nil=>simp
    | cons a r'=>rw [if_neg (by simp)]
  refine wpAny_binaryOp_repeat_ref (T := "list") (U := "int") (by decide) ⟨_,e,rfl⟩ (fun s'=>typeIs_int s' k t) noFill_list_mul F.fills_int_mul F.slot_int_rmul repeat_list F.slot_int_index.lookup
    (call_meets F.slot_int_rmul (typeIs_int s k t) F.entry_int_rmul (F.args_int_rmul_2 _ _) (int___rmul___int_list k t l its.toArray n)
      ⟨e,rfl,⟨_,e,rfl⟩,call_meets F.slot_list_mul ⟨_,e,rfl⟩ F.entry_list_mul (F.args_list_mul_2 _ _) (AutoListH.list___mul___list_int_3 l its.toArray n k t hfit hcap hlong) ⟨e,?_⟩⟩)
  rw [hnew]
  exact ⟨.ref _,_,I.lnew (t':=s.toks) (r.rep k.toNat) (by rw [Iy,Nat.mul_comm]; exact hz),rfl,q _ I.fresh⟩
end
section
variable {prog:Program} {w:World} {A:Around} {E:Value->Shared->Prop} {s:Shared}
end
section
variable {X:Cx}
end
end L2
namespace L2
open PySem PySem.Spec PyProof.Rows
section
variable {κ:Type} [DecidableEq κ]
end
section
variable {P:Program} {w:World} {H:Hp} {h:Heap} {a:Addr}
end
section
variable {X:Cx} {pins:List (Addr × Obj)} {σ:St} {H:Hp} {s:Shared} {a:Addr} {y v:V} {u r:Value} {o:Option V} {A:Around} {E:Value->Shared->Prop}
theorem Inv.big (I:Inv X pins σ H s):sysModules < s.heap.objs.size:=by
  have h:mainGlobals < s.heap.objs.size:=(I.mod.glob.keeps I.bk).lt
  exact Nat.lt_trans (by decide) h
theorem SA {h':Heap} {t':Nat} {ob:HO} (I:Inv X pins σ H s) (mu:Mut (H a)) (hs:Heap.SameBut a s.heap h') (he:∃ q,h'.get? a=some q) (new:ObjOk X.prog X.w (upd H a ob) h' a ob) :
    Inv X pins σ (upd H a ob) { s with heap:=h',toks:=t' }:=
  I.write (x:=a) (e:=a) mu (.inl rfl) (fun b q hb z=>(hs.2 b hb).trans z) he new
end
section
variable {X:Cx} {pins:List (Addr × Obj)} {σ:St} {H:Hp} {s:Shared} {a:Addr} {kvs:List (Key × V)} {k:Key} {u:Value} {A:Around} {E:Value->Shared->Prop}
end
section
variable {X:Cx} {o i e value:Expr} {pos pos' tpos:Pos} {td ty tv:TE}
end
section
variable {X:Cx} {pos:Pos}
end
section
variable {X:Cx} {pins:List (Addr × Obj)} {σ:St} {H:Hp} {s:Shared} {a:Addr} {y d:V} {u r:Value} {o:Option V} {A:Around} {E:Value->Shared->Prop}
end
section
variable {X:Cx} {o e f:Expr} {apos cpos:Pos} {td ty tx:TE}
end
section
variable {X:Cx} {pins:List (Addr × Obj)} {σ:St} {H:Hp} {s:Shared} {a:Addr} {kvs:List (Key × V)} {A:Around} {E:Value->Shared->Prop}
end
section
variable {X:Cx} {pins:List (Addr × Obj)} {σ:St} {H:Hp} {s:Shared} {a:Addr} {y:V} {u:Value} {A:Around} {E:Value->Shared->Prop}
end
end L2
namespace Att
open PySem PySem.W PySem.Calls PyProof.Rows
theorem Fy {P:Params} {h:Heap}:∀ (ns:List Int) (vs:List Value),WellAll P h vs (ns.map WData.int)->IntsAre vs ns:=by
  intro ns
  induction ns with
  | nil=>
    intro vs w
    rw [List.map_nil] at w
    cases w
    exact .nil
  | cons n ns ih=>
    intro vs w
    rw [List.map_cons] at w
    cases w with
    | cons a b=>
      cases a
      exact .cons _ _ (ih _ b)
theorem NO {l:OpenLaw} {n:Nat} (hn:l.most=some n) {P:Params} {h:Heap} {args:List WData} {vals:List Value}
    (hpre:l.row.toRowW.claim.pre args=true) (hwl:WellAll P h vals args) :
    ∃ a vs ns,vals=[Value.ref a] /\ args=[WData.list (ns.map WData.int)] /\ h.get? a=some { cls:=.type "list",data:=.seq vs.toArray } /\ IntsAre vs ns /\ ns.length <= n:=by
  have hsh:WShape.hasAll [] args [.list .int]=true:=(pre_splitW hpre).1
  have hc:l.pre.holds [] { args:=args }=true:=(pre_splitW hpre).2
  obtain ⟨d,r,rfl,h1,h2⟩:=hasAllW_cons hsh
  obtain rfl:=hasAllW_nil h2
  obtain ⟨xs,rfl,h3⟩:=hasW_list h1
  obtain ⟨ns,rfl⟩:=items_int h3
  have hlen:ns.length <= n:=by
    unfold OpenLaw.pre at hc
    have h4:(WTm.not (.lt (.lit (.int (n:Int))) (.len (.arg 0)))).holds [] { args:=[.list (ns.map .int)] }=true:=by
      have h4:=(holds_andW hc).1
      rw [hn] at h4
      exact h4
    have h5:=condW_of h4 (w_not (w_lt w_lit (w_len_list (w_arg rfl))))
    rw [List.length_map] at h5
    refine Nat.le_of_not_lt fun q=>?_
    have q':(n:Int) < ((ns.length:Nat):Int):=by omega
    first
      | (rw [decide_eq_true q'] at h5; exact absurd h5 (by decide))
      | (simp at h5; omega)
  cases hwl with
  | cons w1 w2=>
    cases w2
    cases w1 with
    | list ho hall=>exact ⟨_,_,ns,rfl,rfl,ho,Fy ns _ hall,hlen⟩
theorem NZ (l:OpenLaw) (args:List WData):l.row.toRowW.claim.post args (.bool true) args=true:=
  postW_of (r:=l.row.toRowW) (X:=(true == true))
    (show WShape.has [] (.bool true) .bool=true by first | rfl | decide | simp [WShape.has,WShape.arms,WShape.armsAll])
    (show (WTm.eq .res (.lit (.bool true))).value [] { args:=args,res:=some (.bool true),after:=args }=some (.bool (true == true)) from w_eq_bool (w_res rfl) w_lit) rfl
theorem Ka {l:OpenLaw} {n:Nat} {q:Program} {loose:List Str} {XP:(Str->Option Value)->Heap->Prop} {YP:World->Heap->Prop} {d:DefRec}
    (hn:l.most=some n) (hdf:d.params.defaults=[])
    (call:∀ (w:World) (s₀ s₁:Shared) (mg mb:Str->Option Value) (fa:Addr) (o:Obj) (pm cd doc:Value) (a:Addr) (vs:List Value) (ns:List Int),
      Ground q loose [] XP w s₀ mg mb s₁.heap->YP w s₁.heap->
      s₁.heap.get? fa=some o->o.data=.func (docDef d.name d.params d.body d.scope pm cd doc)->s₁.heap.CodeRec cd d.name->mg d.name=some (.ref fa)->
      s₁.heap.get? a=some { cls:=.type "list",data:=.seq vs.toArray }->IntsAre vs ns->ns.length <= n->s₁.gens = #[]->
      codeAny (model l.prog w) callerA (.call (.ref fa) ⟨[.ref a],[]⟩) (fun r s'=>r=.ok (.ret (.bool true)) /\ OldK s₁.heap s'.heap /\ s'.os=s₁.os /\ AllBare s'.gens) s₁) :
    WalkO q loose XP YP l.row.toRowW d [] (fun f vs=>PySem.call f vs):=by
  intro w s₀ s₁ mg mb G Y fa o pm cd doc dV kV ho hd hcd hD hmg hg args vals as hpre hlay hrd hwl hlo
  obtain rfl:dV=.none:=Dflts.none hD hdf
  obtain rfl:kV=.none:=Dflts.noKw hD
  obtain ⟨a,vs,ns,rfl,rfl,hobj,hints,hlen⟩:=NO hn hpre hwl
  refine enter_call (codeAny_mono (call w s₀ s₁ mg mb fa o pm cd doc a vs ns G Y ho (fd_plain hd) hcd hmg hobj hints hlen hg) fun r s' hq=>?_)
  obtain ⟨rfl,h2,h3,h4⟩:=hq
  exact ⟨.inl ⟨.bool true,.bool true,[],rfl,fun _=>rfl,.bool true,NZ l _,fun _=>⟨List.Pairwise.nil,fun _ hm=>(nomatch hm)⟩⟩,h2,h3,h4⟩
section
variable {prog:Program} {w:World} {A:Around} {E:Value->Shared->Prop} {s:Shared} {K:Frag}
end
end Att
namespace L2
open PySem PySem.Spec PyProof.Rows
theorem D6:∀ {vs:List Value} {ns:List Int},IntsAre vs ns->Vals (ns.map V.int) vs
  | _,_,.nil=>.nil
  | _,_,.cons n t h=>.cons ⟨t,rfl⟩ (D6 h)
def SI (H:Hp):Prop:=∀ b,H b=none ∨ ∃ o xs,H b=some (.frz o (.lst xs))
theorem Pc {P:Program} {w:World} {K:PySem.W.Frag} {mg mb:Str->Option Value} {CX:CXT} {k:Nat} {fa a:Addr} {fd:FuncData} {x:Str} {sp:Sp} {s₁:Shared} {vs:List Value} {ns:List Int}
    (KX:K.In s₁.heap) (hns:s₁.heap.Ns mainGlobals mg) (hb:s₁.heap.Ns builtinsNs mb) (hbb:∀ x:Str,x ≠ "__name__" -> mb x=bootBuiltins x) (hlim:s₁.heap.NoLimit) (hg:s₁.gens = #[])
    (ha:s₁.heap.get? a=some { cls:=.type "list",data:=.seq vs.toArray }) (hi:IntsAre vs ns) (hl:ns.length <= sizeLine) (hr:Room k callerA)
    (F:∀ base:Heap,K.In base->base.Ns mainGlobals mg->FnOk P w K mg base CX k fa fd [x] sp) (hbind:∀ (s:Shared) (u:Value),BindsTo s fd ⟨[u],[]⟩ [(x,u)])
    (hsp:∀ H:Hp,SI H->SqL K H a (ns.map V.int)->sp [.ref a] H (fun v _=>v=.bl true) fun _ _ _=>False)
    (hCX:∀ H e s',CX [] H s₁ (fun _ _ _=>False) e s'->False) :
    codeAny (model P w) callerA (.call (.ref fa) ⟨[.ref a],[]⟩) (fun r s'=>r=.ok (.ret (.bool true)) /\ OldK s₁.heap s'.heap /\ s'.os=s₁.os /\ AllBare s'.gens) s₁:=by
  have rv:=D6 hi
  have lenV:=hi.length
  have core:∀ H:Hp,SI H->SqL K H a (ns.map V.int)->HOk P w H s₁.heap->(∀ b,H b ≠ none->b=a)->(H a ≠ none->K.lookup a=none)->
      codeAny (model P w) callerA (.call (.ref fa) ⟨[.ref a],[]⟩) (fun r s'=>r=.ok (.ret (.bool true)) /\ OldK s₁.heap s'.heap /\ s'.os=s₁.os /\ AllBare s'.gens) s₁:=by
    intro H hO hS hok hA hK
    have base_of:∀ {b:Addr} {o:Obj},s₁.heap.get? b=some o->H b=none->(JB s₁.heap H).get? b=some o:=fun e n=>Ph e n
    have noA:∀ {b:Addr} {o:Obj} {es:Array DictEntry} {ep:Nat},s₁.heap.get? b=some o->o.data=.dict es ep->H b=none:=fun {b o es ep} e d=>by
      cases q:H b with
      | none=>rfl
      | some u=>
        have e':b=a:=hA b (by rw [q]; simp)
        subst e'
        rw [ha] at e; cases e
        have d':Data.seq vs.toArray _=Data.dict es ep:=d
        cases d'
    have nsK:∀ {b:Addr} {m:Str->Option Value},s₁.heap.Ns b m->(JB s₁.heap H).Ns b m:=fun {b m} ⟨o,es,ep,e,d,r⟩=>⟨o,es,ep,base_of e (noA e d),d,r⟩
    have hKb:K.In (JB s₁.heap H):=fun b o e=>base_of (KX b o e) (by
      cases q:H b with
      | none=>rfl
      | some u=>
        have e':b=a:=hA b (by rw [q]; simp)
        subst e'
        rw [hK (by rw [q]; simp)] at e; cases e)
    have hM:Mod K mg (JB s₁.heap H):=⟨hKb,nsK hns,⟨mb,nsK hb,hbb⟩,let ⟨mc,h1,h2⟩:=hlim; ⟨mc,nsK h1,h2⟩⟩
    have e0:SK P w K mg (JB s₁.heap H) callerA [] s₁ H:=⟨rfl,hM,fun b o e=>Rj e,Nat.le_of_eq (Nq _ _),trivial,fun b hb=>absurd (show b ∈ ([]:List Addr) from hb) (by simp),hok,.of_eq hg⟩
    refine codeAny_mono ((F _ hKb (nsK hns)).run callerA [] s₁ H ⟨[.ref a],[]⟩ [.ref a] [.ref a] _ _ hr e0 (hbind s₁ (.ref a)) (.cons rfl .nil) (hsp H hO hS)) fun r s' h=>?_
    cases r with
    | error e=>exact (hCX H e s' h).elim
    | ok fl=>
      cases fl with
      | next=>exact False.elim h
      | brk=>exact False.elim h
      | cont=>exact False.elim h
      | ret u=>
        obtain ⟨v,H',os,bare,un,hok',r',q⟩:=h
        have q':v=.bl true:=q
        subst q'
        obtain rfl:u=Value.bool true:=r'
        refine ⟨rfl,OldK.of_keep fun b o e=>?_,os,bare⟩
        cases q:H b with
        | none=>exact un.keep b o e q (by intro z; exact absurd (show b ∈ ([]:List Addr) from z) (by simp)) (by simp)
        | some u=>
          rcases hO b with z | ⟨ob,xs,z⟩
          . rw [q] at z; cases z
          . have z2:=un.frzs b ob _ z
            obtain ⟨e1,_⟩:=hok b _ z
            obtain ⟨e2,_⟩:=hok' b _ z2
            rw [e] at e1; cases e1
            exact e2
  cases hk:K.lookup a with
  | some o=>
    have e:=KX a o hk
    rw [ha] at e
    cases e
    refine core (fun _=>none) (fun _=>.inl rfl) (.inr ⟨_,vs.toArray,_,hk,rfl,rfl,rfl,by rw [List.size_toArray,lenV]; exact hl,by simpa using rv⟩) (fun b u z=>by have z':(none:Option HO)=some u:=z; cases z') (fun b z=>absurd rfl z) fun z=>absurd rfl z
  | none=>
    refine core (fun b=>if b=a then some (.frz { cls:=.type "list",data:=.seq vs.toArray } (.lst (ns.map V.int))) else none) (fun b=>?_) (.inl (.inr ⟨{ cls:=.type "list",data:=.seq vs.toArray },if_pos rfl⟩)) (fun b u z=>?_) (fun b z=>?_) fun _=>hk
    . by_cases hb:b=a
      . exact .inr ⟨_,_,if_pos hb⟩
      . exact .inl (if_neg hb)
    . by_cases hb:b=a
      . have z':=(if_pos hb).symm.trans z
        cases z'
        subst hb
        exact ⟨ha,by rw [List.length_map]; exact hl,vs,_,rv,ha⟩
      . have z':=(if_neg hb).symm.trans z
        cases z'
    . by_cases hb:b=a
      . exact hb
      . exact absurd (if_neg hb) z
end L2
namespace L2
open PySem PySem.Spec PyProof.Rows
theorem Qs {l:PySem.W.OpenLaw} {n k:Nat} {q:Program} {loose:List Str} {XP:(Str->Option Value)->Heap->Prop} {YP:World->Heap->Prop} {d:DefRec} {K:Params->PySem.W.Frag} {CX:World->CXT} {sp:World->Sp} {x:Str}
    (hn:l.most=some n) (hn2:n <= sizeLine) (hdf:d.params.defaults=[]) (hr:Room k callerA)
    (hY:∀ (w:World) (h:Heap),YP w h->(K w.params).In h)
    (F:∀ (w:World) (mg:Str->Option Value) (fa:Addr) (h:Heap),(K w.params).In h->h.Ns mainGlobals mg->mg d.name=some (.ref fa)->
      ∃ fd:FuncData,(∀ (s:Shared) (u:Value),BindsTo s fd ⟨[u],[]⟩ [(x,u)]) /\
        ∀ base:Heap,(K w.params).In base->base.Ns mainGlobals mg->FnOk l.prog w (K w.params) mg base (CX w) k fa fd [x] (sp w))
    (hsp:∀ (w:World) (H:Hp) (a:Addr) (ns:List Int),ns.length <= n->SI H->SqL (K w.params) H a (ns.map V.int)->sp w [.ref a] H (fun v _=>v=.bl true) fun _ _ _=>False)
    (hCX:∀ (w:World) (H:Hp) (s:Shared) (e:Value) (s':Shared),CX w [] H s (fun _ _ _=>False) e s'->False) :
    PySem.W.WalkO q loose XP YP l.row.toRowW d [] (fun f vs=>PySem.call f vs):=by
  refine Att.Ka hn hdf fun w s₀ s₁ mg mb fa o pm cd doc a vs ns G Y ho hd hcd hmg hobj hints hlen hg=>?_
  have KX:=hY w _ Y
  obtain ⟨fd,hb,hF⟩:=F w mg fa _ KX G.T.g hmg
  exact Pc KX G.T.g G.T.b G.T.builtins G.T.nolimit hg hobj hints (Nat.le_trans hlen hn2) hr hF hb (fun H hO hS=>hsp w H a ns hlen hO hS) fun H e s'=>hCX w H s₁ e s'
end L2
namespace L2
open PySem PySem.Spec PyProof.Rows
def FD (s:Stmt):Arguments:=match s with
  | .FunctionDef _ a _ _ _ _ _ _ _ _=>a
  | _=>{ posonlyargs:=[],args:=[],vararg:=none,kwonlyargs:=[],kw_defaults:=[],kwarg:=none,defaults:=[] }
def AX (s:Stmt):List Stmt:=match s with
  | .FunctionDef _ _ b _ _ _ _ _ _ _=>b
  | _=>[]
def AF (s:Stmt):Scope:=match s with
  | .FunctionDef _ _ _ _ _ _ sc _ _ _=>sc
  | _=>{ kind:=.function,names:=[],isGenerator:=false,isCoroutine:=false }
abbrev CX0:CXT:=fun _ _ _ _ _ _=>False
abbrev E0:XK:=fun _ _ _=>False
theorem VS {X:Cx}:Le CX0 X E0:=fun _ _ _ _ _ _ _ h=>h.elim
structure Fun (K:PySem.W.Frag) (x qual:Str) (st:Stmt) (f:Addr) (fd:FuncData):Prop where
  ex:∃ (oc:Value) (od:Option Addr) (kV doc pm:Value) (an:Option Addr) (cdv ct:Value) (osl:Array (Option Value)),
    fd=PySem.W.fnOf x qual (FD st) (AX st) (AF st) .none kV doc pm an cdv ct /\ K.lookup f=some ⟨oc,od,.func fd,osl⟩ /\ PySem.W.codeIn K cdv qual=true
  kp:PySem.W.keepIn K (.ref f)=true
section
variable {P:Program} {w:World} {K:PySem.W.Frag} {mg:Str->Option Value} {base:Heap}
theorem Fun.ok {x qual:Str} {st:Stmt} {f:Addr} {fd:FuncData} {N ps:List Str} {k:Nat} {sp:Sp} (F:Fun K x qual st f fd) (S:Ac N ps (AF st)) (len:∀ vs H Q E,sp vs H Q E->vs.length=ps.length)
    (hbody:∀ (cdv:Value) (A:Around) (outer:List Env) (s:Shared) (H:Hp) (vs:List V) (Q:VK) (E:XK),Room k (A.deeper (envOfC qual (AF st) s.heap.objs.size f cdv))->sp vs H Q E->
      ∃ t,PSs (Bb CX0 P w K mg base N qual (AF st) f cdv A outer s H E).nox (AX st) t /\ t { nx:=fun _ H'=>Q .non H',rt:=Q } (start N vs) H):FnOk P w K mg base CX0 (k + 1) f fd ps sp:=by
  obtain ⟨oc,od,kV,doc,pm,an,cdv,ct,osl,rfl,lk,hcd⟩:=F.ex
  refine Vh lk hcd S len fun A outer s H vs Q E hr hsp=>?_
  obtain ⟨t,h,q⟩:=hbody cdv A outer s H vs Q E hr hsp
  exact ⟨t,h.nox,q⟩
theorem Fun.binds {x qual:Str} {st:Stmt} {f:Addr} {fd:FuncData} {ps:List Str} (F:Fun K x qual st f fd)
    (h:∀ (kV doc pm:Value) (an:Option Addr) (cdv ct:Value) (us:List Value),us.length=ps.length->bindArgs (PySem.W.fnOf x qual (FD st) (AX st) (AF st) .none kV doc pm an cdv ct) ⟨us,[]⟩=pure (ps.zip us)):Binds K fd ps []:=by
  obtain ⟨oc,od,kV,doc,pm,an,cdv,ct,osl,rfl,lk,hcd⟩:=F.ex
  exact .all (h kV doc pm an cdv ct)
theorem UU {x qual:Str} {st:Stmt} {f:Addr} {oc:Value} {od an:Option Addr} {osl:Array (Option Value)} {kV doc pm cdv ct:Value} (l:K.lookup f=some ⟨oc,od,.func (PySem.W.fnOf x qual (FD st) (AX st) (AF st) .none kV doc pm an cdv ct),osl⟩)
    (c:PySem.W.codeIn K cdv qual=true) (k:PySem.W.keepIn K (.ref f)=true):Fun K x qual st f (PySem.W.fnOf x qual (FD st) (AX st) (AF st) .none kV doc pm an cdv ct):=⟨⟨oc,od,kV,doc,pm,an,cdv,ct,osl,rfl,l,c⟩,k⟩
end
section
variable {X:Cx}
end
section
variable {κ:Type} [DecidableEq κ]
end
end L2
namespace L2
open PySem PySem.Spec PyProof.Rows
def C7 (env:Env):List (Str × NameKind)->List (Str × Addr)->List (Str × Addr)
  | [],cs=>cs
  | (n,k) :: r,cs=>C7 env r (if k == .free then (match env.cells.lookup n with | some c=>(n,c) :: cs | none=>cs) else cs)
theorem CZ {env:Env}:∀ (l:List (Str × NameKind)) (cs:List (Str × Addr)),(∀ x ∈ l,x.2=.free->∃ c,env.cells.lookup x.1=some c)->
    (forIn l cs fun (x:Str × NameKind) (r:List (Str × Addr))=>(if (x.2 == NameKind.free)=true then (do let a ← cellOf env x.1; pure (ForInStep.yield ((x.1,a) :: r))) else pure (ForInStep.yield r):Sem (ForInStep (List (Str × Addr)))))=pure (C7 env l cs)
  | [],cs,_=>by rw [List.forIn_nil]; rfl
  | (n,k) :: r,cs,h=>by
    have hr:∀ x ∈ r,x.2=.free->∃ c,env.cells.lookup x.1=some c:=fun x hx=>h x (List.mem_cons_of_mem _ hx)
    rw [List.forIn_cons]
    by_cases hk:k=.free
    . subst hk
      obtain ⟨c,hc⟩:=h (n,.free) List.mem_cons_self rfl
      have e:cellOf env n=pure c:=by unfold cellOf; rw [hc]
      dsimp only
      rw [if_pos (by decide),e,pure_bind,pure_bind]
      dsimp only
      rw [CZ r _ hr]
      show _=pure (C7 env r (if (NameKind.free == NameKind.free)=true then (match env.cells.lookup n with | some c=>(n,c) :: cs | none=>cs) else cs))
      rw [if_pos (by decide),hc]
    . have hb : ¬ (k == NameKind.free)=true:=by simpa using hk
      dsimp only
      rw [if_neg hb,pure_bind]
      dsimp only
      rw [CZ r _ hr]
      show _=pure (C7 env r (if (k == NameKind.free)=true then (match env.cells.lookup n with | some c=>(n,c) :: cs | none=>cs) else cs))
      rw [if_neg hb]
theorem Bg {scope:Scope} {env:Env} (h:∀ x ∈ scope.names,x.2=.free->∃ c,env.cells.lookup x.1=some c):closureFor scope env=pure (C7 env scope.names []):=by
  have e:=CZ (env:=env) scope.names [] h
  unfold closureFor
  dsimp only
  rw [← bind_pure (pure (C7 env scope.names [])),← e]
theorem DR {env:Env}:∀ (l:List (Str × NameKind)) (cs:List (Str × Addr)),(∀ x c,cs.lookup x=some c->env.cells.lookup x=some c)->∀ x c,(C7 env l cs).lookup x=some c->env.cells.lookup x=some c
  | [],cs,h=>h
  | (n,k) :: r,cs,h=>by
    refine DR r _ ?_
    intro x c
    by_cases hk:(k == NameKind.free)=true
    . rw [if_pos hk]
      cases hl:env.cells.lookup n with
      | none=>exact h x c
      | some d=>
        intro q
        by_cases hx:x=n
        . subst hx
          rw [List.lookup_cons_self] at q
          rw [hl]; exact q
        . have hb:(x == n)=false:=beq_eq_false_iff_ne.mpr hx
          simp only [List.lookup_cons,hb] at q
          exact h x c q
    . rw [if_neg hk]; exact h x c
theorem G8 {env:Env}:∀ (l:List (Str × NameKind)) (cs:List (Str × Addr)) (x:Str),(cs.lookup x).isSome=true->((C7 env l cs).lookup x).isSome=true
  | [],cs,x,h=>h
  | (n,k) :: r,cs,x,h=>by
    refine G8 r _ x ?_
    by_cases hk:(k == NameKind.free)=true
    . rw [if_pos hk]
      cases hl:env.cells.lookup n with
      | none=>exact h
      | some d=>
        by_cases hx:(x == n)=true
        . simp only [List.lookup_cons,hx,Option.isSome_some]
        . have hb:(x == n)=false:=by simpa using hx
          simp only [List.lookup_cons,hb]; exact h
    . rw [if_neg hk]; exact h
theorem KP {env:Env}:∀ (l:List (Str × NameKind)) (cs:List (Str × Addr)) (x:Str) (c:Addr),(x,NameKind.free) ∈ l->env.cells.lookup x=some c->((C7 env l cs).lookup x).isSome=true
  | [],cs,x,c,h,_=>by simp at h
  | (n,k) :: r,cs,x,c,h,hc=>by
    rcases List.mem_cons.mp h with e | e
    . obtain ⟨rfl,rfl⟩:=Prod.mk.inj e
      refine G8 r _ _ ?_
      rw [if_pos (by decide),hc]
      simp only [List.lookup_cons_self,Option.isSome_some]
    . exact KP r _ x c e hc
theorem IA {env:Env} {l:List (Str × NameKind)} {x:Str} {c:Addr} (h:(x,NameKind.free) ∈ l) (hc:env.cells.lookup x=some c):(C7 env l []).lookup x=some c:=by
  obtain ⟨d,hd⟩:=Option.isSome_iff_exists.mp (KP l [] x c h hc)
  have:=DR l [] (fun _ _ z=>by simp at z) x d hd
  rw [hc] at this; cases this
  exact hd
def Bt:List (Str × NameKind)->List Str
  | []=>[]
  | (n,.free) :: r=>n :: Bt r
  | _ :: r=>Bt r
theorem EV {x:Str}:∀ {l:List (Str × NameKind)},x ∈ Bt l->(x,NameKind.free) ∈ l
  | [],h=>by simp [Bt] at h
  | (n,k) :: r,h=>by
    cases k <;> first
      | (rcases List.mem_cons.mp (show x ∈ n :: Bt r from h) with e | e
         . subst e; exact List.mem_cons_self
         . exact List.mem_cons_of_mem _ (EV e))
      | exact List.mem_cons_of_mem _ (EV (show x ∈ Bt r from h))
theorem Hq {x:Str}:∀ {l:List (Str × NameKind)},(x,NameKind.free) ∈ l->x ∈ Bt l
  | [],h=>by simp at h
  | (n,k) :: r,h=>by
    rcases List.mem_cons.mp h with e | e
    . cases e; exact List.mem_cons_self
    . have ih:=Hq e
      cases k <;> first
        | exact List.mem_cons_of_mem _ ih
        | exact ih
theorem D1 {x:Str} (f:Str × NameKind->Str × NameKind) (hf:∀ p,f p=p ∨ p.2=.free /\ f p=(p.1,.cell)):∀ (l:List (Str × NameKind)) (k:NameKind),(l.map f).lookup x=some k->l.lookup x=some k ∨ l.lookup x=some .free /\ k=.cell
  | [],_,h=>nomatch h
  | (y,j) :: l,k,h=>by
    have rest:=D1 (x:=x) f hf l k
    rw [List.map_cons] at h
    rcases hf (y,j) with e | ⟨ej,e⟩ <;> rw [e] at h <;> cases he:x == y <;> simp only [List.lookup_cons,he] at h ⊢
    . exact rest h
    . exact .inl h
    . exact rest h
    . cases h
      cases (show j=NameKind.free from ej)
      exact .inr ⟨rfl,rfl⟩
theorem Cp {scope:Scope} {env:Env} {x:Str} {k:NameKind} (h:(relabel scope env).names.lookup x=some k):scope.names.lookup x=some k ∨ scope.names.lookup x=some .free /\ k=.cell:=by
  unfold relabel at h
  refine D1 _ (fun p=>?_) _ _ h
  obtain ⟨n,j⟩:=p
  dsimp only
  split
  . rename_i hc
    refine .inr ⟨?_,rfl⟩
    simp only [Bool.and_eq_true,beq_iff_eq] at hc
    exact hc.1.1
  . exact .inl rfl
def Hf (ix:List Nat) (σ:St):St:=ix.map fun j=>(σ[j]?).getD none
def cxB (X:Cx) (scope:Scope) (tgs:List Str) (fp:List Addr) (C:Addr) (s:Shared) (H:Hp):Cx:=
  { X with N:=tgs ++ Bt scope.names,s₀:=s,H₀:=H,env:=compEnvC scope (C7 X.env scope.names []) C X.env,outer:=X.stack,ex:=fp,fn:=fun _=>false,pn:=[],xe:=fun _ _=>False }
def Um {α:Type} (P:α->Prop):List α->Prop
  | []=>True
  | x :: r=>P x /\ Um P r
theorem HG {α:Type} {P:α->Prop}:∀ {l:List α},Um P l->∀ x ∈ l,P x
  | [],_,_,h=>by simp at h
  | _ :: _,h,x,hx=>by
    rcases List.mem_cons.mp hx with e | e
    . subst e; exact h.1
    . exact HG h.2 x e
structure BScope (X:Cx) (scope:Scope) (tgs:List Str) (ix:List Nat):Prop where
  kind:scope.kind=.function
  nocell:∀ y ∈ scope.names,y.2 ≠ .cell
  loc:∀ y ∈ scope.names,y.2=.local->scope.names.lookup y.1=some .local
  fre:Um (fun x=>X.env.kindOf x=some .cell ∨ X.env.kindOf x=some .free) (Bt scope.names)
  ixs:(Bt scope.names).map some=ix.map fun j=>X.N[j]?
  ndl:∀ x ∈ Bt scope.names,scope.names.lookup x=some .free
section
variable {X:Cx} {scope:Scope} {tgs:List Str} {ix:List Nat}
theorem BScope.cells (S:BScope X scope tgs ix) (ok:X.Ok):∀ x ∈ scope.names,x.2=.free->∃ c,X.env.cells.lookup x.1=some c:=fun x hx hk=>by
  obtain ⟨n,k⟩:=x
  subst hk
  exact ok.has n (HG S.fre n (Hq hx))
theorem Inv.cellLt {pins:List (Addr × Obj)} {σ:St} {H:Hp} {s:Shared} (I:Inv X pins σ H s) {x:Str} {c:Addr} (e:X.env.cells.lookup x=some c):c < s.heap.objs.size:=by
  obtain ⟨v,q⟩:=I.cell x c e
  exact q.lt
theorem Inv.track {pins:List (Addr × Obj)} {σ:St} {H:Hp} {s:Shared} {D:Addr} {o:HO} (I:Inv X pins σ H s) (f:D5 X pins H D) (new:ObjOk X.prog X.w (upd H D o) s.heap D o):Inv X pins σ (upd H D o) s:=by
  obtain ⟨f0,f1,f2,f3,f4,f5⟩:=f
  have nD:∀ b u,H b=some u->b ≠ D:=fun b u e z=>by rw [z,f0] at e; cases e
  have:=I.step (h':=s.heap) (H':=upd H D o) (g':=s.gens) (t':=s.toks) (d':=s.drawn) (ch:=[D]) (fun b hb=>?_) (fun b u _ _ _ e _=>e) (fun b u _ _ _ e _=>⟨u.slots,e⟩) (fun b u hb e n=>?_) (fun b u _ e=>⟨u,e⟩)
    (fun b xs e=>?_) (fun b u v e=>?_) (fun b ps e=>?_) (fun m hm=>hm) (fun b u e=>?_) I.bare
  . exact this
  . have e:b=D:=by simpa using hb
    subst e
    exact ⟨f3,f1,f4,f5⟩
  . rw [Ap (fun z=>hb (by simp [z]))]; exact n
  . rw [Ap (nD b _ e)]; exact e
  . rw [Ap (nD b _ e)]; exact e
  . exact ⟨#[],by rw [Ap (nD b _ e),e]; simp⟩
  . by_cases hb:b=D
    . subst hb; rw [A0] at e; cases e; exact new
    . rw [Ap hb] at e
      exact (I.hok b u e).stay (fun _ _ _ q=>q) (fun c q=>by rw [Ap (nD c _ q)]; exact q) fun c xs q=>by rw [Ap (nD c _ q)]; exact q
theorem LS {pins:List (Addr × Obj)} {σ:St} {H:Hp} {s:Shared} {fp:List Addr} {C:Addr} (S:BScope X scope tgs ix) (I:Inv X pins σ H s) (hf:∀ b ∈ fp,D5 X pins H b) (hfo:∀ b ∈ fp,b < s.heap.objs.size) (hC:s.heap.objs.size <= C) :
    (cxB X scope tgs fp C s H).Ok:=by
  have sub:∀ x c,(C7 X.env scope.names []).lookup x=some c->X.env.cells.lookup x=some c:=DR scope.names [] (fun _ _ z=>by simp at z)
  refine ⟨I.ok.mod,S.kind,I.ok.glob,I.ok.blt,hC,fun x y c h1 h2=>I.ok.inj x y c (sub x c h1) (sub y c h2),fun x hx=>?_,fun x c h=>absurd h (by simp [cxB]),I.ok.hd,I.ok.frames,.inl rfl,fun b hb=>⟨?_,fun x c e=>?_⟩,fun b o e=>I.bs b o e,
    Nat.le_trans I.ok.bsz I.sz,fun b o e hb=>?_,fun b hb hz=>?_,I.stack,I.stkFree⟩
  . have hx':(relabel scope X.env).names.lookup x=some .cell ∨ (relabel scope X.env).names.lookup x=some .free:=hx
    have hm:(x,NameKind.free) ∈ scope.names:=by
      rcases hx' with h | h
      . rcases Cp h with q | q
        . exact absurd rfl (S.nocell _ (PySem.mem_of_lookup q))
        . exact PySem.mem_of_lookup q.1
      . rcases Cp h with q | q
        . exact PySem.mem_of_lookup q
        . exact absurd q.2 (by decide)
    obtain ⟨c,hc⟩:=S.cells I.ok _ hm rfl
    exact ⟨c,IA hm hc⟩
  . exact fun z=>absurd (hfo b hb) (by rw [z]; exact Nat.not_lt.mpr hC)
  . exact (hf b hb).2.2.2.2.1 x c (sub x c e)
  . obtain ⟨f0,f1,f2,f3,f4,f5⟩:=hf b hb
    rcases f3 with z | z
    . exact I.ok.noex b o e z
    . exact absurd (Heap.lt_size (I.ok.bs b o e).1) (Nat.not_lt.mpr z)
  . obtain ⟨f0,f1,f2,f3,f4,f5⟩:=hf b hb
    rcases List.mem_cons.mp (I.stkSub b hz) with z | z
    . exact f1 z
    . exact f2 z
end
end L2
namespace L2
open PySem PySem.Spec PyProof.Rows
section
variable {X:Cx} {scope:Scope} {tgs:List Str} {ix:List Nat}
abbrev Bp (tgs:List Str) (ix:List Nat) (σ:St):St:=List.replicate tgs.length none ++ Hf ix σ
theorem GJ {σ:St} {k:Nat} {v:V} (h:(Bp tgs ix σ)[k]? = some (some v)):tgs.length <= k /\ ∃ j,ix[k - tgs.length]? = some j /\ σ[j]? = some (some v):=by
  have hk:tgs.length <= k:=by
    rcases Nat.lt_or_ge k tgs.length with z | z
    . rw [List.getElem?_append_left (by simpa using z),List.getElem?_replicate,if_pos z] at h
      cases h
    . exact z
  refine ⟨hk,?_⟩
  rw [List.getElem?_append_right (by simpa using hk),List.length_replicate] at h
  unfold Hf at h
  rw [List.getElem?_map] at h
  cases e:ix[k - tgs.length]? with
  | none=>rw [e] at h; cases h
  | some j=>
    rw [e] at h
    refine ⟨j,rfl,?_⟩
    have h':(σ[j]?).getD none=some v:=Option.some.inj h
    cases q:σ[j]? with
    | none=>rw [q] at h'; cases h'
    | some o=>
      rw [q] at h'
      have h'':o=some v:=h'
      rw [h'']
theorem Gn {pins:List (Addr × Obj)} {σ:St} {H:Hp} {s s4:Shared} {fp:List Addr} {C D:Addr} {o:Obj} (S:BScope X scope tgs ix) (I:Inv X pins σ H s) (hf:∀ b ∈ fp,D5 X pins H b) (hfo:∀ b ∈ fp,b < s.heap.objs.size)
    (hC:s.heap.objs.size <= C) (hD:s.heap.objs.size <= D) (hDC:D ≠ C) {m:Str->Option Value} (hn:s4.heap.Ns C m) (hk:∀ b u,s.heap.get? b=some u->s4.heap.get? b=some u) (hos:s4.os=s.os) (hg:s4.gens=s.gens)
    (hDo:s4.heap.get? D=some o) (hcell:∀ v,o.data ≠ .cell v):Inv (cxB X scope tgs fp C s H) [(D,o)] (Bp tgs ix σ) H s4:=by
  have ok:=LS (tgs:=tgs) (ix:=ix) (C:=C) S I hf hfo hC
  have sub:∀ x c,(C7 X.env scope.names []).lookup x=some c->X.env.cells.lookup x=some c:=DR scope.names [] (fun _ _ z=>by simp at z)
  refine ⟨ok,hos,by rw [hg]; exact I.bare,Un.kept hk,⟨m,hn,fun k x v h1 h2 h3=>?_⟩,fun x c e=>?_,I.hok.fresh hC,fun x c e=>I.freeC x c (sub x c e),fun p hp=>?_,I.hok.kept hk,?_⟩
  . obtain ⟨hkl,j,hj,hσ⟩:=GJ h2
    have h1':(Bt scope.names)[k - tgs.length]? = some x:=by
      have:(tgs ++ Bt scope.names)[k]? = some x:=h1
      rwa [List.getElem?_append_right hkl] at this
    have hx:x ∈ Bt scope.names:=List.mem_of_getElem? h1'
    have hXN:X.N[j]? = some x:=by
      have e:=congrArg (fun l=>l[k - tgs.length]?) S.ixs
      simp only [List.getElem?_map,h1',hj,Option.map_some] at e
      exact (Option.some.inj e).symm
    have kx:=HG S.fre x hx
    obtain ⟨m0,hn0,hl⟩:=I.loc
    obtain ⟨u,r,l⟩:=hl j x v hXN hσ (by rcases kx with z | z; exact .inr (.inl z); exact .inr (.inr z))
    refine ⟨u,r,?_⟩
    rcases l with ⟨z,_⟩ | ⟨_,c,hc,q⟩
    . rcases kx with y | y <;> rw [z] at y <;> cases y
    . refine .inr ⟨?_,c,IA (EV hx) hc,?_⟩
      . have h3':(relabel scope X.env).names.lookup x=some .local ∨ (relabel scope X.env).names.lookup x=some .cell ∨ (relabel scope X.env).names.lookup x=some .free:=h3
        rcases h3' with z | z | z
        . exfalso
          rcases Cp z with w | w
          . have lk:scope.names.lookup x=some .local:=w
            have:=S.ndl x hx
            rw [lk] at this; cases this
          . exact absurd w.2 (by decide)
        . exact .inl z
        . exact .inr z
      . obtain ⟨oc,hoc,hd⟩:=q
        exact ⟨oc,hk c oc hoc,hd⟩
  . obtain ⟨v,oc,hoc,hd⟩:=I.cell x c (sub x c e)
    exact ⟨v,oc,hk c oc hoc,hd⟩
  . have e:p=(D,o):=by simpa [cxB] using hp
    subst e
    refine ⟨hDo,I.hok.fresh hD,hDC,fun hz=>?_,hcell⟩
    have hz':D ∈ frs X.stack:=hz
    rcases List.mem_cons.mp (I.stkSub D hz') with z | z
    . exact absurd I.lt (by rw [← z]; exact Nat.not_lt.mpr hD)
    . exact I.nofs hD z
  . show (List.replicate tgs.length none ++ Hf ix σ).length=(tgs ++ Bt scope.names).length
    have e:=congrArg List.length S.ixs
    simp only [List.length_map] at e
    rw [List.length_append,List.length_append,List.length_replicate,e]
    unfold Hf
    rw [List.length_map]
def JK (X:Cx) (ifs:List Expr) (tc:TT):Prop:=
  ∀ (pins:List (Addr × Obj)) (s:Shared) (σ:St) (H:Hp) (Q:Bool->Hp->Prop),Inv X pins σ H s->tc σ H Q->
    wpAny (model X.prog X.w) X.A (forIn ifs true fun c r=>if r=true then do let ok ← isTrue c X.env (eval c X.env); pure (ForInStep.yield ok) else pure (ForInStep.yield r)) (TP X pins σ Q) X.xe s
def U1:TT:=fun _ H Q=>Q true H
theorem O0:JK X [] U1:=fun pins s σ H Q I h=>wpAny_tests_nil ⟨H,I,h⟩
theorem Oz {c:Expr} {tc:TT} (h:PT X c tc):JK X [c] tc:=fun pins s σ H Q I hw=>wpAny_tests_one (h pins s σ H Q I hw)
def GK (n:Nat) (g:TG):Prop:=∀ x σ H Q,g x σ H Q->g x σ H fun σ2 H2=>Q σ2 H2 /\ σ2.length=σ.length /\ σ2.drop n=σ.drop n
theorem Mg {n i:Nat} (h:i < n):GK n (Di i):=fun x σ H Q q=>⟨q,by simp,by rw [List.drop_set_of_lt h]⟩
def Vs (tgs:List Str) (ix:List Nat) (g:TG) (tc:TT) (te:TE) (σ:St) (Q:VK) (J:It) (H1:Hp):Prop:=∃ W:Nat->Nat->List V->Hp->Prop,(∃ m,W 0 m [] H1) /\ ∀ i m ys H,W i m ys H->
  (J.stop i H /\ ys.length <= sizeLine /\ ∀ p,H p=none->Q (.ref p) (upd H p (.lst ys))) ∨
  (J.go i H /\ ys.length < sizeLine /\ ∃ N:List V->Hp->Prop,(∀ ys' H',N ys' H'->∃ m',m' < m /\ W (i + 1) m' ys' H') /\ ∀ x H',J.yld i H x H'->g x (Bp tgs ix σ) H' fun σ2 H2=>tc σ2 H2 fun b H3=>
    if b=true then te σ2 H3 fun v H4=>N (ys ++ [v]) H4 else N ys H3)
def HZ (tgs:List Str) (ix:List Nat) (wi:TI) (g:TG) (tc:TT) (te:TE):TE:=fun σ H Q=>wi σ H fun J H1=>Vs tgs ix g tc te σ Q J H1
theorem Ff {α:Type} {t:Sem α} {Q Q':α->Shared->Prop} {M:Model} {A:Around} {E:Value->Shared->Prop} {s:Shared} (h:wpAny M A t Q (fun _ _=>False) s) (hQ:∀ a s,Q a s->Q' a s):wpAny M A t Q' E s:=wpAny_mono h hQ fun _ _ x=>x.elim
theorem Nc {α:Type} {u:Sem Unit} {t:Sem α} {P:Unit->Shared->Prop} {Q:α->Shared->Prop} {M:Model} {A:Around} {E:Value->Shared->Prop} {s:Shared} (hu:u=pure ()) (h:wpAny M A u P E s) (k:∀ s',P () s'->wpAny M A t Q E s'):wpAny M A t Q E s:=by
  subst hu
  have z:wpAny M A ((pure ():Sem Unit) >>= fun _=>t) Q E s:=wpAny_bind (wpAny_mono h (fun _ s' p=>k s' p) fun _ _ x=>x)
  exact z
end
end L2
namespace L2
open PySem PySem.Spec PyProof.Rows
section
variable {X:Cx} {scope:Scope} {tgs:List Str} {ix:List Nat}
abbrev Dl (its:List Value) (k:Nat):Obj:={ cls:=.type "list",data:=.seq its.toArray k }
theorem Lo {fp:List Addr} {C:Addr} {s0:Shared} {H0:Hp} {pins:List (Addr × Obj)} {σ σ6:St} {H:Hp} {s:Shared} (I:Inv (cxB X scope tgs fp C s0 H0) pins σ6 H s) (l6:σ6.length=(Bp tgs ix σ).length)
    (d6:σ6.drop tgs.length=(Bp tgs ix σ).drop tgs.length):Inv (cxB X scope tgs fp C s0 H0) pins (Bp tgs ix σ) H s:=by
  refine I.weak l6.symm fun k v e=>?_
  obtain ⟨hk,_⟩:=GJ e
  have e1:σ6[k]? = (σ6.drop tgs.length)[k - tgs.length]?:=by rw [List.getElem?_drop]; congr 1; omega
  have e2:(Bp tgs ix σ)[k]? = ((Bp tgs ix σ).drop tgs.length)[k - tgs.length]?:=by rw [List.getElem?_drop]; congr 1; omega
  rw [e1,d6,← e2]
  exact e
theorem G6 {elt tg iter:Expr} {ifs:List Expr} {pos:Pos} {g:TG} {tc:TT} {te:TE} {pins:List (Addr × Obj)} {σ:St} {H2:Hp} {s2:Shared} {it:Addr} {fp:List Addr} {tn:Nat->Heap->Prop} {J:It} {Q:VK}
    (S:BScope X scope tgs ix) (ht:∀ o v,letOwnedTupleGo tg o v=pure ()) (hc:X.calm=true) (hg:∀ fp C s H,PG (cxB X scope tgs fp C s H) tg g) (hgk:GK tgs.length g) (hi:∀ fp C s H,JK (cxB X scope tgs fp C s H) ifs tc) (he:∀ fp C s H,PE (cxB X scope tgs fp C s H) elt te)
    (I2:Inv X pins σ H2 s2) (T:Kh X.prog X.w X.K tg J fp it tn) (t0:tn 0 s2.heap) (hf:∀ b ∈ fp,D5 X pins H2 b)
    (W:Nat->Nat->List V->Hp->Prop) (w0:∃ m,W 0 m [] H2)
    (turn:∀ i m ys H,W i m ys H->(J.stop i H /\ ys.length <= sizeLine /\ ∀ p,H p=none->Q (.ref p) (upd H p (.lst ys))) ∨
      (J.go i H /\ ys.length < sizeLine /\ ∃ N:List V->Hp->Prop,(∀ ys' H',N ys' H'->∃ m',m' < m /\ W (i + 1) m' ys' H') /\ ∀ x H',J.yld i H x H'->g x (Bp tgs ix σ) H' fun σ2 H2=>tc σ2 H2 fun b H3=>
        if b=true then te σ2 H3 fun v H4=>N (ys ++ [v]) H4 else N ys H3))
    {RR:Value->Addr->Result->Shared->Prop}
    (fin:∀ (D C:Addr) (s':Shared) (H':Hp) (m:Str->Option Value),Inv X pins σ H' s'->Q (.ref D) H'->s'.heap.Ns C m->D5 X pins H' C->RR (.ref D) C (.ok .next) s') :
    wpAny (model X.prog X.w) X.A (newList []) (fun acc s₃=>wpAny (model X.prog X.w) X.A (newFunctionEnv scope X.env.globals (C7 X.env scope.names []) [] X.env.qual none .none (some X.env)) (fun cenv s₄=>
      codeAny (model X.prog X.w) X.A (.compStart (.ListComp elt [⟨tg,iter,ifs,0⟩] scope pos) 0 (.ref it) acc { cenv with scope:=relabel scope X.env }) (RR acc cenv.locals) s₄) X.xe s₃) X.xe s2:=by
  refine wpAny_newObj_type (wpAny_newFunctionEnv S.nocell (by intro y hy; simp at hy) (fun h₁ hns₁ hsb₁=>?_) S.kind)
  dsimp only at hns₁ hsb₁ ⊢
  generalize hH2:s2.heap.push { cls:=.type "list",dict:=none,data:=.seq ([]:List Value).toArray }=G2 at hns₁ hsb₁ ⊢
  have hC:G2.objs.size=s2.heap.objs.size + 1:=by rw [← hH2,Heap.size_push]
  have hCle:s2.heap.objs.size <= G2.objs.size:=by rw [hC]; exact Nat.le_succ _
  have hDC:s2.heap.objs.size ≠ G2.objs.size:=by rw [hC]; exact Nat.ne_of_lt (Nat.lt_succ_self _)
  have below:∀ b,b < s2.heap.objs.size->b ≠ G2.objs.size /\ b ≠ s2.heap.objs.size:=fun b hb=>⟨by rw [hC]; exact Nat.ne_of_lt (Nat.lt_succ_of_lt hb),Nat.ne_of_lt hb⟩
  have old:∀ b o,s2.heap.get? b=some o->h₁.get? b=some o:=fun b o e=>hsb₁.extBut b o (below b (Heap.lt_size e)).1 (Heap.get?_push_of_some _ (hH2 ▸ Heap.get?_push_of_some _ e))
  have hacc:h₁.get? s2.heap.objs.size=some (Dl [] 0):=hsb₁.extBut _ _ hDC (Heap.get?_push_of_some _ (hH2 ▸ Heap.get?_push_size _ rfl))
  have hfo:∀ b ∈ fp,b < s2.heap.objs.size:=fun b hb=>let ⟨o,e,_⟩:=T.obj 0 _ t0 b hb; Heap.lt_size e
  have ok:=LS (tgs:=tgs) (ix:=ix) (C:=G2.objs.size) S I2 hf hfo hCle
  have sub:∀ x c,(C7 X.env scope.names []).lookup x=some c->X.env.cells.lookup x=some c:=DR scope.names [] (fun _ _ z=>by simp at z)
  have nDfs:s2.heap.objs.size ∉ frs X.stack:=fun hz=>by
    rcases List.mem_cons.mp (I2.stkSub _ hz) with z | z
    . exact absurd I2.lt (by rw [← z]; exact Nat.lt_irrefl _)
    . exact I2.nofs (Nat.le_refl _) z
  have nDcell:∀ x c,(C7 X.env scope.names []).lookup x=some c->c ≠ s2.heap.objs.size:=fun x c e=>Nat.ne_of_lt (I2.cellLt (sub x c e))
  have ncell:∀ (its:List Value) (k:Nat) (v:Option Value),(Dl its k).data ≠ .cell v:=fun its k v z=>by cases z
  have stat:∀ {Hx:Hp} {o:Obj},(∀ b ∈ fp,Hx b=none)->∀ b ∈ fp,D5 (cxB X scope tgs fp G2.objs.size s2 H2) [(s2.heap.objs.size,o)] Hx b:=fun {Hx o} hn b hb=>
    ⟨hn b hb,(ok.exf b hb).1,ok.exfs b hb,.inl hb,(ok.exf b hb).2,fun p hp z=>by
      have e:p=(s2.heap.objs.size,o):=by simpa [cxB] using hp
      subst e
      exact absurd (hfo b hb) (by rw [← z]; exact Nat.lt_irrefl _)⟩
  have loop:∀ s₃:Shared,s₃={ s2 with heap:=h₁,toks:=s2.toks + ([]:List (Str × Value)).length }->
      codeAny (model X.prog X.w) X.A (.compLoop (.ListComp elt [⟨tg,iter,ifs,0⟩] scope pos) 0 (.ref it) (.ref s2.heap.objs.size) (compEnvC scope (C7 X.env scope.names []) G2.objs.size X.env)) (RR (.ref s2.heap.objs.size) G2.objs.size) s₃:=by
    rintro s₃ rfl
    obtain ⟨m0,w0⟩:=w0
    refine codeAny_compLoop_tests (fun n s=>∃ i ys its k H,Inv (cxB X scope tgs fp G2.objs.size s2 H2) [(s2.heap.objs.size,Dl its k)] (Bp tgs ix σ) H s /\ tn i s.heap /\ (∀ b ∈ fp,H b=none) /\ Vals ys its /\ W i n ys H) ?_ m0
      ⟨0,[],[],0,H2,Gn S I2 hf hfo hCle (Nat.le_refl _) hDC hns₁ old rfl rfl hacc (ncell _ _),T.keep 0 _ _ t0 fun b _ o e=>old b o e,fun b hb=>(hf b hb).1,.nil,w0⟩ (ht _)
    rintro n s ⟨i,ys,its,k,H,I,st,fr,rv,w⟩
    rcases turn i n ys H w with ⟨stop,hz,q⟩ | ⟨go,hz8,N,hN,step⟩
    . refine thn (T.done (cxB X scope tgs fp G2.objs.size s2 H2) rfl rfl rfl hc i _ s _ H _ I (stat fr) st stop) fun r s1 ⟨hr,I1⟩=>?_
      subst hr
      obtain ⟨pe,pn,_⟩:=I1.pin (s2.heap.objs.size,Dl its k) (List.mem_append_right _ (by simp))
      have J0:Inv X pins σ H s1:=I2.call' I1.os I1.base I1.hok I1.bare fun b hb=>⟨(hf b hb).2.2.2.1,(hf b hb).2.1,(hf b hb).2.2.2.2.1,(hf b hb).2.2.2.2.2⟩
      have J1:Inv X pins σ (upd H s2.heap.objs.size (.lst ys)) s1:=J0.track (I2.fpOk (Nat.le_refl _) pn) ⟨hz,its,k,rv,pe⟩
      obtain ⟨m,hn,_⟩:=I1.loc
      exact fin _ _ s1 _ m J1 (q _ pn) hn (I2.fpOk hCle (by rw [Ap (Ne.symm hDC)]; exact I1.free))
    . refine thn (T.item (cxB X scope tgs fp G2.objs.size s2 H2) rfl rfl rfl hc i _ s _ H _ I (stat fr) st go) fun r s1 ⟨u,hr,h1⟩=>?_
      subst hr
      refine Nc (ht _ _) h1 fun s5 ⟨x,H5,I5,r5,y5,st5,fr5⟩=>?_
      have I5':=I5.pinned (stat fr5) (T.obj _ _ st5)
      refine Ff (hg fp G2.objs.size s2 H2 _ s5 _ H5 x u _ I5' r5 (hgk _ _ _ _ (step x H5 y5))) fun _ s6 ⟨σ6,H6,I6,q6,l6,d6⟩=>?_
      refine Ff (hi fp G2.objs.size s2 H2 _ s6 σ6 H6 _ I6 q6) fun okb s7 ⟨H7,I7,q7⟩=>?_
      cases okb with
      | false=>
        rw [if_neg Bool.false_ne_true] at q7 ⊢
        obtain ⟨m',hm,w7⟩:=hN _ _ q7
        refine ⟨m',hm,i + 1,ys,its,k,H7,Lo I7.unpinned l6 d6,T.keep _ _ _ st5 fun b hb o e=>(I7.pin (b,o) (List.mem_append_right _ (List.mem_append_right _ (A6 hb e)))).1,fun b hb=>?_,rv,w7⟩
        obtain ⟨o,e,_⟩:=T.obj _ _ st5 b hb
        exact (I7.pin (b,o) (List.mem_append_right _ (List.mem_append_right _ (A6 hb e)))).2.1
      | true=>
        rw [if_pos rfl] at q7 ⊢
        refine Ff (he fp G2.objs.size s2 H2 _ s7 σ6 H7 _ I7 q7) fun xv s8 ⟨v,H8,I8,rv8,q8⟩=>?_
        obtain ⟨m',hm,w8⟩:=hN _ _ q8
        obtain ⟨pe,pn,_⟩:=I8.pin (s2.heap.objs.size,Dl its k) (List.mem_append_right _ (List.mem_append_left _ (by simp)))
        have hlen:=rv.length
        refine call_meets PySem.F.slot_list_append ⟨_,pe,rfl⟩ PySem.F.entry_list_append (PySem.F.args_list_append_2 _ _) (PySem.list_append s2.heap.objs.size its.toArray k xv (by rw [List.size_toArray]; omega)) ⟨pe,?_⟩
        have hp:its.toArray.push xv=(its ++ [xv]).toArray:=by simp
        have q':∃ k',(s8.heap.update s2.heap.objs.size (Obj.mapSeq (fun a=>a.push xv))).get? s2.heap.objs.size=some (Dl (its ++ [xv]) k'):=⟨_,by
          unfold Dl
          rw [← hp]
          exact PySem.IsL.update pe (fun a=>a.push xv)⟩
        obtain ⟨k',q'⟩:=q'
        have I9:Inv (cxB X scope tgs fp G2.objs.size s2 H2) [] σ6 H8 { s8 with heap:=s8.heap.update s2.heap.objs.size (Obj.mapSeq (fun a=>a.push xv)) }:=
          (I8.pins_of (pins':=[]) (fun p hp=>absurd hp (by simp))).turned (t':=s8.toks) (fun b o hb e=>(Heap.get?_update_other s8.heap (Obj.mapSeq (fun a=>a.push xv)) (Ne.symm hb)).trans e) pn hDC (.inr (Nat.le_refl _)) nDcell (fun p hp=>absurd hp (by simp [cxB]))
        have I10:Inv (cxB X scope tgs fp G2.objs.size s2 H2) [(s2.heap.objs.size,Dl (its ++ [xv]) k')] σ6 H8 { s8 with heap:=s8.heap.update s2.heap.objs.size (Obj.mapSeq (fun a=>a.push xv)) }:=
          I9.pins_of fun p hp=>by
            have e:p=(s2.heap.objs.size,Dl (its ++ [xv]) k'):=by simpa using hp
            subst e
            exact ⟨q',pn,hDC,nDfs,ncell _ _⟩
        refine ⟨m',hm,i + 1,ys ++ [v],its ++ [xv],k',H8,Lo I10 l6 d6,T.keep _ _ _ st5 fun b hb o e=>?_,fun b hb=>?_,rv.append (.cons rv8 .nil),w8⟩
        . exact (Heap.get?_update_other s8.heap (Obj.mapSeq (fun a=>a.push xv)) (Ne.symm (below b (hfo b hb)).2)).trans (I8.pin (b,o) (List.mem_append_right _ (List.mem_append_right _ (A6 hb e)))).1
        . obtain ⟨o,e,_⟩:=T.obj _ _ st5 b hb
          exact (I8.pin (b,o) (List.mem_append_right _ (List.mem_append_right _ (A6 hb e)))).2.1
  exact codeAny_compStart_list (loop _ rfl) (T.self _ 0 _ _ _ (T.keep 0 _ _ t0 fun b _ o e=>old b o e) (loop _ rfl))
theorem RV {elt tg iter:Expr} {ifs:List Expr} {pos:Pos} {wi:TI} {g:TG} {tc:TT} {te:TE} (S:BScope X scope tgs ix) (hc:X.calm=true) (hi:PI X tg iter wi) (hg:∀ fp C s H,PG (cxB X scope tgs fp C s H) tg g) (hgk:GK tgs.length g)
    (hif:∀ fp C s H,JK (cxB X scope tgs fp C s H) ifs tc) (he:∀ fp C s H,PE (cxB X scope tgs fp C s H) elt te) (hs:∀ x,foldedSetIterable iter X.env x=pure x:=by intro _; rfl) (ht:∀ o v,letOwnedTupleGo tg o v=pure ():=by intro _ _; rfl) :
    PE X (.ListComp elt [⟨tg,iter,ifs,0⟩] scope pos) (HZ tgs ix wi g tc te):=by
  intro pins s σ H Q I h
  rw [eval_ListComp]
  refine wpAny_comprehension_free (use:=none) rfl hs (Bg (S.cells I.ok)) S.kind S.loc ?_
  show wpAny _ _ (eval iter X.env) _ _ s
  refine thn (hi pins s σ H _ I h) fun v s1 h1=>thn h1 fun itv s2 h2=>?_
  obtain ⟨it,fp,tn,J,H2,e,I2,T,t0,f2,W,w0,turn⟩:=h2
  subst e
  refine G6 (RR:=fun acc C=>compPost (model X.prog X.w) X.A X.xe none (EP X pins σ Q) acc C) S ht hc hg hgk hif he I2 T t0 f2 W w0 turn ?_
  intro D C s' H' m J1 q hn fC
  obtain ⟨f0,f1,f2,f3,f4,f5⟩:=fC
  exact ⟨m,hn,fun h' sb=>⟨.ref D,H',J1.turned (t':=s'.toks) (fun b o hb e=>(sb.2 b hb).trans e) f0 f1 f3 f4 f5,rfl,q⟩⟩
theorem K4 {i:Nat} {y:Str} {py:Pos} {elt tg iter:Expr} {ifs:List Expr} {pos spos:Pos} {wi:TI} {g:TG} {tc:TT} {te:TE} (hN:X.N.Nodup) (hiN:X.N[i]? = some y) (hy:X.env.scope.names.lookup y=some .local)
    (S:BScope X scope tgs ix) (hc:X.calm=true) (hi:PI X tg iter wi) (hg:∀ fp C s H,PG (cxB X scope tgs fp C s H) tg g) (hgk:GK tgs.length g)
    (hif:∀ fp C s H,JK (cxB X scope tgs fp C s H) ifs tc) (he:∀ fp C s H,PE (cxB X scope tgs fp C s H) elt te)
    (hsw:swapsWith (.ListComp elt [⟨tg,iter,ifs,0⟩] scope pos) (some (.Name y py)) spos.line X.env=pure true:=by rfl) (hs:∀ x,foldedSetIterable iter X.env x=pure x:=by intro _; rfl) (ht:∀ o v,letOwnedTupleGo tg o v=pure ():=by intro _ _; rfl) :
    PS X (.Assign [.Name y py] (.ListComp elt [⟨tg,iter,ifs,0⟩] scope pos) spos) (OV (HZ tgs ix wi g tc te) (Di i)):=by
  intro pins s σ H D0 I h
  rw [exec_Assign_Name_used _ _ _ _ hsw]
  refine wpAny_bind (wpAny_standAt (wpAny_bind ?_))
  show wpAny _ X.A (do let _ ← comprehension (.ListComp elt [⟨tg,iter,ifs,0⟩] scope pos) scope X.env _ (newList []) false (eval iter X.env) (some (assign (.Name y py) X.env))) _ _ s
  refine wpAny_bind (wpAny_mono (wpAny_comprehension_free (use:=some (assign (.Name y py) X.env)) (Q:=fun _ s'=>SP X pins D0 .next s') rfl hs (Bg (S.cells I.ok)) S.kind S.loc ?_) (fun _ s' hq=>wpAny_pure (wpAny_pure hq)) fun _ _ e=>e)
  refine thn (hi pins s σ H _ I h) fun v s1 h1=>thn h1 fun itv s2 h2=>?_
  obtain ⟨it,fp,tn,J,H2,e,I2,T,t0,f2,W,w0,turn⟩:=h2
  subst e
  refine G6 (Q:=fun x H1=>Di i x σ H1 D0.nx) (RR:=fun acc C=>compPost (model X.prog X.w) X.A X.xe (some (assign (.Name y py) X.env)) (fun _ s'=>SP X pins D0 .next s') acc C) S ht hc hg hgk hif he I2 T t0 f2 W w0 turn ?_
  intro D C s' H' m J1 q hn fC
  obtain ⟨f0,f1,f2,f3,f4,f5⟩:=fC
  show wpAny _ X.A (assign (.Name y py) X.env (.ref D)) _ _ _
  refine wpAny_assign_Name (FJ (v:=.ref D) J1 hN hiN (.inl hy) rfl (fun s'' I'' hsb=>?_) (.inr hy))
  obtain ⟨a,sb,ha⟩:=hsb
  have hCa:C ≠ a:=by
    rcases ha with z | z
    . rw [z]; exact f1
    . exact Ne.symm (f4 y a z)
  exact ⟨m,hn.sameBut sb hCa,fun h' sb'=>⟨_,H',I''.turned (t':=s''.toks) (fun b o hb e=>(sb'.2 b hb).trans e) f0 f1 f3 f4 f5,q⟩⟩
end
end L2
namespace L2
open PySem PySem.Spec PyProof.Rows
section
variable {X:Cx}
theorem KU:BO X (.builtin "isinstance") (fun xs H Q=>∃ x T t b,xs=[x,.ty T] /\ FG X.K H x t /\ PySem.W.kitOne X.K t (.type T)=some b /\ Q (.bl b) H):=by
  intro pins s σ H xs us Q I r h
  obtain ⟨x,T,t,b,rfl,ty,e,q⟩:=h
  obtain ⟨u,w',rfl,rx,ry⟩:=Uz r
  cases ry
  exact Nn I rx ty e fun tk=>⟨.bl b,H,I.tok tk,rfl,q⟩
end
section
variable {prog:Program} {w:World} {A:Around} {E:Value->Shared->Prop} {s:Shared}
end
end L2
namespace L2
open PySem PySem.Spec PyProof.Rows
section
variable {prog:Program} {w:World} {A:Around} {R:Result->Shared->Prop}
end
section
variable {X:Cx}
end
end L2
namespace L2
open PySem PySem.Spec PyProof.Rows
section
variable {X:Cx}
end
mutual
inductive DatV (K:PySem.W.Frag) (H:Hp):V->PyData->Prop
  | non:DatV K H .non .none
  | bl (b:Bool):DatV K H (.bl b) (.bool b)
  | int (i:Int):DatV K H (.int i) (.int i)
  | str (x:Str):DatV K H (.str x) (.str x)
  | tup {a:Addr} {xs:List V} {ds:List PyData}:SqT K H a xs->DatVs K H xs ds->DatV K H (.ref a) (.tuple ds)
  | lst {a:Addr} {xs:List V} {ds:List PyData}:SqL K H a xs->DatVs K H xs ds->DatV K H (.ref a) (.list ds)
inductive DatVs (K:PySem.W.Frag) (H:Hp):List V->List PyData->Prop
  | nil:DatVs K H [] []
  | cons {v:V} {d:PyData} {vs:List V} {ds:List PyData}:DatV K H v d->DatVs K H vs ds->DatVs K H (v :: vs) (d :: ds)
end
section
variable {X:Cx} {pins:List (Addr × Obj)} {σ:St} {H:Hp} {s:Shared}
mutual
theorem DatV.reads (I:Inv X pins σ H s):∀ {v:V} {d:PyData},DatV X.K H v d->∀ {u:Value},RelV v u->∃ as,Reads s.heap u d as
  | _,_,.non,_,r=>by cases r; exact ⟨[],.none⟩
  | _,_,.bl b,_,r=>by cases r; exact ⟨[],.bool b⟩
  | _,_,.int i,_,r=>by obtain ⟨t,rfl⟩:=r; exact ⟨[],.int i t⟩
  | _,_,.str x,_,r=>by obtain ⟨t,rfl⟩:=r; exact ⟨[],.str x t⟩
  | _,_,.tup hq hs,_,r=>by
    cases r
    obtain ⟨its,rv,⟨o,e,c,n,d⟩,_⟩:=I.tuple hq
    obtain ⟨as,ra⟩:=DatVs.reads I hs rv
    exact ⟨_,.tuple e c d (by simpa using ra)⟩
  | _,_,.lst hq hs,_,r=>by
    cases r
    obtain ⟨its,rv,⟨o,n,e,c,_,d⟩,_⟩:=I.list hq
    obtain ⟨as,ra⟩:=DatVs.reads I hs rv
    exact ⟨_,.list e c d (by simpa using ra)⟩
theorem DatVs.reads (I:Inv X pins σ H s):∀ {vs:List V} {ds:List PyData},DatVs X.K H vs ds->∀ {us:List Value},Vals vs us->∃ as,ReadsAll s.heap us ds as
  | _,_,.nil,_,.nil=>⟨[],.nil⟩
  | _,_,.cons h t,_,.cons r rr=>by
    obtain ⟨a,ra⟩:=DatV.reads I h r
    obtain ⟨b,rb⟩:=DatVs.reads I t rr
    exact ⟨_,.cons ra rb⟩
end
end
section
variable {X:Cx}
theorem UA (hu:X.A.units + 64 < cLine):OpR X (compareOp .Eq) (fun x y H Q=>∃ d d',DatV X.K H x d /\ DatV X.K H y d' /\ SeqAt.shaped d=true /\ SeqAt.shaped d'=true /\ Q (.bl (PyData.eqv d d')) H):=by
  intro pins s σ H x y v u Q I rx ry h
  obtain ⟨d,d',h1,h2,s1,s2,q⟩:=h
  obtain ⟨as,ra⟩:=h1.reads I rx
  obtain ⟨bs,rb⟩:=h2.reads I ry
  exact SeqAt.compareEq_shaped ra rb s1 s2 hu ⟨.bl _,H,I,rfl,q⟩
theorem T6 (hu:X.A.units + 64 < cLine):OpR X (compareOp .NotEq) (fun x y H Q=>∃ d d',DatV X.K H x d /\ DatV X.K H y d' /\ SeqAt.shaped d=true /\ SeqAt.shaped d'=true /\ Q (.bl (!PyData.eqv d d')) H):=by
  intro pins s σ H x y v u Q I rx ry h
  obtain ⟨d,d',h1,h2,s1,s2,q⟩:=h
  obtain ⟨as,ra⟩:=h1.reads I rx
  obtain ⟨bs,rb⟩:=h2.reads I ry
  exact SeqAt.compareNe_shaped ra rb s1 s2 hu ⟨.bl _,H,I,rfl,q⟩
theorem Oh {A:Around} {k:Nat} (hr:Room k A):A.units + 64 < cLine:=hr.units
end
end L2
namespace L2
open PySem PySem.Spec PyProof.Rows
theorem Inv.turnedL {X:Cx} {pins:List (Addr × Obj)} {σ:St} {H:Hp} {s:Shared} {h':Heap} {t':Nat} {ch:List Addr} (I:Inv X pins σ H s) (k:∀ b o,b ∉ ch->s.heap.get? b=some o->h'.get? b=some o) (hf:∀ b ∈ ch,D5 X pins H b):Inv X pins σ H { s with heap:=h',toks:=t' }:=by
  have nit:∀ b u,H b=some u->b ∉ ch:=fun b u e z=>by rw [(hf b z).1] at e; cases e
  refine I.step (g':=s.gens) (d':=s.drawn) (ch:=ch) (fun b hb=>⟨(hf b hb).2.2.2.1,(hf b hb).2.1,(hf b hb).2.2.2.2.1,(hf b hb).2.2.2.2.2⟩) (fun b o _ _ hc e _=>k b o hc e) (fun b o _ _ hc e _=>⟨o.slots,k b o hc e⟩) (fun _ _ _ _ n=>n)
    (fun b o hc e=>⟨o,k b o hc e⟩) (fun _ _ e=>e) (fun _ _ _ e=>e) (fun b ps e=>⟨#[],by rw [e]; simp⟩) (fun m hm=>?_) (fun b u e=>?_) I.bare
  . obtain ⟨o,es,ep,ho,r⟩:=hm
    exact ⟨o,es,ep,k _ o (fun z=>(hf _ z).2.1 rfl) ho,r⟩
  . refine (I.hok b u e).stay (fun c v hc q=>k c v ?_ q) (fun _ q=>q) fun _ _ q=>q
    rcases hc with z | z
    . rw [z]; exact nit b u e
    . exact nit c _ z
def ItP (K:PySem.W.Frag) (n:Nat) (src:Nat->List V) (Cond:PySem.W.Frag->Hp->Prop):It:=
  ⟨fun i H=>i < n /\ Cond K H,fun i H v H'=>∃ T,H T=none /\ v=.ref T /\ H'=upd H T (.tup (src i)),fun i H=>i=n /\ Cond K H⟩
theorem Ko {P:Program} {w:World} {K:PySem.W.Frag} {es:List Expr} {k0:Nat} {pos:Pos} {I0:Addr} {ι:Type} {fp wr:List Addr} {n:Nat} {src:Nat->List V} {good:ι->Prop} {Pt:ι->Nat->Array Value->Prop} {Sw:ι->Nat->Heap->Prop} {Mid:ι->Nat->Addr->Heap->Prop} {tn:Nat->Heap->Prop} {Cond:PySem.W.Frag->Hp->Prop}
    (W:∀ A:Around,A.handled=none->∀ z,good z->WalksT P w A I0 fp wr n (Pt z) (Sw z) (Mid z)) (hmem:I0 ∈ wr) (hPt:∀ z i vals,good z->Pt z i vals->Vals (src i) vals.toList) (hlen:∀ i,(src i).length <= sizeLine)
    (obj:∀ i h,tn i h->∀ b ∈ wr,∃ o,h.get? b=some o /\ ∀ v,o.data ≠ .cell v)
    (keep:∀ i h h',tn i h->(∀ b ∈ wr,∀ o,h.get? b=some o->h'.get? b=some o)->tn i h')
    (into:∀ (X:Cx) (pins:List (Addr × Obj)) (σ:St) (H:Hp) (s:Shared) (i:Nat),X.prog=P->X.w=w->X.K=K->Inv X pins σ H s->Cond K H->tn i s.heap->∃ z,good z /\ Sw z i s.heap) (out:∀ z i h,Sw z i h->tn i h)
    (self:∀ (A:Around) (i:Nat) (s:Shared) (Q:Value->Shared->Prop) (E:Value->Shared->Prop),tn i s.heap->Q (.ref I0) s->wpAny (model P w) A (pyIter (.ref I0)) Q E s) :
    Kh P w K (.Tuple es k0 pos) (ItP K n src Cond) wr I0 tn where
  mem:=hmem
  obj:=obj
  keep:=keep
  item:=by
    intro X hP hw hK hc i pins s σ H E I hf st hg
    obtain ⟨hi,hcond⟩:=hg
    obtain ⟨z,gz,sz⟩:=into X pins σ H s i hP hw hK I hcond st
    have W':=W X.A (I.ok.hd hc) z gz
    refine W'.item i s _ _ hi sz fun T vals h' tk hp hT ht hm kk=>⟨_,rfl,?_⟩
    have I1:Inv X pins σ H { s with heap:=h',toks:=tk }:=I.turnedL kk hf
    refine W'.go es k0 pos i T _ _ _ hm fun h2 st2 kk2=>?_
    have I2:Inv X pins σ H { s with heap:=h2,toks:=tk }:=I1.turnedL (t':=tk) kk2 hf
    have hn:H T=none:=I.hok.fresh hT
    have ht2:IsTup h2 T vals:=by
      obtain ⟨o,e,r⟩:=ht
      exact ⟨o,kk2 T o (W'.apart i T _ hm) e,r⟩
    refine ⟨.ref T,upd H T (.tup (src i)),I2.track (I.fpOk hT hn) ⟨hlen i,vals.toList,hPt z i vals gz hp,by simpa using ht2⟩,rfl,⟨T,hn,rfl,rfl⟩,out z _ _ st2,fun b hb=>?_⟩
    have hbT:b ≠ T:=fun z=>W'.apart i T _ hm (by rw [← z]; exact hb)
    rw [Ap hbT]
    exact (hf b hb).1
  done:=by
    intro X hP hw hK hc i pins s σ H E I hf st hg
    obtain ⟨hi,hcond⟩:=hg
    subst hi
    obtain ⟨z,gz,sz⟩:=into X pins σ H s i hP hw hK I hcond st
    exact (W X.A (I.ok.hd hc) z gz).done s _ _ sz fun h' tk kk=>⟨rfl,I.turnedL kk hf⟩
  self:=self
def FC (xs:List V) (i:Nat):List V:=[.int i,xs.getD i .non]
theorem LR {xs:List V} {its:List Value} (r:Vals xs its) {i:Nat} {vals:Array Value} (h:∃ t x,its.toArray[i]? = some x /\ vals = #[.int i t,x]):Vals (FC xs i) vals.toList:=by
  obtain ⟨t,x,hx,rfl⟩:=h
  have hx':its[i]? = some x:=by simpa using hx
  have hlt:i < its.length:=(List.getElem?_eq_some_iff.mp hx').1
  have hl:=r.length
  have hv:xs[i]? = some (xs.getD i .non):=by
    rw [List.getElem?_eq_getElem (by omega)]
    simp [List.getD,show i < xs.length by omega]
  obtain ⟨u,hu,ru⟩:=r.get hv
  rw [hx'] at hu; cases hu
  exact .cons ⟨t,rfl⟩ (.cons ru .nil)
theorem R8 {P:Program} {w:World} {e it:Addr} {f:Nat->Heap->Prop} (A:Around) (i:Nat) (s:Shared) (Q:Value->Shared->Prop) (E:Value->Shared->Prop) (st:(∃ old,IsEnum s.heap e it i old) /\ f i s.heap) (h:Q (.ref e) s):wpAny (model P w) A (pyIter (.ref e)) Q E s:=by
  obtain ⟨⟨old,he⟩,_⟩:=st
  exact wpAny_pyIter_enum he h
theorem UZ {e it:Addr} {h:Heap} {i:Nat} {o:Obj} (he:∃ old,IsEnum h e it i old) (ho:h.get? it=some o) (hd:∃ vs,o.data=.fields vs):∀ b ∈ [e,it],∃ o,h.get? b=some o /\ ∀ v,o.data ≠ .cell v:=fun b hb=>by
  rcases List.mem_cons.mp hb with z | z
  . subst z
    obtain ⟨old,he⟩:=he
    exact ⟨_,he,fun v q=>by cases q⟩
  . rw [List.mem_singleton.mp z]
    obtain ⟨vs,hd⟩:=hd
    exact ⟨o,ho,fun v q=>by rw [hd] at q; cases q⟩
end L2
namespace L2
open PySem PySem.Spec PyProof.Rows
open AutoSeq1 (wpAny_loadPart')
section
variable {X:Cx} {es:List Expr} {k0:Nat} {tpos:Pos}
theorem N1:bootBuiltins "enumerate" = some (.type "enumerate"):=by decide +kernel
theorem TK {pins:List (Addr × Obj)} {σ:St} {H:Hp} {s:Shared} (I:Inv X pins σ H s):∀ b ∈ [s.heap.objs.size + 1,s.heap.objs.size],D5 X pins H b:=fun b hb=>by
  have hb':b=s.heap.objs.size + 1 ∨ b=s.heap.objs.size:=by simpa using hb
  rcases hb' with e | e <;> subst e
  . exact I.fpOk (Nat.le_succ _) (I.hok.fresh (Nat.le_succ _))
  . exact I.fpOk (Nat.le_refl _) (I.hok.fresh (Nat.le_refl _))
end
end L2
namespace L2
open PySem PySem.Spec PyProof.Rows
section
variable {X:Cx} {pins:List (Addr × Obj)} {σ:St} {H:Hp} {s:Shared} {a:Addr} {y v:V} {u r:Value} {o:Option V} {A:Around} {E:Value->Shared->Prop}
end
section
variable {X:Cx} {o i e value:Expr} {pos pos' tpos:Pos} {td ty tv:TE}
end
end L2
namespace L2
open PySem PySem.Spec PyProof.Rows
section
variable {X:Cx} {value e e2:Expr} {es:List Expr} {pos:Pos} {tv t t2:TE} {ts:List TE}
end
end L2
namespace Nk
open PySem PySem.Spec PyProof.Rows
inductive NK where
  | int (i:Int) | tup (ks:List NK)
noncomputable instance:DecidableEq NK:=fun _ _=>Classical.propDecidable _
mutual
def NK.deep:NK->Nat
  | .int _=>0
  | .tup ks=>NK.deeps ks + 1
def NK.deeps:List NK->Nat
  | []=>0
  | k :: ks=>max (NK.deep k) (NK.deeps ks)
end
mutual
def NK.hash:NK->Int
  | .int i=>hashInt i
  | .tup ks=>reduceHash (Builtin.Tuple.tupleHashOf (NK.hashes ks))
def NK.hashes:List NK->List Int
  | []=>[]
  | k :: ks=>NK.hash k :: NK.hashes ks
end
mutual
def NK.draws:NK->Nat
  | .int _=>1
  | .tup ks=>NK.drawsL ks + 1
def NK.drawsL:List NK->Nat
  | []=>0
  | k :: ks=>NK.draws k + NK.drawsL ks
end
mutual
def At (h:Heap):NK->Value->Prop
  | .int i,v=>∃ t,v=.int i t
  | .tup ks,v=>∃ a o items n,v=.ref a /\ h.get? a=some o /\ o.cls=.type "tuple" /\ o.data=.seq items n /\ Ats h ks items.toList
def Ats (h:Heap):List NK->List Value->Prop
  | [],vs=>vs=[]
  | k :: ks,vs=>∃ v vs',vs=v :: vs' /\ At h k v /\ Ats h ks vs'
end
mutual
theorem At.inj {h:Heap}:∀ {k j:NK} {v:Value},At h k v->At h j v->k=j
  | .int i,.int j,v,a,b=>by
    unfold At at a b
    obtain ⟨t,rfl⟩:=a
    obtain ⟨u,e⟩:=b
    injection e with e1 _
    rw [e1]
  | .int i,.tup js,v,a,b=>by
    unfold At at a b
    obtain ⟨t,rfl⟩:=a
    obtain ⟨_,_,_,_,e,_⟩:=b
    cases e
  | .tup ks,.int j,v,a,b=>by
    unfold At at a b
    obtain ⟨t,rfl⟩:=b
    obtain ⟨_,_,_,_,e,_⟩:=a
    cases e
  | .tup ks,.tup js,v,a,b=>by
    unfold At at a b
    obtain ⟨x,o,items,n,rfl,h1,_,h3,h4⟩:=a
    obtain ⟨x',o',items',n',e,h1',_,h3',h4'⟩:=b
    cases e
    rw [h1] at h1'; cases h1'
    rw [h3] at h3'; cases h3'
    rw [Ats.inj h4 h4']
theorem Ats.inj {h:Heap}:∀ {ks js:List NK} {vs:List Value},Ats h ks vs->Ats h js vs->ks=js
  | [],[],_,_,_=>rfl
  | [],_ :: _,vs,a,b=>by
    unfold Ats at a b
    subst a
    obtain ⟨_,_,e,_⟩:=b
    cases e
  | _ :: _,[],vs,a,b=>by
    unfold Ats at a b
    subst b
    obtain ⟨_,_,e,_⟩:=a
    cases e
  | k :: ks,j :: js,vs,a,b=>by
    unfold Ats at a b
    obtain ⟨v,vs',rfl,a1,a2⟩:=a
    obtain ⟨v',vs'',e,b1,b2⟩:=b
    cases e
    rw [At.inj a1 b1,Ats.inj a2 b2]
end
mutual
theorem At.kept {h h':Heap}:∀ {k:NK} {v:Value},At h k v->(∀ a o items n,h.get? a=some o->o.cls=.type "tuple" -> o.data=.seq items n->h'.get? a=some o)->At h' k v
  | .int i,v,a,_=>by unfold At at a ⊢; exact a
  | .tup ks,v,a,kp=>by
    unfold At at a ⊢
    obtain ⟨x,o,items,n,rfl,h1,h2,h3,h4⟩:=a
    exact ⟨x,o,items,n,rfl,kp x o items n h1 h2 h3,h2,h3,Ats.kept h4 kp⟩
theorem Ats.kept {h h':Heap}:∀ {ks:List NK} {vs:List Value},Ats h ks vs->(∀ a o items n,h.get? a=some o->o.cls=.type "tuple" -> o.data=.seq items n->h'.get? a=some o)->Ats h' ks vs
  | [],vs,a,_=>by unfold Ats at a ⊢; exact a
  | k :: ks,vs,a,kp=>by
    unfold Ats at a ⊢
    obtain ⟨v,vs',rfl,a1,a2⟩:=a
    exact ⟨v,vs',rfl,At.kept a1 kp,Ats.kept a2 kp⟩
end
section
variable {prog:Program} {w:World} {A:Around} {E:Value->Shared->Prop} {s:Shared}
theorem Pi {a:Addr} {o:Obj} {items:Array Value} {n:Nat} {hs:List Int} {d:Nat} {Q:Int->Shared->Prop} (hu:A.units < cLine) (ho:s.heap.get? a=some o) (hc:o.cls=.type "tuple") (hd:o.data=.seq items n)
    (each:∀ (P:Array Int->Shared->Prop),P hs.toArray { s with toks:=s.toks + d }->wpAny (model prog w) A.in1 (forIn items.toList (#[]:Array Int) fun x r=>do let y ← pyHash x; pure (ForInStep.yield (r.push y))) P E s)
    (q:Q (reduceHash (Builtin.Tuple.tupleHashOf hs)) { s with toks:=s.toks + (d + 1) }):wpAny (model prog w) A (pyHash (.ref a)) Q E s:=by
  have hT:s.TypeIs (.ref a) "tuple" := ⟨o,ho,hc⟩
  show wpAny _ _ (pyHashByItsType (.ref a)) Q E s
  unfold pyHashByItsType
  refine wpAny_bind (wpAny_cRoomFor_or (.inr hu) (wpAny_bind (wpAny_specialOf hT PySem.F.slot_tuple_hash.lookup ?_)))
  rw [if_neg (by rw [beq_builtin_none]; exact Bool.false_ne_true)]
  refine wpAny_bind (wpAny_specialOf hT PySem.F.slot_tuple_hash.lookup ?_)
  show wpAny _ _ (callSpecialIfBoundUnlessNone? (.ref a) "__hash__" _ >>= _) Q E s
  refine wpAny_bind (wpAny_callSpecialIfBoundUnlessNone?_slot hT PySem.F.slot_tuple_hash (wpAny_call_entry PySem.F.slot_tuple_hash hT PySem.F.entry_tuple_hash ?_ (PySem.F.args_tuple_hash_1 _)))
  show wpAny _ _ (Builtin.Tuple.tupleItemsOf (.ref a) >>= _) _ _ s
  refine wpAny_bind (wpAny_tupleItemsOf ho hd (wpAny_bind ?_))
  rw [← Array.forIn_toList]
  refine each _ ?_
  show wpAny _ _ (retInt (Builtin.Tuple.tupleHashOf hs.toArray.toList)) _ _ _
  refine wpAny_ret_mkInt ?_
  show wpAny _ _ (pyHashByItsType.reduced _) Q E _
  unfold pyHashByItsType.reduced
  unfold reduceHash at q
  split
  . rename_i hr
    rw [if_pos hr] at q
    exact wpAny_pure q
  . rename_i hr
    rw [if_neg hr] at q
    exact wpAny_bind (wpAny_rule (wpAny_pure q))
mutual
theorem At.hash:∀ {k:NK} {v:Value} {A:Around} {E:Value->Shared->Prop} {s:Shared} {Q:Int->Shared->Prop},A.units + k.deep < cLine->At s.heap k v->Q k.hash { s with toks:=s.toks + k.draws }->wpAny (model prog w) A (pyHash v) Q E s
  | .int i,v,A,E,s,Q,hu,hk,q=>by
    unfold At at hk
    obtain ⟨t,rfl⟩:=hk
    exact (intKind prog w).pyHash (k:=i) (by simp [intKind,Value.isInt]) q
  | .tup ks,v,A,E,s,Q,hu,hk,q=>by
    unfold At at hk
    obtain ⟨a,o,items,n,rfl,h1,h2,h3,h4⟩:=hk
    have hu':A.units + (NK.deeps ks + 1) < cLine:=hu
    refine Pi (hs:=NK.hashes ks) (d:=NK.drawsL ks) (by omega) h1 h2 h3 (fun P p=>?_) q
    exact Ats.hash (A:=A.in1) (by show A.units + 1 + NK.deeps ks < cLine; omega) h4 (acc:=#[]) (by simpa using p)
theorem Ats.hash:∀ {ks:List NK} {vs:List Value} {A:Around} {E:Value->Shared->Prop} {s:Shared} {acc:Array Int} {P:Array Int->Shared->Prop},A.units + NK.deeps ks < cLine->Ats s.heap ks vs->P (acc ++ (NK.hashes ks).toArray) { s with toks:=s.toks + NK.drawsL ks }->
    wpAny (model prog w) A (forIn vs acc fun x r=>do let y ← pyHash x; pure (ForInStep.yield (r.push y))) P E s
  | [],vs,A,E,s,acc,P,hu,hk,q=>by
    unfold Ats at hk
    subst hk
    rw [List.forIn_nil]
    exact wpAny_pure (by simpa [NK.hashes,NK.drawsL] using q)
  | k :: ks,vs,A,E,s,acc,P,hu,hk,q=>by
    unfold Ats at hk
    obtain ⟨v,vs',rfl,a1,a2⟩:=hk
    rw [List.forIn_cons]
    have hu':A.units + max (NK.deep k) (NK.deeps ks) < cLine:=hu
    refine wpAny_bind (wpAny_bind (At.hash (by omega) a1 (wpAny_pure ?_)))
    refine Ats.hash (by omega) (s:={ s with toks:=s.toks + k.draws }) a2 ?_
    simpa [NK.hashes,NK.drawsL,Nat.add_assoc] using q
end
end
end Nk
namespace Nk
open PySem PySem.Spec PyProof.Rows PySem.MeetsSeq PySem.SeqAt
theorem Ats.len {h:Heap}:∀ {ks:List NK} {vs:List Value},Ats h ks vs->vs.length=ks.length
  | [],_,a=>by unfold Ats at a; subst a; rfl
  | k :: ks,_,a=>by
    unfold Ats at a
    obtain ⟨v,vs',rfl,_,a2⟩:=a
    simp [Ats.len a2]
noncomputable def Ge (ks js:List NK) (j:Nat):Bool:=decide (ks[j]? = js[j]?)
theorem Nm {ks js:List NK}:((List.range (min ks.length js.length)).all (Ge ks js) && ks.length == js.length)=decide (NK.tup ks=NK.tup js):=by
  by_cases e:ks=js
  . subst e
    rw [decide_eq_true rfl,beq_self_eq_true,Bool.and_true,List.all_eq_true]
    intro j _
    exact decide_eq_true rfl
  . rw [decide_eq_false (fun z=>e (NK.tup.inj z))]
    by_cases hl:ks.length=js.length
    . rw [beq_iff_eq.mpr hl,Bool.and_true,← Bool.not_eq_true]
      intro z
      rw [List.all_eq_true] at z
      refine e (List.ext_getElem? fun j=>?_)
      by_cases hj:j < ks.length
      . exact of_decide_eq_true (z j (List.mem_range.mpr (by omega)))
      . rw [List.getElem?_eq_none (by omega),List.getElem?_eq_none (by omega)]
    . rw [beq_eq_false_iff_ne.mpr hl,Bool.and_false]
mutual
theorem At.eq:∀ {k j:NK} {u v:Value} {A:Around} {s:Shared},A.units + k.deep < cLine->At s.heap k u->At s.heap j v->EqAt A s u v (decide (k=j))
  | .int i,.int j,u,v,A,s,hu,a,b=>by
    unfold At at a b
    obtain ⟨t,rfl⟩:=a
    obtain ⟨t',rfl⟩:=b
    have:decide (NK.int i=NK.int j)=(i == j):=by
      by_cases e:i=j
      . subst e; simp
      . rw [decide_eq_false (fun z=>e (NK.int.inj z)),beq_eq_false_iff_ne.mpr e]
    rw [this]
    exact EqAt.int_int i t j t'
  | .int i,.tup js,u,v,A,s,hu,a,b=>by
    unfold At at a b
    obtain ⟨t,rfl⟩:=a
    obtain ⟨x,o,items,n,rfl,h1,h2,h3,_⟩:=b
    rw [decide_eq_false (by intro z; cases z)]
    exact EqAt.int_tuple i t ⟨o,h1,h2,n,h3⟩ (Nat.lt_of_le_of_lt (Nat.le_add_right _ _) hu)
  | .tup ks,.int j,u,v,A,s,hu,a,b=>by
    unfold At at a b
    obtain ⟨t,rfl⟩:=b
    obtain ⟨x,o,items,n,rfl,h1,h2,h3,_⟩:=a
    rw [decide_eq_false (by intro z; cases z)]
    exact EqAt.tuple_int j t ⟨o,h1,h2,n,h3⟩ (Nat.lt_of_le_of_lt (Nat.le_add_right _ _) hu)
  | .tup ks,.tup js,u,v,A,s,hu,a,b=>by
    have a':=a
    have b':=b
    unfold At at a b
    obtain ⟨x,o,items,n,rfl,h1,h2,h3,h4⟩:=a
    obtain ⟨y,o',items',n',rfl,h1',h2',h3',h4'⟩:=b
    have hu':A.units + (NK.deeps ks + 1) < cLine:=hu
    by_cases e:x=y
    . subst e
      rw [At.inj a' b',decide_eq_true rfl]
      exact EqAt.same _
    . rw [← Nm]
      have l1:=h4.len
      have l2:=h4'.len
      rw [Array.length_toList] at l1 l2
      rw [← l1,← l2]
      refine EqAt.of_refs e (RcAt.tuples ⟨o,h1,h2,n,h3⟩ ⟨o',h1',h2',n',h3'⟩ (by omega) fun j g1 g2=>?_)
      have:=Ats.eqs (A:=A.in1) (by show A.units + 1 + NK.deeps ks < cLine; omega) h4 h4' j (by simpa using g1) (by simpa using g2)
      simpa using this
theorem Ats.eqs:∀ {ks js:List NK} {us vs:List Value} {A:Around} {s:Shared},A.units + NK.deeps ks < cLine->Ats s.heap ks us->Ats s.heap js vs->∀ (j:Nat) (h1:j < us.length) (h2:j < vs.length),EqAt A s us[j] vs[j] (Ge ks js j)
  | [],js,us,vs,A,s,hu,a,b,j,h1,h2=>by unfold Ats at a; subst a; simp at h1
  | k :: ks,[],us,vs,A,s,hu,a,b,j,h1,h2=>by unfold Ats at b; subst b; simp at h2
  | k :: ks,l :: js,us,vs,A,s,hu,a,b,j,h1,h2=>by
    unfold Ats at a b
    obtain ⟨u,us',rfl,a1,a2⟩:=a
    obtain ⟨v,vs',rfl,b1,b2⟩:=b
    have hu':A.units + max (NK.deep k) (NK.deeps ks) < cLine:=hu
    cases j with
    | zero=>
      have:=At.eq (k:=k) (j:=l) (A:=A) (by omega) a1 b1
      have e:Ge (k :: ks) (l :: js) 0=decide (k=l):=by unfold Ge; simp
      rw [e]
      exact this
    | succ j=>
      have:=Ats.eqs (A:=A) (by omega) a2 b2 j (by simpa using h1) (by simpa using h2)
      have e:Ge (k :: ks) (l :: js) (j + 1)=Ge ks js j:=by unfold Ge; simp
      rw [e]
      simpa using this
end
section
variable {prog:Program} {w:World}
theorem At.quiet:∀ (d:Nat) {k:NK} {v:Value} {A:Around} {E:Value->Shared->Prop} {s:Shared} {Q:Bool->Shared->Prop},k.deep <= d->At s.heap k v->Q true s->wpAny (model prog w) A (eqIsQuiet d v) Q E s
  | d,.int i,v,A,E,s,Q,hd,a,q=>by
    unfold At at a
    obtain ⟨t,rfl⟩:=a
    unfold eqIsQuiet
    exact wpAny_pure q
  | 0,.tup ks,v,A,E,s,Q,hd,a,q=>by
    have hd':NK.deeps ks + 1 <= 0:=hd
    omega
  | d' + 1,.tup ks,v,A,E,s,Q,hd,a,q=>by
    have hd':NK.deeps ks + 1 <= d' + 1:=hd
    unfold At at a
    obtain ⟨x,o,items,n,rfl,h1,h2,h3,h4⟩:=a
    have hT:s.TypeIs (.ref x) "tuple" := ⟨o,h1,h2⟩
    unfold eqIsQuiet
    refine wpAny_bind (wpAny_specialOf hT PySem.F.slot_tuple_eq.lookup ?_)
    show wpAny _ _ (isInstance (.ref x) (.type "tuple") >>= _) _ _ s
    refine wpAny_bind (wpAny_isInstance hT isSubtype_tuple_tuple ?_)
    simp only [Bool.not_true,Bool.false_eq_true,if_false]
    refine wpAny_bind (wpAny_seqItems h1 h3 (wpAny_bind ?_))
    show wpAny _ _ (forIn items _ _) _ _ s
    rw [← Array.forIn_toList]
    refine wpAny_forIn_list _ (fun rest r s'=>r.1=none /\ s'=s /\ ∃ ks',NK.deeps ks' <= d' /\ Ats s.heap ks' rest) _ ?_ ?_ _ _ ⟨rfl,rfl,ks,by omega,h4⟩
    . rintro y rest r s' ⟨hr,rfl,ks',hk,at'⟩
      cases ks' with
      | nil=>unfold Ats at at'; cases at'
      | cons k' ks'=>
        unfold Ats at at'
        obtain ⟨_,_,e,a1,a2⟩:=at'
        cases e
        have hk':max (NK.deep k') (NK.deeps ks') <= d':=hk
        refine wpAny_bind (At.quiet d' (k:=k') (by omega) a1 ?_)
        simp only [Bool.not_true,Bool.false_eq_true,if_false]
        exact wpAny_pure ⟨rfl,rfl,ks',by omega,a2⟩
    . rintro ⟨r1,r2⟩ s' ⟨hr,rfl,_⟩
      simp only at hr
      subst hr
      exact wpAny_pure q
noncomputable def kind (prog:Program) (w:World):HeapKind prog w NK where
  is:=fun h k a=>At h k (.ref a) /\ k.deep <= 8
  hash:=NK.hash
  draws:=NK.draws
  room:=fun A=>A.units + 8 < cLine
  inj:=fun hx hy=>hx.1.inj hy.1
  keeps:=fun {h h' k a d o es ep} x ho hd hs=>⟨x.1.kept fun b o' items n e _ e3=>by
    have hne:b ≠ d:=by
      intro z
      subst z
      rw [ho] at e
      cases e
      rw [hd] at e3
      cases e3
    exact (hs.2 b hne).trans e,x.2⟩
  pyHash:=fun hu hk h=>At.hash (by have:=hk.2; omega) hk.1 h
  eqBool:=fun {A E s x y a b Q} hu hx hy h=>At.eq (by have:=hx.2; omega) hx.1 hy.1 _ _ E Q h
  quiet:=fun hk h=>At.quiet 8 hk.2 hk.1 h
end
abbrev Cs:=Int × Int × List Int
def csK (c:Cs):NK:=.tup [.int c.1,.int c.2.1,.tup (c.2.2.map NK.int)]
open L2 in
def DQ (p:Addr) (l:List (Cs × Addr × V)):HO:=.ext fun h=>∃ (us:List Value) (o:Obj) (es:Array DictEntry) (ep:Nat),Vals (l.map (·.2.2)) us /\ h.get? p=some o /\ o.ExactDict /\ o.data=.dict es ep /\
  es.toList=(l.zip us).map (fun x=>{ key:=.ref x.1.2.1,hash:=(csK x.1.1).hash,val:=x.2 }) /\ (l.map (·.1)).Nodup /\ l.length <= sizeLine /\ (p == sysModules)=false
end Nk
namespace Mi
open PySem L2 Nk
inductive D where
  | non | bl (b:Bool) | int (i:Int) | str (x:Str) | ty (n:String) | scr (ns:List Int) | tup (xs:List D) | lst (xs:List D) | ref (n:Nat)
inductive MO where
  | lst (xs:List D) | dK (kvs:List (Key × D)) | dC (kvs:List (Cs × D)) | ins (c:Str) (fs:List (Str × D))
abbrev Mh:=List MO
abbrev M (α:Type):=Mh->Option (α × Mh)
abbrev Sl:=List (Option D)
def ret {α:Type} (a:α):M α:=fun μ=>some (a,μ)
def bnd {α β:Type} (m:M α) (f:α->M β):M β:=fun μ=>match m μ with
  | some (a,μ1)=>f a μ1
  | none=>none
def BD {α:Type}:M α:=fun _=>none
theorem AI {α β:Type} {m:M α} {f:α->M β} {μ:Mh} {r:β × Mh} (h:bnd m f μ=some r):∃ a μ1,m μ=some (a,μ1) /\ f a μ1=some r:=by
  unfold bnd at h
  cases e:m μ with
  | none=>rw [e] at h; cases h
  | some p=>obtain ⟨a,μ1⟩:=p; rw [e] at h; exact ⟨a,μ1,rfl,h⟩
@[simp] theorem Vu {α β:Type} (a:α) (f:α->M β):bnd (ret a) f=f a:=rfl
theorem AM {α β:Type} {m:M α} {f:α->M β} {μ μ1:Mh} {a:α} (h:m μ=some (a,μ1)):bnd m f μ=f a μ1:=by unfold bnd; rw [h]
def ScrAt (K:PySem.W.Frag) (H:Hp) (a:Addr) (xs:List V):Prop:=
  (∃ o,H a=some (.frz o (.lst xs))) ∨ ∃ (o:Obj) (its:Array Value) (n:Nat),K.lookup a=some o /\ o.cls=.type "list" /\ o.dict=none /\ o.data=.seq its n /\ its.size <= sizeLine /\ Vals xs its.toList
theorem ScrAt.sq {K:PySem.W.Frag} {H:Hp} {a:Addr} {xs:List V} (h:ScrAt K H a xs):SqL K H a xs:=h.elim (fun z=>.inl (.inr z)) .inr
mutual
def Is (K:PySem.W.Frag) (ι:Nat->Addr) (k:Nat) (H:Hp):D->V->Prop
  | .non,v=>v=.non
  | .bl b,v=>v=.bl b
  | .int i,v=>v=.int i
  | .str x,v=>v=.str x
  | .ty n,v=>v=.ty n
  | .scr ns,v=>∃ p,v=.ref p /\ ScrAt K H p (ns.map V.int)
  | .tup ds,v=>∃ p vs,v=.ref p /\ SqT K H p vs /\ IsL K ι k H ds vs
  | .lst ds,v=>∃ p vs,v=.ref p /\ H p=some (.lst vs) /\ (∀ n,n < k->ι n ≠ p) /\ IsL K ι k H ds vs
  | .ref n,v=>n < k /\ v=.ref (ι n)
def IsL (K:PySem.W.Frag) (ι:Nat->Addr) (k:Nat) (H:Hp):List D->List V->Prop
  | [],vs=>vs=[]
  | d :: ds,vs=>∃ v vs',vs=v :: vs' /\ Is K ι k H d v /\ IsL K ι k H ds vs'
end
section
variable {K:PySem.W.Frag} {ι ι' ι2:Nat->Addr} {k k' k2:Nat} {H H' H2:Hp}
theorem IsL.length:∀ {ds:List D} {vs:List V},IsL K ι k H ds vs->vs.length=ds.length
  | [],_,h=>by unfold IsL at h; subst h; rfl
  | _ :: _,_,h=>by
    unfold IsL at h
    obtain ⟨v,vs',rfl,_,h⟩:=h
    simp only [List.length_cons,IsL.length h]
theorem IsL.get:∀ {ds:List D} {vs:List V} {i:Nat} {d:D},IsL K ι k H ds vs->ds[i]? = some d->∃ v,vs[i]? = some v /\ Is K ι k H d v
  | [],_,_,_,_,e=>by simp at e
  | _ :: _,_,0,_,h,e=>by
    unfold IsL at h
    obtain ⟨v,vs',rfl,h1,_⟩:=h
    simp at e; subst e
    exact ⟨v,rfl,h1⟩
  | _ :: _,_,i + 1,d,h,e=>by
    unfold IsL at h
    obtain ⟨v,vs',rfl,_,h⟩:=h
    obtain ⟨u,e1,e2⟩:=IsL.get (i:=i) (d:=d) h (by simpa using e)
    exact ⟨u,by simpa using e1,e2⟩
theorem IsL.append:∀ {ds es:List D} {vs us:List V},IsL K ι k H ds vs->IsL K ι k H es us->IsL K ι k H (ds ++ es) (vs ++ us)
  | [],_,_,_,h,q=>by unfold IsL at h; subst h; exact q
  | _ :: _,_,_,_,h,q=>by
    unfold IsL at h
    obtain ⟨v,vs',rfl,h1,h⟩:=h
    show IsL K ι k H (_ :: (_ ++ _)) _
    unfold IsL
    exact ⟨v,_,rfl,h1,IsL.append h q⟩
theorem IsL.take:∀ (n:Nat) {ds:List D} {vs:List V},IsL K ι k H ds vs->IsL K ι k H (ds.take n) (vs.take n)
  | 0,ds,vs,_=>by rw [List.take_zero,List.take_zero]; unfold IsL; rfl
  | n + 1,[],_,h=>by unfold IsL at h; subst h; simp only [List.take_nil]; unfold IsL; rfl
  | n + 1,_ :: _,_,h=>by
    unfold IsL at h
    obtain ⟨v,vs',rfl,h1,h⟩:=h
    simp only [List.take_succ_cons]
    unfold IsL
    exact ⟨v,_,rfl,h1,IsL.take n h⟩
theorem IsL.drop:∀ (n:Nat) {ds:List D} {vs:List V},IsL K ι k H ds vs->IsL K ι k H (ds.drop n) (vs.drop n)
  | 0,_,_,h=>h
  | n + 1,[],_,h=>by unfold IsL at h; subst h; simp only [List.drop_nil]; unfold IsL; rfl
  | n + 1,_ :: _,_,h=>by
    unfold IsL at h
    obtain ⟨v,vs',rfl,h1,h⟩:=h
    simp only [List.drop_succ_cons]
    exact IsL.drop n h
theorem IsL.cons {d:D} {ds:List D} {v:V} {vs:List V} (h:Is K ι k H d v) (t:IsL K ι k H ds vs):IsL K ι k H (d :: ds) (v :: vs):=by
  unfold IsL
  exact ⟨v,vs,rfl,h,t⟩
theorem IsL.nil:IsL K ι k H [] []:=by unfold IsL; rfl
theorem IsL.one {d:D} {v:V} (h:Is K ι k H d v):IsL K ι k H [d] [v]:=.cons h .nil
theorem IsL.set {d:D} {v:V} (h1:Is K ι k H d v):∀ {ds:List D} {vs:List V} (i:Nat),IsL K ι k H ds vs->IsL K ι k H (ds.set i d) (vs.set i v)
  | [],_,_,h=>by unfold IsL at h; subst h; exact .nil
  | _ :: _,_,0,h=>by
    unfold IsL at h
    obtain ⟨v,vs',rfl,_,h⟩:=h
    exact .cons h1 h
  | _ :: _,_,i + 1,h=>by
    unfold IsL at h
    obtain ⟨v,vs',rfl,h0,h⟩:=h
    exact .cons h0 (IsL.set h1 i h)
theorem IsL.ints:∀ {ns:List Int} {vs:List V},IsL K ι k H (ns.map D.int) vs->vs=ns.map V.int
  | [],_,h=>by unfold IsL at h; exact h
  | _ :: _,_,h=>by
    unfold List.map IsL at h
    obtain ⟨v,vs',rfl,h1,h⟩:=h
    unfold Is at h1
    rw [h1,IsL.ints h]; rfl
theorem IsL.ofInts:∀ (ns:List Int),IsL K ι k H (ns.map D.int) (ns.map V.int)
  | []=>.nil
  | n :: r=>.cons (by unfold Is; rfl) (IsL.ofInts r)
def Pf:HO->Bool
  | .lst _=>true
  | .dK _=>true
  | .ext _=>true
  | .ins _ _ _=>true
  | _=>false
def Muts (ι:Nat->Addr) (k:Nat) (H:Hp):Prop:=∀ n,n < k->∃ o,H (ι n)=some o /\ Pf o=true
structure Ext (ι:Nat->Addr) (k:Nat) (H:Hp) (ι':Nat->Addr) (k':Nat) (H':Hp):Prop where
  le:k <= k'
  agree:∀ n,n < k->ι' n=ι n
  fresh:∀ n,k <= n->n < k'->H (ι' n)=none
  keep:∀ p o,H p=some o->(∀ n,n < k->ι n ≠ p)->H' p=some o
  was:Muts ι k H
  there:Muts ι k H'
theorem Ext.refl (h:Muts ι k H):Ext ι k H ι k H:=⟨Nat.le_refl _,fun _ _=>rfl,fun n h1 h2=>absurd h1 (by omega),fun _ _ e _=>e,h,h⟩
theorem Ext.trans (a:Ext ι k H ι' k' H') (b:Ext ι' k' H' ι2 k2 H2):Ext ι k H ι2 k2 H2 where
  le:=Nat.le_trans a.le b.le
  agree:=fun n h=>(b.agree n (Nat.lt_of_lt_of_le h a.le)).trans (a.agree n h)
  fresh:=fun n h1 h2=>by
    rcases Nat.lt_or_ge n k' with z | z
    . rw [b.agree n z]; exact a.fresh n h1 z
    . have q:=b.fresh n z h2
      cases e:H (ι2 n) with
      | none=>rfl
      | some o=>
        by_cases hx:∃ m,m < k /\ ι m=ι2 n
        . obtain ⟨m,hm,e2⟩:=hx
          obtain ⟨o',q',_⟩:=a.there m hm
          rw [e2,q] at q'; cases q'
        . have:=a.keep _ o e (fun m hm e2=>hx ⟨m,hm,e2⟩)
          rw [q] at this; cases this
  keep:=fun p o e hn=>b.keep p o (a.keep p o e hn) (fun n hlt e2=>by
    rcases Nat.lt_or_ge n k with z | z
    . rw [a.agree n z] at e2; exact hn n z e2
    . have:=a.fresh n z hlt
      rw [e2,e] at this; cases this)
  was:=a.was
  there:=fun n h=>by
    have:=b.there n (Nat.lt_of_lt_of_le h a.le)
    rw [a.agree n h] at this; exact this
theorem Ext.out (a:Ext ι k H ι' k' H') {p:Addr} {o:HO} (e:H p=some o) (hn:∀ n,n < k->ι n ≠ p):∀ n,n < k'->ι' n ≠ p:=fun n h e2=>by
  rcases Nat.lt_or_ge n k with z | z
  . rw [a.agree n z] at e2; exact hn n z e2
  . have:=a.fresh n z h
    rw [e2,e] at this; cases this
theorem Muts.ne (a:Muts ι k H) {p:Addr} {o:HO} (e:H p=some o) (hm:Pf o=false):∀ n,n < k->ι n ≠ p:=fun n hn e2=>by
  obtain ⟨o',q,h⟩:=a n hn
  rw [e2,e] at q; cases q
  rw [hm] at h; cases h
theorem IV {p:Addr} {vs:List V} (a:Ext ι k H ι' k' H') (h:SqT K H p vs):SqT K H' p vs:=by
  rcases h with h | h
  . rcases h with h | ⟨o,h⟩
    . exact .inl (.inl (a.keep p _ h (a.was.ne h rfl)))
    . exact .inl (.inr ⟨o,a.keep p _ h (a.was.ne h rfl)⟩)
  . exact .inr h
theorem MB {p:Addr} {vs:List V} (a:Ext ι k H ι' k' H') (h:ScrAt K H p vs):ScrAt K H' p vs:=by
  rcases h with ⟨o,h⟩ | h
  . exact .inl ⟨o,a.keep p _ h (a.was.ne h rfl)⟩
  . exact .inr h
mutual
theorem Is.ext (a:Ext ι k H ι' k' H'):∀ {d:D} {v:V},Is K ι k H d v->Is K ι' k' H' d v
  | .non,_,h=>by unfold Is at h ⊢; exact h
  | .bl _,_,h=>by unfold Is at h ⊢; exact h
  | .int _,_,h=>by unfold Is at h ⊢; exact h
  | .str _,_,h=>by unfold Is at h ⊢; exact h
  | .ty _,_,h=>by unfold Is at h ⊢; exact h
  | .scr ns,_,h=>by
    unfold Is at h ⊢
    obtain ⟨p,rfl,h⟩:=h
    exact ⟨p,rfl,MB a h⟩
  | .tup ds,_,h=>by
    unfold Is at h ⊢
    obtain ⟨p,vs,rfl,h1,h2⟩:=h
    exact ⟨p,vs,rfl,IV a h1,IsL.ext a h2⟩
  | .lst ds,_,h=>by
    unfold Is at h ⊢
    obtain ⟨p,vs,rfl,h1,hn,h2⟩:=h
    exact ⟨p,vs,rfl,a.keep p _ h1 hn,a.out h1 hn,IsL.ext a h2⟩
  | .ref n,_,h=>by
    unfold Is at h ⊢
    obtain ⟨h,rfl⟩:=h
    exact ⟨Nat.lt_of_lt_of_le h a.le,by rw [a.agree n h]⟩
theorem IsL.ext (a:Ext ι k H ι' k' H'):∀ {ds:List D} {vs:List V},IsL K ι k H ds vs->IsL K ι' k' H' ds vs
  | [],_,h=>by unfold IsL at h ⊢; exact h
  | _ :: _,_,h=>by
    unfold IsL at h ⊢
    obtain ⟨v,vs',rfl,h1,h2⟩:=h
    exact ⟨v,vs',rfl,Is.ext a h1,IsL.ext a h2⟩
end
def KVs (K:PySem.W.Frag) (ι:Nat->Addr) (k:Nat) (H:Hp):List (Key × D)->List (Key × V)->Prop
  | [],r=>r=[]
  | (y,d) :: l,r=>∃ v r',r=(y,v) :: r' /\ Is K ι k H d v /\ KVs K ι k H l r'
theorem KVs.ext (a:Ext ι k H ι' k' H'):∀ {l:List (Key × D)} {r:List (Key × V)},KVs K ι k H l r->KVs K ι' k' H' l r
  | [],_,h=>h
  | (_,_) :: _,_,h=>by
    obtain ⟨v,r',rfl,h1,h2⟩:=h
    exact ⟨v,r',rfl,h1.ext a,h2.ext a⟩
def csD (c:Cs):D:=.tup [.int c.1,.int c.2.1,.tup (c.2.2.map D.int)]
def CVs (K:PySem.W.Frag) (ι:Nat->Addr) (k:Nat) (H:Hp):List (Cs × D)->List (Cs × Addr × V)->Prop
  | [],r=>r=[]
  | (y,d) :: l,r=>∃ a v r',r=(y,a,v) :: r' /\ Is K ι k H (csD y) (.ref a) /\ Is K ι k H d v /\ CVs K ι k H l r'
theorem CVs.ext (a:Ext ι k H ι' k' H'):∀ {l:List (Cs × D)} {r:List (Cs × Addr × V)},CVs K ι k H l r->CVs K ι' k' H' l r
  | [],_,h=>h
  | (_,_) :: _,_,h=>by
    obtain ⟨b,v,r',rfl,h1,h2,h3⟩:=h
    exact ⟨b,v,r',rfl,h1.ext a,h2.ext a,h3.ext a⟩
def FVs (K:PySem.W.Frag) (ι:Nat->Addr) (k:Nat) (H:Hp):List (Str × D)->List (Str × V)->Prop
  | [],r=>r=[]
  | (y,d) :: l,r=>∃ v r',r=(y,v) :: r' /\ Is K ι k H d v /\ FVs K ι k H l r'
theorem FVs.ext (a:Ext ι k H ι' k' H'):∀ {l:List (Str × D)} {r:List (Str × V)},FVs K ι k H l r->FVs K ι' k' H' l r
  | [],_,h=>h
  | (_,_) :: _,_,h=>by
    obtain ⟨v,r',rfl,h1,h2⟩:=h
    exact ⟨v,r',rfl,h1.ext a,h2.ext a⟩
def Vt (K:PySem.W.Frag) (c:Str) (C:Addr):Prop:=PySem.W.nsIn K mainGlobals c=some (some (.ref C))
def ObjIs (K:PySem.W.Frag) (ι:Nat->Addr) (k:Nat) (H:Hp) (p:Addr):MO->HO->Prop
  | .lst ds,o=>∃ vs,o=.lst vs /\ IsL K ι k H ds vs
  | .dK l,o=>∃ r,o=.dK r /\ KVs K ι k H l r
  | .dC l,o=>∃ r,o=DQ p r /\ CVs K ι k H l r
  | .ins c l,o=>∃ C dx r,o=.ins C dx r /\ Vt K c C /\ H dx=some (.own p) /\ FVs K ι k H l r
structure RelH (K:PySem.W.Frag) (ι:Nat->Addr) (μ:Mh) (H:Hp):Prop where
  inj:∀ i j,i < μ.length->j < μ.length->ι i=ι j->i=j
  obj:∀ n o,μ[n]? = some o->∃ u,H (ι n)=some u /\ ObjIs K ι μ.length H (ι n) o u
theorem ObjIs.mut {p:Addr} {o:MO} {u:HO} (h:ObjIs K ι k H p o u):Pf u=true:=by
  cases o with
  | lst ds=>obtain ⟨vs,rfl,_⟩:=h; rfl
  | dK l=>obtain ⟨r,rfl,_⟩:=h; rfl
  | dC l=>obtain ⟨r,rfl,_⟩:=h; rfl
  | ins c l=>obtain ⟨C,dx,r,rfl,_⟩:=h; rfl
theorem ObjIs.ext (a:Ext ι k H ι' k' H') {p:Addr} {o:MO} {u:HO} (h:ObjIs K ι k H p o u):ObjIs K ι' k' H' p o u:=by
  cases o with
  | lst ds=>obtain ⟨vs,rfl,h⟩:=h; exact ⟨vs,rfl,h.ext a⟩
  | dK l=>obtain ⟨r,rfl,h⟩:=h; exact ⟨r,rfl,h.ext a⟩
  | dC l=>obtain ⟨r,rfl,h⟩:=h; exact ⟨r,rfl,h.ext a⟩
  | ins c l=>obtain ⟨C,dx,r,rfl,h0,h1,h⟩:=h; exact ⟨C,dx,r,rfl,h0,a.keep dx _ h1 (a.was.ne h1 rfl),h.ext a⟩
theorem RelH.muts {μ:Mh} (r:RelH K ι μ H):Muts ι μ.length H:=fun n hn=>by
  obtain ⟨u,e,h⟩:=r.obj n μ[n] (by simp [hn])
  exact ⟨u,e,h.mut⟩
theorem RelH.ext0 {μ:Mh} (r:RelH K ι μ H):Ext ι μ.length H ι μ.length H:=Ext.refl r.muts
theorem RelH.laid {μ:Mh} (r:RelH K ι μ H) {p:Addr} (o:HO) (hp:H p=none):Ext ι μ.length H ι μ.length (upd H p o) /\ RelH K ι μ (upd H p o):=by
  have kp:∀ q u,H q=some u->upd H p o q=some u:=fun q u e=>by rw [Ap (Bs e hp)]; exact e
  have a:Ext ι μ.length H ι μ.length (upd H p o):=⟨Nat.le_refl _,fun _ _=>rfl,fun n h1 h2=>absurd h1 (by omega),fun q u e _=>kp q u e,r.muts,fun n hn=>by
    obtain ⟨u,e,h⟩:=r.muts n hn
    exact ⟨u,kp _ _ e,h⟩⟩
  refine ⟨a,r.inj,fun n o' e=>?_⟩
  obtain ⟨u,e1,h⟩:=r.obj n o' e
  exact ⟨u,kp _ _ e1,h.ext a⟩
theorem RelH.grown {μ:Mh} (r:RelH K ι μ H) {p:Addr} {o:HO} {m:MO} (hp:H p=none) (h:ObjIs K ι μ.length H p m o) :
    ∃ ι',Ext ι μ.length H ι' (μ ++ [m]).length (upd H p o) /\ RelH K ι' (μ ++ [m]) (upd H p o) /\ ι' μ.length=p:=by
  have kp:∀ q u,H q=some u->upd H p o q=some u:=fun q u e=>by rw [Ap (Bs e hp)]; exact e
  let ι':Nat->Addr:=fun n=>if n=μ.length then p else ι n
  have e0:ι' μ.length=p:=if_pos rfl
  have e1:∀ n,n < μ.length->ι' n=ι n:=fun n hn=>if_neg (by omega)
  have a:Ext ι μ.length H ι' (μ ++ [m]).length (upd H p o):=⟨by simp,e1,fun n h1 h2=>by
      have:n=μ.length:=by simp at h2; omega
      rw [this,e0]; exact hp,fun q u e _=>kp q u e,r.muts,fun n hn=>by
    obtain ⟨u,e,h⟩:=r.muts n hn
    exact ⟨u,kp _ _ e,h⟩⟩
  refine ⟨ι',a,⟨fun i j hi hj e=>?_,fun n o' e=>?_⟩,e0⟩
  . simp at hi hj
    have old:∀ i,i < μ.length->ι' i ≠ p:=fun i hi e=>by
      obtain ⟨u,q,_⟩:=r.muts i hi
      rw [← e1 i hi,e,hp] at q; cases q
    rcases Nat.lt_or_ge i μ.length with zi | zi <;> rcases Nat.lt_or_ge j μ.length with zj | zj
    . rw [e1 i zi,e1 j zj] at e; exact r.inj i j zi zj e
    . have:j=μ.length:=by omega
      subst this; rw [e0] at e; exact absurd e (old i zi)
    . have:i=μ.length:=by omega
      subst this; rw [e0] at e; exact absurd e.symm (old j zj)
    . omega
  . rcases Nat.lt_or_ge n μ.length with z | z
    . rw [List.getElem?_append_left z] at e
      obtain ⟨u,q,hq⟩:=r.obj n o' e
      exact ⟨u,by rw [e1 n z]; exact kp _ _ q,by rw [e1 n z]; exact hq.ext a⟩
    . have hn:n=μ.length:=by
        have:=(List.getElem?_eq_some_iff.mp e).1
        simp at this; omega
      subst hn
      rw [List.getElem?_append_right (Nat.le_refl _),Nat.sub_self] at e
      simp at e; subst e
      exact ⟨o,by rw [e0,A0],by rw [e0]; exact h.ext a⟩
theorem RelH.changed {μ:Mh} (r:RelH K ι μ H) {n:Nat} {o:HO} {m:MO} (hn:n < μ.length) (h:ObjIs K ι μ.length H (ι n) m o) :
    Ext ι μ.length H ι (μ.set n m).length (upd H (ι n) o) /\ RelH K ι (μ.set n m) (upd H (ι n) o):=by
  have ne:∀ i,i < μ.length->i ≠ n->ι i ≠ ι n:=fun i hi hne e=>hne (r.inj i n hi hn e)
  have a:Ext ι μ.length H ι (μ.set n m).length (upd H (ι n) o):=⟨by simp,fun _ _=>rfl,fun i h1 h2=>by simp at h2; omega,fun q u e hq=>by rw [Ap (fun z=>hq n hn z.symm)]; exact e,r.muts,fun i hi=>by
    by_cases z:i=n
    . subst z; exact ⟨o,A0,h.mut⟩
    . obtain ⟨u,e,hu⟩:=r.muts i hi
      exact ⟨u,by rw [Ap (ne i hi z)]; exact e,hu⟩⟩
  refine ⟨a,fun i j hi hj=>r.inj i j (by simpa using hi) (by simpa using hj),fun i o' e=>?_⟩
  by_cases z:i=n
  . subst z
    rw [List.getElem?_set_self hn] at e
    cases e
    exact ⟨o,A0,h.ext a⟩
  . rw [List.getElem?_set_ne (Ne.symm z)] at e
    have hi:i < μ.length:=(List.getElem?_eq_some_iff.mp e).1
    obtain ⟨u,q,hq⟩:=r.obj i o' e
    exact ⟨u,by rw [Ap (ne i hi z)]; exact q,hq.ext a⟩
structure RelS (K:PySem.W.Frag) (ι:Nat->Addr) (k:Nat) (H:Hp) (τ:Sl) (σ:St):Prop where
  len:σ.length=τ.length
  get:∀ (i:Nat) (d:D),τ[i]? = some (some d)->∃ v,σ[i]? = some (some v) /\ Is K ι k H d v
theorem RelS.ext {τ:Sl} {σ:St} (a:Ext ι k H ι' k' H') (r:RelS K ι k H τ σ):RelS K ι' k' H' τ σ:=⟨r.len,fun i d e=>by
  obtain ⟨v,e1,h⟩:=r.get i d e
  exact ⟨v,e1,h.ext a⟩⟩
theorem RelS.set {τ:Sl} {σ:St} (r:RelS K ι k H τ σ) {d:D} {v:V} (i:Nat) (h:Is K ι k H d v):RelS K ι k H (τ.set i (some d)) (σ.set i (some v)):=⟨by simp [r.len],fun j e q=>by
  by_cases z:i=j
  . subst z
    have hi:i < τ.length:=by
      have:=(List.getElem?_eq_some_iff.mp q).1
      simpa using this
    rw [List.getElem?_set_self hi] at q
    cases q
    exact ⟨v,List.getElem?_set_self (by rw [r.len]; exact hi),h⟩
  . rw [List.getElem?_set_ne z] at q
    obtain ⟨u,e1,hu⟩:=r.get j e q
    exact ⟨u,by rw [List.getElem?_set_ne z]; exact e1,hu⟩⟩
end
end Mi
namespace Mi
open PySem L2
inductive Fl where
  | next | brk | cont | rt (d:D)
abbrev Aft (K:PySem.W.Frag) (ι:Nat->Addr) (μ:Mh) (H:Hp) (μ':Mh) (φ:(Nat->Addr)->Hp->Prop):Prop:=
  ∀ ι' H',Ext ι μ.length H ι' μ'.length H'->RelH K ι' μ' H'->φ ι' H'
def tE (K:PySem.W.Frag) (m:Sl->M D):TE:=fun σ H Q=>∃ ι μ τ d μ',RelH K ι μ H /\ RelS K ι μ.length H τ σ /\ m τ μ=some (d,μ') /\
  Aft K ι μ H μ' fun ι' H'=>∀ v,Is K ι' μ'.length H' d v->Q v H'
def tT (K:PySem.W.Frag) (m:Sl->M Bool):TT:=fun σ H Q=>∃ ι μ τ b μ',RelH K ι μ H /\ RelS K ι μ.length H τ σ /\ m τ μ=some (b,μ') /\
  Aft K ι μ H μ' fun _ H'=>Q b H'
def tL (K:PySem.W.Frag) (m:Sl->M (List D)):TA:=fun σ H Q=>∃ ι μ τ ds μ',RelH K ι μ H /\ RelS K ι μ.length H τ σ /\ m τ μ=some (ds,μ') /\
  Aft K ι μ H μ' fun ι' H'=>∀ vs,IsL K ι' μ'.length H' ds vs->Q vs H'
def FlP (K:PySem.W.Frag) (Dn:Lg) (ι':Nat->Addr) (k:Nat) (H':Hp) (τ':Sl) (σ':St):Fl->Prop
  | .next=>Dn.nx σ' H'
  | .brk=>Dn.bk σ' H'
  | .cont=>Dn.ct σ' H'
  | .rt d=>∀ v,Is K ι' k H' d v->Dn.rt v H'
def tSt (K:PySem.W.Frag) (m:Sl->M (Fl × Sl)):TS:=fun Dn σ H=>∃ ι μ τ f τ' μ',RelH K ι μ H /\ RelS K ι μ.length H τ σ /\ m τ μ=some ((f,τ'),μ') /\
  Aft K ι μ H μ' fun ι' H'=>∀ σ',RelS K ι' μ'.length H' τ' σ'->FlP K Dn ι' μ'.length H' τ' σ' f
structure RE (X:Cx) (e:Expr) (m:Sl->M D):Prop where
  pe:PE X e (tE X.K m)
structure RT (X:Cx) (e:Expr) (m:Sl->M Bool):Prop where
  pe:PT X e (tT X.K m)
structure RW (X:Cx) (e:Expr) (m:Sl->M Bool):Prop where
  pe:PW X e (tT X.K m)
structure RA (X:Cx) (es:List Expr) (m:Sl->M (List D)):Prop where
  pe:PA X es (tL X.K m)
structure RS (X:Cx) (st:Stmt) (m:Sl->M (Fl × Sl)):Prop where
  pe:PS X st (tSt X.K m)
structure RSs (X:Cx) (st:List Stmt) (m:Sl->M (Fl × Sl)):Prop where
  pe:PSs X st (tSt X.K m)
section
variable {X:Cx} {e a b c:Expr} {es:List Expr} {pos:Pos}
theorem PE.wk {t t':TE} (h:PE X e t) (w:∀ σ H Q,t' σ H Q->t σ H Q):PE X e t':=fun pins s σ H Q I q=>h pins s σ H Q I (w σ H Q q)
theorem RE.wk {m:Sl->M D} {t:TE} (h:PE X e t) (w:∀ σ H Q,tE X.K m σ H Q->t σ H Q):RE X e m:=⟨PE.wk h w⟩
theorem PT.wk {t t':TT} (h:PT X e t) (w:∀ σ H Q,t' σ H Q->t σ H Q):PT X e t':=fun pins s σ H Q I q=>h pins s σ H Q I (w σ H Q q)
theorem RT.wk {m:Sl->M Bool} {t:TT} (h:PT X e t) (w:∀ σ H Q,tT X.K m σ H Q->t σ H Q):RT X e m:=⟨PT.wk h w⟩
theorem PW.wk {t t':TT} (h:PW X e t) (w:∀ σ H Q,t' σ H Q->t σ H Q):PW X e t':=fun wh pins s σ H Q I q=>h wh pins s σ H Q I (w σ H Q q)
theorem RW.wk {m:Sl->M Bool} {t:TT} (h:PW X e t) (w:∀ σ H Q,tT X.K m σ H Q->t σ H Q):RW X e m:=⟨PW.wk h w⟩
theorem PA.wk {t t':TA} (h:PA X es t) (w:∀ σ H Q,t' σ H Q->t σ H Q):PA X es t':=fun p pins s σ H Q I q=>h p pins s σ H Q I (w σ H Q q)
theorem RA.wk {m:Sl->M (List D)} {t:TA} (h:PA X es t) (w:∀ σ H Q,tL X.K m σ H Q->t σ H Q):RA X es m:=⟨PA.wk h w⟩
theorem PS.wk {st:Stmt} {t t':TS} (h:PS X st t) (w:∀ D σ H,t' D σ H->t D σ H):PS X st t':=fun pins s σ H D I q=>h pins s σ H D I (w D σ H q)
theorem RS.wk {m:Sl->M (Fl × Sl)} {st:Stmt} {t:TS} (h:PS X st t) (w:∀ D σ H,tSt X.K m D σ H->t D σ H):RS X st m:=⟨PS.wk h w⟩
theorem PSs.wk {st:List Stmt} {t t':TS} (h:PSs X st t) (w:∀ D σ H,t' D σ H->t D σ H):PSs X st t':=fun pins s σ H D I q=>h pins s σ H D I (w D σ H q)
theorem RSs.wk {m:Sl->M (Fl × Sl)} {st:List Stmt} {t:TS} (h:PSs X st t) (w:∀ D σ H,tSt X.K m D σ H->t D σ H):RSs X st m:=⟨PSs.wk h w⟩
theorem OpR.wk {f:Value->Value->Sem Value} {r r':R2} (h:OpR X f r) (w:∀ x y H Q,r' x y H Q->r x y H Q):OpR X f r':=fun pins s σ H x y v u Q I rx ry q=>h pins s σ H x y v u Q I rx ry (w x y H Q q)
def Ea:Expr->Bool
  | .Starred _ _=>true
  | _=>false
theorem Ai {e:Expr} {es:List Expr} {env:Env} (h:Ea e=false):starEach (e :: es) env=(false,eval e env) :: starEach es env:=by
  cases e <;> first | rfl | cases h
theorem B9 {pos:Pos} {env:Env}:∀ {es:List Expr},(es.all fun e=>!Ea e)=true->(backTo pos (starEach es env)).any (·.1)=false
  | [],_=>rfl
  | e :: es,h=>by
    rw [List.all_cons,Bool.and_eq_true] at h
    have h1:Ea e=false:=by simpa using h.1
    have ih:=B9 (pos:=pos) (env:=env) h.2
    rw [Ai h1]
    unfold backTo at ih ⊢
    simpa using ih
def AB (i:Nat):Sl->M D:=fun τ μ=>match τ[i]? with
  | some (some d)=>some (d,μ)
  | _=>none
def mC (d:D):Sl->M D:=fun _=>ret d
theorem AA (i:Nat) {x:Str} (hN:X.N[i]? = some x:=by rfl) (hv:Vis X.env.scope x:=by first | exact Or.inl rfl | exact Or.inr (Or.inl rfl) | exact Or.inr (Or.inr rfl)) (hd:(x == ("__debug__" : Str))=false:=by decide)
    (hcd:(x == ("__classdict__" : Str))=false:=by decide):RE X (.Name x pos) (AB i):=RE.wk (Tv hN hv hd hcd) fun σ H Q h=>by
  obtain ⟨ι,μ,τ,d,μ',R,S,e,q⟩:=h
  unfold AB at e
  split at e
  . rename_i d' ed
    cases e
    obtain ⟨v,e1,h1⟩:=S.get i _ ed
    exact ⟨v,e1,q ι H R.ext0 R v h1⟩
  . cases e
theorem NU {t:TE} {d:D} {v:V} (h:PE X e (tC v)) (hd:∀ ι k H,Is X.K ι k H d v):RE X e (mC d):=RE.wk h fun σ H Q h=>by
  obtain ⟨ι,μ,τ,d,μ',R,S,e,q⟩:=h
  cases e
  exact q ι H R.ext0 R v (hd _ _ _)
theorem AE {i j}:RE X (.Constant (.int i) j pos) (mC (.int i)):=NU (t:=fun _ _ _=>True) Tz fun _ _ _=>by unfold Is; rfl
theorem SM {i j}:RE X (.Constant (.bool i) j pos) (mC (.bl i)):=NU (t:=fun _ _ _=>True) VR fun _ _ _=>by unfold Is; rfl
theorem Cq {j}:RE X (.Constant .none j pos) (mC .non):=NU (t:=fun _ _ _=>True) Ty fun _ _ _=>by unfold Is; rfl
theorem A5 {i j}:RE X (.Constant (.str i) j pos) (mC (.str i)):=NU (t:=fun _ _ _=>True) Tx fun _ _ _=>by unfold Is; rfl
theorem Q7 {x:Str} {v:V} {u:Value} {d:D} (hm:X.mg x=some u) (r:RelV v u) (hd:∀ ι k H,Is X.K ι k H d v) (hg:Gl X x:=by rfl) (hdb:(x == ("__debug__" : Str))=false:=by decide):RE X (.Name x pos) (mC d):=
  NU (t:=fun _ _ _=>True) (RU hg hm r hdb) hd
def mOp (g:D->D->M D) (ma mb:Sl->M D):Sl->M D:=fun τ=>bnd (ma τ) fun x=>bnd (mb τ) fun y=>g x y
def mUn (g:D->M D) (ma:Sl->M D):Sl->M D:=fun τ=>bnd (ma τ) g
def rM (K:PySem.W.Frag) (g:D->D->M D):R2:=fun x y H Q=>∃ ι μ a b d μ',RelH K ι μ H /\ Is K ι μ.length H a x /\ Is K ι μ.length H b y /\ g a b μ=some (d,μ') /\
  Aft K ι μ H μ' fun ι' H'=>∀ v,Is K ι' μ'.length H' d v->Q v H'
def rM1 (K:PySem.W.Frag) (g:D->M D):V->Hp->VK->Prop:=fun x H Q=>∃ ι μ a d μ',RelH K ι μ H /\ Is K ι μ.length H a x /\ g a μ=some (d,μ') /\
  Aft K ι μ H μ' fun ι' H'=>∀ v,Is K ι' μ'.length H' d v->Q v H'
def rMA (K:PySem.W.Frag) (g:List D->M D):List V->Hp->VK->Prop:=fun xs H Q=>∃ ι μ as d μ',RelH K ι μ H /\ IsL K ι μ.length H as xs /\ g as μ=some (d,μ') /\
  Aft K ι μ H μ' fun ι' H'=>∀ v,Is K ι' μ'.length H' d v->Q v H'
theorem Lz {K:PySem.W.Frag} {g:D->D->M D} {ma mb:Sl->M D} {σ:St} {H:Hp} {Q:VK} (h:tE K (mOp g ma mb) σ H Q):tOp (rM K g) (tE K ma) (tE K mb) σ H Q:=by
  obtain ⟨ι,μ,τ,d,μ',R,S,e,q⟩:=h
  obtain ⟨x,μ1,e1,e⟩:=AI e
  obtain ⟨y,μ2,e2,e3⟩:=AI e
  refine ⟨ι,μ,τ,x,μ1,R,S,e1,fun ι1 H1 E1 R1 v1 i1=>?_⟩
  refine ⟨ι1,μ1,τ,y,μ2,R1,S.ext E1,e2,fun ι2 H2 E2 R2 v2 i2=>?_⟩
  exact ⟨ι2,μ2,x,y,d,μ',R2,i1.ext E2,i2,e3,fun ι3 H3 E3 R3 v3 i3=>q ι3 H3 ((E1.trans E2).trans E3) R3 v3 i3⟩
theorem U5 {K:PySem.W.Frag} {g:D->M D} {ma:Sl->M D} {σ:St} {H:Hp} {Q:VK} (h:tE K (mUn g ma) σ H Q):tUn (rM1 K g) (tE K ma) σ H Q:=by
  obtain ⟨ι,μ,τ,d,μ',R,S,e,q⟩:=h
  obtain ⟨x,μ1,e1,e⟩:=AI e
  refine ⟨ι,μ,τ,x,μ1,R,S,e1,fun ι1 H1 E1 R1 v1 i1=>?_⟩
  exact ⟨ι1,μ1,x,d,μ',R1,i1,e,fun ι3 H3 E3 R3 v3 i3=>q ι3 H3 (E1.trans E3) R3 v3 i3⟩
theorem AO {op:Operator} {g:D->D->M D} {ma mb:Sl->M D} (ho:OpR X (binaryOp op) (rM X.K g)) (ha:RE X a ma) (hb:RE X b mb):RE X (.BinOp a op b pos) (mOp g ma mb):=RE.wk (VO ho ha.pe hb.pe) fun _ _ _ h=>Lz h
theorem EI {op:UnaryOp} {g:D->M D} {ma:Sl->M D} (ho:UnR X (unaryOp op) (rM1 X.K g)) (ha:RE X a ma):RE X (.UnaryOp op a pos) (mUn g ma):=RE.wk (VN ho ha.pe) fun _ _ _ h=>U5 h
theorem Dt {op:CmpOp} {g:D->D->M D} {ma mb:Sl->M D} (ho:OpR X (compareOp op) (rM X.K g)) (ha:RE X a ma) (hb:RE X b mb) (hm:behindInMarks op b=false:=by first | exact PX _ | rfl):RE X (.Compare a [op] [b] pos) (mOp g ma mb):=
  RE.wk (RX ho ha.pe hb.pe hm) fun _ _ _ h=>Lz h
theorem AR {g:D->D->M D} {ma mb:Sl->M D} (ho:IxR X (rM X.K g)) (ha:RE X a ma) (hb:RE X b mb) (hs:Mz b:=by exact fun _ _=>rfl):RE X (.Subscript a b pos) (mOp g ma mb):=RE.wk (VP ho ha.pe hb.pe hs) fun _ _ _ h=>Lz h
def asB:D->M Bool
  | .bl b=>ret b
  | _=>BD
def AS (m:Sl->M D):Sl->M Bool:=fun τ=>bnd (m τ) asB
theorem Lw {K:PySem.W.Frag} {m:Sl->M D} {σ:St} {H:Hp} {Q:Bool->Hp->Prop} (h:tT K (AS m) σ H Q):tE K m σ H fun x H'=>∃ k,x=.bl k /\ Q k H':=by
  obtain ⟨ι,μ,τ,b,μ',R,S,e,q⟩:=h
  obtain ⟨x,μ1,e1,e⟩:=AI e
  refine ⟨ι,μ,τ,x,μ1,R,S,e1,fun ι1 H1 E1 R1 v1 i1=>?_⟩
  cases x with
  | bl k=>
    cases e
    unfold Is at i1
    exact ⟨b,i1,q ι1 H1 E1 R1⟩
  | _=>cases e
theorem Ae {op:CmpOp} {g:D->D->M D} {ma mb:Sl->M D} (ho:OpR X (compareOp op) (rM X.K g)) (ha:RE X a ma) (hb:RE X b mb) (hm:behindInMarks op b=false:=by first | exact PX _ | rfl):RT X (.Compare a [op] [b] pos) (AS (mOp g ma mb)):=
  RT.wk (RJ ho ha.pe hb.pe hm) fun σ H Q h=>Lz (Q:=fun x H'=>∃ k,x=.bl k /\ Q k H') (Lw h)
theorem Oe {m:Sl->M D} (h:RE X e m) (he:∀ whole,isTrue e X.env whole=(do let v ← whole; standAt e.pos; holding [v] (truthy v)):=by intro _; rfl):RT X e (AS m):=
  RT.wk (To h.pe he) fun _ _ _ q=>Lw q
def FR (ma mb:Sl->M Bool):Sl->M Bool:=fun τ=>bnd (ma τ) fun x=>if x=true then mb τ else ret false
def mOr (ma mb:Sl->M Bool):Sl->M Bool:=fun τ=>bnd (ma τ) fun x=>if x=true then ret true else mb τ
def Rn (ma:Sl->M Bool):Sl->M Bool:=fun τ=>bnd (ma τ) fun x=>ret (!x)
theorem Of {ma:Sl->M Bool} (ha:RT X a ma):RT X (.UnaryOp .Not a pos) (Rn ma):=RT.wk (Tp ha.pe) fun σ H Q h=>by
  obtain ⟨ι,μ,τ,b,μ',R,S,e,q⟩:=h
  obtain ⟨x,μ1,e1,e⟩:=AI e
  cases e
  exact ⟨ι,μ,τ,x,_,R,S,e1,q⟩
theorem MC {ma:Sl->M Bool} (ha:RT X a ma):RW X (.BoolOp .And [a] pos) ma:=⟨RH ha.pe⟩
theorem Od {ma:Sl->M Bool} (ha:RT X a ma):RW X (.BoolOp .Or [a] pos) ma:=⟨Tm ha.pe⟩
theorem Ku {rest:List Expr} {ma mb:Sl->M Bool} (ha:RT X a ma) (hb:RW X (.BoolOp .And (b :: rest) pos) mb):RW X (.BoolOp .And (a :: b :: rest) pos) (FR ma mb):=RW.wk (Tn ha.pe hb.pe) fun σ H Q h=>by
  obtain ⟨ι,μ,τ,z,μ',R,S,e,q⟩:=h
  obtain ⟨x,μ1,e1,e⟩:=AI e
  refine ⟨ι,μ,τ,x,μ1,R,S,e1,fun ι1 H1 E1 R1=>?_⟩
  cases x with
  | true=>exact ⟨ι1,μ1,τ,z,μ',R1,S.ext E1,e,fun ι2 H2 E2 R2=>q ι2 H2 (E1.trans E2) R2⟩
  | false=>cases e; exact q ι1 H1 E1 R1
theorem SL {rest:List Expr} {ma mb:Sl->M Bool} (ha:RT X a ma) (hb:RW X (.BoolOp .Or (b :: rest) pos) mb):RW X (.BoolOp .Or (a :: b :: rest) pos) (mOr ma mb):=RW.wk (VL ha.pe hb.pe) fun σ H Q h=>by
  obtain ⟨ι,μ,τ,z,μ',R,S,e,q⟩:=h
  obtain ⟨x,μ1,e1,e⟩:=AI e
  refine ⟨ι,μ,τ,x,μ1,R,S,e1,fun ι1 H1 E1 R1=>?_⟩
  cases x with
  | true=>cases e; exact q ι1 H1 E1 R1
  | false=>exact ⟨ι1,μ1,τ,z,μ',R1,S.ext E1,e,fun ι2 H2 E2 R2=>q ι2 H2 (E1.trans E2) R2⟩
theorem RW.rt {m:Sl->M Bool} (h:RW X e m):RT X e m:=⟨h.pe.pt⟩
def mIf (mc:Sl->M Bool) (ma mb:Sl->M D):Sl->M D:=fun τ=>bnd (mc τ) fun x=>if x=true then ma τ else mb τ
theorem MH {mc:Sl->M Bool} {ma mb:Sl->M D} (hc:RT X c mc) (ha:RE X a ma) (hb:RE X b mb):RE X (.IfExp c a b pos) (mIf mc ma mb):=RE.wk (O7 hc.pe ha.pe hb.pe) fun σ H Q h=>by
  obtain ⟨ι,μ,τ,z,μ',R,S,e,q⟩:=h
  obtain ⟨x,μ1,e1,e⟩:=AI e
  refine ⟨ι,μ,τ,x,μ1,R,S,e1,fun ι1 H1 E1 R1=>?_⟩
  cases x with
  | true=>exact ⟨ι1,μ1,τ,z,μ',R1,S.ext E1,e,fun ι2 H2 E2 R2=>q ι2 H2 (E1.trans E2) R2⟩
  | false=>exact ⟨ι1,μ1,τ,z,μ',R1,S.ext E1,e,fun ι2 H2 E2 R2=>q ι2 H2 (E1.trans E2) R2⟩
def AK:Sl->M (List D):=fun _=>ret []
def AD (m:Sl->M D) (r:Sl->M (List D)):Sl->M (List D):=fun τ=>bnd (m τ) fun x=>bnd (r τ) fun xs=>ret (x :: xs)
theorem AG:RA X [] AK:=RA.wk ET fun σ H Q h=>by
  obtain ⟨ι,μ,τ,z,μ',R,S,e,q⟩:=h
  cases e
  exact q ι H R.ext0 R [] .nil
theorem AC {m:Sl->M D} {r:Sl->M (List D)} (h:RE X e m) (hr:RA X es r) (hs:starEach (e :: es) X.env=(false,eval e X.env) :: starEach es X.env:=by exact Ai rfl):RA X (e :: es) (AD m r):=RA.wk (DY h.pe hr.pe hs) fun σ H Q h=>by
  obtain ⟨ι,μ,τ,z,μ',R,S,e,q⟩:=h
  obtain ⟨x,μ1,e1,e⟩:=AI e
  obtain ⟨xs,μ2,e2,e⟩:=AI e
  cases e
  exact ⟨ι,μ,τ,x,μ1,R,S,e1,fun ι1 H1 E1 R1 v1 i1=>⟨ι1,μ1,τ,xs,_,R1,S.ext E1,e2,fun ι2 H2 E2 R2 vs i2=>q ι2 H2 (E1.trans E2) R2 _ (.cons (i1.ext E2) i2)⟩⟩
def lim (n:Nat):M Unit:=fun μ=>if n <= sizeLine then some ((),μ) else none
theorem Ct {n:Nat} {μ μ1:Mh} {u:Unit} (h:lim n μ=some (u,μ1)):n <= sizeLine /\ μ1=μ:=by
  unfold lim at h
  split at h
  . rename_i hn; cases h; exact ⟨hn,rfl⟩
  . cases h
theorem EX {n:Nat} (h:n <= sizeLine) (μ:Mh):lim n μ=some ((),μ):=if_pos h
def Al (ds:List D):M D:=bnd (lim ds.length) fun _=>ret (.tup ds)
def Av (ds:List D):M D:=bnd (lim ds.length) fun _=>ret (.lst ds)
def Eu (ds:List D):M D:=bnd (lim ds.length) fun _=>fun μ=>some (.ref μ.length,μ ++ [.lst ds])
def AH (f:List D->M D) (m:Sl->M (List D)):Sl->M D:=fun τ=>bnd (m τ) f
theorem MQ {K:PySem.W.Frag} {ι:Nat->Addr} {μ μ':Mh} {H:Hp} {ds:List D} {vs:List V} {d:D} {Q:VK} (R:RelH K ι μ H) (i:IsL K ι μ.length H ds vs) (e:Al ds μ=some (d,μ')) (q:Aft K ι μ H μ' fun ι' H'=>∀ v,Is K ι' μ'.length H' d v->Q v H') :
    vs.length <= sizeLine /\ ∀ p,H p=none->Q (.ref p) (upd H p (.tup vs)):=by
  obtain ⟨u,μ1,e1,e2⟩:=AI e
  clear e
  obtain ⟨hl,e3⟩:=Ct e1
  cases e2
  cases e3
  refine ⟨by rw [i.length]; exact hl,fun p hp=>?_⟩
  obtain ⟨E1,R1⟩:=R.laid (.tup vs) hp
  exact q ι _ E1 R1 _ (by unfold Is; exact ⟨p,vs,rfl,SqT.of A0,i.ext E1⟩)
theorem BF {K:PySem.W.Frag} {ι:Nat->Addr} {μ μ':Mh} {H:Hp} {ds:List D} {vs:List V} {d:D} {Q:VK} (R:RelH K ι μ H) (i:IsL K ι μ.length H ds vs) (e:Av ds μ=some (d,μ')) (q:Aft K ι μ H μ' fun ι' H'=>∀ v,Is K ι' μ'.length H' d v->Q v H') :
    vs.length <= sizeLine /\ ∀ p,H p=none->Q (.ref p) (upd H p (.lst vs)):=by
  obtain ⟨u,μ1,e1,e2⟩:=AI e
  clear e
  obtain ⟨hl,e3⟩:=Ct e1
  cases e2
  cases e3
  refine ⟨by rw [i.length]; exact hl,fun p hp=>?_⟩
  obtain ⟨E1,R1⟩:=R.laid (.lst vs) hp
  have ho:∀ n,n < μ.length->ι n ≠ p:=fun n hn z=>by
    obtain ⟨o,e,_⟩:=R.muts n hn
    rw [z,hp] at e; cases e
  exact q ι _ E1 R1 _ (by unfold Is; exact ⟨p,vs,rfl,A0,ho,i.ext E1⟩)
theorem MR {K:PySem.W.Frag} {ι:Nat->Addr} {μ μ':Mh} {H:Hp} {ds:List D} {vs:List V} {d:D} {Q:VK} (R:RelH K ι μ H) (i:IsL K ι μ.length H ds vs) (e:Eu ds μ=some (d,μ')) (q:Aft K ι μ H μ' fun ι' H'=>∀ v,Is K ι' μ'.length H' d v->Q v H') :
    vs.length <= sizeLine /\ ∀ p,H p=none->Q (.ref p) (upd H p (.lst vs)):=by
  obtain ⟨u,μ1,e1,e2⟩:=AI e
  clear e
  obtain ⟨hl,e3⟩:=Ct e1
  cases e2
  cases e3
  refine ⟨by rw [i.length]; exact hl,fun p hp=>?_⟩
  obtain ⟨ι',E1,R1,e0⟩:=R.grown (m:=.lst ds) hp ⟨vs,rfl,i⟩
  exact q ι' _ E1 R1 _ (by unfold Is; exact ⟨by simp,by rw [e0]⟩)
theorem D7 {K:PySem.W.Frag} {f:List D->M D} {m:Sl->M (List D)} {σ:St} {H:Hp} {Q:VK} {R:List V->Hp->Prop} (h:tE K (AH f m) σ H Q)
    (hf:∀ ι μ μ' H ds vs d,RelH K ι μ H->IsL K ι μ.length H ds vs->f ds μ=some (d,μ')->(Aft K ι μ H μ' fun ι' H'=>∀ v,Is K ι' μ'.length H' d v->Q v H')->R vs H):tL K m σ H R:=by
  obtain ⟨ι,μ,τ,z,μ',S1,S,e,q⟩:=h
  obtain ⟨ds,μ1,e1,e⟩:=AI e
  exact ⟨ι,μ,τ,ds,μ1,S1,S,e1,fun ι1 H1 E1 R1 vs iv=>hf ι1 μ1 μ' H1 ds vs z R1 iv e fun ι2 H2 E2 R2=>q ι2 H2 (E1.trans E2) R2⟩
theorem Ab {x1} {m:Sl->M (List D)} (h:RA X es m):RE X (.Tuple es x1 pos) (AH Al m):=RE.wk (Tw h.pe) fun _ _ _ q=>D7 q fun _ _ _ _ _ _ _ R i e q=>MQ R i e q
theorem B2 {m:Sl->M (List D)} (h:RA X es m):RE X (.List es pos) (AH Av m):=RE.wk (O6 h.pe) fun _ _ _ q=>D7 q fun _ _ _ _ _ _ _ R i e q=>BF R i e q
theorem Ic {m:Sl->M (List D)} (h:RA X es m):RE X (.List es pos) (AH Eu m):=RE.wk (O6 h.pe) fun _ _ _ q=>D7 q fun _ _ _ _ _ _ _ R i e q=>MR R i e q
theorem CQ {id:String} {x:Str} {g:List D->M D} {m:Sl->M (List D)} {p:Pos} (hc:BO X (.builtin id) (rMA X.K g)) (hm:X.mg x=none) (hv:bootBuiltins x=some (.builtin id)) (ha:RA X (e :: es) m) (hg:Gl X x:=by rfl) (hn:x ≠ "__name__" := by decide) (hdb:(x == ("__debug__" : Str))=false:=by decide)
    (he:starEach (e :: es) X.env=(false,eval e X.env) :: starEach es X.env:=by exact Ai rfl) (hpl:(backTo pos (starEach es X.env)).any (·.1)=false:=by exact B9 rfl):RE X (.Call (.Name x p) (e :: es) [] pos) (AH g m):=
  RE.wk (GX hc hg hm hv ha.pe hn hdb he hpl) fun _ _ _ q=>D7 q fun ι μ μ' H ds vs d R i e q=>⟨ι,μ,ds,d,μ',R,i,e,q⟩
theorem Au {T:String} {x:Str} {g:List D->M D} {m:Sl->M (List D)} {p:Pos} (hc:BO X (.type T) (rMA X.K g)) (hm:X.mg x=none) (hv:bootBuiltins x=some (.type T)) (ha:RA X (e :: es) m) (hg:Gl X x:=by rfl) (hn:x ≠ "__name__" := by decide) (hdb:(x == ("__debug__" : Str))=false:=by decide)
    (he:starEach (e :: es) X.env=(false,eval e X.env) :: starEach es X.env:=by exact Ai rfl) (hpl:(backTo pos (starEach es X.env)).any (·.1)=false:=by exact B9 rfl):RE X (.Call (.Name x p) (e :: es) [] pos) (AH g m):=
  RE.wk (DJ hc hg hm hv ha.pe hn hdb he hpl) fun _ _ _ q=>D7 q fun ι μ μ' H ds vs d R i e q=>⟨ι,μ,ds,d,μ',R,i,e,q⟩
def spM (K:PySem.W.Frag) (n:Nat) (φ:List D->M D):Sp:=fun vs H Q _=>vs.length=n /\ rMA K φ vs H Q
theorem Q8 {n k:Nat} {φ:List D->M D} {f:Addr} {fd:FuncData} {ps:List Str} {x:Str} {m:Sl->M (List D)} {p:Pos} (F:FnOk X.prog X.w X.K X.mg X.base CX0 k f fd ps (spM X.K n φ)) (hr:Room k X.A) (hm:X.mg x=some (.ref f)) (hk:PySem.W.keepIn X.K (.ref f)=true) (hb:Binds X.K fd ps [])
    (hφ:∀ ds μ r,φ ds μ=some r->ds.length=n) (ha:RA X (e :: es) m) (hg:Gl X x:=by rfl) (hdb:(x == ("__debug__" : Str))=false:=by decide) (he:starEach (e :: es) X.env=(false,eval e X.env) :: starEach es X.env:=by exact Ai rfl) (hpl:(backTo pos (starEach es X.env)).any (·.1)=false:=by exact B9 rfl) :
    RE X (.Call (.Name x p) (e :: es) [] pos) (AH φ m):=
  RE.wk (RY F hr hg hm hk hb .nil VS ha.pe hdb he hpl) fun _ _ _ q=>D7 q fun ι μ μ' H ds vs d R i e q=>by
    rw [List.append_nil]
    exact ⟨by rw [i.length]; exact hφ ds μ _ e,ι,μ,ds,d,μ',R,i,e,q⟩
end
end Mi
namespace Mi
open PySem L2
section
variable {X:Cx} {e a b c tg iter:Expr} {es:List Expr} {pos:Pos} {st:Stmt} {rest body:List Stmt}
def Bh:Sl->M (Fl × Sl):=fun τ=>ret (.next,τ)
def AT (m1 m2:Sl->M (Fl × Sl)):Sl->M (Fl × Sl):=fun τ=>bnd (m1 τ) fun r=>match r.1 with
  | .next=>m2 r.2
  | f=>ret (f,r.2)
theorem Ar:RSs X [] Bh:=RSs.wk RL fun Dn σ H h=>by
  obtain ⟨ι,μ,τ,f,τ',μ',R,S,e,q⟩:=h
  cases e
  exact q ι H R.ext0 R σ S
theorem AJ {m1 m2:Sl->M (Fl × Sl)} (h1:RS X st m1) (h2:RSs X rest m2):RSs X (st :: rest) (AT m1 m2):=RSs.wk (Ov h1.pe h2.pe) fun Dn σ H h=>by
  obtain ⟨ι,μ,τ,f,τ',μ',R,S,e,q⟩:=h
  obtain ⟨⟨f1,τ1⟩,μ1,e1,e⟩:=AI e
  refine ⟨ι,μ,τ,f1,τ1,μ1,R,S,e1,fun ι1 H1 E1 R1 σ1 S1=>?_⟩
  cases f1 with
  | next=>exact ⟨ι1,μ1,τ1,f,τ',μ',R1,S1,e,fun ι2 H2 E2 R2=>q ι2 H2 (E1.trans E2) R2⟩
  | brk=>cases e; exact q ι1 H1 E1 R1 σ1 S1
  | cont=>cases e; exact q ι1 H1 E1 R1 σ1 S1
  | rt d=>cases e; exact q ι1 H1 E1 R1 σ1 S1
theorem AL {m:Sl->M (Fl × Sl)} (h:RS X st m):RSs X [st] m:=⟨RK h.pe⟩
def Bl (m:Sl->M D):Sl->M (Fl × Sl):=fun τ=>bnd (m τ) fun _=>ret (.next,τ)
theorem D9 {m:Sl->M D} (h:RE X e m) (hs:swapsWith e none pos.line X.env=pure false:=by rfl):RS X (.Expr e pos) (Bl m):=RS.wk (RM h.pe hs) fun Dn σ H h=>by
  obtain ⟨ι,μ,τ,f,τ',μ',R,S,e,q⟩:=h
  obtain ⟨x,μ1,e1,e⟩:=AI e
  cases e
  exact ⟨ι,μ,_,x,_,R,S,e1,fun ι1 H1 E1 R1 v i1=>q ι1 H1 E1 R1 σ (S.ext E1)⟩
def Ao (m:Sl->M D):Sl->M (Fl × Sl):=fun τ=>bnd (m τ) fun d=>ret (.rt d,τ)
theorem Aa {m:Sl->M D} (h:RE X e m):RS X (.Return (some e) pos) (Ao m):=RS.wk (Tr h.pe) fun Dn σ H h=>by
  obtain ⟨ι,μ,τ,f,τ',μ',R,S,e,q⟩:=h
  obtain ⟨x,μ1,e1,e⟩:=AI e
  cases e
  exact ⟨ι,μ,_,x,_,R,S,e1,fun ι1 H1 E1 R1 v i1=>q ι1 H1 E1 R1 σ (S.ext E1) v i1⟩
def sIf (mc:Sl->M Bool) (m1 m2:Sl->M (Fl × Sl)):Sl->M (Fl × Sl):=fun τ=>bnd (mc τ) fun x=>if x=true then m1 τ else m2 τ
theorem BW {mc:Sl->M Bool} {m1 m2:Sl->M (Fl × Sl)} (hc:RT X c mc) (h1:RSs X body m1) (h2:RSs X rest m2):RS X (.If c body rest pos) (sIf mc m1 m2):=RS.wk (VM hc.pe h1.pe h2.pe) fun Dn σ H h=>by
  obtain ⟨ι,μ,τ,f,τ',μ',R,S,e,q⟩:=h
  obtain ⟨x,μ1,e1,e⟩:=AI e
  refine ⟨ι,μ,τ,x,μ1,R,S,e1,fun ι1 H1 E1 R1=>?_⟩
  cases x with
  | true=>exact ⟨ι1,μ1,τ,f,τ',μ',R1,S.ext E1,e,fun ι2 H2 E2 R2=>q ι2 H2 (E1.trans E2) R2⟩
  | false=>exact ⟨ι1,μ1,τ,f,τ',μ',R1,S.ext E1,e,fun ι2 H2 E2 R2=>q ι2 H2 (E1.trans E2) R2⟩
def tG (K:PySem.W.Frag) (bf:D->Sl->M Sl):TG:=fun v σ H Q=>∃ ι μ τ d τ' μ',RelH K ι μ H /\ RelS K ι μ.length H τ σ /\ Is K ι μ.length H d v /\ bf d τ μ=some (τ',μ') /\
  Aft K ι μ H μ' fun ι' H'=>∀ σ',RelS K ι' μ'.length H' τ' σ'->Q σ' H'
structure RG (X:Cx) (tg:Expr) (bf:D->Sl->M Sl):Prop where
  pe:PG X tg (tG X.K bf)
theorem PG.wk {t t':TG} (h:PG X tg t) (w:∀ v σ H Q,t' v σ H Q->t v σ H Q):PG X tg t':=fun pins s σ H v u Q I r q=>h pins s σ H v u Q I r (w v σ H Q q)
theorem RG.wk {bf:D->Sl->M Sl} {t:TG} (h:PG X tg t) (w:∀ v σ H Q,tG X.K bf v σ H Q->t v σ H Q):RG X tg bf:=⟨PG.wk h w⟩
def AN (i:Nat):D->Sl->M Sl:=fun d τ=>ret (τ.set i (some d))
theorem Ly {K:PySem.W.Frag} {i:Nat} {v:V} {σ:St} {H:Hp} {Q:St->Hp->Prop} (h:tG K (AN i) v σ H Q):Di i v σ H Q:=by
  obtain ⟨ι,μ,τ,d,τ',μ',R,S,i1,e,q⟩:=h
  cases e
  exact q ι H R.ext0 R _ (S.set i i1)
theorem DW (i:Nat) {x:Str} (hN:X.N.Nodup) (hi:X.N[i]? = some x:=by rfl) (hx:Loc X.env.scope x:=by first | exact Or.inl rfl | exact Or.inr rfl) (hf:X.fn x=true ∨ X.env.scope.names.lookup x=some .local:=by first | exact .inl rfl | exact .inr rfl | assumption):RG X (.Name x pos) (AN i):=
  RG.wk (AV hN hi hx hf) fun _ _ _ _ h=>Ly h
def HD:List Nat->List D->Sl->M Sl
  | [],[],τ=>ret τ
  | i :: is,d :: ds,τ=>bnd (AN i d τ) fun τ1=>HD is ds τ1
  | _,_,_=>BD
def Cz (is:List Nat):D->Sl->M Sl
  | .tup ds,τ=>if ds.length=is.length then HD is ds τ else BD
  | _,_=>BD
def Dc:List Nat->TGs
  | []=>Vg
  | i :: is=>Sa (Di i) (Dc is)
theorem FW {K:PySem.W.Frag}:∀ {is:List Nat} {ds:List D} {vs:List V} {τ τ':Sl} {σ:St} {ι:Nat->Addr} {μ μ':Mh} {H:Hp} {Q:St->Hp->Prop},RelH K ι μ H->RelS K ι μ.length H τ σ->IsL K ι μ.length H ds vs->HD is ds τ μ=some (τ',μ')->
    (μ'=μ->∀ σ',RelS K ι μ.length H τ' σ'->Q σ' H)->Dc is vs σ H Q
  | [],[],_,_,_,_,_,_,_,_,_,R,S,i,e,q=>by
    cases e
    unfold IsL at i; subst i
    exact ⟨rfl,q rfl _ S⟩
  | _ :: is,_ :: ds,_,τ,τ',σ,ι,μ,μ',H,Q,R,S,i,e,q=>by
    unfold IsL at i
    obtain ⟨v,vs',rfl,i1,i2⟩:=i
    exact ⟨v,vs',rfl,FW (is:=is) (ds:=ds) R (S.set _ i1) i2 e q⟩
  | [],_ :: _,_,_,_,_,_,_,_,_,_,_,_,_,e,_=>by cases e
  | _ :: _,[],_,_,_,_,_,_,_,_,_,_,_,_,e,_=>by cases e
theorem Ib {is:List Nat} {k:Nat} (hc:X.calm=true) (h:PGs X es (Dc is)) (hn:(assignEach es X.env).length=is.length:=by rfl) (hst:(assignEach es X.env).findIdx? (·.1)=none:=by rfl):RG X (.Tuple es k pos) (Cz is):=
  RG.wk (K6 hc h hn hst) fun v σ H Q h=>by
    obtain ⟨ι,μ,τ,d,τ',μ',R,S,i1,e,q⟩:=h
    cases d with
    | tup ds=>
      unfold Is at i1
      obtain ⟨p,vs,rfl,h1,h2⟩:=i1
      have e':(if ds.length=is.length then HD is ds τ else BD) μ=some (τ',μ'):=e
      by_cases hl:ds.length=is.length
      . rw [if_pos hl] at e'
        have e:=e'
        refine ⟨p,vs,rfl,h1,by rw [h2.length,hl],FW R S h2 e fun z σ' S'=>?_⟩
        subst z
        exact q ι H R.ext0 R σ' S'
      . rw [if_neg hl] at e'; cases e'
    | _=>cases e
def Ah (m:Sl->M D) (bf:D->Sl->M Sl):Sl->M (Fl × Sl):=fun τ=>bnd (m τ) fun d=>bnd (bf d τ) fun τ'=>ret (.next,τ')
theorem Lx {K:PySem.W.Frag} {m:Sl->M D} {bf:D->Sl->M Sl} {g:TG} {Dn:Lg} {σ:St} {H:Hp} (hg:∀ v H Q,tG K bf v σ H Q->g v σ H Q) (h:tSt K (Ah m bf) Dn σ H):OV (tE K m) g Dn σ H:=by
  obtain ⟨ι,μ,τ,f,τ',μ',R,S,e,q⟩:=h
  obtain ⟨x,μ1,e1,e⟩:=AI e
  obtain ⟨τ1,μ2,e2,e⟩:=AI e
  cases e
  exact ⟨ι,μ,τ,x,μ1,R,S,e1,fun ι1 H1 E1 R1 v i1=>hg _ _ _ ⟨ι1,μ1,τ,x,_,_,R1,S.ext E1,i1,e2,fun ι2 H2 E2 R2 σ' S'=>q ι2 H2 (E1.trans E2) R2 σ' S'⟩⟩
theorem Af (i:Nat) {x:Str} {m:Sl->M D} {pos':Pos} (hN:X.N.Nodup) (he:RE X e m) (hi:X.N[i]? = some x:=by rfl) (hx:Loc X.env.scope x:=by first | exact Or.inl rfl | exact Or.inr rfl) (hs:swapsWith e (some (.Name x pos')) pos.line X.env=pure false:=by rfl) (hf:X.fn x=true ∨ X.env.scope.names.lookup x=some .local:=by first | exact .inl rfl | exact .inr rfl | assumption) :
    RS X (.Assign [.Name x pos'] e pos) (Ah m (AN i)):=RS.wk (Tq hN hi hx he.pe hs hf) fun _ _ _ h=>Lx (fun _ _ _ q=>Ly q) h
theorem Kv {m:Sl->M D} {bf:D->Sl->M Sl} (he:RE X e m) (hg:RG X tg bf) (hs:swapsWithSole [tg] e pos.line X.env=pure false:=by rfl) (hw:swappedStores [tg] e X.env=pure none:=by rfl)
    (h1:(assignEach [tg] X.env).map (·.2)=[assign tg X.env]:=by rfl):RS X (.Assign [tg] e pos) (Ah m bf):=RS.wk (Ts he.pe hg.pe hs hw h1) fun _ _ _ h=>Lx (fun _ _ _ q=>q) h
def Fu (mc:Sl->M Bool) (mb:Sl->M (Fl × Sl)):Nat->Sl->M (Fl × Sl)
  | 0,_=>BD
  | n + 1,τ=>bnd (mc τ) fun x=>if x=true then bnd (mb τ) fun r=>match r.1 with
      | .next=>Fu mc mb n r.2
      | .cont=>Fu mc mb n r.2
      | .brk=>ret (.next,r.2)
      | .rt d=>ret (.rt d,r.2)
    else ret (.next,τ)
def FL (n:Nat) (mc:Sl->M Bool) (mb:Sl->M (Fl × Sl)):Sl->M (Fl × Sl):=Fu mc mb n
theorem Jk (n:Nat) {mc:Sl->M Bool} {mb:Sl->M (Fl × Sl)} (hp:PassesOwn (model X.prog X.w) X.A X.env X.xe) (hc:RT X c mc) (hb:RSs X body mb):RS X (.While c body [] pos) (FL n mc mb):=RS.wk (Ow hp hc.pe hb.pe) fun Dn σ H h=>by
  refine ⟨fun n σ H=>tSt X.K (Fu mc mb n) Dn σ H,⟨n,h⟩,?_⟩
  intro n σ H h
  obtain ⟨ι,μ,τ,f,τ',μ',R,S,e,q⟩:=h
  cases n with
  | zero=>cases e
  | succ n=>
    obtain ⟨x,μ1,e1,e⟩:=AI e
    refine ⟨ι,μ,τ,x,μ1,R,S,e1,fun ι1 H1 E1 R1=>?_⟩
    cases x with
    | false=>cases e; exact q ι1 H1 E1 R1 σ (S.ext E1)
    | true=>
      obtain ⟨⟨f2,τ2⟩,μ2,e2,e⟩:=AI e
      refine ⟨fun σ' H'=>tSt X.K (Fu mc mb n) Dn σ' H',fun σ' H' z=>⟨n,Nat.lt_succ_self n,z⟩,?_⟩
      refine ⟨ι1,μ1,τ,f2,τ2,μ2,R1,S.ext E1,e2,fun ι2 H2 E2 R2 σ2 S2=>?_⟩
      have E12:=E1.trans E2
      cases f2 with
      | next=>exact ⟨ι2,μ2,τ2,f,τ',μ',R2,S2,e,fun ι3 H3 E3 R3=>q ι3 H3 (E12.trans E3) R3⟩
      | cont=>exact ⟨ι2,μ2,τ2,f,τ',μ',R2,S2,e,fun ι3 H3 E3 R3=>q ι3 H3 (E12.trans E3) R3⟩
      | brk=>cases e; exact q ι2 H2 E12 R2 σ2 S2
      | rt d=>cases e; exact q ι2 H2 E12 R2 σ2 S2
def ItM (K:PySem.W.Frag) (J:It) (ds:List D) (ι:Nat->Addr) (μ:Mh) (H:Hp):Prop:=∀ ι' (μ':Mh) H',Ext ι μ.length H ι' μ'.length H'->RelH K ι' μ' H'->
  (∀ i,i < ds.length->J.go i H') /\ J.stop ds.length H' /\ ∀ (i:Nat) x H2 d,ds[i]? = some d->J.yld i H' x H2->Ext ι' μ'.length H' ι' μ'.length H2 /\ RelH K ι' μ' H2 /\ Is K ι' μ'.length H2 d x
theorem ItM.ext {K:PySem.W.Frag} {J:It} {ds:List D} {ι ι':Nat->Addr} {μ μ':Mh} {H H':Hp} (h:ItM K J ds ι μ H) (E:Ext ι μ.length H ι' μ'.length H'):ItM K J ds ι' μ' H':=fun ι2 μ2 H2 E2 R2=>h ι2 μ2 H2 (E.trans E2) R2
def tI (K:PySem.W.Frag) (m:Sl->M (List D)):TI:=fun σ H R=>∃ ι μ τ ds μ',RelH K ι μ H /\ RelS K ι μ.length H τ σ /\ m τ μ=some (ds,μ') /\
  Aft K ι μ H μ' fun ι' H'=>∀ J,ItM K J ds ι' μ' H'->R J H'
structure RI (X:Cx) (tg iter:Expr) (m:Sl->M (List D)):Prop where
  pe:PI X tg iter (tI X.K m)
theorem PI.wk {t t':TI} (h:PI X tg iter t) (w:∀ σ H R,t' σ H R->t σ H R):PI X tg iter t':=fun pins s σ H R I q=>h pins s σ H R I (w σ H R q)
theorem RI.wk {m:Sl->M (List D)} {t:TI} (h:PI X tg iter t) (w:∀ σ H R,tI X.K m σ H R->t σ H R):RI X tg iter m:=⟨PI.wk h w⟩
theorem PI.or {t t':TI} (h:PI X tg iter t) (h':PI X tg iter t'):PI X tg iter (fun σ H R=>t σ H R ∨ t' σ H R):=fun pins s σ H R I q=>q.elim (h pins s σ H R I) (h' pins s σ H R I)
def Mx:D->M (List D)
  | .lst ds=>ret ds
  | .tup ds=>ret ds
  | .scr ns=>ret (ns.map D.int)
  | _=>BD
def B4 (m:Sl->M D):Sl->M (List D):=fun τ=>bnd (m τ) Mx
theorem J8 {K:PySem.W.Frag} {ι:Nat->Addr} {μ:Mh} {H:Hp} {p:Addr} {vs:List V} {ds:List D} (st:∀ ι' (μ':Mh) H',Ext ι μ.length H ι' μ'.length H'->RelH K ι' μ' H'->SqL K H' p vs) (i:IsL K ι μ.length H ds vs):ItM K (Itl K p) ds ι μ H:=by
  intro ι' μ' H' E R
  have h:=st ι' μ' H' E R
  have hl:=i.length
  refine ⟨fun j hj=>⟨vs,vs[j],h,by simp⟩,⟨vs,h,by omega⟩,fun j x H2 d hd y=>?_⟩
  obtain ⟨e,y⟩:=y
  subst e
  obtain ⟨v,ev,iv⟩:=(i.ext E).get hd
  have:=y vs h
  rw [ev] at this; cases this
  exact ⟨R.ext0,R,iv⟩
theorem Rr {K:PySem.W.Frag} {ι:Nat->Addr} {μ:Mh} {H:Hp} {p:Addr} {vs:List V} {ds:List D} (h:SqT K H p vs) (i:IsL K ι μ.length H ds vs):ItM K (Itt K p) ds ι μ H:=by
  intro ι' μ' H' E R
  have h:=IV E h
  have hl:=i.length
  refine ⟨fun j hj=>⟨vs,vs[j],h,by simp⟩,⟨vs,h,by omega⟩,fun j x H2 d hd y=>?_⟩
  obtain ⟨e,y⟩:=y
  subst e
  obtain ⟨v,ev,iv⟩:=(i.ext E).get hd
  have:=y vs h
  rw [ev] at this; cases this
  exact ⟨R.ext0,R,iv⟩
theorem Q5 {m:Sl->M D} {σ:St} {H:Hp} {R:It->Hp->Prop} {K:PySem.W.Frag} (q:tI K (B4 m) σ H R):SY K (tE K m) σ H R ∨ Ve K (tE K m) σ H R:=by
  obtain ⟨ι,μ,τ,ds,μ',R0,S,e,q⟩:=q
  obtain ⟨x,μ1,e1,e⟩:=AI e
  cases x with
  | lst es=>
    cases e
    refine .inl ⟨ι,μ,τ,_,_,R0,S,e1,fun ι1 H1 E1 R1 v i1=>?_⟩
    unfold Is at i1
    obtain ⟨p,vs,rfl,h1,hn,h2⟩:=i1
    exact ⟨p,rfl,⟨vs,SqL.of h1⟩,q ι1 H1 E1 R1 _ (J8 (fun ι' μ' H' E _=>SqL.of (E.keep p _ h1 hn)) h2)⟩
  | tup es=>
    cases e
    refine .inr ⟨ι,μ,τ,_,_,R0,S,e1,fun ι1 H1 E1 R1 v i1=>?_⟩
    unfold Is at i1
    obtain ⟨p,vs,rfl,h1,h2⟩:=i1
    exact ⟨p,rfl,⟨vs,h1⟩,q ι1 H1 E1 R1 _ (Rr h1 h2)⟩
  | scr ns=>
    cases e
    refine .inl ⟨ι,μ,τ,_,_,R0,S,e1,fun ι1 H1 E1 R1 v i1=>?_⟩
    unfold Is at i1
    obtain ⟨p,rfl,h1⟩:=i1
    exact ⟨p,rfl,⟨_,h1.sq⟩,q ι1 H1 E1 R1 _ (J8 (fun ι' μ' H' E _=>(MB E h1).sq) (IsL.ofInts ns))⟩
  | non=>cases e
  | bl _=>cases e
  | int _=>cases e
  | str _=>cases e
  | ty _=>cases e
  | ref _=>cases e
theorem BE {m:Sl->M D} (h:RE X e m):RI X tg e (B4 m):=RI.wk (PI.or (ML h.pe) (Tt h.pe)) fun _ _ _ q=>Q5 q
def Jm (lo hi:Int):List D:=(List.range (hi - lo).toNat).map fun (j:Nat)=>D.int (lo + (j:Int))
def MF:List D->M (List D)
  | [.int j]=>fun μ=>if -(2 ^ 62) <= j /\ j < 2 ^ 62 then some (Jm 0 j,μ) else none
  | _=>BD
def Gc (m:Sl->M (List D)):Sl->M (List D):=fun τ=>bnd (m τ) MF
theorem Rs {K:PySem.W.Frag} {ι:Nat->Addr} {μ:Mh} {H:Hp} {lo hi:Int}:ItM K (Itr lo (hi - lo).toNat) (Jm lo hi) ι μ H:=by
  intro ι' μ' H' E R
  have hl:(Jm lo hi).length=(hi - lo).toNat:=by simp [Jm]
  rw [hl]
  refine ⟨fun j hj=>hj,Nat.le_refl _,fun j x H2 d hd y=>?_⟩
  obtain ⟨e,y⟩:=y
  subst e
  unfold Jm at hd
  rw [List.getElem?_map] at hd
  cases q:(List.range (hi - lo).toNat)[j]? with
  | none=>rw [q] at hd; cases hd
  | some z=>
    rw [q] at hd
    have hz:z=j:=by
      have:=(List.getElem?_eq_some_iff.mp q).2
      simpa using this.symm
    subst hz
    cases hd
    exact ⟨R.ext0,R,by unfold Is; exact y⟩
theorem Hc {a:Expr} {m:Sl->M (List D)} {p:Pos} (hm:X.mg "range" = none) (ha:RA X [a] m) (hg:Gl X "range" := by rfl) (hs:starEach [a] X.env=[(false,eval a X.env)]:=by rfl):RI X tg (.Call (.Name "range" p) [a] [] pos) (Gc m):=
  RI.wk (Nb hg hm ha.pe hs) fun σ H R q=>by
    obtain ⟨ι,μ,τ,ds,μ',R0,S,e,q⟩:=q
    obtain ⟨xs,μ1,e1,e⟩:=AI e
    refine ⟨ι,μ,τ,xs,μ1,R0,S,e1,fun ι1 H1 E1 R1 vs i1=>?_⟩
    unfold MF at e
    split at e
    . rename_i j
      split at e
      . rename_i hb
        cases e
        unfold IsL Is at i1
        obtain ⟨v,vs',rfl,rfl,i2⟩:=i1
        unfold IsL at i2
        subst i2
        refine ⟨j,rfl,hb.1,hb.2,q ι1 H1 E1 R1 _ ?_⟩
        have:=Rs (K:=X.K) (ι:=ι1) (μ:=μ') (H:=H1) (lo:=0) (hi:=j)
        rw [Int.sub_zero] at this
        exact this
      . cases e
    . cases e
def Dj (bf:D->Sl->M Sl) (mb:Sl->M (Fl × Sl)):List D->Sl->M (Fl × Sl)
  | [],τ=>ret (.next,τ)
  | x :: xs,τ=>bnd (bf x τ) fun τ1=>bnd (mb τ1) fun r=>match r.1 with
    | .next=>Dj bf mb xs r.2
    | .cont=>Dj bf mb xs r.2
    | .brk=>ret (.next,r.2)
    | .rt d=>ret (.rt d,r.2)
def ES (src:Sl->M (List D)) (bf:D->Sl->M Sl) (mb:Sl->M (Fl × Sl)):Sl->M (Fl × Sl):=fun τ=>bnd (src τ) fun ds=>Dj bf mb ds τ
theorem Ds {src:Sl->M (List D)} {bf:D->Sl->M Sl} {mb:Sl->M (Fl × Sl)} (hp:PassesOwn (model X.prog X.w) X.A X.env X.xe) (hc:X.calm=true) (hi:RI X tg iter src) (hg:RG X tg bf) (hb:RSs X body mb)
    (hs:∀ x,foldedSetIterable iter X.env x=pure x:=by intro _; rfl):RS X (.For tg iter body [] pos) (ES src bf mb):=RS.wk (Ox hp hc hi.pe hg.pe hb.pe hs) fun Dn σ H h=>by
  obtain ⟨ι,μ,τ,f,τ',μ',R,S,e,q⟩:=h
  obtain ⟨ds,μ1,e1,e⟩:=AI e
  refine ⟨ι,μ,τ,ds,μ1,R,S,e1,fun ι1 H1 E1 R1 J it=>?_⟩
  let W:Nat->Nat->St->Hp->Prop:=fun i m σ H=>m=ds.length - i /\ i <= ds.length /\ ∃ ι μ τ f τ' μ',RelH X.K ι μ H /\ RelS X.K ι μ.length H τ σ /\ ItM X.K J ds ι μ H /\ Dj bf mb (ds.drop i) τ μ=some ((f,τ'),μ') /\
    Aft X.K ι μ H μ' fun ι' H'=>∀ σ',RelS X.K ι' μ'.length H' τ' σ'->FlP X.K Dn ι' μ'.length H' τ' σ' f
  refine ⟨W,⟨ds.length,by simp,Nat.zero_le _,ι1,μ1,τ,f,τ',μ',R1,S.ext E1,it,e,fun ι2 H2 E2 R2=>q ι2 H2 (E1.trans E2) R2⟩,?_⟩
  rintro i m σ H ⟨hm,hil,ι,μ,τ,f,τ',μ',R,S,it,e,q⟩
  obtain ⟨go,stop,yl⟩:=it ι μ H R.ext0 R
  by_cases hlt:i < ds.length
  . refine .inr ⟨go i hlt,fun σ' H'=>W (i + 1) (ds.length - (i + 1)) σ' H',fun σ' H' z=>⟨_,by omega,z⟩,fun x H2 y=>?_⟩
    have hd:ds[i]? = some ds[i]:=by simp [hlt]
    obtain ⟨E2,R2,ix⟩:=yl i x H2 _ hd y
    rw [List.drop_eq_getElem_cons hlt] at e
    obtain ⟨τ1,μ1,e1,e⟩:=AI e
    obtain ⟨⟨f2,τ2⟩,μ2,e2,e⟩:=AI e
    refine ⟨ι,μ,τ,_,τ1,μ1,R2,S.ext E2,ix,e1,fun ι3 H3 E3 R3 σ3 S3=>?_⟩
    refine ⟨ι3,μ1,τ1,f2,τ2,μ2,R3,S3,e2,fun ι4 H4 E4 R4 σ4 S4=>?_⟩
    have E14:=(E2.trans E3).trans E4
    cases f2 with
    | next=>exact ⟨rfl,hlt,ι4,μ2,τ2,f,τ',μ',R4,S4,it.ext E14,e,fun ι5 H5 E5 R5=>q ι5 H5 (E14.trans E5) R5⟩
    | cont=>exact ⟨rfl,hlt,ι4,μ2,τ2,f,τ',μ',R4,S4,it.ext E14,e,fun ι5 H5 E5 R5=>q ι5 H5 (E14.trans E5) R5⟩
    | brk=>cases e; exact q ι4 H4 E14 R4 σ4 S4
    | rt d=>cases e; exact q ι4 H4 E14 R4 σ4 S4
  . have hi':i=ds.length:=by omega
    subst hi'
    rw [List.drop_length] at e
    cases e
    exact .inl ⟨stop,q ι H R.ext0 R σ S⟩
end
end Mi
namespace Mi
open PySem L2
section
variable {X:Cx} {scope:Scope} {tgs:List Str} {ix:List Nat} {elt tg iter:Expr} {pos:Pos}
def O2 (ix:List Nat) (τ:Sl):Sl:=ix.map fun j=>(τ[j]?).getD none
def CJ (n:Nat) (ix:List Nat) (τ:Sl):Sl:=List.replicate n none ++ O2 ix τ
def CY (bf:D->Sl->M Sl) (mc:Sl->M Bool) (me:Sl->M D) (τ0:Sl):List D->List D->M (List D)
  | [],ys=>ret ys
  | x :: xs,ys=>bnd (bf x τ0) fun τ1=>bnd (mc τ1) fun c=>if c=true then bnd (me τ1) fun y=>CY bf mc me τ0 xs (ys ++ [y]) else CY bf mc me τ0 xs ys
def BA (n:Nat) (ix:List Nat) (src:Sl->M (List D)) (bf:D->Sl->M Sl) (mc:Sl->M Bool) (me:Sl->M D) (fin:List D->M D):Sl->M D:=fun τ=>bnd (src τ) fun ds=>bnd (lim ds.length) fun _=>bnd (CY bf mc me (CJ n ix τ) ds []) fin
def C3:Sl->M Bool:=fun _=>ret true
theorem RelS.block {K:PySem.W.Frag} {ι:Nat->Addr} {k:Nat} {H:Hp} {τ:Sl} {σ:St} (S:RelS K ι k H τ σ):RelS K ι k H (CJ tgs.length ix τ) (Bp tgs ix σ):=by
  refine ⟨by simp [CJ,Bp,O2,Hf],fun i d e=>?_⟩
  unfold CJ at e
  have hk:tgs.length <= i:=by
    rcases Nat.lt_or_ge i tgs.length with z | z
    . rw [List.getElem?_append_left (by simpa using z),List.getElem?_replicate,if_pos z] at e
      cases e
    . exact z
  rw [List.getElem?_append_right (by simpa using hk),List.length_replicate] at e
  unfold O2 at e
  rw [List.getElem?_map] at e
  cases q:ix[i - tgs.length]? with
  | none=>rw [q] at e; cases e
  | some j=>
    rw [q] at e
    have e':(τ[j]?).getD none=some d:=Option.some.inj e
    cases q2:τ[j]? with
    | none=>rw [q2] at e'; cases e'
    | some o=>
      rw [q2] at e'
      have e'':o=some d:=e'
      subst e''
      obtain ⟨v,ev,iv⟩:=S.get j d q2
      refine ⟨v,?_,iv⟩
      unfold Bp
      rw [List.getElem?_append_right (by simpa using hk),List.length_replicate]
      unfold Hf
      rw [List.getElem?_map,q,Option.map_some,ev]
      rfl
theorem L0 {K:PySem.W.Frag} {n:Nat} {src:Sl->M (List D)} {i:Nat} {mc:Sl->M Bool} {me:Sl->M D} {fin:List D->M D} {σ:St} {H:Hp} {Q:VK} (hn:tgs.length=n) (hf:∀ ι μ μ' H ds vs d (Q:VK),RelH K ι μ H->IsL K ι μ.length H ds vs->fin ds μ=some (d,μ')->(Aft K ι μ H μ' fun ι' H'=>∀ v,Is K ι' μ'.length H' d v->Q v H')->
      vs.length <= sizeLine /\ ∀ p,H p=none->Q (.ref p) (upd H p (.lst vs)))
    (h:tE K (BA n ix src (AN i) mc me fin) σ H Q):HZ tgs ix (tI K src) (Di i) (tT K mc) (tE K me) σ H Q:=by
  subst hn
  obtain ⟨ι,μ,τ,d,μ',R,S,e,q⟩:=h
  obtain ⟨ds,μ1,e1,e5⟩:=AI e
  obtain ⟨u,μ2,e2,e6⟩:=AI e5
  obtain ⟨zs,μ3,e3,e7⟩:=AI e6
  obtain ⟨hl,e4⟩:=Ct e2
  clear e e5 e6
  subst e4
  refine ⟨ι,μ,τ,ds,_,R,S,e1,fun ι1 H1 E1 R1 J it=>?_⟩
  refine ⟨fun i' m ys H=>m=ds.length - i' /\ i' <= ds.length /\ ys.length <= i' /\ ∃ (ι:Nat->Addr) (μ:Mh) (as:List D),RelH K ι μ H /\ RelS K ι μ.length H τ σ /\ ItM K J ds ι μ H /\ IsL K ι μ.length H as ys /\ CY (AN i) mc me (CJ tgs.length ix τ) (ds.drop i') as μ=some (zs,μ3) /\
    Aft K ι μ H μ' fun ι' H'=>∀ v,Is K ι' μ'.length H' d v->Q v H',⟨ds.length,by simp,Nat.zero_le _,Nat.le_refl _,ι1,_,[],R1,S.ext E1,it,.nil,e3,fun ι2 H2 E2 R2=>q ι2 H2 (E1.trans E2) R2⟩,?_⟩
  rintro i' m ys H ⟨hm,hil,hyl,ι,μ,as,R,S,it,ia,e3,q⟩
  obtain ⟨go,stop,yl⟩:=it ι μ H R.ext0 R
  by_cases hlt:i' < ds.length
  . refine .inr ⟨go i' hlt,by omega,fun ys' H'=>ys'.length <= i' + 1 /\ ∃ (ι:Nat->Addr) (μ:Mh) (as:List D),RelH K ι μ H' /\ RelS K ι μ.length H' τ σ /\ ItM K J ds ι μ H' /\ IsL K ι μ.length H' as ys' /\ CY (AN i) mc me (CJ tgs.length ix τ) (ds.drop (i' + 1)) as μ=some (zs,μ3) /\
      Aft K ι μ H' μ' fun ι' H'=>∀ v,Is K ι' μ'.length H' d v->Q v H',fun ys' H' z=>⟨_,(by omega:ds.length - (i' + 1) < m),rfl,hlt,z⟩,fun x H2 y=>?_⟩
    have hd:ds[i']? = some ds[i']:=by simp [hlt]
    obtain ⟨E2,R2,ix2⟩:=yl i' x H2 _ hd y
    rw [List.drop_eq_getElem_cons hlt] at e3
    obtain ⟨τ1,μ1,e1,e3⟩:=AI e3
    cases e1
    obtain ⟨cc,μ2,e2,e3⟩:=AI e3
    have S2:=(S.ext E2).block (tgs:=tgs) (ix:=ix)
    show tT K mc _ H2 _
    refine ⟨ι,_,_,cc,μ2,R2,S2.set i ix2,e2,fun ι3 H3 E3 R3=>?_⟩
    have E13:=E2.trans E3
    cases cc with
    | false=>
      exact ⟨by omega,ι3,μ2,as,R3,S.ext E13,it.ext E13,ia.ext E13,e3,fun ι5 H5 E5 R5=>q ι5 H5 (E13.trans E5) R5⟩
    | true=>
      obtain ⟨y',μ4,e4,e3⟩:=AI e3
      refine ⟨ι3,μ2,_,y',μ4,R3,(S2.set i ix2).ext E3,e4,fun ι4 H4 E4 R4 v iv=>?_⟩
      have E14:=E13.trans E4
      exact ⟨by simp; omega,ι4,μ4,as ++ [y'],R4,S.ext E14,it.ext E14,(ia.ext E14).append (.one iv),e3,fun ι5 H5 E5 R5=>q ι5 H5 (E14.trans E5) R5⟩
  . have hi':i'=ds.length:=by omega
    subst hi'
    rw [List.drop_length] at e3
    cases e3
    obtain ⟨z1,z2⟩:=hf ι _ μ' H _ ys d Q R ia e7 q
    exact .inl ⟨stop,z1,z2⟩
theorem En {n:Nat} {ifs:List Expr} {src:Sl->M (List D)} {i:Nat} {mc:Sl->M Bool} {me:Sl->M D} (S:BScope X scope tgs ix) (hc:X.calm=true) (hi:RI X tg iter src) (hg:∀ fp C s H,PG (cxB X scope tgs fp C s H) tg (Di i)) (hif:∀ fp C s H,JK (cxB X scope tgs fp C s H) ifs (tT X.K mc)) (he:∀ fp C s H,RE (cxB X scope tgs fp C s H) elt me)
    (hin:i < tgs.length:=by decide) (hn:tgs.length=n:=by rfl) (hs:∀ x,foldedSetIterable iter X.env x=pure x:=by intro _; rfl) (ht:∀ o v,letOwnedTupleGo tg o v=pure ():=by intro _ _; rfl):RE X (.ListComp elt [⟨tg,iter,ifs,0⟩] scope pos) (BA n ix src (AN i) mc me Av):=
  RE.wk (RV (te:=tE X.K me) S hc hi.pe hg (Mg hin) hif (fun fp C s H=>(he fp C s H).pe) hs ht) fun _ _ _ h=>L0 hn (fun _ _ _ _ _ _ _ _ R i e q=>BF R i e q) h
theorem Co {K:PySem.W.Frag}:JK X [] (tT K C3):=fun pins s σ H Q I h=>by
  obtain ⟨ι,μ,τ,b,μ',R,S,e,q⟩:=h
  cases e
  exact O0 pins s σ H Q I (q ι H R.ext0 R)
theorem GO {c:Expr} {mc:Sl->M Bool} (h:RT X c mc):JK X [c] (tT X.K mc):=Oz h.pe
theorem Cn (k:Nat) {n:Nat} {y:Str} {py spos:Pos} {ifs:List Expr} {src:Sl->M (List D)} {i:Nat} {mc:Sl->M Bool} {me:Sl->M D} {fin:List D->M D} (hN:X.N.Nodup) (S:BScope X scope tgs ix) (hc:X.calm=true) (hi:RI X tg iter src) (hg:∀ fp C s H,PG (cxB X scope tgs fp C s H) tg (Di i)) (hif:∀ fp C s H,JK (cxB X scope tgs fp C s H) ifs (tT X.K mc)) (he:∀ fp C s H,RE (cxB X scope tgs fp C s H) elt me)
    (hfin:∀ ι μ μ' H ds vs d (Q:VK),RelH X.K ι μ H->IsL X.K ι μ.length H ds vs->fin ds μ=some (d,μ')->(Aft X.K ι μ H μ' fun ι' H'=>∀ v,Is X.K ι' μ'.length H' d v->Q v H')->vs.length <= sizeLine /\ ∀ p,H p=none->Q (.ref p) (upd H p (.lst vs)))
    (hiN:X.N[k]? = some y:=by rfl) (hy:X.env.scope.names.lookup y=some .local:=by rfl) (hin:i < tgs.length:=by decide) (hn:tgs.length=n:=by rfl)
    (hsw:swapsWith (.ListComp elt [⟨tg,iter,ifs,0⟩] scope pos) (some (.Name y py)) spos.line X.env=pure true:=by rfl) (hs:∀ x,foldedSetIterable iter X.env x=pure x:=by intro _; rfl) (ht:∀ o v,letOwnedTupleGo tg o v=pure ():=by intro _ _; rfl) :
    RS X (.Assign [.Name y py] (.ListComp elt [⟨tg,iter,ifs,0⟩] scope pos) spos) (Ah (BA n ix src (AN i) mc me fin) (AN k)):=
  RS.wk (K4 (te:=tE X.K me) hN hiN hy S hc hi.pe hg (Mg hin) hif (fun fp C s H=>(he fp C s H).pe) hsw hs ht) fun Dn σ H h=>by
    obtain ⟨ι,μ,τ,f,τ',μ',R,S,e,q⟩:=h
    obtain ⟨x,μ1,e1,e⟩:=AI e
    obtain ⟨τ1,μ2,e2,e⟩:=AI e
    cases e2
    cases e
    refine L0 hn hfin ⟨ι,μ,τ,x,_,R,S,e1,fun ι1 H1 E1 R1 v i1=>?_⟩
    exact q ι1 H1 E1 R1 _ ((S.ext E1).set k i1)
mutual
def Cl (k:Nat):D->Prop
  | .tup ds=>ClL k ds
  | .lst ds=>ClL k ds
  | .ref n=>n < k
  | _=>True
def ClL (k:Nat):List D->Prop
  | []=>True
  | d :: ds=>Cl k d /\ ClL k ds
end
def ClO (k:Nat):MO->Prop
  | .lst ds=>ClL k ds
  | .dK l=>ClL k (l.map (·.2))
  | .dC l=>ClL k (l.map (·.2))
  | .ins _ l=>ClL k (l.map (·.2))
section
variable {K:PySem.W.Frag} {ι:Nat->Addr} {k k':Nat} {H:Hp}
mutual
theorem Is.down (hk:k <= k'):∀ {d:D} {v:V},Cl k d->Is K ι k' H d v->Is K ι k H d v
  | .non,_,_,h=>by unfold Is at h ⊢; exact h
  | .bl _,_,_,h=>by unfold Is at h ⊢; exact h
  | .int _,_,_,h=>by unfold Is at h ⊢; exact h
  | .str _,_,_,h=>by unfold Is at h ⊢; exact h
  | .ty _,_,_,h=>by unfold Is at h ⊢; exact h
  | .scr _,_,_,h=>by unfold Is at h ⊢; exact h
  | .tup ds,_,c,h=>by
    unfold Is at h ⊢
    obtain ⟨p,vs,e,h1,h2⟩:=h
    exact ⟨p,vs,e,h1,IsL.down hk (by unfold Cl at c; exact c) h2⟩
  | .lst ds,_,c,h=>by
    unfold Is at h ⊢
    obtain ⟨p,vs,e,h1,hn,h2⟩:=h
    exact ⟨p,vs,e,h1,fun n z=>hn n (Nat.lt_of_lt_of_le z hk),IsL.down hk (by unfold Cl at c; exact c) h2⟩
  | .ref n,_,c,h=>by
    unfold Is at h ⊢
    exact ⟨by unfold Cl at c; exact c,h.2⟩
theorem IsL.down (hk:k <= k'):∀ {ds:List D} {vs:List V},ClL k ds->IsL K ι k' H ds vs->IsL K ι k H ds vs
  | [],_,_,h=>by unfold IsL at h ⊢; exact h
  | _ :: _,_,c,h=>by
    unfold IsL at h ⊢
    unfold ClL at c
    obtain ⟨v,vs',e,h1,h2⟩:=h
    exact ⟨v,vs',e,Is.down hk c.1 h1,IsL.down hk c.2 h2⟩
end
mutual
theorem Is.cl:∀ {d:D} {v:V},Is K ι k H d v->Cl k d
  | .non,_,_=>by unfold Cl; trivial
  | .bl _,_,_=>by unfold Cl; trivial
  | .int _,_,_=>by unfold Cl; trivial
  | .str _,_,_=>by unfold Cl; trivial
  | .ty _,_,_=>by unfold Cl; trivial
  | .scr _,_,_=>by unfold Cl; trivial
  | .tup ds,_,h=>by
    unfold Is at h; unfold Cl
    obtain ⟨p,vs,e,h1,h2⟩:=h
    exact IsL.cl h2
  | .lst ds,_,h=>by
    unfold Is at h; unfold Cl
    obtain ⟨p,vs,e,h1,hn,h2⟩:=h
    exact IsL.cl h2
  | .ref n,_,h=>by
    unfold Is at h; unfold Cl
    exact h.1
theorem IsL.cl:∀ {ds:List D} {vs:List V},IsL K ι k H ds vs->ClL k ds
  | [],_,_=>by unfold ClL; trivial
  | _ :: _,_,h=>by
    unfold IsL at h; unfold ClL
    obtain ⟨v,vs',e,h1,h2⟩:=h
    exact ⟨Is.cl h1,IsL.cl h2⟩
end
theorem KVs.cl:∀ {l:List (Key × D)} {r:List (Key × V)},KVs K ι k H l r->ClL k (l.map (·.2))
  | [],_,_=>by unfold List.map ClL; trivial
  | (_,_) :: _,_,h=>by
    obtain ⟨v,r',e,h1,h2⟩:=h
    rw [List.map_cons]
    unfold ClL
    exact ⟨h1.cl,KVs.cl h2⟩
theorem KVs.down (hk:k <= k'):∀ {l:List (Key × D)} {r:List (Key × V)},ClL k (l.map (·.2))->KVs K ι k' H l r->KVs K ι k H l r
  | [],_,_,h=>h
  | (_,_) :: _,_,c,h=>by
    rw [List.map_cons] at c
    unfold ClL at c
    obtain ⟨v,r',e,h1,h2⟩:=h
    exact ⟨v,r',e,h1.down hk c.1,KVs.down hk c.2 h2⟩
theorem Ms:∀ l:List Int,ClL k (l.map D.int)
  | []=>by unfold List.map ClL; trivial
  | _ :: l=>by unfold List.map ClL; exact ⟨by unfold Cl; trivial,Ms l⟩
theorem cl_cs (c:Nk.Cs):Cl k (csD c):=by
  unfold csD Cl ClL
  refine ⟨by unfold Cl; trivial,?_⟩
  unfold ClL
  refine ⟨by unfold Cl; trivial,?_⟩
  unfold ClL
  exact ⟨by unfold Cl; exact Ms _,by unfold ClL; trivial⟩
theorem CVs.cl:∀ {l:List (Nk.Cs × D)} {r:List (Nk.Cs × Addr × V)},CVs K ι k H l r->ClL k (l.map (·.2))
  | [],_,_=>by unfold List.map ClL; trivial
  | (_,_) :: _,_,h=>by
    obtain ⟨a,v,r',rfl,_,h1,h2⟩:=h
    rw [List.map_cons]
    unfold ClL
    exact ⟨h1.cl,CVs.cl h2⟩
theorem CVs.down (hk:k <= k'):∀ {l:List (Nk.Cs × D)} {r:List (Nk.Cs × Addr × V)},ClL k (l.map (·.2))->CVs K ι k' H l r->CVs K ι k H l r
  | [],_,_,h=>h
  | (_,_) :: _,_,c,h=>by
    rw [List.map_cons] at c
    unfold ClL at c
    obtain ⟨a,v,r',e,h0,h1,h2⟩:=h
    exact ⟨a,v,r',e,h0.down hk (cl_cs _),h1.down hk c.1,CVs.down hk c.2 h2⟩
theorem FVs.cl:∀ {l:List (Str × D)} {r:List (Str × V)},FVs K ι k H l r->ClL k (l.map (·.2))
  | [],_,_=>by unfold List.map ClL; trivial
  | (_,_) :: _,_,h=>by
    obtain ⟨v,r',rfl,h1,h2⟩:=h
    rw [List.map_cons]
    unfold ClL
    exact ⟨h1.cl,FVs.cl h2⟩
theorem FVs.down (hk:k <= k'):∀ {l:List (Str × D)} {r:List (Str × V)},ClL k (l.map (·.2))->FVs K ι k' H l r->FVs K ι k H l r
  | [],_,_,h=>h
  | (_,_) :: _,_,c,h=>by
    rw [List.map_cons] at c
    unfold ClL at c
    obtain ⟨v,r',e,h1,h2⟩:=h
    exact ⟨v,r',e,h1.down hk c.1,FVs.down hk c.2 h2⟩
theorem ObjIs.cl {p:Addr} {o:MO} {u:HO} (h:ObjIs K ι k H p o u):ClO k o:=by
  cases o with
  | lst ds=>obtain ⟨vs,_,h⟩:=h; exact h.cl
  | dK l=>obtain ⟨r,_,h⟩:=h; exact h.cl
  | dC l=>obtain ⟨r,_,h⟩:=h; exact h.cl
  | ins c l=>obtain ⟨C,dx,r,_,_,_,h⟩:=h; exact h.cl
theorem ObjIs.down (hk:k <= k') {p:Addr} {o:MO} {u:HO} (c:ClO k o) (h:ObjIs K ι k' H p o u):ObjIs K ι k H p o u:=by
  cases o with
  | lst ds=>obtain ⟨vs,e,h⟩:=h; exact ⟨vs,e,h.down hk c⟩
  | dK l=>obtain ⟨r,e,h⟩:=h; exact ⟨r,e,h.down hk c⟩
  | dC l=>obtain ⟨r,e,h⟩:=h; exact ⟨r,e,h.down hk c⟩
  | ins n l=>obtain ⟨C,dx,r,e,h0,h1,h⟩:=h; exact ⟨C,dx,r,e,h0,h1,h.down hk c⟩
end
def WO (μ2 μ':Mh) (d' d:D):Prop:=(d'=d /\ Cl μ'.length d) ∨ ∃ n ds,d'=.ref n /\ μ2[n]? = some (.lst ds) /\ μ'.length <= n /\ d=.lst ds /\ ClL μ'.length ds
structure HH (μ μ2 μ':Mh) (d' d:D):Prop where
  grow:∃ g,μ2=μ' ++ g
  le:μ.length <= μ'.length
  old:∀ (n:Nat) (o:MO),μ'[n]? = some o->μ[n]? = some o ∨ ClO μ'.length o
  conv:WO μ2 μ' d' d
def HM:Fl->D
  | .rt d=>d
  | _=>.non
theorem OS {K:PySem.W.Frag} {ι ι2:Nat->Addr} {μ μ2 μ':Mh} {H H2:Hp} {d' d:D} (R:RelH K ι μ H) (E:Ext ι μ.length H ι2 μ2.length H2) (R2:RelH K ι2 μ2 H2) (t:HH μ μ2 μ' d' d) :
    Ext ι μ.length H ι2 μ'.length H2 /\ RelH K ι2 μ' H2 /\ ∀ v,Is K ι2 μ2.length H2 d' v->Is K ι2 μ'.length H2 d v:=by
  obtain ⟨⟨g,hg⟩,le,old,conv⟩:=t
  have hle:μ'.length <= μ2.length:=by rw [hg]; simp
  have hget:∀ (n:Nat) (o:MO),μ'[n]? = some o->μ2[n]? = some o:=fun n o e=>by
    rw [hg,List.getElem?_append_left (List.getElem?_eq_some_iff.mp e).1]; exact e
  refine ⟨⟨le,E.agree,fun n h1 h2=>E.fresh n h1 (Nat.lt_of_lt_of_le h2 hle),E.keep,E.was,E.there⟩,⟨fun i j hi hj=>R2.inj i j (Nat.lt_of_lt_of_le hi hle) (Nat.lt_of_lt_of_le hj hle),fun n o e=>?_⟩,fun v iv=>?_⟩
  . obtain ⟨u,q,hq⟩:=R2.obj n o (hget n o e)
    refine ⟨u,q,hq.down hle ?_⟩
    rcases old n o e with z | z
    . obtain ⟨u0,_,h0⟩:=R.obj n o z
      have c:=h0.cl
      cases o with
      | lst ds=>exact clL_mono le c
      | dK l=>exact clL_mono le c
      | dC l=>exact clL_mono le c
      | ins n l=>exact clL_mono le c
    . exact z
  . rcases conv with ⟨rfl,c⟩ | ⟨n,ds,rfl,hn,hle2,rfl,c⟩
    . exact iv.down hle c
    . obtain ⟨u,q,vs,rfl,il⟩:=R2.obj n _ hn
      have hn2:n < μ2.length:=(List.getElem?_eq_some_iff.mp hn).1
      unfold Is at iv ⊢
      refine ⟨ι2 n,vs,iv.2,q,fun m hm z=>?_,il.down hle c⟩
      have:=R2.inj m n (Nat.lt_of_lt_of_le hm hle) hn2 z
      omega
where
  cl_mono {k k':Nat} (h:k <= k'):∀ {d:D},Cl k d->Cl k' d
    | .non,_=>by unfold Cl; trivial
    | .bl _,_=>by unfold Cl; trivial
    | .int _,_=>by unfold Cl; trivial
    | .str _,_=>by unfold Cl; trivial
    | .ty _,_=>by unfold Cl; trivial
    | .scr _,_=>by unfold Cl; trivial
    | .tup ds,c=>by unfold Cl at c ⊢; exact clL_mono h c
    | .lst ds,c=>by unfold Cl at c ⊢; exact clL_mono h c
    | .ref n,c=>by unfold Cl at c ⊢; exact Nat.lt_of_lt_of_le c h
  clL_mono {k k':Nat} (h:k <= k'):∀ {ds:List D},ClL k ds->ClL k' ds
    | [],_=>by unfold ClL; trivial
    | _ :: _,c=>by unfold ClL at c ⊢; exact ⟨cl_mono h c.1,clL_mono h c.2⟩
def B8 (n:Nat) (ds:List D):Sl:=ds.map some ++ List.replicate (n - ds.length) none
theorem RelS.start {K:PySem.W.Frag} {ι:Nat->Addr} {k:Nat} {H:Hp} {N:List Str} {ds:List D} {vs:List V} (i:IsL K ι k H ds vs):RelS K ι k H (B8 N.length ds) (L2.start N vs):=by
  have hl:=i.length
  refine ⟨by simp [B8,L2.start,hl],fun j d e=>?_⟩
  unfold B8 at e
  unfold L2.start
  rcases Nat.lt_or_ge j ds.length with z | z
  . rw [List.getElem?_append_left (by simpa using z),List.getElem?_map] at e
    rw [List.getElem?_append_left (by simpa [hl] using z),List.getElem?_map]
    cases q:ds[j]? with
    | none=>rw [q] at e; cases e
    | some d0=>
      rw [q] at e
      cases e
      obtain ⟨v,ev,iv⟩:=i.get q
      exact ⟨v,by rw [ev]; rfl,iv⟩
  . rw [List.getElem?_append_right (by simpa using z),List.getElem?_replicate] at e
    split at e <;> cases e
theorem Hv {P:Program} {w:World} {K:PySem.W.Frag} {mg:Str->Option Value} {base:Heap} {x qual:Str} {st:Stmt} {f:Addr} {fd:FuncData} {N ps:List Str} {k n:Nat} {φ:List D->M D} {mb:Sl->M (Fl × Sl)} (F:Fun K x qual st f fd) (S:Ac N ps (AF st)) (hn:ps.length=n:=by rfl)
    (body:∀ (cdv:Value) (A:Around) (outer:List Env) (s:Shared) (H:Hp) (E:XK),Room k (A.deeper (PyProof.Rows.envOfC qual (AF st) s.heap.objs.size f cdv))->RSs (Bb CX0 P w K mg base N qual (AF st) f cdv A outer s H E).nox (AX st) mb)
    (run:∀ ds μ d μ',φ ds μ=some (d,μ')->∃ fl τ2 μ2,mb (B8 N.length ds) μ=some ((fl,τ2),μ2) /\ (fl=.next ∨ ∃ d,fl=.rt d) /\ HH μ μ2 μ' (HM fl) d):FnOk P w K mg base CX0 (k + 1) f fd ps (spM K n φ):=by
  refine F.ok S (fun vs H Q E h=>by rw [hn]; exact h.1) (fun cdv A outer s H vs Q E hr h=>⟨_,(body cdv A outer s H E hr).pe,?_⟩)
  obtain ⟨hl,ι,μ,ds,d,μ',R,i,e,q⟩:=h
  obtain ⟨fl,τ2,μ2,e2,hfl,t⟩:=run ds μ d μ' e
  refine ⟨ι,μ,_,fl,τ2,μ2,R,RelS.start i,e2,fun ι2 H2 E2 R2 σ2 S2=>?_⟩
  obtain ⟨E3,R3,c⟩:=OS R E2 R2 t
  rcases hfl with rfl | ⟨d0,rfl⟩
  . exact q ι2 H2 E3 R3 _ (c _ (by unfold HM Is; rfl))
  . exact fun v iv=>q ι2 H2 E3 R3 v (c v iv)
end
end Mi
namespace Mi
open PySem L2
def Bv:D->M (List D)
  | .lst ds=>ret ds
  | .scr ns=>ret (ns.map D.int)
  | .ref n=>fun μ=>match μ[n]? with
    | some (.lst ds)=>some (ds,μ)
    | _=>none
  | _=>BD
section
variable {K:PySem.W.Frag} {ι:Nat->Addr} {μ μ':Mh} {H:Hp} {d a b:D} {v x y:V} {ds:List D}
theorem Ch (R:RelH K ι μ H) (i:Is K ι μ.length H d v) (e:Bv d μ=some (ds,μ')):μ'=μ /\ ∃ p vs,v=.ref p /\ SqL K H p vs /\ IsL K ι μ.length H ds vs:=by
  cases d with
  | lst es=>
    cases e
    unfold Is at i
    obtain ⟨p,vs,rfl,h1,hn,h2⟩:=i
    exact ⟨rfl,p,vs,rfl,SqL.of h1,h2⟩
  | scr ns=>
    cases e
    unfold Is at i
    obtain ⟨p,rfl,h1⟩:=i
    exact ⟨rfl,p,_,rfl,h1.sq,IsL.ofInts ns⟩
  | ref n=>
    unfold Is at i
    obtain ⟨hn,rfl⟩:=i
    have e':(match μ[n]? with | some (.lst ds)=>some (ds,μ) | _=>none)=some (ds,μ'):=e
    split at e'
    . rename_i es hq
      cases e'
      obtain ⟨u,h1,vs,rfl,h2⟩:=R.obj n _ hq
      exact ⟨rfl,_,vs,rfl,SqL.of h1,h2⟩
    . cases e'
  | _=>cases e
theorem BY {i:Int} (h:Is K ι μ.length H (.int i) v):v=.int i:=by unfold Is at h; exact h
theorem EZ {i:Str} (h:Is K ι μ.length H (.str i) v):v=.str i:=by unfold Is at h; exact h
theorem SW {i:Bool} (h:Is K ι μ.length H (.bl i) v):v=.bl i:=by unfold Is at h; exact h
theorem LH (h:Is K ι μ.length H .non v):v=.non:=by unfold Is at h; exact h
theorem Vd {n:String} (h:Is K ι μ.length H (.ty n) v):v=.ty n:=by unfold Is at h; exact h
theorem ofI {k:Nat} (i:Int):Is K ι k H (.int i) (.int i):=by unfold Is; rfl
theorem ofS {k:Nat} (i:Str):Is K ι k H (.str i) (.str i):=by unfold Is; rfl
theorem ofB {k:Nat} (i:Bool):Is K ι k H (.bl i) (.bl i):=by unfold Is; rfl
theorem ofN {k:Nat}:Is K ι k H .non .non:=by unfold Is; rfl
theorem FT {d:D} {vs:List V} {k:Nat} (h:IsL K ι k H [d] vs):∃ v,vs=[v] /\ Is K ι k H d v:=by
  unfold IsL at h
  obtain ⟨v,vs',rfl,h1,h2⟩:=h
  unfold IsL at h2
  subst h2
  exact ⟨v,rfl,h1⟩
theorem WI {d d':D} {vs:List V} {k:Nat} (h:IsL K ι k H [d,d'] vs):∃ v v',vs=[v,v'] /\ Is K ι k H d v /\ Is K ι k H d' v':=by
  unfold IsL at h
  obtain ⟨v,vs',rfl,h1,h2⟩:=h
  obtain ⟨v',rfl,h3⟩:=FT h2
  exact ⟨v,v',rfl,h1,h3⟩
theorem Ue {i:Int} {vs:List V} {k:Nat} (h:IsL K ι k H ds vs) (e:atI ds i=some d):∃ v,atI vs i=some v /\ Is K ι k H d v:=by
  unfold atI at e ⊢
  rw [h.length]
  cases q:ixN ds.length i with
  | none=>rw [q] at e; cases e
  | some j=>
    rw [q] at e
    exact h.get e
theorem P7 {vs:List V} {k:Nat} {lo hi:Option Int} (h:IsL K ι k H ds vs):IsL K ι k H ((ds.drop (HT.sIx ds.length 0 lo)).take (HT.sIx ds.length ds.length hi - HT.sIx ds.length 0 lo)) (KM vs lo hi):=by
  unfold KM
  rw [h.length]
  exact (h.drop _).take _
end
def KA (C:Int->Int->Prop) [∀ i j,Decidable (C i j)] (g:Int->Int->D):D->D->M D
  | .int i,.int j=>fun μ=>if C i j then some (g i j,μ) else none
  | _,_=>BD
def Cb:D->D->M D:=KA (fun _ _=>True) fun i j=>.int (i - j)
def Ay:D->D->M D:=KA (fun _ j=>0 < j /\ j < 1073741824) fun i j=>.int (i / j)
def A1:D->D->M D:=KA (fun _ j=>0 < j) fun i j=>.int (i % j)
def Fk:D->D->M D:=KA (fun i j=>0 <= j /\ j <= 1000000 /\ i.natAbs < 2 ^ 64) fun i j=>.int (i ^ j.toNat)
def Jt:D->D->M D:=KA (fun _ _=>True) fun i j=>.bl (decide (i < j))
def Jv:D->D->M D:=KA (fun _ _=>True) fun i j=>.bl (decide (j < i))
def Jw:D->D->M D:=KA (fun _ _=>True) fun i j=>.bl (decide (j <= i))
section
variable {X:Cx}
theorem EU {f:Value->Value->Sem Value} {C:Int->Int->Prop} [∀ i j,Decidable (C i j)] {g:Int->Int->D} {gv:Int->Int->V} (hg:∀ i j ι k H,Is X.K ι k H (g i j) (gv i j)) (ho:OpR X f (rI C gv)):OpR X f (rM X.K (KA C g)):=OpR.wk ho fun x y H Q h=>by
  obtain ⟨ι,μ,a,b,d,μ',R,ia,ib,e,q⟩:=h
  cases a with
  | int i=>
    cases b with
    | int j=>
      have e':(if C i j then some (g i j,μ) else none)=some (d,μ'):=e
      split at e'
      . rename_i hc
        cases e'
        exact ⟨i,j,BY ia,BY ib,hc,q ι H R.ext0 R _ (hg i j _ _ _)⟩
      . cases e'
    | _=>cases e
  | _=>cases e
theorem OpR.ofI0 {f:Value->Value->Sem Value} {gv:Int->Int->V} (ho:OpR X f (rI0 gv)):OpR X f (rI (fun _ _=>True) gv):=OpR.wk ho fun x y H Q h=>by
  obtain ⟨i,j,h1,h2,_,q⟩:=h
  exact ⟨i,j,h1,h2,q⟩
theorem Et:OpR X (binaryOp .Sub) (rM X.K Cb):=EU (fun _ _ _ _ _=>ofI _) (OpR.ofI0 T3)
theorem CA:OpR X (binaryOp .FloorDiv) (rM X.K Ay):=EU (fun _ _ _ _ _=>ofI _) Rg
theorem CS:OpR X (binaryOp .Mod) (rM X.K A1):=EU (fun _ _ _ _ _=>ofI _) T8
theorem SN:OpR X (binaryOp .Pow) (rM X.K Fk):=EU (fun _ _ _ _ _=>ofI _) T5
theorem VY:OpR X (compareOp .Lt) (rM X.K Jt):=EU (fun _ _ _ _ _=>ofB _) (OpR.ofI0 VT)
theorem UF:OpR X (compareOp .Gt) (rM X.K Jv):=EU (fun _ _ _ _ _=>ofB _) (OpR.ofI0 VU)
theorem Va:OpR X (compareOp .GtE) (rM X.K Jw):=EU (fun _ _ _ _ _=>ofB _) (OpR.ofI0 VV)
def Du:D->M D
  | .int i=>ret (.int (-i))
  | _=>BD
theorem EJ:UnR X (unaryOp .USub) (rM1 X.K Du):=fun pins s σ H x v Q I r h=>by
  obtain ⟨ι,μ,a,d,μ',R,ia,e,q⟩:=h
  cases a with
  | int i=>
    cases e
    have z:=BY ia
    subst z
    exact TJ pins s σ H _ v Q I r ⟨i,rfl,q ι H R.ext0 R _ (ofI _)⟩
  | _=>cases e
def MJ:D->D->M D
  | .int i,.int j=>ret (.int (i + j))
  | .str i,.str j=>bnd (lim (i.length + j.length)) fun _=>ret (.str (i ++ j))
  | .lst a,.lst b=>Av (a ++ b)
  | .tup [],.tup b=>BD
  | .tup (a :: as),.tup b=>Al (a :: as ++ b)
  | _,_=>BD
theorem SO:OpR X (binaryOp .Add) (rM X.K MJ):=fun pins s σ H x y v u Q I rx ry h=>by
  obtain ⟨ι,μ,a,b,d,μ',R,ia,ib,e,q⟩:=h
  unfold MJ at e
  split at e
  . cases e
    cases BY ia
    cases BY ib
    exact UB pins s σ H _ _ v u Q I rx ry ⟨_,_,rfl,rfl,q ι H R.ext0 R _ (ofI _)⟩
  . obtain ⟨_,μ1,e1,e2⟩:=AI e
    obtain ⟨hl,rfl⟩:=Ct e1
    cases e2
    cases EZ ia
    cases EZ ib
    exact K8 pins s σ H _ _ v u Q I rx ry ⟨_,_,rfl,rfl,hl,q ι H R.ext0 R _ (ofS _)⟩
  . unfold Is at ia ib
    obtain ⟨p,vs,rfl,h1,hn,h2⟩:=ia
    obtain ⟨p',vs',rfl,h1',hn',h2'⟩:=ib
    obtain ⟨hl,w⟩:=BF R (h2.append h2') e q
    exact PK pins s σ H _ _ v u Q I rx ry ⟨p,p',vs,vs',rfl,rfl,h1,h1',by rw [← List.length_append]; exact hl,w⟩
  . cases e
  . rename_i a as bs
    unfold Is at ia ib
    obtain ⟨p,vs,rfl,h1,h2⟩:=ia
    obtain ⟨p',vs',rfl,h1',h2'⟩:=ib
    obtain ⟨hl,w⟩:=MQ R (h2.append h2') e q
    refine Rh pins s σ H _ _ v u Q I rx ry ⟨p,p',vs,vs',rfl,rfl,h1,h1',fun z=>?_,by rw [← List.length_append]; exact hl,fun z=>?_,fun _=>w⟩
    . have:=h2.length
      rw [z] at this; cases this
    . subst z
      have hb:bs=[]:=by
        have:=h2'.length
        cases bs with
        | nil=>rfl
        | cons _ _=>cases this
      subst hb
      obtain ⟨_,μ1,e1,e2⟩:=AI e
      obtain ⟨hl,rfl⟩:=Ct e1
      cases e2
      exact q ι H R.ext0 R _ (by unfold Is; exact ⟨p,vs,rfl,h1,by rw [List.append_nil]; exact h2⟩)
  . cases e
def DI:D->D->M D
  | .int i,.int j=>fun μ=>if (-(2 ^ 64) < i /\ i < 2 ^ 64) ∨ (-(2 ^ 64) < j /\ j < 2 ^ 64) then some (.int (i * j),μ) else none
  | .lst a,.int j=>fun μ=>if -(2 ^ 63) <= j /\ j < 2 ^ 63 /\ a.length * j.toNat <= sizeLine then Av (List.replicate j.toNat a).flatten μ else none
  | _,_=>BD
theorem IsL.rep {K:PySem.W.Frag} {ι:Nat->Addr} {k:Nat} {H:Hp} {ds:List D} {vs:List V} (h:IsL K ι k H ds vs):∀ n:Nat,IsL K ι k H (List.replicate n ds).flatten (List.replicate n vs).flatten
  | 0=>.nil
  | n + 1=>by
    rw [List.replicate_succ,List.replicate_succ,List.flatten_cons,List.flatten_cons]
    exact h.append (IsL.rep h n)
theorem Hh:OpR X (binaryOp .Mult) (rM X.K DI):=fun pins s σ H x y v u Q I rx ry h=>by
  obtain ⟨ι,μ,a,b,d,μ',R,ia,ib,e,q⟩:=h
  unfold DI at e
  split at e
  . split at e
    . rename_i hc
      cases e
      cases BY ia
      cases BY ib
      exact T7 pins s σ H _ _ v u Q I rx ry ⟨_,_,rfl,rfl,hc,q ι H R.ext0 R _ (ofI _)⟩
    . cases e
  . split at e
    . rename_i hc
      cases BY ib
      unfold Is at ia
      obtain ⟨p,vs,rfl,h1,hn,h2⟩:=ia
      obtain ⟨hl,w⟩:=BF R (h2.rep _) e q
      exact T4 pins s σ H _ _ v u Q I rx ry ⟨p,_,vs,rfl,rfl,h1,hc.1,hc.2.1,by rw [h2.length]; exact hc.2.2,w⟩
    . cases e
  . cases e
mutual
def toP (μ:Mh):D->Option PyData
  | .non=>some .none
  | .bl b=>some (.bool b)
  | .int i=>some (.int i)
  | .str x=>some (.str x)
  | .ty _=>none
  | .scr ns=>some (.list (ns.map PyData.int))
  | .tup ds=>(ER μ ds).map PyData.tuple
  | .lst ds=>(ER μ ds).map PyData.list
  | .ref _=>none
def ER (μ:Mh):List D->Option (List PyData)
  | []=>some []
  | d :: ds=>(toP μ d).bind fun p=>(ER μ ds).map (p :: ·)
end
def HK (μ:Mh):D->Option PyData
  | .ref n=>match μ[n]? with
    | some (.lst ds)=>(ER μ ds).map PyData.list
    | _=>none
  | d=>toP μ d
section
variable {K:PySem.W.Frag} {ι:Nat->Addr} {μ:Mh} {H:Hp} {k:Nat}
theorem Mo:∀ (ns:List Int),DatVs K H (ns.map V.int) (ns.map PyData.int)
  | []=>.nil
  | n :: r=>.cons (.int n) (Mo r)
mutual
theorem Is.dat:∀ {d:D} {v:V} {p:PyData},Is K ι k H d v->toP μ d=some p->DatV K H v p
  | .non,_,_,h,e=>by unfold Is at h; unfold toP at e; cases e; subst h; exact .non
  | .bl b,_,_,h,e=>by unfold Is at h; unfold toP at e; cases e; subst h; exact .bl b
  | .int b,_,_,h,e=>by unfold Is at h; unfold toP at e; cases e; subst h; exact .int b
  | .str b,_,_,h,e=>by unfold Is at h; unfold toP at e; cases e; subst h; exact .str b
  | .ty b,_,_,h,e=>by unfold toP at e; cases e
  | .scr ns,_,_,h,e=>by
    unfold Is at h; unfold toP at e; cases e
    obtain ⟨p,rfl,h⟩:=h
    exact .lst h.sq (Mo ns)
  | .tup ds,_,_,h,e=>by
    unfold Is at h; unfold toP at e
    obtain ⟨p,vs,rfl,h1,h2⟩:=h
    cases q:ER μ ds with
    | none=>rw [q] at e; cases e
    | some ps=>rw [q] at e; cases e; exact .tup h1 (IsL.dat h2 q)
  | .lst ds,_,_,h,e=>by
    unfold Is at h; unfold toP at e
    obtain ⟨p,vs,rfl,h1,_,h2⟩:=h
    cases q:ER μ ds with
    | none=>rw [q] at e; cases e
    | some ps=>rw [q] at e; cases e; exact .lst (SqL.of h1) (IsL.dat h2 q)
  | .ref n,_,_,h,e=>by unfold toP at e; cases e
theorem IsL.dat:∀ {ds:List D} {vs:List V} {ps:List PyData},IsL K ι k H ds vs->ER μ ds=some ps->DatVs K H vs ps
  | [],_,_,h,e=>by unfold IsL at h; unfold ER at e; cases e; subst h; exact .nil
  | d :: ds,_,_,h,e=>by
    unfold IsL at h; unfold ER at e
    obtain ⟨v,vs',rfl,h1,h2⟩:=h
    cases q:toP μ d with
    | none=>rw [q] at e; cases e
    | some p=>
      rw [q] at e
      cases q2:ER μ ds with
      | none=>rw [q2] at e; cases e
      | some ps=>rw [q2] at e; cases e; exact .cons (Is.dat h1 q) (IsL.dat h2 q2)
end
theorem R9 (R:RelH K ι μ H) {d:D} {v:V} {p:PyData} (h:Is K ι μ.length H d v) (e:HK μ d=some p):DatV K H v p:=by
  cases d with
  | ref n=>
    unfold Is at h
    obtain ⟨_,rfl⟩:=h
    have e':(match μ[n]? with | some (.lst ds)=>(ER μ ds).map PyData.list | _=>none)=some p:=e
    split at e'
    . rename_i ds hq
      obtain ⟨u,h1,vs,rfl,h2⟩:=R.obj n _ hq
      cases q:ER μ ds with
      | none=>rw [q] at e'; cases e'
      | some ps=>rw [q] at e'; cases e'; exact .lst (SqL.of h1) (IsL.dat h2 q)
    . cases e'
  | _=>exact Is.dat (μ:=μ) h e
end
def Ep (neg:Bool) (a b:D):M D:=fun μ=>match HK μ a,HK μ b with
  | some p,some q=>if SeqAt.shaped p=true /\ SeqAt.shaped q=true then some (.bl (if neg then !PyData.eqv p q else PyData.eqv p q),μ) else none
  | _,_=>none
def As:D->D->M D:=Ep false
def Fx:D->D->M D:=Ep true
theorem GV {neg:Bool} {a b d:D} {μ μ':Mh} (e:Ep neg a b μ=some (d,μ')):∃ p q,HK μ a=some p /\ HK μ b=some q /\ SeqAt.shaped p=true /\ SeqAt.shaped q=true /\ d=.bl (if neg then !PyData.eqv p q else PyData.eqv p q) /\ μ'=μ:=by
  unfold Ep at e
  split at e
  . rename_i p q e1 e2
    split at e
    . rename_i h
      cases e
      exact ⟨p,q,e1,e2,h.1,h.2,rfl,rfl⟩
    . cases e
  . cases e
theorem CB {k:Nat} (hr:Room k X.A):OpR X (compareOp .Eq) (rM X.K As):=OpR.wk (UA (Oh hr)) fun x y H Q h=>by
  obtain ⟨ι,μ,a,b,d,μ',R,ia,ib,e,q⟩:=h
  obtain ⟨p,p',e1,e2,s1,s2,rfl,rfl⟩:=GV e
  exact ⟨p,p',R9 R ia e1,R9 R ib e2,s1,s2,q ι H R.ext0 R _ (ofB _)⟩
theorem Nf {k:Nat} (hr:Room k X.A):OpR X (compareOp .NotEq) (rM X.K Fx):=OpR.wk (T6 (Oh hr)) fun x y H Q h=>by
  obtain ⟨ι,μ,a,b,d,μ',R,ia,ib,e,q⟩:=h
  obtain ⟨p,p',e1,e2,s1,s2,rfl,rfl⟩:=GV e
  exact ⟨p,p',R9 R ia e1,R9 R ib e2,s1,s2,q ι H R.ext0 R _ (ofB _)⟩
def isN:D->Bool
  | .non=>true
  | _=>false
def Ju (neg:Bool):D->D->M D
  | a,.non=>ret (.bl (if neg then !isN a else isN a))
  | _,_=>BD
theorem Md {K:PySem.W.Frag} {ι:Nat->Addr} {k:Nat} {H:Hp} {a:D} {x:V} (h:Is K ι k H a x):decide (x=V.non)=isN a:=by
  cases a with
  | non=>unfold Is at h; subst h; rfl
  | bl b=>unfold Is at h; subst h; rfl
  | int b=>unfold Is at h; subst h; rfl
  | str b=>unfold Is at h; subst h; rfl
  | ty b=>unfold Is at h; subst h; rfl
  | scr ns=>unfold Is at h; obtain ⟨p,rfl,_⟩:=h; rfl
  | tup ns=>unfold Is at h; obtain ⟨p,o,rfl,_⟩:=h; rfl
  | lst ns=>unfold Is at h; obtain ⟨p,o,rfl,_⟩:=h; rfl
  | ref ns=>unfold Is at h; obtain ⟨_,rfl⟩:=h; rfl
theorem VZ:OpR X (compareOp .Is) (rM X.K (Ju false)):=OpR.wk T9 fun x y H Q h=>by
  obtain ⟨ι,μ,a,b,d,μ',R,ia,ib,e,q⟩:=h
  cases b with
  | non=>cases e; exact ⟨LH ib,by rw [Md ia]; exact q ι H R.ext0 R _ (ofB _)⟩
  | _=>cases e
theorem Rl:OpR X (compareOp .IsNot) (rM X.K (Ju true)):=OpR.wk Rf fun x y H Q h=>by
  obtain ⟨ι,μ,a,b,d,μ',R,ia,ib,e,q⟩:=h
  cases b with
  | non=>cases e; exact ⟨LH ib,by rw [Md ia]; exact q ι H R.ext0 R _ (ofB _)⟩
  | _=>cases e
def Mk:D->Option V
  | .non=>some .non
  | .bl b=>some (.bl b)
  | .int i=>some (.int i)
  | .str x=>some (.str x)
  | _=>none
def Gv:List D->Option (List V)
  | []=>some []
  | d :: ds=>(Mk d).bind fun v=>(Gv ds).map (v :: ·)
section
variable {K:PySem.W.Frag} {ι:Nat->Addr} {H:Hp} {k:Nat}
theorem KI {d:D} {v x:V} (h:Is K ι k H d x) (e:Mk d=some v):x=v /\ EK v=true:=by
  cases d with
  | non=>cases e; unfold Is at h; exact ⟨h,rfl⟩
  | bl b=>cases e; unfold Is at h; exact ⟨h,rfl⟩
  | int b=>cases e; unfold Is at h; exact ⟨h,rfl⟩
  | str b=>cases e; unfold Is at h; exact ⟨h,rfl⟩
  | _=>cases e
theorem Hw:∀ {ds:List D} {vs xs:List V},IsL K ι k H ds xs->Gv ds=some vs->xs=vs /\ vs.all EK=true
  | [],_,_,h,e=>by cases e; unfold IsL at h; exact ⟨h,rfl⟩
  | d :: ds,_,_,h,e=>by
    unfold IsL at h
    obtain ⟨v,vs',rfl,h1,h2⟩:=h
    unfold Gv at e
    cases q:Mk d with
    | none=>rw [q] at e; cases e
    | some w=>
      rw [q] at e
      cases q2:Gv ds with
      | none=>rw [q2] at e; cases e
      | some ws=>
        rw [q2] at e; cases e
        obtain ⟨rfl,f1⟩:=KI h1 q
        obtain ⟨rfl,f2⟩:=Hw h2 q2
        exact ⟨rfl,by rw [List.all_cons,f1,f2]; rfl⟩
end
def BL:D->M (List D)
  | .tup ds=>ret ds
  | d=>Bv d
theorem CH {K:PySem.W.Frag} {ι:Nat->Addr} {μ μ':Mh} {H:Hp} {d:D} {v:V} {ds:List D} (R:RelH K ι μ H) (i:Is K ι μ.length H d v) (e:BL d μ=some (ds,μ')):μ'=μ /\ ∃ p vs,v=.ref p /\ (SqL K H p vs ∨ SqT K H p vs) /\ IsL K ι μ.length H ds vs:=by
  cases d with
  | tup es=>
    cases e
    unfold Is at i
    obtain ⟨p,vs,rfl,h1,h2⟩:=i
    exact ⟨rfl,p,vs,rfl,.inr h1,h2⟩
  | lst es=>obtain ⟨h,p,vs,a,b,c⟩:=Ch R i e; exact ⟨h,p,vs,a,.inl b,c⟩
  | scr es=>obtain ⟨h,p,vs,a,b,c⟩:=Ch R i e; exact ⟨h,p,vs,a,.inl b,c⟩
  | ref es=>obtain ⟨h,p,vs,a,b,c⟩:=Ch R i e; exact ⟨h,p,vs,a,.inl b,c⟩
  | _=>cases e
def SX (neg:Bool) (a b:D):M D:=bnd (BL b) fun ds=>fun μ=>match Mk a,Gv ds with
  | some x,some xs=>some (.bl (if neg then !inV x xs else inV x xs),μ)
  | _,_=>none
def Tl (neg:Bool):D->D->M D
  | .str i,.str j=>ret (.bl (if neg then !(!(Builtin.Str.occurrences j i 0 j.length 1).isEmpty) else !(Builtin.Str.occurrences j i 0 j.length 1).isEmpty))
  | a,b=>SX neg a b
theorem Tk {K:PySem.W.Frag} {neg:Bool} {x y:V} {H:Hp} {Q:VK} {ι:Nat->Addr} {μ μ':Mh} {a b d:D} (R:RelH K ι μ H) (ia:Is K ι μ.length H a x) (ib:Is K ι μ.length H b y) (e:SX neg a b μ=some (d,μ')) (q:Aft K ι μ H μ' fun ι' H'=>∀ v,Is K ι' μ'.length H' d v->Q v H'):rIn K neg x y H Q:=by
  obtain ⟨ds,μ1,e1,e2⟩:=AI e
  obtain ⟨hm,p,vs,rfl,h1,h2⟩:=CH R ib e1
  subst hm
  split at e2
  . rename_i w ws q1 q2
    cases e2
    obtain ⟨rfl,f1⟩:=KI ia q1
    obtain ⟨rfl,f2⟩:=Hw h2 q2
    exact ⟨p,_,rfl,h1,f1,f2,q ι H R.ext0 R _ (ofB _)⟩
  . cases e2
theorem Rk:OpR X (compareOp .NotIn) (rM X.K (Tl true)):=fun pins s σ H x y v u Q I rx ry h=>by
  obtain ⟨ι,μ,a,b,d,μ',R,ia,ib,e,q⟩:=h
  unfold Tl at e
  split at e
  . cases e
    cases EZ ia
    cases EZ ib
    exact Io pins s σ H _ _ v u Q I rx ry ⟨_,_,rfl,rfl,q ι H R.ext0 R _ (ofB _)⟩
  . exact Ip pins s σ H _ _ v u Q I rx ry (Tk R ia ib e q)
def ixD (ds:List D) (i:Int):M D:=fun μ=>(atI ds i).map fun d=>(d,μ)
def AQ:D->D->M D
  | .str z,.int i=>fun μ=>if z.length <= sizeLine then (atI z.cps.toList i).map fun c=>(.str ⟨#[c]⟩,μ) else none
  | a,.int i=>bnd (BL a) fun ds=>ixD ds i
  | _,_=>BD
theorem Ag:IxR X (rM X.K AQ):=fun va sl pins s σ H x y v u Q I rx ry h hsl=>by
  obtain ⟨ι,μ,a,b,d,μ',R,ia,ib,e,q⟩:=h
  unfold AQ at e
  split at e
  . split at e
    . rename_i z i hl
      cases EZ ia
      cases BY ib
      cases qq:atI z.cps.toList i with
      | none=>rw [qq] at e; cases e
      | some c=>
        rw [qq] at e; cases e
        exact LG va sl pins s σ H _ _ v u Q I rx ry (.inr (.inr ⟨z,i,c,rfl,rfl,hl,qq,q ι H R.ext0 R _ (ofS _)⟩)) hsl
    . cases e
  . cases BY ib
    obtain ⟨ds,μ1,e1,e2⟩:=AI e
    obtain ⟨hm,p,vs,rfl,h1,h2⟩:=CH R ia e1
    subst hm
    rename_i i _
    unfold ixD at e2
    cases qq:atI ds i with
    | none=>rw [qq] at e2; cases e2
    | some c=>
      rw [qq] at e2; cases e2
      obtain ⟨w,ew,iw⟩:=Ue h2 qq
      rcases h1 with h1 | h1
      . exact LG va sl pins s σ H _ _ v u Q I rx ry (.inl ⟨p,vs,i,w,rfl,rfl,h1,ew,q ι H R.ext0 R _ iw⟩) hsl
      . exact LG va sl pins s σ H _ _ v u Q I rx ry (.inr (.inl ⟨p,vs,i,w,rfl,rfl,h1,ew,q ι H R.ext0 R _ iw⟩)) hsl
  . cases e
def Dm:List D->M D
  | [.str z]=>fun μ=>if z.length <= sizeLine then some (.int z.length,μ) else none
  | [.ref n]=>fun μ=>match μ[n]? with
    | some (.lst ds)=>some (.int ds.length,μ)
    | _=>none
  | [d]=>bnd (BL d) fun ds=>ret (.int ds.length)
  | _=>BD
theorem ID:BO X (.builtin "len") (rMA X.K Dm):=fun pins s σ H xs us Q I r h=>by
  obtain ⟨ι,μ,as,d,μ',R,ia,e,q⟩:=h
  refine QG pins s σ H xs us Q I r ?_
  unfold Dm at e
  split at e
  . rename_i z
    obtain ⟨v,rfl,i1⟩:=FT ia
    split at e
    . rename_i hl
      cases e
      cases EZ i1
      exact ⟨_,_,rfl,⟨hl,rfl⟩,q ι H R.ext0 R _ (ofI _)⟩
    . cases e
  . rename_i n
    obtain ⟨v,rfl,i1⟩:=FT ia
    unfold Is at i1
    obtain ⟨_,rfl⟩:=i1
    split at e
    . rename_i ds hq
      cases e
      obtain ⟨u,h1,vs,rfl,h2⟩:=R.obj n _ hq
      exact ⟨_,_,rfl,.inl ⟨vs,SqL.of h1,rfl⟩,by rw [h2.length]; exact q ι H R.ext0 R _ (ofI _)⟩
    . cases e
  . obtain ⟨v,rfl,i1⟩:=FT ia
    obtain ⟨ds,μ1,e1,e2⟩:=AI e
    obtain ⟨hm,p,vs,rfl,h1,h2⟩:=CH R i1 e1
    subst hm
    cases e2
    rw [← h2.length] at q
    rcases h1 with h1 | h1
    . exact ⟨_,_,rfl,.inl ⟨vs,h1,rfl⟩,q ι H R.ext0 R _ (ofI _)⟩
    . exact ⟨_,_,rfl,.inr ⟨vs,h1,rfl⟩,q ι H R.ext0 R _ (ofI _)⟩
  . cases e
def Cw (ds:List D) (lo hi:Option Int):List D:=(ds.drop (HT.sIx ds.length 0 lo)).take (HT.sIx ds.length ds.length hi - HT.sIx ds.length 0 lo)
def VJ (lo hi:Option Int):D->M D
  | .tup ds=>if HT.sIx ds.length 0 lo=0 /\ HT.sIx ds.length ds.length hi=ds.length then BD else ret (.tup (Cw ds lo hi))
  | d=>bnd (Bv d) fun ds=>ret (.lst (Cw ds lo hi))
def rMS (K:PySem.W.Frag):V->Option Int->Option Int->Hp->VK->Prop:=fun x lo hi H Q=>∃ ι μ a d μ',RelH K ι μ H /\ Is K ι μ.length H a x /\ VJ lo hi a μ=some (d,μ') /\
  Aft K ι μ H μ' fun ι' H'=>∀ v,Is K ι' μ'.length H' d v->Q v H'
theorem MZ {K:PySem.W.Frag} {ι:Nat->Addr} {μ:Mh} {H:Hp} {ds:List D} {vs:List V} {Q:VK} (R:RelH K ι μ H) (i:IsL K ι μ.length H ds vs) (q:Aft K ι μ H μ fun ι' H'=>∀ v,Is K ι' μ.length H' (.lst ds) v->Q v H') (p:Addr) (hp:H p=none):Q (.ref p) (upd H p (.lst vs)):=by
  obtain ⟨E1,R1⟩:=R.laid (.lst vs) hp
  have ho:∀ n,n < μ.length->ι n ≠ p:=fun n hn z=>by
    obtain ⟨o,e,_⟩:=R.muts n hn
    rw [z,hp] at e; cases e
  exact q ι _ E1 R1 _ (by unfold Is; exact ⟨p,vs,rfl,A0,ho,i.ext E1⟩)
theorem MY {K:PySem.W.Frag} {ι:Nat->Addr} {μ:Mh} {H:Hp} {ds:List D} {vs:List V} {Q:VK} (R:RelH K ι μ H) (i:IsL K ι μ.length H ds vs) (q:Aft K ι μ H μ fun ι' H'=>∀ v,Is K ι' μ.length H' (.tup ds) v->Q v H') (p:Addr) (hp:H p=none):Q (.ref p) (upd H p (.tup vs)):=by
  obtain ⟨E1,R1⟩:=R.laid (.tup vs) hp
  exact q ι _ E1 R1 _ (by unfold Is; exact ⟨p,vs,rfl,SqT.of A0,i.ext E1⟩)
theorem WC:SlR X (rMS X.K):=fun pins s σ H x v vl vu lo hi sl Q I rx hs pl pu h=>by
  obtain ⟨ι,μ,a,d,μ',R,ia,e,q⟩:=h
  refine (SlR.or Qz Ta) pins s σ H x v vl vu lo hi sl Q I rx hs pl pu ?_
  unfold VJ at e
  split at e
  . rename_i ds
    unfold Is at ia
    obtain ⟨p,vs,rfl,h1,h2⟩:=ia
    split at e
    . cases e
    . rename_i hc
      cases e
      exact .inr ⟨p,vs,rfl,h1,by rw [h2.length]; exact hc,fun p hp=>MY R (P7 h2) q p hp⟩
  . obtain ⟨ds,μ1,e1,e2⟩:=AI e
    obtain ⟨hm,p,vs,rfl,h1,h2⟩:=Ch R ia e1
    subst hm
    cases e2
    exact .inl ⟨p,vs,rfl,h1,fun p hp=>MZ R (P7 h2) q p hp⟩
def Br:Sl->M (Option Int):=fun _=>ret none
def asI:D->M (Option Int)
  | .int i=>ret (some i)
  | _=>BD
def CT (m:Sl->M D):Sl->M (Option Int):=fun τ=>bnd (m τ) asI
def tPt (K:PySem.W.Frag) (m:Sl->M (Option Int)):TO:=fun σ H Q=>∃ ι μ τ b μ',RelH K ι μ H /\ RelS K ι μ.length H τ σ /\ m τ μ=some (b,μ') /\ Aft K ι μ H μ' fun _ H'=>Q b H'
structure RO (X:Cx) (e:Option Expr) (m:Sl->M (Option Int)):Prop where
  pe:PO X e (tPt X.K m)
theorem PO.wk {e:Option Expr} {t t':TO} (h:PO X e t) (w:∀ σ H Q,t' σ H Q->t σ H Q):PO X e t':=fun pins s σ H Q I q=>h pins s σ H Q I (w σ H Q q)
theorem RO.wk {e:Option Expr} {m:Sl->M (Option Int)} {t:TO} (h:PO X e t) (w:∀ σ H Q,tPt X.K m σ H Q->t σ H Q):RO X e m:=⟨PO.wk h w⟩
theorem C2:RO X none Br:=RO.wk RQ fun σ H Q h=>by
  obtain ⟨ι,μ,τ,b,μ',R,S,e,q⟩:=h
  cases e
  exact q ι H R.ext0 R
theorem CK {e:Expr} {m:Sl->M D} (h:RE X e m):RO X (some e) (CT m):=RO.wk (RP h.pe) fun σ H Q h=>by
  obtain ⟨ι,μ,τ,b,μ',R,S,e,q⟩:=h
  obtain ⟨x,μ1,e1,e⟩:=AI e
  refine ⟨ι,μ,τ,x,μ1,R,S,e1,fun ι1 H1 E1 R1 v i1=>?_⟩
  cases x with
  | int i=>cases e; exact ⟨i,BY i1,q ι1 H1 E1 R1⟩
  | _=>cases e
def tyD (μ:Mh):D->Option String
  | .non=>some "NoneType"
  | .bl _=>some "bool"
  | .int _=>some "int"
  | .str _=>some "str"
  | .tup _=>some "tuple"
  | .lst _=>some "list"
  | .scr _=>none
  | .ref n=>match μ[n]? with
    | some (.lst _)=>some "list"
    | some (.dK _)=>some "dict"
    | some (.dC _)=>none
    | some (.ins _ _)=>none
    | none=>none
  | .ty _=>none
def Mc (t T:String):Option Bool:=
  if t ∈ ["NoneType", "bool", "int", "str", "tuple", "list", "dict"] /\ T ∈ ["bool", "int", "str", "tuple", "list", "dict"] then some (t == T || (t == "bool" && T == "int")) else none
theorem Rp {K:PySem.W.Frag} {t T:String} {b:Bool} (h:Mc t T=some b):PySem.W.kitOne K (.type t) (.type T)=some b:=by
  unfold Mc at h
  split at h
  . rename_i hm
    obtain ⟨h1,h2⟩:=hm
    simp only [List.mem_cons,List.not_mem_nil,or_false] at h1 h2
    rcases h1 with rfl | rfl | rfl | rfl | rfl | rfl | rfl <;> rcases h2 with rfl | rfl | rfl | rfl | rfl | rfl <;> (cases h; kernel_rfl)
  . cases h
def Me:List D->M D
  | [a,.ty T]=>fun μ=>match tyD μ a with
    | some t=>(Mc t T).map fun b=>(.bl b,μ)
    | none=>none
  | _=>BD
theorem Ub:BO X (.builtin "isinstance") (rMA X.K Me):=fun pins s σ H xs us Q I r h=>by
  obtain ⟨ι,μ,as,d,μ',R,ia,e,q⟩:=h
  unfold Me at e
  split at e
  . rename_i a T
    obtain ⟨v,v',rfl,i1,i2⟩:=WI ia
    cases Vd i2
    split at e
    . rename_i t ht
      cases hk:Mc t T with
      | none=>rw [hk] at e; cases e
      | some b=>
        rw [hk] at e; cases e
        have kit:=Rp (K:=X.K) hk
        have fin:=q ι H R.ext0 R _ (ofB b)
        have byTy:FG X.K H v (.type t)->wpAny (model X.prog X.w) X.A (call (.builtin "isinstance") us) (EP X pins σ Q) X.xe s:=fun ty=>
          KU pins s σ H _ us Q I r ⟨v,T,_,b,rfl,ty,kit,fin⟩
        cases a with
        | non=>cases ht; cases LH i1; exact byTy .non
        | bl x=>cases ht; cases SW i1; exact byTy (.bl x)
        | int x=>cases ht; cases BY i1; exact byTy (.int x)
        | str x=>cases ht; cases EZ i1; exact byTy (.str x)
        | ty n=>cases ht
        | lst ds=>cases ht; unfold Is at i1; obtain ⟨p,vs,rfl,h1,_⟩:=i1; exact byTy (.lst h1)
        | scr ns=>cases ht
        | ref n=>
          unfold Is at i1
          obtain ⟨_,rfl⟩:=i1
          have ht:(match μ[n]? with | some (.lst _)=>some "list" | some (.dK _)=>some "dict" | some (.dC _)=>none | some (.ins _ _)=>none | none=>none)=some t:=ht
          split at ht
          . rename_i ds hq; cases ht; obtain ⟨u,h1,vs,rfl,h2⟩:=R.obj n _ hq; exact byTy (.lst h1)
          . rename_i ds hq; cases ht; obtain ⟨u,h1,vs,rfl,h2⟩:=R.obj n _ hq; exact byTy (.dK h1)
          . cases ht
          . cases ht
          . cases ht
        | tup ds=>
          cases ht
          unfold Is at i1
          obtain ⟨p,vs,rfl,h1,h2⟩:=i1
          obtain ⟨its,_,⟨o,g1,g2,_⟩,_⟩:=I.tuple h1
          obtain ⟨u1,u2,rfl,r1,r2⟩:=Vals.two r
          cases r1
          cases r2
          exact PySem.W.kia_one PySem.W.kitx_tuple I.kIn ⟨o,g1,g2⟩ kit (fun z=>nomatch z) fun tk=>⟨.bl b,H,I.tok _,rfl,fin⟩
    . cases e
  . cases e
def LK:List D->M D
  | [.int i]=>ret (.int i)
  | [.bl b]=>ret (.int (if b then 1 else 0))
  | _=>BD
theorem Mt:BO X (.type "int") (rMA X.K LK):=fun pins s σ H xs us Q I r h=>by
  obtain ⟨ι,μ,as,d,μ',R,ia,e,q⟩:=h
  refine N0 pins s σ H xs us Q I r ?_
  unfold LK at e
  split at e
  . obtain ⟨v,rfl,i1⟩:=FT ia; cases e; cases BY i1; exact .inl ⟨_,rfl,q ι H R.ext0 R _ (ofI _)⟩
  . obtain ⟨v,rfl,i1⟩:=FT ia; cases e; cases SW i1; exact .inr ⟨_,rfl,q ι H R.ext0 R _ (ofI _)⟩
  . cases e
def CU:List D->M D
  | [.tup ds]=>ret (.tup ds)
  | [d]=>bnd (Bv d) fun ds=>ret (.tup ds)
  | _=>BD
theorem De:BO X (.type "tuple") (rMA X.K CU):=fun pins s σ H xs us Q I r h=>by
  obtain ⟨ι,μ,as,d,μ',R,ia,e,q⟩:=h
  unfold CU at e
  split at e
  . obtain ⟨v,rfl,i1⟩:=FT ia
    cases e
    have i2:=i1
    unfold Is at i1
    obtain ⟨p,vs,rfl,h1,h2⟩:=i1
    exact KR pins s σ H _ us Q I r ⟨p,vs,rfl,h1,q ι H R.ext0 R _ i2⟩
  . obtain ⟨v,rfl,i1⟩:=FT ia
    obtain ⟨ds,μ1,e1,e2⟩:=AI e
    obtain ⟨hm,p,vs,rfl,h1,h2⟩:=Ch R i1 e1
    subst hm
    cases e2
    obtain ⟨u,rfl,ru⟩:=Vals.one r
    cases ru
    obtain ⟨its,rv,pl,hz⟩:=I.list h1
    refine PySem.call_tuple_list pl.isList (fun h' hk=>?_) (by rw [List.size_toArray,← rv.length]; exact hz)
    have I1:Inv X pins σ H { s with heap:=h' }:=I.kept (t':=s.toks) hk
    have I2:Inv X pins σ (upd H h'.objs.size (.tup vs)) { s with heap:=h'.push { cls:=.type "tuple",data:=.seq its.toArray } }:=I1.laid (t':=s.toks) (o:=.tup vs) (fun b ob q=>Heap.get?_push_of_some _ q) (Nat.le_refl _) ⟨hz,its,rv,PyProof.Rows.IsTup.new _ _⟩
    exact ⟨.ref h'.objs.size,_,I2,rfl,MY R h2 q _ (I1.hok.fresh (Nat.le_refl _))⟩
  . cases e
end
end Mi
namespace Mi
open PySem L2
section
variable {X:Cx} {e a b c o i f tg:Expr} {es:List Expr} {pos apos cpos:Pos}
theorem Q9 {x:Str} {n:String} (hm:X.mg x=none) (hv:bootBuiltins x=some (.type n)) (hg:Gl X x:=by rfl) (hn:x ≠ "__name__" := by decide) (hdb:(x == ("__debug__" : Str))=false:=by decide):RE X (.Name x pos) (mC (.ty n)):=
  NU (t:=fun _ _ _=>True) (RZ (v:=.ty n) hg hm hv rfl hn hdb) fun _ _ _=>by unfold Is; rfl
def Db (d:D):M Unit:=bnd (Bv d) fun _=>ret ()
def Aw (g:D->List D->M D) (mo:Sl->M D) (ma:Sl->M (List D)):Sl->M D:=fun τ=>bnd (mo τ) fun x=>bnd (Db x) fun _=>bnd (ma τ) fun xs=>g x xs
def rMM (K:PySem.W.Frag) (g:D->List D->M D):V->List V->Hp->VK->Prop:=fun x xs H Q=>∃ ι μ a as d μ',RelH K ι μ H /\ Is K ι μ.length H a x /\ IsL K ι μ.length H as xs /\ g a as μ=some (d,μ') /\
  Aft K ι μ H μ' fun ι' H'=>∀ v,Is K ι' μ'.length H' d v->Q v H'
theorem Fp {K:PySem.W.Frag} {ι:Nat->Addr} {μ μ':Mh} {H:Hp} {d:D} {v:V} {u:Unit} (R:RelH K ι μ H) (i:Is K ι μ.length H d v) (e:Db d μ=some (u,μ')):μ'=μ /\ tyV K "list" v H:=by
  obtain ⟨ds,μ1,e1,ee1⟩:=AI e
  cases ee1
  obtain ⟨hm,p,vs,rfl,h1,h2⟩:=Ch R i e1
  exact ⟨hm,.inl ⟨rfl,vs,h1⟩⟩
theorem Hm {μ μ':Mh} {d:D} {u:Unit} (e:Db d μ=some (u,μ')):μ'=μ:=by
  obtain ⟨ds,μ1,e1,ee1⟩:=AI e
  cases ee1
  cases d with
  | lst _=>cases e1; rfl
  | scr _=>cases e1; rfl
  | ref n=>
    have e1:(match μ[n]? with | some (.lst ds)=>some (ds,μ) | _=>none)=some (ds,μ'):=e1
    split at e1
    . cases e1; rfl
    . cases e1
  | _=>cases e1
theorem OU {K:PySem.W.Frag} {g:D->List D->M D} {mo:Sl->M D} {ma:Sl->M (List D)} {σ:St} {H:Hp} {Q:VK} (h:tE K (Aw g mo ma) σ H Q):tBM K "list" (rMM K g) (tE K mo) (tL K ma) σ H Q:=by
  obtain ⟨ι,μ,τ,d,μ',R,S,e,q⟩:=h
  obtain ⟨x,μ1,e1,ee1⟩:=AI e
  obtain ⟨u,μ2,e2,ee2⟩:=AI ee1
  obtain ⟨as,μ3,e3,ee3⟩:=AI ee2
  have hm:=Hm e2
  subst hm
  refine ⟨ι,μ,τ,x,_,R,S,e1,fun ι1 H1 E1 R1 v1 i1=>⟨(Fp R1 i1 e2).2,?_⟩⟩
  refine ⟨ι1,_,τ,as,μ3,R1,S.ext E1,e3,fun ι2 H2 E2 R2 vs i2=>?_⟩
  exact ⟨ι2,μ3,x,as,d,μ',R2,i1.ext E2,i2,ee3,fun ι3 H3 E3 R3=>q ι3 H3 ((E1.trans E2).trans E3) R3⟩
theorem DF {name:Str} {id:String} {g:D->List D->M D} {mo:Sl->M D} {ma:Sl->M (List D)} (slot:Slot "list" name id) (hty:typeOf (.builtin id)=pure (.type "method_descriptor")) (hm:MtR X id (rMM X.K g)) (ho:RE X o mo) (ha:RA X (e :: es) ma)
    (hbase:attributeBase o name X.env (eval o X.env)=eval o X.env:=by rfl)
    (hfew:((backTo cpos (starEach (e :: es) X.env)).all (fun x=>!x.1) && (backToKw cpos (keywordEach [] X.env)).all (fun x=>x.1.isSome)
      && decide ((e :: es).length + ([]:List Keyword).length + (if ([]:List Keyword).isEmpty then 0 else 1) < 30))=true:=by rfl)
    (hline:(apos.endLine == cpos.line)=true:=by rfl) (hs:starEach (e :: es) X.env=(false,eval e X.env) :: starEach es X.env:=by exact Ai rfl) (hplain:(backTo cpos (starEach es X.env)).any (·.1)=false:=by exact B9 rfl) :
    RE X (.Call (.Attribute o name apos) (e :: es) [] cpos) (Aw g mo ma):=RE.wk (VQ PySem.F.plainAttrs_list slot hty hm ho.pe ha.pe hbase hfew hline hs hplain) fun _ _ _ h=>OU h
def HI (n:Nat) (k:List D->Option (D × List D)):M D:=fun μ=>match μ[n]? with
  | some (.lst ds)=>(k ds).map fun r=>(r.1,μ.set n (.lst r.2))
  | _=>none
theorem HX {n:Nat} {k:List D->Option (D × List D)} {μ μ':Mh} {d:D} (e:HI n k μ=some (d,μ')):∃ ds es,μ[n]? = some (.lst ds) /\ k ds=some (d,es) /\ μ'=μ.set n (.lst es):=by
  unfold HI at e
  split at e
  . rename_i ds hq
    cases hk:k ds with
    | none=>rw [hk] at e; cases e
    | some r=>rw [hk] at e; cases e; exact ⟨ds,r.2,hq,hk,rfl⟩
  . cases e
theorem Lq {K:PySem.W.Frag} {ι:Nat->Addr} {μ:Mh} {H:Hp} {n:Nat} {d:D} {es:List D} {ws:List V} {v:V} {Q:VK} {ds:List D} (R:RelH K ι μ H) (hn:μ[n]? = some (.lst ds)) (iw:IsL K ι μ.length H es ws) (iv:Is K ι μ.length H d v)
    (q:Aft K ι μ H (μ.set n (.lst es)) fun ι' H'=>∀ v,Is K ι' (μ.set n (.lst es)).length H' d v->Q v H'):Q v (upd H (ι n) (.lst ws)):=by
  have hlt:n < μ.length:=(List.getElem?_eq_some_iff.mp hn).1
  obtain ⟨E1,R1⟩:=R.changed (m:=.lst es) (o:=.lst ws) hlt ⟨ws,rfl,iw⟩
  exact q ι _ E1 R1 v (iv.ext E1)
def C8:D->List D->M D
  | .ref n,[d]=>HI n fun ds=>if ds.length < sizeLine then some (.non,ds ++ [d]) else none
  | _,_=>BD
theorem DM:MtR X "list.append" (rMM X.K C8):=fun pins s σ H x xs v us Q I rx rs h=>by
  obtain ⟨ι,μ,a,as,d,μ',R,ia,ib,e,q⟩:=h
  unfold C8 at e
  split at e
  . rename_i n y
    obtain ⟨ds,es,h1,h2,rfl⟩:=HX e
    split at h2
    . rename_i hl
      cases h2
      obtain ⟨w,rfl,iw⟩:=FT ib
      unfold Is at ia
      obtain ⟨_,rfl⟩:=ia
      obtain ⟨u,g1,vs,rfl,g2⟩:=R.obj n _ h1
      exact Nj pins s σ H _ _ v us Q I rx rs ⟨_,vs,w,rfl,rfl,g1,by rw [g2.length]; exact hl,Lq R h1 (g2.append (.one iw)) ofN q⟩
    . cases h2
  . cases e
def Q1:D->D->D->M Unit
  | .ref n,.int k,d=>fun μ=>match μ[n]? with
    | some (.lst ds)=>(ixN ds.length k).map fun j=>((),μ.set n (.lst (ds.set j d)))
    | _=>none
  | _,_,_=>BD
def SH (mo mi:Sl->M D):D->Sl->M Sl:=fun d τ=>bnd (mo τ) fun x=>bnd (mi τ) fun y=>bnd (Q1 x y d) fun _=>ret τ
theorem NJ {x y d:D} {μ μ':Mh} {u:Unit} (e:Q1 x y d μ=some (u,μ')):∃ n k ds j,x=.ref n /\ y=.int k /\ μ[n]? = some (.lst ds) /\ ixN ds.length k=some j /\ μ'=μ.set n (.lst (ds.set j d)):=by
  unfold Q1 at e
  split at e
  . rename_i n k
    split at e
    . rename_i ds hq
      cases hk:ixN ds.length k with
      | none=>rw [hk] at e; cases e
      | some j=>rw [hk] at e; cases e; exact ⟨n,k,ds,j,rfl,rfl,hq,hk,rfl⟩
    . cases e
  . cases e
theorem Tg {mo mi:Sl->M D} (ho:RE X o mo) (hi:RE X i mi)
    (ha:∀ v,assign (.Subscript o i pos) X.env v=(do
      let ov ← holding [v] (eval o X.env)
      let iv ← holding [v,ov] (eval i X.env)
      standAt pos
      holding [v,ov,iv] (setItem ov iv v)
      release [v,ov,iv] []):=by intro _; rfl):RG X (.Subscript o i pos) (SH mo mi):=RG.wk (Tu ho.pe hi.pe OZ ha) fun v σ H Q h=>by
  obtain ⟨ι,μ,τ,d,τ',μ',R,S,i1,e,q⟩:=h
  obtain ⟨x,μ1,e1,ee1⟩:=AI e
  obtain ⟨y,μ2,e2,ee2⟩:=AI ee1
  obtain ⟨u,μ3,e3,ee3⟩:=AI ee2
  cases ee3
  refine ⟨ι,μ,_,x,μ1,R,S,e1,fun ι1 H1 E1 R1 v1 j1=>⟨ι1,μ1,_,y,μ2,R1,S.ext E1,e2,fun ι2 H2 E2 R2 v2 j2=>?_⟩⟩
  obtain ⟨n,k,ds,j,rfl,rfl,g1,g2,rfl⟩:=NJ e3
  have E12:=E1.trans E2
  have j1':=j1.ext E2
  unfold Is at j1'
  obtain ⟨hlt,rfl⟩:=j1'
  cases BY j2
  obtain ⟨w,k1,vs,rfl,k2⟩:=R2.obj n _ g1
  obtain ⟨E3,R3⟩:=R2.changed (m:=.lst (ds.set j d)) (o:=.lst (vs.set j v)) hlt ⟨_,rfl,k2.set (i1.ext E12) j⟩
  exact ⟨_,vs,k,j,rfl,rfl,k1,by rw [k2.length]; exact g2,q ι2 _ (E12.trans E3) R3 σ (S.ext (E12.trans E3))⟩
section
variable {K:PySem.W.Frag} {ι:Nat->Addr} {k:Nat} {H:Hp}
end
def Cv:Nat->List D->List D
  | _,[]=>[]
  | k,d :: ds=>.tup [.int k,d] :: Cv (k + 1) ds
theorem EE:∀ (k:Nat) (ds:List D),(Cv k ds).length=ds.length
  | _,[]=>rfl
  | k,_ :: ds=>by unfold Cv; simp [EE (k + 1) ds]
theorem Hy:∀ (k:Nat) (ds:List D) (j:Nat),(Cv k ds)[j]? = (ds[j]?).map fun d=>.tup [.int ((k + j:Nat):Int),d]
  | _,[],j=>by simp [Cv]
  | k,d :: ds,0=>by simp [Cv]
  | k,d :: ds,j + 1=>by
    unfold Cv
    rw [List.getElem?_cons_succ,List.getElem?_cons_succ,Hy (k + 1) ds j]
    have:k + 1 + j=k + (j + 1):=by omega
    rw [this]
theorem Pe {K:PySem.W.Frag} {ι:Nat->Addr} {μ:Mh} {H:Hp} {vs:List V} {ds:List D} {Cond:PySem.W.Frag->Hp->Prop} (st:∀ ι' (μ':Mh) H',Ext ι μ.length H ι' μ'.length H'->RelH K ι' μ' H'->Cond K H') (i:IsL K ι μ.length H ds vs) :
    ItM K (ItP K vs.length (FC vs) Cond) (Cv 0 ds) ι μ H:=by
  intro ι' μ' H' E R
  have h:=st ι' μ' H' E R
  rw [EE,← i.length]
  refine ⟨fun j hj=>⟨hj,h⟩,⟨rfl,h⟩,fun j x H2 d hd y=>?_⟩
  obtain ⟨T,hT,rfl,rfl⟩:=y
  obtain ⟨E2,R2⟩:=R.laid (.tup (FC vs j)) hT
  refine ⟨E2,R2,?_⟩
  rw [Hy] at hd
  cases q:ds[j]? with
  | none=>rw [q] at hd; cases hd
  | some d0=>
    rw [q] at hd
    cases hd
    obtain ⟨w,ew,iw⟩:=(i.ext E).get q
    have e0:vs.getD j V.non=w:=by simp [List.getD,ew]
    have es:FC vs j=[.int j,w]:=by unfold FC; rw [e0]
    have key:IsL K ι' (List.length μ') (upd H' T (.tup (FC vs j))) [.int ((0 + j:Nat):Int),d0] [.int j,w]:=.cons (by unfold Is; simp) (.one (iw.ext E2))
    unfold Is
    exact ⟨T,_,rfl,SqT.of A0,(congrArg (IsL K ι' (List.length μ') (upd H' T (.tup (FC vs j))) [.int ((0 + j:Nat):Int),d0]) es).mpr key⟩
end
end Mi
namespace Mi
open PySem L2
theorem DS:bootBuiltins "len" = some (.builtin "len"):=by decide +kernel
theorem Fz:bootBuiltins "isinstance" = some (.builtin "isinstance"):=by decide +kernel
theorem FE:bootBuiltins "int" = some (.type "int"):=by decide +kernel
theorem BK:bootBuiltins "tuple" = some (.type "tuple"):=by decide +kernel
theorem IE:bootBuiltins "list" = some (.type "list"):=by decide +kernel
theorem KZ:bootBuiltins "set" = some (.type "set"):=by decide +kernel
def Aj:Nat:=1048576
structure Fn (P:Program) (w:World) (K:PySem.W.Frag) (mg:Str->Option Value) (base:Heap) (x:Str) (ps:List Str) (k:Nat) (φ:List D->M D):Prop where
  len:∀ ds μ r,φ ds μ=some r->ds.length=ps.length
  ex:∃ f fd,FnOk P w K mg base CX0 k f fd ps (spM K ps.length φ) /\ mg x=some (.ref f) /\ PySem.W.keepIn K (.ref f)=true /\ Binds K fd ps []
def Glo (K:PySem.W.Frag) (mg:Str->Option Value) (x:Str) (d:D):Prop:=∃ u v,mg x=some u /\ RelV v u /\ ∀ ι k H,Is K ι k H d v
section
variable {X:Cx} {e:Expr} {es:List Expr} {pos p:Pos}
theorem Am {x:Str} {ps:List Str} {k j:Nat} {φ:List D->M D} {m:Sl->M (List D)} (F:Fn X.prog X.w X.K X.mg X.base x ps k φ) (hr:Room j X.A) (ha:RA X (e :: es) m) (hkj:k <= j:=by decide) (hg:Gl X x:=by rfl) (hdb:(x == ("__debug__" : Str))=false:=by decide)
    (he:starEach (e :: es) X.env=(false,eval e X.env) :: starEach es X.env:=by exact Ai rfl) (hpl:(backTo pos (starEach es X.env)).any (·.1)=false:=by exact B9 rfl):RE X (.Call (.Name x p) (e :: es) [] pos) (AH φ m):=by
  obtain ⟨len,f,fd,F,hm,hk,hb⟩:=F
  exact Q8 F (hr.mono hkj) hm hk hb len ha hg hdb he hpl
theorem DG {x:Str} {d:D} (h:Glo X.K X.mg x d) (hg:Gl X x:=by rfl) (hdb:(x == ("__debug__" : Str))=false:=by decide):RE X (.Name x pos) (mC d):=by
  obtain ⟨u,v,hm,r,hd⟩:=h
  exact Q7 hm r hd hg hdb
end
theorem UV {P:Program} {w:World} {K:PySem.W.Frag} {mg:Str->Option Value} {base:Heap} {x qual:Str} {st:Stmt} {f:Addr} {fd:FuncData} {N ps:List Str} {k:Nat} {φ:List D->M D} {mb:Sl->M (Fl × Sl)} (F:Fun K x qual st f fd) (S:Ac N ps (AF st)) (hm:mg x=some (.ref f)) (hb:Binds K fd ps [])
    (body:∀ (cdv:Value) (A:Around) (outer:List Env) (s:Shared) (H:Hp) (E:XK),Room k (A.deeper (PyProof.Rows.envOfC qual (AF st) s.heap.objs.size f cdv))->RSs (Bb CX0 P w K mg base N qual (AF st) f cdv A outer s H E).nox (AX st) mb)
    (len:∀ ds μ r,φ ds μ=some r->ds.length=ps.length)
    (run:∀ ds μ d μ',φ ds μ=some (d,μ')->∃ fl τ2 μ2,mb (B8 N.length ds) μ=some ((fl,τ2),μ2) /\ (fl=.next ∨ ∃ d,fl=.rt d) /\ HH μ μ2 μ' (HM fl) d):Fn P w K mg base x ps (k + 1) φ:=
  ⟨len,f,fd,Hv F S rfl body run,hm,F.kp,hb⟩
theorem Ks {μ g:Mh} {d:D} (h:Cl μ.length d):HH μ (μ ++ g) μ d d:=⟨⟨g,rfl⟩,Nat.le_refl _,fun _ _ e=>.inl e,.inl ⟨rfl,h⟩⟩
end Mi
namespace Mi
open PySem L2
section
variable {X:Cx} {e a b c o i:Expr} {es:List Expr} {pos p apos cpos:Pos}
end
end Mi
namespace L2
open PySem PySem.Spec PyProof.Rows Sem
section
variable {prog:Program} {w:World} {A:Around} {E:Value->Shared->Prop} {s:Shared}
theorem EQ {M:Model} {A:Around} {α:Type} {c:Prop} [Decidable c] {a b:Sem α} {Q:α->Shared->Prop} {E:Value->Shared->Prop} {s:Shared} (h : ¬ c) (hb:wpAny M A b Q E s):wpAny M A (if c then a else b) Q E s:=by
  rw [if_neg h]; exact hb
theorem JR {it t:Addr} {i:Nat} {items:Array Value} {Q:Value->Shared->Prop} (hh:A.handled=none) (hit:s.heap.IsTupleIter it t i) (ht:s.heap.IsTuple t items)
    (more:∀ x h',items[i]? = some x->h'.IsTupleIter it t (i + 1)->Heap.SameBut it s.heap h'->Q x { s with heap:=h' })
    (over:items[i]? = none->∀ h' e,Heap.ExtBut it s.heap h'->(∃ o,h'.get? e=some o /\ o.cls=.type "StopIteration")->E (.ref e) { s with heap:=h' }) :
    wpAny (model prog w) A (Builtin.SmallTypes.nextOf (.ref it)) Q E s:=by
  have ty:=hit.typeIs
  obtain ⟨o,at_it,hc,hd⟩:=hit
  obtain ⟨ot,at_t,_,n,hdt⟩:=ht
  have put:∀ (k:Nat) (v:Value),(s.heap.update it (Obj.mapFields (fun fs=>fs.set! k v))).get? it=some (Obj.mapFields (fun fs=>fs.set! k v) o):=fun k v=>Heap.get?_update_self _ at_it (Obj.isFreed_of_fields (Obj.data_mapFields hd _))
  unfold Builtin.SmallTypes.nextOf
  refine wpAny_bind (wpAny_callSpecial?_slot ty F.slot_tuple_iterator_next (wpAny_call_entry F.slot_tuple_iterator_next ty F.entry_tuple_iterator_next ?_ (F.args_tuple_iterator_next_1 _)))
  have notNone : ¬ (Value.ref t == Value.none)=true:=Bool.false_ne_true
  refine wpAny_bind (m:=field (.ref it) 0) (wpAny_field at_it hd (x:=.ref t) rfl ?_)
  refine EQ notNone ?_
  refine wpAny_bind (m:=field (.ref it) 1) (wpAny_field at_it hd (x:=.int i 0) rfl (wpAny_bind (m:=seqItems? (.ref t)) (wpAny_seqItems at_t hdt ?_)))
  have ei:((i:Int)).toNat=i:=Int.toNat_natCast i
  cases hx:items[i]? with
  | some x=>
    dsimp only
    rw [ei,hx]
    refine wpAny_bind (wpAny_setField at_it hd (by simp) (wpAny_pure ⟨x,rfl,wpAny_pure (more x _ hx ⟨_,put _ _,?_,?_⟩ (Heap.SameBut.update ..))⟩))
    . exact (Obj.cls_mapFields ..).trans hc
    . rw [Obj.data_mapFields hd]
      rfl
  | none=>
    dsimp only
    rw [ei,hx]
    refine wpAny_bind (wpAny_rule (wpAny_bind (wpAny_setField at_it hd (by simp) ?_)))
    have first:firstArgMember (.type "StopIteration") []=pure Value.none:=by first | rfl | (unfold firstArgMember; rfl)
    unfold Builtin.SmallTypes.stopIteration newExc newTuple
    refine wpAny_bind (wpAny_bind (wpAny_newObj_type (wpAny_bind (wpAny_of_eq first (wpAny_newObj_type (wpAny_raiseNew_none hh ?_) (by size_fits)))) (by size_fits)))
    exact over hx _ _ (((Heap.SameBut.update ..).extBut.push _).push _) ⟨_,Heap.get?_push_size _ rfl,rfl⟩
theorem Nx (hh:A.handled=none) (it t:Addr) (hne:t ≠ it) (items:Array Value) :
    Draws prog w A it [it,t] items.size (fun i v=>items[i]? = some v) (fun i h=>h.IsTupleIter it t i /\ h.IsTuple t items):=by
  refine ⟨fun i h st=>?_,fun i h h' st k=>⟨?_,?_⟩,fun i s Q E hi st q=>?_,fun s Q E st q=>?_⟩
  . obtain ⟨⟨o,e,_⟩,_⟩:=st
    exact ⟨o,e⟩
  . obtain ⟨⟨o,e,r⟩,_⟩:=st
    exact ⟨o,k it (by simp) o e,r⟩
  . obtain ⟨_,⟨o,e,r⟩⟩:=st
    exact ⟨o,k t (by simp) o e,r⟩
  . exact JR hh st.1 st.2 (fun x h' hx st' sb=>q x h' s.toks hx ⟨st',st.2.extBut sb.extBut hne⟩ sb) fun no=>absurd no (by simp [hi])
  . exact JR hh st.1 st.2 (fun x h' hx=>absurd hx (by simp)) fun _ h' e eb so=>q h' e eb so
abbrev FA (it:Addr):Obj:={ cls:=.type "enumerate",data:=.fields #[.none,.bool false,.ref it,rawInt 0,.none,.none] }
theorem Px (v:Value) (ob:Obj) (good:Heap->Prop) (hv:∀ (prog:Program) (w:World) (A:Around) (E:Value->Shared->Prop) (s:Shared) (Q:Value->Shared->Prop),good s.heap->Q (.ref s.heap.objs.size) { s with heap:=s.heap.push ob }->wpAny (model prog w) A (pyIter v) Q E s) :
    Meets (Builtin.«enumerate.__new__» ⟨[.type "enumerate",v],[]⟩) (fun _ R s=>good s.heap /\ R (.ok (.ret (.ref (s.heap.push ob).objs.size))) { s with heap:=(s.heap.push ob).push (FA s.heap.objs.size) }):=by
  refine .of_wp fun prog w A R s ⟨g,q⟩=>?_
  have own:=sub_enumerate
  have walk:∀ (A:Around) (E:Value->Shared->Prop) (Q:Value->Shared->Prop),Q (.ref s.heap.objs.size) { s with heap:=s.heap.push ob }->wpAny (model prog w) A (pyIter v) Q E s:=fun A E Q z=>hv prog w A E s Q g z
  obtain ⟨hp,gs,dr,tk,os⟩:=s
  wp_walk
  refine wpAny_stack_any fun st=>wpAny_pure ?_
  split
  . rename_i c _ _ _ _ _
    cases (c == Value.type "enumerate") <;> (wp_walk using walk; exact ⟨_,rfl,q⟩)
  . wp_walk using walk
    exact ⟨_,rfl,q⟩
end
end L2
namespace L2
open PySem PySem.Spec PyProof.Rows
theorem Kp {P:Program} {w:World} {K:PySem.W.Frag} {es:List Expr} {k0:Nat} {pos:Pos} (a e it:Addr) (xs:List V) (hei:e ≠ it) (hea:e ≠ a) (hai:a ≠ it) :
    Kh P w K (.Tuple es k0 pos) (ItP K xs.length (FC xs) fun K H=>SqT K H a xs) [e,it] e (fun i h=>(∃ old,IsEnum h e it i old) /\ h.IsTupleIter it a i):=by
  refine Ko (ι:=List Value) (fp:=[e,it,a]) (Mid:=fun its i T h=>(∃ x,IsEnumOut h e it ((i:Int) + 1) x T) /\ (h.IsTupleIter it a (i + 1) /\ h.IsTuple a its.toArray) /\ T ≠ e /\ T ≠ it) (good:=fun its=>Vals xs its) (Pt:=fun its i vals=>∃ t x,its.toArray[i]? = some x /\ vals = #[.int i t,x]) (Sw:=fun its i h=>(∃ old,IsEnum h e it i old) /\ h.IsTupleIter it a i /\ h.IsTuple a its.toArray)
    (fun A hA its r=>?walk) List.mem_cons_self (fun its i vals r h=>LR r h) (fun i=>(by show 2 <= sizeLine; decide)) (fun i h st=>?obj) (fun i h h' st k=>?keep) (fun X pins σ H s i hP hw hK I hc st=>?into) (fun z i h st=>⟨st.1,st.2.1⟩) (fun A i s Q E st h=>?self)
  case walk=>
    have hl:xs.length=its.toArray.size:=by rw [List.size_toArray]; exact r.length
    have D:=Nx (prog:=P) (w:=w) (A:=A.in1) hA it a hai its.toArray
    rw [hl]
    exact WalksT.enumerateD D e hei (by simp [hei,hea]) (by simp)
  case obj=>
    obtain ⟨o,ho,_,hd⟩:=st.2
    exact UZ st.1 ho ⟨_,hd⟩
  case keep=>
    obtain ⟨⟨old,q⟩,o,ho,r⟩:=st
    exact ⟨⟨old,k e (by simp) _ q⟩,o,k it (by simp) o ho,r⟩
  case into=>
    subst hK
    obtain ⟨its,r,p,_⟩:=I.tuple hc
    exact ⟨its,r,st.1,st.2,p⟩
  case self=>exact R8 (f:=fun i h=>h.IsTupleIter it a i) A i s Q E st h
section
variable {X:Cx} {es:List Expr} {k0:Nat} {tpos:Pos}
def US (K:PySem.W.Frag) (ta:TA):TI:=fun σ H R=>ta σ H fun vs H1=>∃ a xs,vs=[.ref a] /\ SqT K H1 a xs /\ R (ItP K xs.length (FC xs) fun K H=>SqT K H a xs) H1
theorem O3 {a:Expr} {ta:TA} {p pos:Pos} (hg:Gl X "enumerate") (hm:X.mg "enumerate" = none) (ha:PA X [a] ta) (hs:starEach [a] X.env=[(false,eval a X.env)]:=by rfl):PI X (.Tuple es k0 tpos) (.Call (.Name "enumerate" p) [a] [] pos) (US X.K ta):=by
  intro pins s σ H R I h
  refine Call_ (Gh I hg hm N1 (PyProof.Rows.callWith_type1 (thn (ha pos pins s σ H _ I h) fun us s1 ⟨vs,H1,I1,r1,q1⟩=>?_) hs rfl))
  obtain ⟨l,xs,ev,hq,q⟩:=q1
  subst ev
  obtain ⟨u,eu,ru⟩:=Fh r1
  subst eu
  cases ru
  obtain ⟨its,rv,pl,hz⟩:=I1.tuple hq
  have lt:l < s1.heap.objs.size:=by obtain ⟨o,e,_⟩:=pl; exact Heap.lt_size e
  have new:=Px (.ref l) { cls:=.type "tuple_iterator",data:=.fields #[.ref l,.int 0 0] } (fun h=>h.IsTuple l its.toArray) (fun _ _ _ _ _ _ g z=>wpAny_pyIter_tuple g z)
  refine callType_new F.called_enumerate (by decide) (F.typeCall_enumerate_1 _) (F.newCall_enumerate_1 _) (fun obj=>F.args_object_init_2 obj _) F.entry_enumerate_new new ⟨pl,?_⟩
  generalize hG:s1.heap.push { cls:=.type "tuple_iterator",data:=.fields #[.ref l,.int 0 0] }=G
  have hsz:G.objs.size=s1.heap.objs.size + 1:=by rw [← hG]; exact Heap.size_push ..
  have at_e:(G.push (FA s1.heap.objs.size)).get? (s1.heap.objs.size + 1)=some (FA s1.heap.objs.size):=by rw [← hsz]; exact Heap.get?_push_size _ rfl
  have he:IsEnum (G.push (FA s1.heap.objs.size)) (s1.heap.objs.size + 1) s1.heap.objs.size 0 .none:=at_e
  have at_i:(G.push (FA s1.heap.objs.size)).IsTupleIter s1.heap.objs.size l 0:=⟨_,Heap.get?_push_of_some _ (hG ▸ Heap.get?_push_size _ rfl),rfl,rfl⟩
  show _ /\ _
  rw [hsz]
  refine ⟨⟨_,at_e,rfl⟩,wpAny_pyIter_enum he ?_⟩
  refine ⟨s1.heap.objs.size + 1,[s1.heap.objs.size + 1,s1.heap.objs.size],fun i h=>(∃ old,IsEnum h (s1.heap.objs.size + 1) s1.heap.objs.size i old) /\ h.IsTupleIter s1.heap.objs.size l i,_,H1,rfl,I1.kept (t':=s1.toks) fun b o x=>Heap.get?_push_of_some _ (hG ▸ Heap.get?_push_of_some _ x),?_,⟨⟨_,he⟩,at_i⟩,TK I1,q⟩
  exact Kp l _ _ xs (Nat.succ_ne_self _) (Nat.ne_of_gt (Nat.lt_succ_of_lt lt)) (Nat.ne_of_lt lt)
end
end L2
namespace Mi
open PySem L2
section
variable {X:Cx} {a:Expr} {es:List Expr} {pos:Pos}
def OP:List D->M (List D)
  | [.tup ds]=>ret ds
  | _=>BD
def EW (m:Sl->M (List D)):Sl->M (List D):=fun τ=>bnd (m τ) fun as=>bnd (OP as) fun ds=>ret (Cv 0 ds)
theorem GP {p tpos:Pos} {k0:Nat} {m:Sl->M (List D)} (hm:X.mg "enumerate" = none) (ha:RA X [a] m) (hg:Gl X "enumerate" := by rfl) (hs:starEach [a] X.env=[(false,eval a X.env)]:=by exact Ai rfl):RI X (.Tuple es k0 tpos) (.Call (.Name "enumerate" p) [a] [] pos) (EW m):=
  RI.wk (O3 hg hm ha.pe hs) fun σ H R q=>by
    obtain ⟨ι,μ,τ,ds,μ',R0,S,e,q⟩:=q
    obtain ⟨xs,μ1,e1,e2⟩:=AI e
    obtain ⟨zs,μ2,e3,e4⟩:=AI e2
    cases e4
    refine ⟨ι,μ,τ,xs,μ1,R0,S,e1,fun ι1 H1 E1 R1 vs i1=>?_⟩
    unfold OP at e3
    split at e3
    . cases e3
      obtain ⟨v,rfl,i2⟩:=FT i1
      unfold Is at i2
      obtain ⟨p,ws,rfl,h1,h2⟩:=i2
      exact ⟨p,ws,rfl,h1,q ι1 H1 E1 R1 _ (Pe (fun ι' μ' H' E _=>IV E h1) h2)⟩
    . cases e3
end
end Mi
namespace L2
open PySem PySem.Spec PyProof.Rows Sem
section
variable {prog:Program} {w:World} {A:Around} {E:Value->Shared->Prop} {s:Shared}
end
end L2
namespace L2
open PySem PySem.Spec PyProof.Rows
section
variable {X:Cx} {es:List Expr} {k0:Nat} {tpos:Pos}
end
end L2
namespace L2
open PySem PySem.Spec PyProof.Rows
section
variable {X:Cx} {es:List Expr} {k0:Nat} {tpos:Pos}
end
end L2
namespace Mi
open PySem L2
section
variable {X:Cx} {a b:Expr} {es:List Expr} {pos:Pos}
end
end Mi
namespace L2
open PySem PySem.Spec PyProof.Rows Sem
section
variable {prog:Program} {w:World} {A:Around} {E:Value->Shared->Prop} {s:Shared}
end
end L2
namespace L2
open PySem PySem.Spec PyProof.Rows Sem
section
variable {prog:Program} {w:World} {A:Around} {E:Value->Shared->Prop} {s:Shared}
set_option maxHeartbeats 2000000 in
theorem MU {T nid iid:String} {args:List Value} {Q Q₁:Value->Shared->Prop} (ft:TypeCalled T nid iid) (ok:checkTypeCall T ⟨args,[]⟩=pure ())
    (new:codeAny (model prog w) A.in1 (.call (.builtin nid) ⟨.type T :: args,[]⟩) (wants Q₁ E) s)
    (init:∀ x s₁,Q₁ x s₁->s₁.TypeIs x T /\ codeAny (model prog w) A.in1 (.call (.builtin iid) ⟨x :: args,[]⟩) (wants (fun r s₂=>r=.none /\ Q x s₂) E) s₁) :
    wpAny (model prog w) A (call (.type T) args) Q E s:=by
  have a1:=ft.notType
  have a2:=ft.canCreate
  have a3:=ft.made
  have a4:=ft.sub
  obtain ⟨c,tl,a5⟩:=ft.mro
  have step:codeAny (model prog w) A (.builtin "type.__call__" ⟨.type T :: args,[]⟩) (wants Q E) s:=by
    refine codeAny_builtin F.entry_type_call ?_
    rw [Around.under_plain (weight_type_call_type T args []) rfl]
    unfold Builtin.«type.__call__»
    iterate 3 (any_goals (first | assumption | wp_step))
    first | refine wpAny_of_eq ok ?_ | refine wpAny_bind (wpAny_of_eq ok ?_)
    repeat (any_goals (first | assumption | wp_step))
    refine codeAny_mono new fun r s₁ hr=>?_
    match r,hr with
    | .error e,hr=>exact hr
    | .ok (.ret x),hr=>
      obtain ⟨ty,run⟩:=init x s₁ hr
      have b1:=ft.init.lookup
      have b2:=ft.init.bind x
      repeat (any_goals (first | assumption | wp_step))
      refine codeAny_mono run fun r₂ s₂ hr₂=>?_
      match r₂,hr₂ with
      | .error e,hr₂=>exact hr₂
      | .ok (.ret y),hr₂=>
        obtain ⟨ey,hq⟩:=hr₂
        subst ey
        repeat (any_goals (first | assumption | wp_step))
  exact wpAny_call (codeAny_of_tree (wpAny_pure ⟨Code.quiet_builtin _ (by decide +kernel),step⟩))
abbrev AW (led:Bool):Obj:={ cls:=.type "set",data:=.set #[] 0 (.fresh 0 0 led) }
end
section
variable {X:Cx}
end
end L2
namespace Mi
open PySem L2
section
variable {X:Cx} {e:Expr} {pos p p2 pos2:Pos}
end
end Mi
namespace Mi
open PySem L2
inductive How where
  | all | drop | frz
def Ra (μ2:Mh):How->D->D
  | .frz,.ref n=>match μ2[n]? with
    | some (.lst ds)=>.lst ds
    | _=>.ref n
  | _,d=>d
def PF (μ μ2:Mh):How->Mh
  | .all=>μ2
  | _=>μ2.take μ.length
open Classical in
noncomputable def Ak (hw:How) (n ps:Nat) (mb:Sl->M (Fl × Sl)):List D->M D:=fun ds μ=>match mb (B8 n ds) μ with
  | some ((fl,_),μ2)=>if ds.length=ps /\ (fl=.next ∨ ∃ d,fl=.rt d) /\ HH μ μ2 (PF μ μ2 hw) (HM fl) (Ra μ2 hw (HM fl)) then some (Ra μ2 hw (HM fl),PF μ μ2 hw) else none
  | none=>none
theorem Ed {hw:How} {n ps:Nat} {mb:Sl->M (Fl × Sl)} {ds:List D} {μ μ':Mh} {d:D} (h:Ak hw n ps mb ds μ=some (d,μ')) :
    ds.length=ps /\ ∃ fl τ2 μ2,mb (B8 n ds) μ=some ((fl,τ2),μ2) /\ (fl=.next ∨ ∃ d,fl=.rt d) /\ HH μ μ2 μ' (HM fl) d:=by
  unfold Ak at h
  split at h
  . rename_i fl τ2 μ2 e
    split at h
    . rename_i c
      cases h
      exact ⟨c.1,fl,τ2,μ2,e,c.2.1,c.2.2⟩
    . cases h
  . cases h
theorem KW {hw:How} {n ps:Nat} {mb:Sl->M (Fl × Sl)} {ds:List D} {μ μ2:Mh} {fl:Fl} {τ2:Sl} (e:mb (B8 n ds) μ=some ((fl,τ2),μ2)) (hl:ds.length=ps) (hf:fl=.next ∨ ∃ d,fl=.rt d) (t:HH μ μ2 (PF μ μ2 hw) (HM fl) (Ra μ2 hw (HM fl))) :
    Ak hw n ps mb ds μ=some (Ra μ2 hw (HM fl),PF μ μ2 hw):=by
  unfold Ak
  rw [e]
  exact if_pos ⟨hl,hf,t⟩
theorem Ax {n ps:Nat} {mb:Sl->M (Fl × Sl)} {ds:List D} {μ g:Mh} {d:D} {τ2:Sl} (e:mb (B8 n ds) μ=some ((.rt d,τ2),μ ++ g)) (hl:ds.length=ps) (c:Cl μ.length d):Ak .drop n ps mb ds μ=some (d,μ):=by
  have t:PF μ (μ ++ g) .drop=μ:=by show (μ ++ g).take μ.length=μ; rw [List.take_left]
  have h:=KW (hw:=.drop) e hl (.inr ⟨d,rfl⟩) (by rw [t]; exact Ks c)
  rw [t] at h
  exact h
theorem An (hw:How) {P:Program} {w:World} {K:PySem.W.Frag} {mg:Str->Option Value} {base:Heap} {x qual:Str} {st:Stmt} {f:Addr} {fd:FuncData} {N ps:List Str} {k:Nat} {mb:Sl->M (Fl × Sl)} (F:Fun K x qual st f fd) (S:Ac N ps (AF st)) (hm:mg x=some (.ref f)) (hb:Binds K fd ps [])
    (body:∀ (cdv:Value) (A:Around) (outer:List Env) (s:Shared) (H:Hp) (E:XK),Room k (A.deeper (PyProof.Rows.envOfC qual (AF st) s.heap.objs.size f cdv))->RSs (Bb CX0 P w K mg base N qual (AF st) f cdv A outer s H E).nox (AX st) mb) :
    Fn P w K mg base x ps (k + 1) (Ak hw N.length ps.length mb):=
  UV F S hm hb body (fun ds μ r h=>(Ed (d:=r.1) (μ':=r.2) h).1) (fun ds μ d μ' h=>(Ed h).2)
theorem Fn.mono {P:Program} {w:World} {K:PySem.W.Frag} {mg:Str->Option Value} {base:Heap} {x:Str} {ps:List Str} {j k:Nat} {φ:List D->M D} (F:Fn P w K mg base x ps j φ) (h:j <= k):Fn P w K mg base x ps k φ:=by
  obtain ⟨len,f,fd,F,hm,hk,hb⟩:=F
  exact ⟨len,f,fd,F.mono h,hm,hk,hb⟩
theorem Pn {P:Program} {w:World} {K:PySem.W.Frag} {mg:Str->Option Value} {base:Heap} {x qual:Str} {st:Stmt} {f:Addr} {fd:FuncData} {ps:List Str} {k:Nat} (F:Fun K x qual st f fd) (hm:mg x=some (.ref f)) (hb:Binds K fd ps []):Fn P w K mg base x ps k (fun _=>BD):=by
  refine ⟨(fun ds μ r h=>absurd (show (none:Option (D × Mh))=some r from h) (by simp)),⟨f,fd,⟨fun vs H Q E h=>?_,fun A outer s H args us vs Q E _ _ _ _ h=>?_⟩,hm,F.kp,hb⟩⟩
  . obtain ⟨_,ι,μ,as,d,μ',_,_,e,_⟩:=h
    cases e
  . obtain ⟨_,ι,μ,as,d,μ',_,_,e,_⟩:=h
    cases e
end Mi
namespace Mi
open PySem L2
section
variable {P:Program} {w:World} {K:PySem.W.Frag} {mg:Str->Option Value} {base h:Heap} {x:Str}
theorem JC {i:Int} {t:Tok} (X:K.In h) (G:h.Ns mainGlobals mg) (a:PySem.W.nsIn K mainGlobals x=some (some (.int i t))):Glo K mg x (.int i):=
  ⟨_,.int i,PySem.W.mg_of X G a,⟨t,rfl⟩,fun _ _ _=>by unfold Is; rfl⟩
structure Df (K:PySem.W.Frag) (x:Str) (st:Stmt) (f:Addr) (fd:FuncData):Prop where
  a:PySem.W.nsIn K mainGlobals x=some (some (.ref f))
  F:Fun K x x st f fd
theorem Vi {st:Stmt} {f:Addr} {oc:Value} {od an:Option Addr} {osl:Array (Option Value)} {kV doc pm cdv ct:Value} (a:PySem.W.nsIn K mainGlobals x=some (some (.ref f))) (l:K.lookup f=some ⟨oc,od,.func (PySem.W.fnOf x x (FD st) (AX st) (AF st) .none kV doc pm an cdv ct),osl⟩)
    (c:PySem.W.codeIn K cdv x=true) (k:PySem.W.keepIn K (.ref f)=true):∃ f fd,Df K x st f fd:=⟨f,_,a,UU l c k⟩
theorem Pl (hw:How) {qual:Str} {st:Stmt} {f:Addr} {fd:FuncData} {N ps:List Str} {k:Nat} {mb:Sl->M (Fl × Sl)} (F:Fun K x qual st f fd) (S:Ac N ps (AF st))
    (body:∀ (cdv:Value) (A:Around) (outer:List Env) (s:Shared) (H:Hp) (E:XK),Room k (A.deeper (PyProof.Rows.envOfC qual (AF st) s.heap.objs.size f cdv))->RSs (Bb CX0 P w K mg base N qual (AF st) f cdv A outer s H E).nox (AX st) mb) :
    FnOk P w K mg base CX0 (k + 1) f fd ps (spM K ps.length (Ak hw N.length ps.length mb)):=
  Hv F S rfl body (fun ds μ d μ' h=>(Ed h).2)
def L4 (K:PySem.W.Frag):Sp:=fun vs H Q _=>∃ (a:Addr) (ns:List Int),vs=[.ref a] /\ ScrAt K H a (ns.map V.int) /\ ns.length <= 63 /\ ∀ H',Q (.bl true) H'
theorem TN {k:Nat} {f:Addr} {fd:FuncData} {φ:List D->M D} (F:FnOk P w K mg base CX0 k f fd ["_law_script"] (spM K 1 φ)) (hφ:∀ ns:List Int,ns.length <= 63->∃ μ',φ [.scr ns] []=some (.bl true,μ')):FnOk P w K mg base CX0 k f fd ["_law_script"] (L4 K):=
  F.imp fun vs H Q E q=>by
    obtain ⟨a,ns,rfl,s,hl,q⟩:=q
    obtain ⟨μ',e⟩:=hφ ns hl
    refine ⟨rfl,fun _=>a,[],[.scr ns],.bl true,μ',⟨fun i j h=>absurd h (Nat.not_lt_zero _),fun n o e=>by simp at e⟩,.one (by unfold Is; exact ⟨a,rfl,s⟩),e,fun ι2 H2 E2 R2 v i=>?_⟩
    unfold Is at i
    rw [i]
    exact q H2
theorem Jf {H:Hp} {a:Addr} {xs:List V} (o:SI H) (s:SqL K H a xs):ScrAt K H a xs:=by
  rcases s with z | z
  . rcases z with z | ⟨p,z⟩
    . rcases o a with q | ⟨p,ys,q⟩
      . rw [q] at z; cases z
      . rw [q] at z; cases z
    . exact .inl ⟨p,z⟩
  . exact .inr z
end
theorem Uy {l:PySem.W.OpenLaw} {q:Program} {loose:List Str} {XP:(Str->Option Value)->Heap->Prop} {YP:World->Heap->Prop} {d:DefRec} {K:Params->PySem.W.Frag} {k:Nat} (hn:l.most=some 63) (hdf:d.params.defaults=[]) (hk:k <= 60)
    (hY:∀ (w:World) (h:Heap),YP w h->(K w.params).In h)
    (F:∀ (w:World) (mg:Str->Option Value) (fa:Addr) (h:Heap),(K w.params).In h->h.Ns mainGlobals mg->mg d.name=some (.ref fa)->
      ∃ fd:FuncData,(∀ (s:Shared) (u:Value),BindsTo s fd ⟨[u],[]⟩ [("_law_script",u)]) /\ ∀ base:Heap,(K w.params).In base->base.Ns mainGlobals mg->FnOk l.prog w (K w.params) mg base CX0 k fa fd ["_law_script"] (L4 (K w.params))) :
    PySem.W.WalkO q loose XP YP l.row.toRowW d [] (fun f vs=>PySem.call f vs):=
  L2.Qs (n:=63) (k:=k) (x := "_law_script") (CX:=fun _=>CX0) (sp:=fun w=>L4 (K w.params)) hn (by decide) hdf (Room.mono (j:=k) (k:=60) ⟨rfl,by decide,by decide⟩ hk) hY F (fun _ _ a ns hl o hS=>⟨a,ns,rfl,Jf o hS,hl,fun _=>rfl⟩) fun _ _ _ _ _ z=>z
end Mi
namespace Mi
open PySem L2
theorem Uo {d:D} {μ μ':Mh} {ds:List D} (e:Bv d μ=some (ds,μ')):μ'=μ:=by
  cases d with
  | lst _=>cases e; rfl
  | scr _=>cases e; rfl
  | ref n=>
    have e:(match μ[n]? with | some (.lst ds)=>some (ds,μ) | _=>none)=some (ds,μ'):=e
    split at e
    . cases e; rfl
    . cases e
  | _=>cases e
section
variable {X:Cx} {scope:Scope} {tgs:List Str} {ix:List Nat} {e elt tg iter:Expr} {pos:Pos}
def WS:D->M (List D)
  | .ref n=>fun μ=>match μ[n]? with
    | some (.lst ds)=>some (ds,μ)
    | _=>none
  | _=>BD
def QQ (n:Nat):D->M D
  | .lst b=>fun μ=>match μ[n]? with
    | some (.lst a)=>Av (a ++ b) μ
    | _=>none
  | _=>BD
def K3 (a b:D):M D:=match a with
  | .ref n=>QQ n b
  | _=>MJ a b
theorem UG:OpR X (binaryOp .Add) (rM X.K K3):=fun pins s σ H x y v u Q I rx ry h=>by
  obtain ⟨ι,μ,a,b,d,μ',R,ia,ib,e,q⟩:=h
  cases a with
  | ref n=>
    cases b with
    | lst bs=>
      have e:(match μ[n]? with | some (.lst a)=>Av (a ++ bs) μ | _=>none)=some (d,μ'):=e
      split at e
      . rename_i as hn
        obtain ⟨w,hu,o⟩:=R.obj n _ hn
        obtain ⟨vs,rfl,iv⟩:=o
        unfold Is at ia ib
        obtain ⟨hk,rfl⟩:=ia
        obtain ⟨p',vs',rfl,h1',hn',h2'⟩:=ib
        obtain ⟨hl,w⟩:=BF R (iv.append h2') e q
        exact PK pins s σ H _ _ v u Q I rx ry ⟨_,p',vs,vs',rfl,rfl,hu,h1',by rw [← List.length_append]; exact hl,w⟩
      . cases e
    | _=>cases e
  | _=>exact SO pins s σ H _ _ v u Q I rx ry ⟨ι,μ,_,b,d,μ',R,ia,ib,e,q⟩
end
end Mi
namespace Mi
open PySem L2 PyProof.Rows
section
variable {X:Cx} {e a b c o:Expr} {es:List Expr} {pos apos cpos:Pos}
theorem PJ:OpR X (binaryOp .Add) (fun x y H Q=>∃ a b ys,x=.ref a /\ y=.ref b /\ SqT X.K H a [] /\ SqT X.K H b ys /\ Q (.ref b) H):=by
  intro pins s σ H x y v u Q I rx ry h
  obtain ⟨a,b,ys,rfl,rfl,ha,hb,q⟩:=h
  cases rx
  cases ry
  obtain ⟨its,r1,p1,_⟩:=I.tuple ha
  obtain ⟨its2,r2,p2,_⟩:=I.tuple hb
  cases r1
  obtain ⟨⟨cls,dd,data,sl⟩,ho,hc,n,hd⟩:=p1
  obtain ⟨⟨cls2,dd2,data2,sl2⟩,ho2,hc2,n2,hd2⟩:=p2
  simp only at hc hd hc2 hd2
  subst hc hd hc2 hd2
  exact concat_meets ⟨_,ho,rfl⟩ ⟨_,ho2,rfl⟩ noFill_tuple_add seq_tuple_add PySem.F.slot_tuple_add PySem.F.entry_tuple_add (PySem.F.args_tuple_add_2 _ _) (tuple_addW0 a b _ _ n n2 dd dd2 sl sl2 rfl) ⟨ho,ho2,⟨.ref b,H,I,rfl,q⟩⟩
def AU (a b:D):M D:=match a,b with
  | .tup [],.tup ds=>ret (.tup ds)
  | a,b=>MJ a b
theorem Aq:OpR X (binaryOp .Add) (rM X.K AU):=fun pins s σ H x y v u Q I rx ry h=>by
  obtain ⟨ι,μ,a,b,d,μ',R,ia,ib,e,q⟩:=h
  unfold AU at e
  split at e
  . rename_i ds
    cases e
    unfold Is at ia
    obtain ⟨p,vs,rfl,h1,h2⟩:=ia
    unfold IsL at h2
    subst h2
    have ib2:=ib
    unfold Is at ib
    obtain ⟨p',vs',rfl,h1',h2'⟩:=ib
    exact PJ pins s σ H _ _ v u Q I rx ry ⟨p,p',vs',rfl,rfl,h1,h1',q ι H R.ext0 R _ ib2⟩
  . exact SO pins s σ H x y v u Q I rx ry ⟨ι,μ,_,_,d,μ',R,ia,ib,e,q⟩
theorem HU {prog:Program} {w:World} {A:Around} {E:Value->Shared->Prop} {s:Shared} {t sl:Addr} {items:Array Value} {vl vu:Value} {lo hi:Option Int} {Q:Value->Shared->Prop} (ht:IsTup s.heap t items) (hs:s.heap.IsSliceOf sl vl vu .none) (pl:IsPart vl lo) (pu:IsPart vu hi)
    (h1:HT.sIx items.size 0 lo=0) (h2:HT.sIx items.size items.size hi=items.size) (h:Q (.ref t) s):wpAny (model prog w) A (getItem (.ref t) (.ref sl)) Q E s:=by
  obtain ⟨os,hos,hcs,hds⟩:=id hs
  have hTs:s.TypeIs (.ref sl) "slice" := ⟨os,hos,hcs⟩
  unfold getItem
  try with_reducible refine wpAny_holding ?_
  first | refine wpAny_bind (wpAny_pure ?_) | skip
  refine wpAny_bind (wpAny_sequenceKey ht.typeIs (by decide) ?_)
  refine wpAny_bind (wpAny_callSpecial?_slot (name:=Str.ofString "__getitem__") ht.typeIs PyProof.Rows.slot_tuple_getitem
    (wpAny_call_entry PyProof.Rows.slot_tuple_getitem ht.typeIs entry_tuple_getitem ?_ (args_tuple_getitem _ _)))
  show wpAny _ _ (Builtin.Tuple.tupleItemsOf (.ref t) >>= _) _ _ s
  refine wpAny_bind (tupleItemsOf_ ht ?_)
  refine wpAny_bind (wpAny_typeOf hTs ?_)
  rw [if_pos (by decide)]
  refine wpAny_bind (HT.C9 hs pl pu ?_)
  have hyes:((((HT.sIx items.size 0 lo:Nat):Int) == 0 && (1:Int) == 1 && (HT.sIx items.size items.size hi - HT.sIx items.size 0 lo) == items.size)=true):=by rw [h1,h2]; simp
  show wpAny _ _ (if (((HT.sIx items.size 0 lo:Nat):Int) == 0 && (1:Int) == 1 && (HT.sIx items.size items.size hi - HT.sIx items.size 0 lo) == items.size)=true then _ else _) _ _ s
  rw [if_pos hyes]
  refine wpAny_bind (m:=Builtin.Tuple.tupleIsExact (.ref t)) ?_
  unfold Builtin.Tuple.tupleIsExact
  refine wpAny_bind (wpAny_typeOf ht.typeIs (wpAny_pure ?_))
  rw [if_pos (by decide)]
  refine wpAny_bind (wpAny_rule ?_)
  exact wpAny_pure ⟨_,rfl,wpAny_pure h⟩
theorem Qy:SlR X (fun x lo hi H Q=>∃ a xs,x=.ref a /\ SqT X.K H a xs /\ HT.sIx xs.length 0 lo=0 /\ HT.sIx xs.length xs.length hi=xs.length /\ Q (.ref a) H):=by
  intro pins s σ H x v vl vu lo hi sl Q I rx hs pl pu h
  obtain ⟨a,xs,rfl,hx,h1,h2,q⟩:=h
  cases rx
  obtain ⟨its,r,ht,hz⟩:=I.tuple hx
  have hlen:its.toArray.size=xs.length:=by rw [List.size_toArray]; exact r.length.symm
  refine ⟨"tuple",_,PyProof.Rows.slot_tuple_getitem.lookup,ht.typeIs,?_⟩
  exact HU ht hs pl pu (by rw [hlen]; exact h1) (by rw [hlen]; exact h2) ⟨.ref a,H,I,rfl,q⟩
theorem P9 {ds:List D} {lo hi:Option Int} (h1:HT.sIx ds.length 0 lo=0) (h2:HT.sIx ds.length ds.length hi=ds.length):Cw ds lo hi=ds:=by
  unfold Cw
  rw [h1,h2]; simp
def Js (lo hi:Option Int):D->M D
  | .tup ds=>ret (.tup (Cw ds lo hi))
  | d=>bnd (Bv d) fun ds=>ret (.lst (Cw ds lo hi))
def V9 (K:PySem.W.Frag):V->Option Int->Option Int->Hp->VK->Prop:=fun x lo hi H Q=>∃ ι μ a d μ',RelH K ι μ H /\ Is K ι μ.length H a x /\ Js lo hi a μ=some (d,μ') /\
  Aft K ι μ H μ' fun ι' H'=>∀ v,Is K ι' μ'.length H' d v->Q v H'
theorem VX:SlR X (V9 X.K):=fun pins s σ H x v vl vu lo hi sl Q I rx hs pl pu h=>by
  obtain ⟨ι,μ,a,d,μ',R,ia,e,q⟩:=h
  by_cases c:∃ ds,a=.tup ds /\ HT.sIx ds.length 0 lo=0 /\ HT.sIx ds.length ds.length hi=ds.length
  . obtain ⟨ds,rfl,h1,h2⟩:=c
    have e:some (D.tup (Cw ds lo hi),μ)=some (d,μ'):=e
    rw [P9 h1 h2] at e
    cases e
    have ia2:=ia
    unfold Is at ia
    obtain ⟨p,vs,rfl,g1,g2⟩:=ia
    exact Qy pins s σ H _ v vl vu lo hi sl Q I rx hs pl pu ⟨p,vs,rfl,g1,by rw [g2.length]; exact h1,by rw [g2.length]; exact h2,q ι H R.ext0 R _ ia2⟩
  . refine WC pins s σ H x v vl vu lo hi sl Q I rx hs pl pu ⟨ι,μ,a,d,μ',R,ia,?_,q⟩
    cases a with
    | tup ds=>
      show (if HT.sIx ds.length 0 lo=0 /\ HT.sIx ds.length ds.length hi=ds.length then (BD:M D) else ret (D.tup (Cw ds lo hi))) μ=_
      rw [if_neg (fun z=>c ⟨ds,rfl,z.1,z.2⟩)]; exact e
    | _=>exact e
def DZ (me:Sl->M D) (ml mh:Sl->M (Option Int)):Sl->M D:=fun τ=>bnd (me τ) fun x=>bnd (ml τ) fun l=>bnd (mh τ) fun h=>Js l h x
theorem DX {e:Expr} {lo hi:Option Expr} {me:Sl->M D} {ml mh:Sl->M (Option Int)} {pos p2:Pos} (he:RE X e me) (hl:RO X lo ml) (hh:RO X hi mh):RE X (.Subscript e (.Slice lo hi none p2) pos) (DZ me ml mh):=RE.wk (O5 VX he.pe hl.pe hh.pe) fun σ H Q h=>by
  obtain ⟨ι,μ,τ,z,μ',R,S,e,q⟩:=h
  obtain ⟨x,μ1,e1,e⟩:=AI e
  obtain ⟨l,μ2,e2,e⟩:=AI e
  obtain ⟨u,μ3,e3,e⟩:=AI e
  refine ⟨ι,μ,τ,x,μ1,R,S,e1,fun ι1 H1 E1 R1 v i1=>⟨ι1,μ1,τ,l,μ2,R1,S.ext E1,e2,fun ι2 H2 E2 R2=>⟨ι2,μ2,τ,u,μ3,R2,S.ext (E1.trans E2),e3,fun ι3 H3 E3 R3=>?_⟩⟩⟩
  have E23:=E2.trans E3
  exact ⟨ι3,μ3,x,z,μ',R3,i1.ext E23,e,fun ι4 H4 E4 R4=>q ι4 H4 ((E1.trans E23).trans E4) R4⟩
end
end Mi
namespace Mi
open PySem L2
open PyProof.Rows hiding St
section
variable {X:Cx} {e a b c o tg iter elt:Expr} {es:List Expr} {pos apos cpos:Pos} {scope:Scope} {tgs:List Str} {ix:List Nat}
def Pb:List D->M D
  | [d]=>bnd (BL d) Eu
  | _=>BD
theorem Ua:BO X (.type "list") (rMA X.K Pb):=fun pins s σ H xs us Q I r h=>by
  obtain ⟨ι,μ,as,d,μ',R,ia,e,q⟩:=h
  unfold Pb at e
  split at e
  . rename_i y
    obtain ⟨ds,μ1,e1,e2⟩:=AI e
    obtain ⟨v,rfl,i1⟩:=FT ia
    obtain ⟨hm,p,vs,rfl,h1,h2⟩:=CH R i1 e1
    subst hm
    obtain ⟨hl,w⟩:=MR R h2 e2 q
    exact JG pins s σ H _ us Q I r ⟨p,vs,rfl,h1,w⟩
  . cases e
def EB (g:D->List D->M D) (mo:Sl->M D):Sl->M D:=fun τ=>bnd (mo τ) fun x=>bnd (Db x) fun _=>g x []
theorem ND {K:PySem.W.Frag} {g:D->List D->M D} {mo:Sl->M D} {σ:St} {H:Hp} {Q:VK} (h:tE K (EB g mo) σ H Q):VA K "list" (rMM K g) (tE K mo) σ H Q:=by
  obtain ⟨ι,μ,τ,d,μ',R,S,e,q⟩:=h
  obtain ⟨x,μ1,e1,ee1⟩:=AI e
  obtain ⟨u,μ2,e2,ee2⟩:=AI ee1
  have hm:=Hm e2
  subst hm
  refine ⟨ι,μ,τ,x,_,R,S,e1,fun ι1 H1 E1 R1 v1 i1=>⟨(Fp R1 i1 e2).2,?_⟩⟩
  exact ⟨ι1,_,x,[],d,μ',R1,i1,IsL.nil,ee2,fun ι3 H3 E3 R3=>q ι3 H3 (E1.trans E3) R3⟩
theorem NT {name:Str} {id:String} {g:D->List D->M D} {mo:Sl->M D} (slot:Slot "list" name id) (hty:typeOf (.builtin id)=pure (.type "method_descriptor")) (hm:MtR X id (rMM X.K g)) (ho:RE X o mo)
    (hbase:attributeBase o name X.env (eval o X.env)=eval o X.env:=by rfl) (hline:(apos.endLine == cpos.line)=true:=by rfl) :
    RE X (.Call (.Attribute o name apos) [] [] cpos) (EB g mo):=RE.wk (T0 PySem.F.plainAttrs_list slot hty hm ho.pe hbase hline) fun _ _ _ h=>ND h
end
end Mi
namespace Mi
open PySem L2
open PyProof.Rows hiding St
section
variable {X:Cx} {e a b c o:Expr} {es:List Expr} {pos apos cpos:Pos}
def WT:List Int->Int
  | []=>0
  | i :: r=>r.foldl max i
def Hk:List D->Option (List Int)
  | []=>some []
  | .int i :: ds=>(Hk ds).map (i :: ·)
  | _=>none
theorem J9 {K:PySem.W.Frag} {ι:Nat->Addr} {k:Nat} {H:Hp}:∀ {ds:List D} {vs:List V} {ns:List Int},IsL K ι k H ds vs->Hk ds=some ns->vs=ns.map V.int
  | [],_,_,h,e=>by cases e; unfold IsL at h; exact h
  | .int b :: ds,_,_,h,e=>by
    unfold IsL at h
    obtain ⟨v,vs',rfl,h1,h2⟩:=h
    unfold Hk at e
    cases q:Hk ds with
    | none=>rw [q] at e; cases e
    | some bs=>
      rw [q] at e; cases e
      unfold Is at h1
      rw [h1,J9 h2 q]; rfl
  | .non :: _,_,_,_,e=>by cases e
  | .bl _ :: _,_,_,_,e=>by cases e
  | .str _ :: _,_,_,_,e=>by cases e
  | .ty _ :: _,_,_,_,e=>by cases e
  | .scr _ :: _,_,_,_,e=>by cases e
  | .tup _ :: _,_,_,_,e=>by cases e
  | .lst _ :: _,_,_,_,e=>by cases e
  | .ref _ :: _,_,_,_,e=>by cases e
end
end Mi
namespace Mi
open PySem L2
open PyProof.Rows hiding St
section
variable {X:Cx} {e a b c o:Expr} {es:List Expr} {pos apos cpos:Pos}
end
end Mi
namespace Mi
open PySem L2
end Mi
local macro_rules | `(tactic| wtm_at "own qpu")=>`(tactic| repeat first | exact Mi.pu_slot | exact Mi.pu_c | exact Mi.pu_true | exact Mi.pu_ix | exact Mi.pu_eqB | exact Mi.pu_nil | exact Mi.pu_inst | exact Mi.pu_len | apply Mi.pu_test | apply Mi.pu_op | apply Mi.pu_cons | apply Mi.pu_disp | apply Mi.pu_or | apply Mi.pu_and | apply Mi.pu_not)
namespace Ht
open PySem PySem.SetTable
abbrev Ris (l:List Nat):Prop:=l.Pairwise (· < ·)
theorem Kw {xs:Array Nat} (r:Ris xs.toList) {i k:Nat} (hk:k < xs.size) (h:i < k):xs[i]'(Nat.lt_trans h hk) < xs[k]:=by
  have:=List.pairwise_iff_getElem.mp r i k (by simpa using Nat.lt_trans h hk) (by simpa using hk) h
  simpa using this
theorem Oj {xs:Array Nat} (r:Ris xs.toList) {i k:Nat} (hk:k < xs.size) (h:i <= k):xs[i]'(Nat.lt_of_le_of_lt h hk) <= xs[k]:=by
  rcases Nat.lt_or_eq_of_le h with z | z
  . exact Nat.le_of_lt (Kw r hk z)
  . subst z; exact Nat.le_refl _
structure Bel (xs:Array Nat) (j b:Nat):Prop where
  le:b <= xs.size
  lo:∀ i (h:i < xs.size),i < b->xs[i] < j
  hi:∀ i (h:i < xs.size),b <= i->j <= xs[i]
theorem HA {xs:Array Nat} {j:Nat} (r:Ris xs.toList):∀ Aj lo hi,lo <= hi->hi <= xs.size->hi - lo <= Aj->(∀ i (h:i < xs.size),i < lo->xs[i] < j)->(∀ i (h:i < xs.size),hi <= i->j <= xs[i])->Bel xs j (below.go xs j Aj lo hi)
  | 0,lo,hi,h1,h2,h3,h4,h5=>by
    have:lo=hi:=by omega
    subst this
    exact ⟨h2,h4,h5⟩
  | Aj + 1,lo,hi,h1,h2,h3,h4,h5=>by
    unfold below.go
    by_cases z:lo < hi
    . rw [if_pos z]
      have hm:(lo + hi) / 2 < hi:=by omega
      have hm2:lo <= (lo + hi) / 2:=by omega
      have hs:(lo + hi) / 2 < xs.size:=by omega
      have e:xs.getD ((lo + hi) / 2) j=xs[(lo + hi) / 2]:=by simp [Array.getD,hs]
      dsimp only
      rw [e]
      by_cases q:xs[(lo + hi) / 2] < j
      . rw [if_pos q]
        exact HA r Aj _ hi (by omega) h2 (by omega) (fun i h hi'=>Nat.lt_of_le_of_lt (Oj r hs (by omega)) q) h5
      . rw [if_neg q]
        exact HA r Aj lo _ hm2 (by omega) (by omega) h4 (fun i h hi'=>Nat.le_trans (Nat.le_of_not_lt q) (Oj r h hi'))
    . rw [if_neg z]
      have:lo=hi:=by omega
      subst this
      exact ⟨h2,h4,h5⟩
theorem Dg {xs:Array Nat} (r:Ris xs.toList) (j:Nat):Bel xs j (below xs j):=
  HA r _ 0 _ (Nat.zero_le _) (Nat.le_refl _) (by omega) (fun i _ h=>absurd h (by omega)) (fun i h h2=>absurd h2 (by omega))
theorem QJ {xs:Array Nat} (r:Ris xs.toList) {k:Nat} (hk:k < xs.size):below xs xs[k]=k:=by
  have b:=Dg r xs[k]
  rcases Nat.lt_trichotomy (below xs xs[k]) k with z | z | z
  . have h1:=b.hi _ (Nat.lt_trans z hk) (Nat.le_refl _)
    have h2:=Kw r hk z
    omega
  . exact z
  . have:=b.lo k hk z
    omega
theorem Lb {xs:Array Nat} (r:Ris xs.toList) {k:Nat} (hk:k < xs.size):below xs (xs[k] + 1)=k + 1:=by
  have b:=Dg r (xs[k] + 1)
  rcases Nat.lt_trichotomy (below xs (xs[k] + 1)) (k + 1) with z | z | z
  . have h1:=b.hi k hk (by omega)
    omega
  . exact z
  . have h1:=b.lo (k + 1) (by have:=b.le; omega) z
    have h2:=Kw r (k:=k + 1) (i:=k) (by have:=b.le; omega) (by omega)
    omega
theorem La {xs:Array Nat} (r:Ris xs.toList):below xs 0=0:=by
  have b:=Dg r 0
  rcases Nat.eq_zero_or_pos (below xs 0) with z | z
  . exact z
  . have:=b.lo 0 (by have:=b.le; omega) z
    omega
theorem GL {t:SetTable} (r:Ris t.place.toList) {j:Nat} (h:j ∈ t.place.toList):∃ i,t.slot j=.live i:=by
  obtain ⟨k,hk,e⟩:=List.getElem_of_mem h
  have hk':k < t.place.size:=by simpa using hk
  have e':t.place[k]=j:=by simpa using e
  refine ⟨k,?_⟩
  unfold slot
  have b:below t.place j=k:=by rw [← e']; exact QJ r hk'
  dsimp only
  rw [b,if_pos (by simp [hk',e'])]
theorem Bq {t:SetTable} (d:t.dummies = #[]) (j:Nat):t.slot j ≠ .dummy:=by
  unfold slot
  dsimp only
  split
  . exact fun h=>by cases h
  . rw [d]
    have:has (#[]:Array Nat) j=false:=by unfold has; simp
    rw [this]
    exact fun h=>by cases h
theorem Ha {t:SetTable} {i j:Nat} (h:t.slot j=.live i):j ∈ t.place.toList:=by
  unfold slot at h
  dsimp only at h
  split at h
  . rename_i e
    have e':t.place[below t.place j]? = some j:=by simpa using e
    obtain ⟨hk,e2⟩:=Array.getElem?_eq_some_iff.mp e'
    rw [← e2]
    simp
  . split at h <;> cases h
theorem Ia {xs:Array Nat} (r:Ris xs.toList) {j:Nat} (h:j ∉ xs.toList):Ris (insertAt xs (below xs j) j).toList:=by
  have b:=Dg r j
  rw [toList_insertAt]
  refine List.pairwise_append.mpr ⟨List.Pairwise.sublist (List.take_sublist _ _) r,List.pairwise_cons.mpr ⟨fun y hy=>?_,List.Pairwise.sublist (List.drop_sublist _ _) r⟩,fun x hx y hy=>?_⟩
  . obtain ⟨i,hi,e⟩:=List.getElem_of_mem hy
    rw [List.getElem_drop] at e
    have hs:below xs j + i < xs.size:=by simp at hi; omega
    have:=b.hi _ hs (Nat.le_add_right _ _)
    have e2:xs[below xs j + i]=y:=by simpa using e
    have hne:y ≠ j:=fun z=>h (by rw [← z]; exact List.mem_of_mem_drop hy)
    omega
  . have hxj:x < j:=by
      obtain ⟨i,hi,e⟩:=List.getElem_of_mem hx
      rw [List.getElem_take] at e
      have hi2:i < below xs j /\ i < xs.size:=by
        have:i < min (below xs j) xs.size:=by simpa using hi
        omega
      have e2:xs[i]'hi2.2=x:=by simpa using e
      have:=b.lo _ hi2.2 hi2.1
      omega
    rcases List.mem_cons.mp hy with z | z
    . rw [z]; exact hxj
    . obtain ⟨i,hi,e⟩:=List.getElem_of_mem z
      rw [List.getElem_drop] at e
      have hs:below xs j + i < xs.size:=by simp at hi; omega
      have:=b.hi _ hs (Nat.le_add_right _ _)
      have e2:xs[below xs j + i]=y:=by simpa using e
      omega
def lp (mask:Nat):Nat->Nat × Nat->Nat × Nat
  | 0,x=>x
  | n + 1,x=>lp mask n (leap mask x.1 x.2)
theorem Gd (mask:Nat):∀ (a b:Nat) (x:Nat × Nat),lp mask (a + b) x=lp mask b (lp mask a x)
  | 0,b,x=>by rw [Nat.zero_add]; rfl
  | a + 1,b,x=>by
    rw [show a + 1 + b=(a + b) + 1 from by omega]
    exact Gd mask a b _
theorem LE (mask:Nat):∀ (n:Nat) (x:Nat × Nat),(lp mask n x).2=x.2 / 32 ^ n
  | 0,x=>by simp [lp]
  | n + 1,x=>by
    show (lp mask n (leap mask x.1 x.2)).2=_
    rw [LE mask n]
    show x.2 / 32 / 32 ^ n=_
    rw [Nat.div_div_eq_div_mul,Nat.pow_succ,Nat.mul_comm]
theorem SR (mask:Nat):∀ (n:Nat) (x:Nat × Nat),x.1 < mask + 1->(lp mask n x).1 < mask + 1
  | 0,x,h=>h
  | n + 1,x,h=>SR mask n _ (Nat.mod_lt _ (by omega))
theorem Tf:∀ i,i < 8->∀ j,j < 8->∃ n,n < 8 /\ (lp 7 n (i,0)).1=j:=by decide +kernel
theorem Q4:∀ i,i < 16->∀ j,j < 16->∃ n,n < 16 /\ (lp 15 n (i,0)).1=j:=by decide +kernel
theorem Q3:∀ i,i < 32->∀ j,j < 32->∃ n,n < 32 /\ (lp 31 n (i,0)).1=j:=by decide +kernel
theorem PH:∀ j,j < 128->∃ n,n < 128 /\ (lp 127 n (0,0)).1=j:=by decide +kernel
theorem K7:lp 127 128 (0,0)=(0,0):=by decide +kernel
theorem Og (i:Nat) (hi:i < 128) (j:Nat) (hj:j < 128):∃ n,n < 128 /\ (lp 127 n (i,0)).1=j:=by
  obtain ⟨a,ha,ea⟩:=PH i hi
  obtain ⟨b,hb,eb⟩:=PH j hj
  have z:∀ n,(lp 127 n (0,0)).2=0:=fun n=>by rw [LE]; exact Nat.zero_div _
  have ia:(i,0)=lp 127 a (0,0):=by rw [← ea]; exact Prod.ext rfl (z a).symm
  by_cases h:a <= b
  . refine ⟨b - a,by omega,?_⟩
    rw [ia,← Gd,show a + (b - a)=b by omega]
    exact eb
  . refine ⟨b + 128 - a,by omega,?_⟩
    rw [ia,← Gd,show a + (b + 128 - a)=128 + b by omega,Gd,K7]
    exact eb
abbrev Sm (mask:Nat):Prop:=mask=7 ∨ mask=15 ∨ mask=31 ∨ mask=127
theorem Sg {mask:Nat} (hm:Sm mask) {i p:Nat} (hi:i < mask + 1) (hp:p < 2 ^ 64) {j:Nat} (hj:j < mask + 1):∃ n,n < turns mask /\ (lp mask n (i,p)).1=j:=by
  have h0:(lp mask 13 (i,p)).2=0:=by
    rw [LE]
    exact Nat.div_eq_of_lt (Nat.lt_trans hp (by decide))
  have h1:=SR mask 13 (i,p) hi
  have e:lp mask 13 (i,p)=((lp mask 13 (i,p)).1,0):=by rw [← h0]
  have:∃ n,n < mask + 1 /\ (lp mask n ((lp mask 13 (i,p)).1,0)).1=j:=by
    rcases hm with z | z | z | z <;> subst z
    . exact Tf _ h1 j hj
    . exact Q4 _ h1 j hj
    . exact Q3 _ h1 j hj
    . exact Og _ h1 j hj
  obtain ⟨n,h2,h3⟩:=this
  refine ⟨13 + n,by unfold turns; omega,?_⟩
  rw [Gd,e]
  exact h3
theorem Mu (h:Int):bits h < 2 ^ 64:=by
  unfold bits
  have h1:=Int.emod_nonneg h (show (2 ^ 64:Int) ≠ 0 by decide)
  have h2:=Int.emod_lt_of_pos h (show (0:Int) < 2 ^ 64 by decide)
  omega
abbrev start (t:SetTable) (i pt:Nat):Probe:={ j:=i,more:=runEnd t.mask i - i,i:=i,perturb:=pt,dummy:=none }
theorem He {t:SetTable} (d:t.dummies = #[]) {f:Nat->Int} {h:Int} (hf:∀ i,f i ≠ h):∀ (Aj:Nat) (p:Probe) (m:Met),p.dummy=none->probe.go t f h Aj p=some m->∃ j,m=.empty j none /\ t.slot j=.empty
  | 0,p,m,hp,e=>by cases e
  | Aj + 1,p,m,hp,e=>by
    unfold probe.go at e
    have hadv:(t.advance p).dummy=none:=by
      unfold advance
      split
      . exact hp
      . exact hp
    split at e
    . rename_i q
      cases e
      exact ⟨p.j,by rw [hp],q⟩
    . rename_i q
      exact absurd q (Bq d _)
    . rename_i i q
      rw [if_neg (by simpa using hf i)] at e
      exact He d hf Aj _ m hadv e
theorem Jj {t:SetTable} (d:t.dummies = #[]) {f:Nat->Int} {h:Int} (hf:∀ i,f i ≠ h):∀ (more Aj j i pt:Nat),probe.go t f h (Aj + more + 1) { j:=j,more:=more,i:=i,perturb:=pt,dummy:=none }=none->
    t.slot j ≠ .empty /\ probe.go t f h Aj (start t (leap t.mask i pt).1 (leap t.mask i pt).2)=none
  | 0,Aj,j,i,pt,e=>by
    unfold probe.go at e
    split at e
    . cases e
    . rename_i q
      exact absurd q (Bq d _)
    . rename_i k q
      rw [if_neg (by simpa using hf k)] at e
      have q':t.slot j=.live k:=q
      refine ⟨by rw [q']; exact fun z=>(by cases z),?_⟩
      have:t.advance { j:=j,more:=0,i:=i,perturb:=pt,dummy:=none }=start t (leap t.mask i pt).1 (leap t.mask i pt).2:=rfl
      rw [this] at e
      exact e
  | more + 1,Aj,j,i,pt,e=>by
    rw [show Aj + (more + 1) + 1=(Aj + more + 1) + 1 from by omega] at e
    unfold probe.go at e
    split at e
    . cases e
    . rename_i q
      exact absurd q (Bq d _)
    . rename_i k q
      rw [if_neg (by simpa using hf k)] at e
      have q':t.slot j=.live k:=q
      refine ⟨by rw [q']; exact fun z=>(by cases z),?_⟩
      have:t.advance { j:=j,more:=more + 1,i:=i,perturb:=pt,dummy:=none }={ j:=j + 1,more:=more,i:=i,perturb:=pt,dummy:=none }:=by
        unfold advance
        rw [if_pos (by simp)]
        rfl
      rw [this] at e
      exact (Jj d hf more Aj (j + 1) i pt e).2
theorem Hb {t:SetTable} (d:t.dummies = #[]) {f:Nat->Int} {h:Int} (hf:∀ i,f i ≠ h):∀ (m Aj i pt:Nat),10 * m <= Aj->probe.go t f h Aj (start t i pt)=none->∀ n,n < m->t.slot (lp t.mask n (i,pt)).1 ≠ .empty
  | 0,_,_,_,_,_,n,hn=>absurd hn (by omega)
  | m + 1,Aj,i,pt,hl,e,n,hn=>by
    have hr:runEnd t.mask i - i <= 9:=by unfold runEnd; split <;> omega
    have ef:Aj=(Aj - (runEnd t.mask i - i) - 1) + (runEnd t.mask i - i) + 1:=by omega
    rw [ef] at e
    obtain ⟨h1,h2⟩:=Jj d hf _ _ _ _ _ e
    cases n with
    | zero=>exact h1
    | succ n=>exact Hb d hf m _ _ _ (by omega) h2 n (by omega)
theorem J4 {α:Type} [DecidableEq α]:∀ {l r:List α},l.Nodup->(∀ x ∈ l,x ∈ r)->l.length <= r.length
  | [],_,_,_=>Nat.zero_le _
  | a :: l,r,hn,hs=>by
    obtain ⟨h1,h2⟩:=List.nodup_cons.mp hn
    have ha:=hs a (List.mem_cons_self ..)
    have:=J4 (r:=r.erase a) h2 fun x hx=>(List.mem_erase_of_ne (fun z=>h1 (by rw [← z]; exact hx))).mpr (hs x (List.mem_cons_of_mem _ hx))
    rw [List.length_erase_of_mem ha] at this
    have hp:=List.length_pos_of_mem ha
    simp only [List.length_cons]
    omega
theorem NQ {l:List Nat} (r:Ris l):l.Nodup:=r.imp fun h=>Nat.ne_of_lt h
theorem Mj {t:SetTable} (d:t.dummies = #[]) (hm:Sm t.mask) (r:Ris t.place.toList) (hs:t.place.size <= t.mask) (h:Int):∃ j,t.freeSlot h=some (j,false) /\ t.slot j=.empty:=by
  have hf:∀ i:Nat,(fun _:Nat=>h + 1) i ≠ h:=fun i=>by show h + 1 ≠ h; omega
  unfold freeSlot
  cases e:t.probe (fun _=>h + 1) h (t.probeStart h) with
  | some m=>
    obtain ⟨j,rfl,q⟩:=He d hf _ _ m rfl e
    exact ⟨j,rfl,q⟩
  | none=>
    exfalso
    have e':probe.go t (fun _=>h + 1) h (10 * turns t.mask) (start t (bits h % (t.mask + 1)) (bits h))=none:=e
    have hv:=Hb d hf (turns t.mask) _ _ _ (Nat.le_refl _) e'
    have all:∀ j ∈ List.range (t.mask + 1),j ∈ t.place.toList:=fun j hj=>by
      obtain ⟨n,h1,h2⟩:=Sg hm (i:=bits h % (t.mask + 1)) (p:=bits h) (Nat.mod_lt _ (by omega)) (Mu h) (List.mem_range.mp hj)
      have h3:=hv n h1
      rw [h2] at h3
      cases q:t.slot j with
      | empty=>exact absurd q h3
      | dummy=>exact absurd q (Bq d _)
      | live i=>exact Ha q
    have:=J4 List.nodup_range all
    simp at this
    omega
end Ht
namespace Ht
open PySem PySem.SetTable
theorem Gu {α β:Type} {f g:α->Option β}:∀ {l:List α},(∀ x ∈ l,f x=g x)->l.filterMap f=l.filterMap g
  | [],_=>rfl
  | a :: l,h=>by
    have h1:=h a (List.mem_cons_self ..)
    have h2:=Gu (l:=l) fun x hx=>h x (List.mem_cons_of_mem _ hx)
    cases q:g a with
    | none=>rw [List.filterMap_cons_none (h1.trans q),List.filterMap_cons_none q,h2]
    | some b=>rw [List.filterMap_cons_some (h1.trans q),List.filterMap_cons_some q,h2]
theorem Po {β:Type} {f g:Nat->Option β} {j:Nat} {b:β} (hj:f j=none) (hg:g j=some b) (ho:∀ i,i ≠ j->g i=f i):∀ {l:List Nat},l.Nodup->j ∈ l->(l.filterMap g).Perm (b :: l.filterMap f)
  | [],_,h=>by cases h
  | a :: l,hn,h=>by
    obtain ⟨h1,h2⟩:=List.nodup_cons.mp hn
    by_cases e:a=j
    . subst e
      have same:l.filterMap g=l.filterMap f:=Gu fun i hi=>ho i fun z=>h1 (by rw [← z]; exact hi)
      rw [List.filterMap_cons_some hg,List.filterMap_cons_none hj,same]
    . have hl:j ∈ l:=(List.mem_cons.mp h).resolve_left fun z=>e z.symm
      have ih:=Po hj hg ho h2 hl
      cases q:f a with
      | none=>rw [List.filterMap_cons_none ((ho a e).trans q),List.filterMap_cons_none q]; exact ih
      | some c=>
        rw [List.filterMap_cons_some ((ho a e).trans q),List.filterMap_cons_some q]
        exact (ih.cons c).trans (List.Perm.swap b c _)
theorem Gs {mask:Nat} {owner:Array (Option Nat)}:∀ (Aj i pt j:Nat),layClean.free mask owner Aj i pt=some j->owner.getD j (some 0)=none
  | 0,_,_,_,e=>by cases e
  | Aj + 1,i,pt,j,e=>by
    unfold layClean.free at e
    split at e
    . rename_i k q
      cases e
      have:=List.find?_some q
      simpa using this
    . exact Gs Aj _ _ j e
theorem Hr {mask:Nat} {owner:Array (Option Nat)}:∀ (m i pt:Nat),layClean.free mask owner m i pt=none->∀ n,n < m->owner.getD (lp mask n (i,pt)).1 (some 0) ≠ none
  | 0,_,_,_,n,hn=>absurd hn (by omega)
  | m + 1,i,pt,e,n,hn=>by
    unfold layClean.free at e
    split at e
    . cases e
    . rename_i q
      cases n with
      | zero=>
        have hr:i <= runEnd mask i:=by unfold runEnd; split <;> omega
        have:=List.find?_eq_none.mp q 0 (List.mem_range.mpr (by omega))
        intro z
        apply this
        show (owner.getD (i + 0) (some 0)).isNone=true
        rw [Nat.add_zero]
        have z':owner.getD i (some 0)=none:=z
        rw [z']; rfl
      | succ n=>exact Hr m _ _ e n (by omega)
abbrev own (mask:Nat) (owner:Array (Option Nat)):List Nat:=(List.range (mask + 1)).filterMap fun j=>owner.getD j none
theorem Hn {owner:Array (Option Nat)} {j:Nat} (h:owner.getD j (some 0)=none):j < owner.size /\ owner.getD j none=none:=by
  unfold Array.getD at h ⊢
  split at h
  . rename_i q
    exact ⟨q,by rw [dif_pos q]; exact h⟩
  . cases h
theorem Ho {owner:Array (Option Nat)} {j:Nat} (hj:j < owner.size) (h:owner.getD j (some 0) ≠ none):∃ k,owner.getD j none=some k:=by
  unfold Array.getD at h ⊢
  rw [dif_pos hj] at h ⊢
  cases e:owner[j] with
  | none=>exact absurd e h
  | some k=>exact ⟨k,e⟩
theorem Ry {mask:Nat} (hm:Sm mask) {owner:Array (Option Nat)} (hs:owner.size=mask + 1) {k:Nat} (hp:(own mask owner).Perm (List.range k)) (hk:k <= mask) (h:Int) :
    ∃ j,layClean.free mask owner (turns mask) (bits h % (mask + 1)) (bits h)=some j:=by
  cases e:layClean.free mask owner (turns mask) (bits h % (mask + 1)) (bits h) with
  | some j=>exact ⟨j,rfl⟩
  | none=>
    exfalso
    have hv:=Hr _ _ _ e
    have len:∀ l:List Nat,(∀ j ∈ l,j < mask + 1)->(l.filterMap fun j=>owner.getD j none).length=l.length:=by
      intro l
      induction l with
      | nil=>intro _; rfl
      | cons a l ih=>
        intro ha
        obtain ⟨n,h1,h2⟩:=Sg hm (i:=bits h % (mask + 1)) (p:=bits h) (Nat.mod_lt _ (by omega)) (Mu h) (ha a (List.mem_cons_self ..))
        have h3:=hv n h1
        rw [h2] at h3
        obtain ⟨c,hc⟩:=Ho (by rw [hs]; exact ha a (List.mem_cons_self ..)) h3
        rw [List.filterMap_cons_some (f:=fun j=>owner.getD j none) hc,List.length_cons,ih fun j hj=>ha j (List.mem_cons_of_mem _ hj),List.length_cons]
    have h1:=len (List.range (mask + 1)) fun j hj=>List.mem_range.mp hj
    have h2:=hp.length_eq
    simp only [List.length_range] at h1 h2
    have h3:(own mask owner).length=mask + 1:=h1
    omega
def Cy (mask:Nat) (acc:Option (Array (Option Nat) × Nat)) (h:Int):Option (Array (Option Nat) × Nat):=do
  let (owner,k) ← acc
  let j ← layClean.free mask owner (turns mask) (bits h % (mask + 1)) (bits h)
  pure (owner.setIfInBounds j (some k),k + 1)
theorem KO {mask:Nat} (hm:Sm mask):∀ (l:List Int) (owner:Array (Option Nat)) (k:Nat),owner.size=mask + 1->(own mask owner).Perm (List.range k)->k + l.length <= mask->
    ∃ owner',l.foldl (Cy mask) (some (owner,k))=some (owner',k + l.length) /\ owner'.size=mask + 1 /\ (own mask owner').Perm (List.range (k + l.length))
  | [],owner,k,hs,hp,_=>⟨owner,rfl,hs,hp⟩
  | h :: l,owner,k,hs,hp,hk=>by
    obtain ⟨j,e⟩:=Ry hm hs hp (by omega) h
    obtain ⟨hj,hn⟩:=Hn (Gs _ _ _ _ e)
    have st:Cy mask (some (owner,k)) h=some (owner.setIfInBounds j (some k),k + 1):=by
      show ((layClean.free mask owner (turns mask) (bits h % (mask + 1)) (bits h)).bind fun j=>some (owner.setIfInBounds j (some k),k + 1))=_
      rw [e]; rfl
    have hp':(own mask (owner.setIfInBounds j (some k))).Perm (List.range (k + 1)):=by
      have:=Po (f:=fun j=>owner.getD j none) (g:=fun i=>(owner.setIfInBounds j (some k)).getD i none) (b:=k) hn (by simp [Array.getD,hj]) (fun i hi=>by
        simp only [Array.getD,Array.size_setIfInBounds]
        split
        . rename_i hi2
          show (owner.setIfInBounds j (some k))[i]'(by rw [Array.size_setIfInBounds]; exact hi2)=owner[i]
          rw [Array.getElem_setIfInBounds_ne]; exact hi.symm
        . rfl) (List.nodup_range (n:=mask + 1)) (List.mem_range.mpr (by omega))
      refine this.trans ((hp.cons k).trans ?_)
      rw [List.range_succ]
      exact (List.perm_append_singleton k (List.range k)).symm
    obtain ⟨owner',e1,e2,e3⟩:=KO hm l (owner.setIfInBounds j (some k)) (k + 1) (by rw [Array.size_setIfInBounds]; exact hs) hp' (by simp at hk; omega)
    refine ⟨owner',?_,e2,?_⟩
    . rw [List.foldl_cons,st,e1]
      simp only [List.length_cons]
      rw [show k + 1 + l.length=k + (l.length + 1) from by omega]
    . rw [show k + (h :: l).length=k + 1 + l.length from by simp only [List.length_cons]; omega]
      exact e3
theorem QE {mask:Nat} (hm:Sm mask) (hashes:Array Int) (hk:hashes.size <= mask):∃ owner,layClean mask hashes=some owner /\ owner.size=mask + 1 /\ (own mask owner).Perm (List.range hashes.size):=by
  have h0:(own mask (Array.replicate (mask + 1) none)).Perm (List.range 0):=by
    have:own mask (Array.replicate (mask + 1) none)=[]:=by
      unfold own
      rw [List.filterMap_eq_nil_iff]
      intro j hj
      have:=List.mem_range.mp hj
      simp [Array.getD,this]
    rw [this]
    exact List.Perm.refl _
  obtain ⟨owner,e1,e2,e3⟩:=KO hm hashes.toList (Array.replicate (mask + 1) none) 0 (by simp) h0 (by simpa using hk)
  simp only [Nat.zero_add,Array.length_toList] at e1 e3
  refine ⟨owner,?_,e2,e3⟩
  have:layClean mask hashes=(hashes.foldl (Cy mask) (some (Array.replicate (mask + 1) none,0))).map (·.1):=rfl
  rw [this,← Array.foldl_toList,e1]
  rfl
theorem Ro {mask:Nat} (hm:Sm mask) (hashes:Array Int) (hk:hashes.size <= mask) (finger moves:Nat) (led plain:Bool) :
    ∃ place order,laid mask finger moves led plain hashes=some ({ mask,place,dummies:=#[],finger,led,moves,plain },order) /\ Ris place.toList /\ place.size=hashes.size /\ order.toList.Perm (List.range hashes.size):=by
  obtain ⟨owner,e1,e2,e3⟩:=QE hm hashes hk
  unfold laid
  rw [e1]
  refine ⟨_,_,rfl,?_,?_,?_⟩
  . simp only []
    rw [List.map_filterMap]
    have:(List.range (mask + 1)).filterMap (fun x=>Option.map (fun x=>x.1) (Option.map (fun x_1=>(x,x_1)) (owner.getD x none)))=(List.range (mask + 1)).filter fun x=>(owner.getD x none).isSome:=by
      induction List.range (mask + 1) with
      | nil=>rfl
      | cons a l ih=>
        cases q:owner.getD a none with
        | none=>rw [List.filterMap_cons_none (by rw [q]; rfl),List.filter_cons_of_neg (by rw [q]; simp),ih]
        | some c=>rw [List.filterMap_cons_some (b:=a) (by rw [q]; rfl),List.filter_cons_of_pos (by rw [q]; rfl),ih]
    rw [this]
    exact List.Pairwise.sublist List.filter_sublist List.pairwise_lt_range
  . have:=e3.length_eq
    rw [List.length_range] at this
    rw [← this]
    simp only [List.size_toArray,List.length_map]
    unfold own
    induction List.range (mask + 1) with
    | nil=>rfl
    | cons a l ih=>
      cases q:owner.getD a none with
      | none=>rw [List.filterMap_cons_none (by rw [q]; rfl),List.filterMap_cons_none (f:=fun j=>owner.getD j none) q,ih]
      | some c=>rw [List.filterMap_cons_some (b:=(a,c)) (by rw [q]; rfl),List.filterMap_cons_some (f:=fun j=>owner.getD j none) q,List.length_cons,List.length_cons,ih]
  . simp only []
    rw [List.map_filterMap]
    have:(List.range (mask + 1)).filterMap (fun x=>Option.map (fun x=>x.2) (Option.map (fun x_1=>(x,x_1)) (owner.getD x none)))=own mask owner:=by
      unfold own
      refine Gu fun i _=>?_
      cases owner.getD i none <;> rfl
    rw [this]
    exact e3
structure Tab (t:SetTable) (n:Nat):Prop where
  ris:Ris t.place.toList
  sz:t.place.size=n
  dm:t.dummies = #[]
  mks:(t.mask=7 /\ n <= 4) ∨ (t.mask=31 /\ n <= 18) ∨ (t.mask=127 /\ 19 <= n /\ n <= 75)
  pl:t.plain=true
theorem Tab.sm {t:SetTable} {n:Nat} (h:Tab t n):Sm t.mask:=h.mks.elim (fun z=>.inl z.1) fun z=>z.elim (fun z=>.inr (.inr (.inl z.1))) fun z=>.inr (.inr (.inr z.1))
theorem HY (led:Bool):Tab (.fresh 0 0 led) 0:=⟨List.Pairwise.nil,rfl,rfl,.inl ⟨rfl,by omega⟩,rfl⟩
theorem Tab.fits {t:SetTable} {n:Nat} (h:Tab t n):t.fits n=true:=by
  unfold SetTable.fits fill
  rw [h.sz,h.dm]
  rcases h.mks with ⟨a,b⟩ | ⟨a,b⟩ | ⟨a,b⟩ <;> simp [a] <;> omega
theorem UI {t:SetTable} {es:Array (Int × Value)} (T:Tab t es.size) (hn:es.size + 1 <= 75) (h:Int) (x:Value) :
    ∃ t1 es1,layNew t es h x=(es1,t1,false,false) /\ Ris t1.place.toList /\ t1.place.size=es.size + 1 /\ t1.dummies = #[] /\ t1.mask=t.mask /\ t1.plain=true /\ t1.led=t.led /\ t1.moves=t.moves /\ t1.finger=t.finger /\ es1.toList.Perm (es.toList ++ [(h,x)]):=by
  have hsz:=T.sz
  obtain ⟨j,e,q⟩:=Mj T.dm T.sm T.ris (by rcases T.mks with ⟨a,b⟩ | ⟨a,b⟩ | ⟨a,b⟩ <;> omega) h
  have hj:j ∉ t.place.toList:=fun z=>by
    obtain ⟨i,hi⟩:=GL T.ris z
    rw [q] at hi; cases hi
  have hperm:=layNew_perm t es h x
  have hz:(insertAt t.place (below t.place j) j).size=es.size + 1:=by
    have:=(insertAt_perm t.place (below t.place j) j).length_eq
    simp at this
    omega
  have hd:(if has t.dummies j=true then eraseAt t.dummies (below t.dummies j) else t.dummies) = #[]:=by
    rw [T.dm]
    have:has (#[]:Array Nat) j=false:=by unfold has; simp
    rw [this]; rfl
  have hes:(insertAt es (below t.place j) (h,x)).size=es.size + 1:=by
    have:=(insertAt_perm es (below t.place j) (h,x)).length_eq
    simpa using this
  have hfit:(t.put j).1.fits (es.size + 1)=true:=by
    unfold SetTable.fits fill put
    simp only [hd,hz]
    rcases T.mks with ⟨a,b⟩ | ⟨a,b⟩ | ⟨a,b⟩ <;> simp [a] <;> omega
  have hl:layNew t es h x=(insertAt es (below t.place j) (h,x),(t.put j).1,false,false):=by
    unfold layNew
    rw [e]
    show (insertAt es (below t.place j) (h,x),(t.put j).1.orStandIn (insertAt es (below t.place j) (h,x)).size,false,!(t.put j).1.fits (insertAt es (below t.place j) (h,x)).size)=_
    rw [hes,hfit]
    unfold orStandIn
    rw [hfit]
    rfl
  rw [hl] at hperm
  refine ⟨_,_,hl,Ia T.ris hj,hz,hd,rfl,T.pl,rfl,rfl,rfl,?_⟩
  rw [Array.toList_push] at hperm
  exact hperm
theorem Jo {M:Nat} {t:SetTable} {es:Array (Int × Value)} {wanted:Nat} (hM:Sm M) (hw:sizeAbove wanted=M + 1) (hn:es.size <= M) (hk:(M=7 /\ es.size <= 4) ∨ (M=31 /\ es.size <= 18) ∨ (M=127 /\ 19 <= es.size /\ es.size <= 75)) (hp:t.plain=true) :
    ∃ t1 es1,relayAll t es wanted=(es1,t1,false) /\ Tab t1 es1.size /\ t1.led=t.led /\ es1.toList.Perm es.toList:=by
  have hperm:=relayAll_perm t es wanted
  obtain ⟨place,order,e,r,hs,ho⟩:=Ro (mask:=M) hM (es.map (·.1)) (by simp; omega) t.finger (t.movedTo M) t.led t.plain
  simp only [Array.size_map] at hs ho
  have hsz:(order.filterMap (es[·]?)).size=es.size:=by
    have h1:((order.filterMap (es[·]?)).toList).Perm es.toList:=by
      rw [Array.toList_filterMap]
      exact (ho.filterMap _).trans (by rw [filterMap_getElem?_range])
    have:=h1.length_eq
    rwa [Array.length_toList,Array.length_toList] at this
  have hl:relayAll t es wanted=(order.filterMap (es[·]?),{ mask:=M,place,dummies:=#[],finger:=t.finger,led:=t.led,moves:=t.movedTo M,plain:=t.plain },false):=by
    unfold relayAll relaid
    rw [hw,Nat.add_sub_cancel]
    rw [e]
    simp only []
    have c1:coversAll order es.size=true:=by
      unfold coversAll
      exact List.isPerm_iff.mpr ho
    have c2:SetTable.fits { mask:=M,place,dummies:=#[],finger:=t.finger,led:=t.led,moves:=t.movedTo M,plain:=t.plain } (order.filterMap (es[·]?)).size=true:=by
      unfold SetTable.fits fill
      rw [hsz]
      simp [hs]
      omega
    rw [c1,c2]
    rfl
  rw [hl] at hperm
  exact ⟨_,_,hl,⟨r,by rw [hsz]; exact hs,rfl,by rw [hsz]; exact hk,hp⟩,rfl,hperm⟩
theorem Jn {t:SetTable} {es:Array (Int × Value)} {wanted:Nat} (hw:sizeAbove wanted=32) (hn:es.size <= 18) (hp:t.plain=true) :
    ∃ t1 es1,relayAll t es wanted=(es1,t1,false) /\ Tab t1 es1.size /\ t1.led=t.led /\ es1.toList.Perm es.toList:=Jo (M:=31) (.inr (.inr (.inl rfl))) hw (by omega) (.inr (.inl ⟨rfl,hn⟩)) hp
end Ht
namespace Ht
open PySem PySem.SetTable
def BC (xs:List Int):List Int:=xs.foldl (fun ys x=>if x ∈ ys then ys else ys ++ [x]) []
theorem FP (xs:List Int) (x:Int):BC (xs ++ [x])=if x ∈ BC xs then BC xs else BC xs ++ [x]:=by
  unfold BC
  rw [List.foldl_append]
  rfl
theorem MP:∀ (xs ys:List Int),∃ zs,xs.foldl (fun ys x=>if x ∈ ys then ys else ys ++ [x]) ys=ys ++ zs
  | [],ys=>⟨[],by simp⟩
  | x :: xs,ys=>by
    rw [List.foldl_cons]
    obtain ⟨zs,e⟩:=MP xs (if x ∈ ys then ys else ys ++ [x])
    rw [e]
    split
    . exact ⟨zs,rfl⟩
    . exact ⟨x :: zs,by simp⟩
theorem PP (xs ys:List Int):∃ zs,BC (xs ++ ys)=BC xs ++ zs:=by
  unfold BC
  rw [List.foldl_append]
  exact MP _ _
theorem Ng (xs:List Int) (i:Nat):(BC (xs.take i)).length <= (BC xs).length:=by
  obtain ⟨zs,e⟩:=PP (xs.take i) (xs.drop i)
  rw [List.take_append_drop] at e
  rw [e,List.length_append]
  omega
theorem Jc {p:List Int->Prop} (h0:p []) (h1:∀ xs x,p xs->p (xs ++ [x])) (xs:List Int):p xs:=by
  rw [← List.reverse_reverse xs]
  induction xs.reverse with
  | nil=>exact h0
  | cons a l ih=>rw [List.reverse_cons]; exact h1 _ _ ih
theorem PN (xs:List Int) (k:Int):k ∈ BC xs ↔ k ∈ xs:=by
  refine Jc (p:=fun xs=>k ∈ BC xs ↔ k ∈ xs) (by simp [BC]) (fun xs x ih=>?_) xs
  rw [FP]
  split
  . rename_i h
    simp only [List.mem_append,List.mem_singleton,← ih]
    exact ⟨.inl,fun z=>z.elim id fun e=>e ▸ h⟩
  . simp only [List.mem_append,List.mem_singleton,ih]
theorem LA (xs:List Int):(BC xs).Nodup:=by
  refine Jc (p:=fun xs=>(BC xs).Nodup) (by simp [BC]) (fun xs x ih=>?_) xs
  rw [FP]
  split
  . exact ih
  . rename_i h
    rw [List.nodup_append]
    refine ⟨ih,by simp,fun a ha b hb=>?_⟩
    simp at hb
    subst hb
    exact fun e=>h (e ▸ ha)
open PyProof.Rows
abbrev EN (l:List (Int × Value)) (ks:List Int):Prop:=IntsAre (l.map (·.2)) ks
theorem FU:∀ {vs ws:List Value} (_:vs.Perm ws) {ks:List Int},IntsAre ws ks->∃ ms,IntsAre vs ms /\ ms.Perm ks:=by
  intro vs ws p
  induction p with
  | nil=>intro ks h; cases h; exact ⟨[],.nil,.refl _⟩
  | cons x _ ih=>
    intro ks h
    cases h with
    | cons n t h=>
      obtain ⟨ms,h1,h2⟩:=ih h
      exact ⟨n :: ms,.cons n t h1,h2.cons n⟩
  | swap x y l=>
    intro ks h
    cases h with
    | cons n t h=>
      cases h with
      | cons m u h=>exact ⟨m :: n :: _,.cons m u (.cons n t h),.swap n m _⟩
  | trans _ _ ih1 ih2=>
    intro ks h
    obtain ⟨ms,h1,h2⟩:=ih2 h
    obtain ⟨ls,h3,h4⟩:=ih1 h1
    exact ⟨ls,h3,h4.trans h2⟩
theorem P2:∀ {l:List (Int × Value)} {ks:List Int},EN l ks->∀ (k:Int),(∃ e ∈ l,Value.isInt k e.2=true) ↔ k ∈ ks
  | [],_,h,k=>by
    have h:IntsAre [] _:=h
    cases h
    simp
  | e :: l,_,h,k=>by
    obtain ⟨a,v⟩:=e
    have h:IntsAre (v :: l.map (·.2)) _:=h
    cases h with
    | cons n t h1=>
      have ih:=P2 (l:=l) h1 k
      constructor
      . rintro ⟨e,he,q⟩
        rcases List.mem_cons.mp he with rfl | he
        . have:Value.isInt k (.int n t)=true:=q
          simp [Value.isInt] at this
          subst this
          exact List.mem_cons_self ..
        . exact List.mem_cons_of_mem _ (ih.mp ⟨e,he,q⟩)
      . intro hk
        rcases List.mem_cons.mp hk with rfl | hk
        . exact ⟨_,List.mem_cons_self ..,by simp [Value.isInt]⟩
        . obtain ⟨e,he,q⟩:=ih.mpr hk
          exact ⟨e,List.mem_cons_of_mem _ he,q⟩
def SetI (prog:Program) (w:World) (h:Heap) (a:Addr) (ks:List Int):Prop:=
  ∃ o es ep t,h.get? a=some o /\ o.ExactSet /\ o.data=.set es ep t /\ ElemsOf (intKind prog w) es.toList /\ (∃ ns,EN es.toList ns /\ ns.Perm ks) /\ Tab t es.size /\ t.led = !(w.params.followText "set-order")
theorem SetI.at {prog:Program} {w:World} {h h':Heap} {a:Addr} {ks:List Int} (z:SetI prog w h a ks) (k:∀ o,h.get? a=some o->h'.get? a=some o):SetI prog w h' a ks:=by
  obtain ⟨o,es,ep,t,e,rest⟩:=z
  exact ⟨o,es,ep,t,k o e,rest⟩
theorem JF {l:Array (Int × Value)} {ns ks:List Int} (h:EN l.toList ns) (p:ns.Perm ks):l.size=ks.length:=by
  have h1:=congrArg List.length h.nums
  rw [List.length_map,List.length_map,Array.length_toList] at h1
  rw [h1,p.length_eq]
section
variable {prog:Program} {w:World} {A:Around} {E:Value->Shared->Prop} {s:Shared}
theorem F7 {h:Heap} {a:Addr} {o:Obj} {es:Array (Int × Value)} {ep:Nat} {t:SetTable} (ho:h.get? a=some o) (hd:o.data=.set es ep t) (es':Array (Int × Value)) (t':SetTable) :
    (h.update a (Obj.putSet es' t')).get? a=some { o with data:=.set es' (ep + 1) t' }:=by
  have:=Heap.get?_update_self (Obj.putSet es' t') ho (by rw [putSet_of es' t' hd]; rfl)
  rw [putSet_of es' t' hd] at this
  exact this
theorem Ob {a:Addr} {ks:List Int} {n:Int} {tk:Tok} {Q:Bool->Shared->Prop} (hS:SetI prog w s.heap a ks) (room:(if n ∈ ks then ks else ks ++ [n]).length <= 18)
    (q:∀ b h' tk,Heap.SameBut a s.heap h'->SetI prog w h' a (if n ∈ ks then ks else ks ++ [n])->Q b { s with heap:=h',toks:=tk }) :
    wpAny (model prog w) A (setAdd a (.int n tk)) Q E s:=by
  obtain ⟨o,es,ep,t,ho,hex,hd,hel,⟨ns,hen,hp⟩,T,hled⟩:=hS
  have hsz:=JF hen hp
  have hb:es.size < scanBound:=by rcases T.mks with ⟨_,b⟩ | ⟨_,b⟩ | ⟨_,b⟩ <;> (unfold scanBound; omega)
  unfold setAdd
  refine wpAny_holding (wpAny_bind ((intKind prog w).pyHash (intKind_is prog w n tk) ?_))
  unfold setAddHashed setAddHashedIn
  refine wpAny_holding (wpAny_bind (wpAny_setState_of (s:={ s with toks:=s.toks + 1 }) ho hd T.fits ?_))
  dsimp only
  rw [byScan_of (knd:=intKind prog w) rfl hb hel]
  simp only [↓reduceIte]
  unfold setAddByScan
  refine wpAny_bind ?_
  refine wpAny_bind (wpAny_rule ?_)
  refine wpAny_bind (wpAny_setScan_of (knd:=intKind prog w) (s:={ s with toks:=s.toks + 1 }) (intKind_is prog w n tk) ho hd T.fits hel ?_)
  have mem:=P2 hen n
  rw [hp.mem_iff] at mem
  cases hr:List.findIdx? (fun e=>(intKind prog w).is n e.2) es.toList with
  | some j=>
    dsimp only
    obtain ⟨hj,hpj,_⟩:=List.findIdx?_eq_some_iff_getElem.mp hr
    have hm:n ∈ ks:=mem.mp ⟨es.toList[j],List.getElem_mem hj,hpj⟩
    refine wpAny_pure (wpAny_pure ?_)
    rw [if_pos hm] at q
    exact q _ s.heap _ (Heap.SameBut.refl a s.heap) ⟨o,es,ep,t,ho,hex,hd,hel,⟨ns,hen,hp⟩,T,hled⟩
  | none=>
    dsimp only
    have hm:n ∉ ks:=fun z=>by
      obtain ⟨e,he,hq⟩:=mem.mpr z
      have:=List.findIdx?_eq_none_iff.mp hr e he
      have hq':(intKind prog w).is n e.2=true:=hq
      rw [hq'] at this
      exact Bool.noConfusion this
    rw [if_neg hm,List.length_append,List.length_singleton] at room
    rw [if_neg hm] at q
    obtain ⟨t1,es1,e1,r1,z1,d1,m1,p1,l1,_,_,q1⟩:=UI T (by omega) ((intKind prog w).hash n) (.int n tk)
    rw [e1]
    dsimp only
    have s1:es1.size=es.size + 1:=by
      have:=q1.length_eq
      simpa using this
    have hel1:ElemsOf (intKind prog w) es1.toList:=(hel.push (intKind_is prog w n tk) rfl).perm q1
    have hen0:EN (es.toList ++ [((intKind prog w).hash n,Value.int n tk)]) (ns ++ [n]):=by
      unfold EN
      rw [List.map_append]
      exact IntsAre.append hen (.cons n tk .nil)
    obtain ⟨ms,hen1,hp1⟩:=FU (q1.map (·.2)) hen0
    have hp2:ms.Perm (ks ++ [n]):=hp1.trans (hp.append_right [n])
    refine wpAny_bind (wpAny_pure ?_)
    rw [p1]
    simp only [↓reduceIte]
    refine wpAny_bind ?_
    rw [hashByValue_scannable 8 (x:=.int n tk) rfl]
    refine wpAny_pure ?_
    simp only [plainKind,↓reduceIte]
    refine wpAny_bind (wpAny_storeSet_of (s:={ s with toks:=s.toks + 1 }) ho hd ?_ (by rw [sizeLine_eq]; omega))
    have ho1:=F7 ho hd es1 t1
    have sb1:=Heap.SameBut.update s.heap a (Obj.putSet es1 t1)
    simp only [Bool.not_false,Bool.true_and]
    by_cases hf:t1.tooFull=true
    . rw [if_pos hf]
      have small:es1.size=5:=by
        unfold SetTable.tooFull SetTable.fill at hf
        rw [z1,d1,m1] at hf
        simp at hf
        rcases T.mks with ⟨a,b⟩ | ⟨a,b⟩ | ⟨a,b⟩ <;> rw [a] at hf <;> omega
      obtain ⟨t2,es2,e2,T2,l2,q2⟩:=Jn (t:=t1) (es:=es1) (wanted:=grown es1.size) (by rw [small]; decide +kernel) (by omega) p1
      rw [e2]
      dsimp only
      refine wpAny_bind (wpAny_pure ?_)
      have s2:es2.size=es1.size:=by
        have:=q2.length_eq
        simpa using this
      refine wpAny_bind (wpAny_storeSet_of (s:={ s with heap:=s.heap.update a (Obj.putSet es1 t1),toks:=s.toks + 1 }) ho1 rfl ?_ (by rw [sizeLine_eq]; omega))
      obtain ⟨ls,hen2,hp3⟩:=FU (q2.map (·.2)) hen1
      refine wpAny_pure (wpAny_pure (q _ _ _ (sb1.trans (Heap.SameBut.update _ a _)) ?_))
      exact ⟨_,es2,_,t2,F7 ho1 rfl es2 t2,hex,rfl,hel1.perm q2,⟨ls,hen2,hp3.trans hp2⟩,T2,by rw [l2,l1]; exact hled⟩
    . rw [if_neg hf]
      refine wpAny_pure (wpAny_pure (q _ _ _ sb1 ⟨_,es1,_,t1,ho1,hex,rfl,hel1,⟨ms,hen1,hp2⟩,⟨r1,by omega,d1,?_,p1⟩,by rw [l1]; exact hled⟩))
      rw [m1]
      unfold SetTable.tooFull SetTable.fill at hf
      rw [z1,d1,m1] at hf
      simp at hf
      rcases T.mks with ⟨a,b⟩ | ⟨a,b⟩ | ⟨a,b⟩
      . rw [a] at hf
        exact .inl ⟨a,by omega⟩
      . exact .inr (.inl ⟨a,by omega⟩)
      . exact .inr (.inr ⟨a,by omega,by omega⟩)
end
end Ht
namespace Ht
open PySem PySem.Spec PyProof.Rows Sem L2
section
variable {prog:Program} {w:World} {A:Around} {E:Value->Shared->Prop} {s:Shared}
theorem NI {I S:Addr} {ns:List Int} {fp:List Addr} {P:Nat->Value->Prop} {St:Nat->Heap->Prop} (W:Walks prog w A.in1 I fp [I] ns.length P St) (hP:∀ i v,P i v->∃ t,v=.int (ns.getD i 0) t)
    (hSI:S ≠ I) (hSf:S ∉ fp) (room:(BC ns).length <= 18) {R:Result->Shared->Prop} :
    ∀ (m i:Nat) (s:Shared),ns.length - i=m->i <= ns.length->St i s.heap->SetI prog w s.heap S (BC (ns.take i))->
      (∀ h' tk,(∀ c o,c ≠ S->c ≠ I->s.heap.get? c=some o->h'.get? c=some o)->SetI prog w h' S (BC ns)->R (.ok (.ret .none)) { s with heap:=h',toks:=tk })->
      codeAny (model prog w) A (.builtin "set.update.loop" ⟨[.ref S,.ref I],[]⟩) R s:=by
  intro m
  induction m with
  | zero=>
    intro i s hm hi hst hS q
    have ei:i=ns.length:=by omega
    subst ei
    refine codeAny_builtin PyProof.Rows.F.entry_set_update_loop ?_
    rw [Around.under_plainId PyProof.Rows.F.plain_set_update_loop _]
    refine wpAny_bind (m:=pyNext (.ref I)) (W.done s _ _ hst fun h' tk kp=>wpAny_pure ?_)
    rw [List.take_length] at hS
    exact q h' tk (fun c o _ c2 e=>kp c o (by simpa using c2) e) (hS.at fun o e=>kp S o (by simpa using hSI) e)
  | succ m ih=>
    intro i s hm hi hst hS q
    have lt:i < ns.length:=by omega
    refine codeAny_builtin PyProof.Rows.F.entry_set_update_loop ?_
    rw [Around.under_plainId PyProof.Rows.F.plain_set_update_loop _]
    refine wpAny_bind (m:=pyNext (.ref I)) (W.item i s _ _ lt hst fun v h' tk hv st kp=>?_)
    obtain ⟨t,rfl⟩:=hP i v hv
    have eg:ns.getD i 0=ns[i]:=by simp [lt]
    rw [eg]
    have tk1:ns.take i ++ [ns[i]]=ns.take (i + 1):=by rw [List.take_succ,List.getElem?_eq_getElem lt]; rfl
    have nb:(if ns[i] ∈ BC (ns.take i) then BC (ns.take i) else BC (ns.take i) ++ [ns[i]])=BC (ns.take (i + 1)):=by rw [← tk1,FP]
    have hS1:SetI prog w h' S (BC (ns.take i)):=hS.at fun o e=>kp S o (by simpa using hSI) e
    refine wpAny_bind (wpAny_holding (Ob (s:={ s with heap:=h',toks:=tk }) hS1 (by rw [nb]; exact Nat.le_trans (Ng _ _) room) fun b h2 t2 sb hS2=>?_))
    rw [nb] at hS2
    have k2:∀ c o,c ≠ S->h'.get? c=some o->h2.get? c=some o:=fun c o hc e=>(sb.2 c hc).trans e
    refine wpAny_pure ⟨plainId_quiet PyProof.Rows.F.plain_set_update_loop _,ih (i + 1) _ (by omega) lt (W.frame _ _ _ st fun b hb o e=>k2 b o (fun z=>hSf (z ▸ hb)) e) hS2 fun h3 t3 kp3 hS3=>?_⟩
    exact q h3 t3 (fun c o c1 c2 e=>kp3 c o c1 c2 (k2 c o c1 (kp c o (by simpa using c2) e))) hS3
theorem L9 (a:Value) {Q:Value->Shared->Prop} (h:Q (.ref s.heap.objs.size) { s with heap:=s.heap.push (AW !(w.params.followText "set-order")) }) :
    codeAny (model prog w) A (.call (.builtin "set.__new__") ⟨[.type "set",a],[]⟩) (wants Q E) s:=by
  refine codeAny_call_builtin (b:=Builtin.«set.__new__») PySem.F.plain_set_new PySem.F.entry_set_new (wpAny_of_eq (PySem.F.newCall_set_1 a) ?_)
  unfold Builtin.«set.__new__» Builtin.Frozenset.newClass
  have z:=sub_set_self
  wp_walk
  refine wpAny_askSetting (wpAny_pure ?_)
  have e:∀ {Q:Value->Shared->Prop} {E:Value->Shared->Prop} (t:SetTable),Q (.ref s.heap.objs.size) { s with heap:=s.heap.push { cls:=.type "set",data:=.set #[] 0 t } }->wpAny (model prog w) A.in1 (newObj (.type "set") (.set #[] 0 t)) Q E s:=fun t z=>by
    unfold newObj
    wp_walk
    first | exact z | exact wpAny_bind (wpAny_alloc (wpAny_pure z)) | trace_state
  exact e _ (wpAny_pure h)
set_option maxHeartbeats 2000000 in
theorem IB {T:String} {l:Addr} {ns:List Int} {Q:Value->Shared->Prop} {fp:Addr->List Addr} {P:Nat->Value->Prop} {St:Addr->Nat->Heap->Prop} {itO:Obj}
    (c1:isSubtype (.type T) (.type "set")=Pure.pure false) (c2:isSubtype (.type T) (.type "frozenset")=Pure.pure false) (c3:(Value.type T == Value.type "dict")=false)
    (tyl:∀ {s':Shared},(∀ o,s.heap.get? l=some o->s'.heap.get? l=some o)->s'.TypeIs (.ref l) T)
    (walk:∀ {s':Shared} {A':Around} {E' Q':Value->Shared->Prop},(∀ o,s.heap.get? l=some o->s'.heap.get? l=some o)->Q' (.ref s'.heap.objs.size) { s' with heap:=s'.heap.push itO }->wpAny (model prog w) A' (pyIter (.ref l)) Q' E' s')
    (W:∀ I,l ≠ I->Walks prog w A.in1.in1.in1 I (fp I) [I] ns.length P (St I)) (hP:∀ i v,P i v->∃ t,v=.int (ns.getD i 0) t) (hfp:∀ I,∀ b ∈ fp I,b=I ∨ b=l) (hl:∃ o,s.heap.get? l=some o)
    (hfr:itO.isFreed=false) (st0:∀ {h:Heap} (I:Addr),h.get? I=some itO->(∀ o,s.heap.get? l=some o->h.get? l=some o)->St I 0 h) (room:(BC ns).length <= 18)
    (q:∀ h' tk,(∀ c o,s.heap.get? c=some o->h'.get? c=some o)->SetI prog w h' s.heap.objs.size (BC ns)->Q (.ref s.heap.objs.size) { s with heap:=h',toks:=tk }) :
    wpAny (model prog w) A (call (.type "set") [.ref l]) Q E s:=by
  refine MU PySem.F.called_set (PySem.F.typeCall_set_1 _) (L9 (.ref l) (Q:=fun x s₁=>x=.ref s.heap.objs.size /\ s₁={ s with heap:=s.heap.push (AW !(w.params.followText "set-order")) }) ⟨rfl,rfl⟩) ?_
  rintro x s₁ ⟨rfl,rfl⟩
  generalize hled:(!(w.params.followText "set-order"))=led
  have at_S:(s.heap.push (AW led)).get? s.heap.objs.size=some (AW led):=Heap.get?_push_size _ rfl
  have ty:Shared.TypeIs { s with heap:=s.heap.push (AW led) } (.ref s.heap.objs.size) "set" := ⟨_,at_S,rfl⟩
  have lt:l < s.heap.objs.size:=by obtain ⟨o,e⟩:=hl; exact Heap.lt_size e
  have kl:∀ o,s.heap.get? l=some o->(s.heap.push (AW led)).get? l=some o:=fun o e=>Heap.get?_push_of_some _ e
  have tyl:=tyl (s':={ s with heap:=s.heap.push (AW led) }) kl
  refine ⟨ty,codeAny_call_builtin PySem.F.called_set.init.plain PySem.F.entry_set_init (check_set_init_1 ty ?_)⟩
  unfold Builtin.«set.__init__» noKeywords Builtin.Frozenset.updateFrom
  have walk':∀ (A:Around) (E:Value->Shared->Prop) (Q:Value->Shared->Prop),Q (.ref (s.heap.push (AW led)).objs.size) { s with heap:=(s.heap.push (AW led)).push itO }->wpAny (model prog w) A (pyIter (.ref l)) Q E { s with heap:=s.heap.push (AW led) }:=fun A E Q z=>walk (s':={ s with heap:=s.heap.push (AW led) }) kl z
  wp_walk using walk'
  have sz:(s.heap.push (AW led)).objs.size=s.heap.objs.size + 1:=Heap.size_push ..
  have ne1:l ≠ (s.heap.push (AW led)).objs.size:=by rw [sz]; exact Nat.ne_of_lt (Nat.lt_succ_of_lt lt)
  have ne2:s.heap.objs.size ≠ (s.heap.push (AW led)).objs.size:=by rw [sz]; exact Nat.ne_of_lt (Nat.lt_succ_self _)
  have hSf:s.heap.objs.size ∉ fp (s.heap.push (AW led)).objs.size:=fun z=>(hfp _ _ z).elim ne2 (Nat.ne_of_gt lt)
  refine NI (A:=A.in1.in1) (W _ ne1) hP ne2 hSf room ns.length 0 _ (Nat.sub_zero _) (Nat.zero_le _) (st0 _ (Heap.get?_push_size _ hfr) fun o e=>Heap.get?_push_of_some _ (kl o e)) ?start fun h' tk kp hS=>?fin
  case start=>
    refine ⟨_,#[],0,_,Heap.get?_push_of_some _ at_S,⟨rfl,rfl,rfl⟩,rfl,?_,⟨[],.nil,.refl _⟩,HY led,hled.symm⟩
    intro e he
    cases he
  case fin=>
    have ltS:∀ {c:Addr} {o:Obj},s.heap.get? c=some o->c < s.heap.objs.size:=fun e=>Heap.lt_size e
    exact wpAny_pure (wpAny_pure ⟨rfl,q h' tk (fun c o e=>kp c o (Nat.ne_of_lt (ltS e)) (by rw [sz]; exact Nat.ne_of_lt (Nat.lt_succ_of_lt (ltS e))) (Heap.get?_push_of_some _ (Heap.get?_push_of_some _ e))) hS⟩)
theorem Fi:isSubtype (.type "tuple") (.type "set")=Pure.pure false:=by rw [isSubtype_type]; kernel_rfl
theorem Fj:isSubtype (.type "tuple") (.type "frozenset")=Pure.pure false:=by rw [isSubtype_type]; kernel_rfl
theorem Kt {l:Addr} {its:List Value} {ns:List Int} {Q:Value->Shared->Prop} (hh:A.handled=none) (hl:s.heap.IsList l its.toArray) (rv:IntsAre its ns) (room:(BC ns).length <= 18)
    (q:∀ h' tk,(∀ c o,s.heap.get? c=some o->h'.get? c=some o)->SetI prog w h' s.heap.objs.size (BC ns)->Q (.ref s.heap.objs.size) { s with heap:=h',toks:=tk }) :
    wpAny (model prog w) A (call (.type "set") [.ref l]) Q E s:=by
  have len:its.toArray.size=ns.length:=by have:=congrArg List.length rv.nums; rw [List.length_map] at this; simpa using this
  refine IB (T := "list") (l:=l) (ns:=ns) (fp:=fun I=>[I,l]) (P:=fun i v=>its.toArray[i]? = some v) (St:=fun I i h=>h.IsListIter I l i /\ h.IsList l its.toArray) (itO:={ cls:=.type "list_iterator",data:=.fields #[.ref l,.int 0 0] }) PySem.F.sub_list_set PySem.F.sub_list_frozenset (by decide +kernel) (fun k=>(hl.at k).typeIs) (fun k z=>wpAny_pyIter_list (hl.at k) z) (fun I hI=>len ▸ Walks.list (by simp [hh]) I l hI its.toArray) (fun i v e=>?_) (fun I b hb=>by simpa using hb) (by obtain ⟨o,e,_⟩:=hl; exact ⟨o,e⟩) rfl (fun I e k=>⟨⟨_,e,rfl,rfl⟩,hl.at k⟩) room q
  have e':its[i]? = some v:=by simpa using e
  exact rv.int_at i v e'
theorem NH {l:Addr} {its:List Value} {ns:List Int} {Q:Value->Shared->Prop} (hh:A.handled=none) (hl:s.heap.IsTuple l its.toArray) (rv:IntsAre its ns) (room:(BC ns).length <= 18)
    (q:∀ h' tk,(∀ c o,s.heap.get? c=some o->h'.get? c=some o)->SetI prog w h' s.heap.objs.size (BC ns)->Q (.ref s.heap.objs.size) { s with heap:=h',toks:=tk }) :
    wpAny (model prog w) A (call (.type "set") [.ref l]) Q E s:=by
  have len:its.toArray.size=ns.length:=by have:=congrArg List.length rv.nums; rw [List.length_map] at this; simpa using this
  refine IB (T := "tuple") (l:=l) (ns:=ns) (fp:=fun I=>[I,l]) (P:=fun i v=>its.toArray[i]? = some v) (St:=fun I i h=>h.IsTupleIter I l i /\ h.IsTuple l its.toArray) (itO:={ cls:=.type "tuple_iterator",data:=.fields #[.ref l,.int 0 0] }) Fi Fj (by decide +kernel) (fun k=>(hl.at k).typeIs) (fun k z=>wpAny_pyIter_tuple (hl.at k) z) (fun I hI=>len ▸ Walks.tuple (by simp [hh]) I l hI its.toArray) (fun i v e=>?_) (fun I b hb=>by simpa using hb) (by obtain ⟨o,e,_⟩:=hl; exact ⟨o,e⟩) rfl (fun I e k=>⟨⟨_,e,rfl,rfl⟩,hl.at k⟩) room q
  have e':its[i]? = some v:=by simpa using e
  exact rv.int_at i v e'
end
end Ht
namespace Ht
open PySem PySem.Spec PyProof.Rows Sem L2 PySem.SetTable
theorem G0 {α:Type}:∀ (l:List α) (i:Nat) (x:α),l[i]? = some x->(x :: l.eraseIdx i).Perm l
  | [],_,_,e=>by cases e
  | a :: l,0,x,e=>by
    simp at e
    subst e
    exact .refl _
  | a :: l,i + 1,x,e=>by
    have e':l[i]? = some x:=by simpa using e
    exact (List.Perm.swap a x _).trans ((G0 l i x e').cons a)
theorem MK {α:Type} (f:Nat->Nat):∀ (Aj k:Nat) (left:List α) (out:Array α),left.length <= Aj->(pickOrder.go f Aj k left out).toList.Perm (out.toList ++ left)
  | 0,k,left,out,h=>by
    have:left=[]:=List.length_eq_zero_iff.mp (by omega)
    subst this
    unfold pickOrder.go
    rw [List.append_nil]
  | Aj + 1,k,left,out,h=>by
    unfold pickOrder.go
    cases e:left[f k % left.length]? with
    | none=>
      simp only []
      have:left=[]:=by
        cases left with
        | nil=>rfl
        | cons a l=>
          exfalso
          have:=List.getElem?_eq_none_iff.mp e
          have:=Nat.mod_lt (f k) (show 0 < (a :: l).length by simp)
          omega
      rw [this,List.append_nil]
    | some x=>
      simp only []
      have hp:=G0 left _ x e
      have hl:=hp.length_eq
      rw [List.length_cons] at hl
      refine (MK f Aj (k + 1) _ (out.push x) (by omega)).trans ?_
      rw [Array.toList_push,List.append_assoc]
      exact hp.append_left _
theorem Na {α:Type} (f:Nat->Nat) (xs:Array α):(pickOrder f xs).toList.Perm xs.toList:=by
  have:=MK f xs.size 0 xs.toList #[] (by simp)
  simpa [pickOrder] using this
def wv (w:World) (S:Addr) (ep:Nat) (es:Array (Int × Value)):Array (Int × Value):=if w.params.followText "set-order" = true then pickOrder (w.params.setOrder S ep) es else es
theorem IL (w:World) (S:Addr) (ep:Nat) (es:Array (Int × Value)):(wv w S ep es).toList.Perm es.toList:=by
  unfold wv
  split
  . exact Na _ _
  . exact .refl _
theorem Ef (w:World) (S:Addr) (ep:Nat) (es:Array (Int × Value)):(wv w S ep es).size=es.size:=by
  have:=(IL w S ep es).length_eq
  simpa using this
section
variable {prog:Program} {w:World} {A:Around} {E:Value->Shared->Prop} {s:Shared}
theorem Jd {S:Addr} {sl i ep:Nat} {es:Array (Int × Value)} {t:SetTable} {o:Obj} {Q:Option (Value × Nat)->Shared->Prop} (ho:s.heap.get? S=some o) (hd:o.data=.set es ep t) (T:Tab t es.size) (hled:t.led = !(w.params.followText "set-order"))
    (hsl:w.params.followText "set-order" = false->below t.place sl=i)
    (h1:∀ e sl',(wv w S ep es)[i]? = some e->(w.params.followText "set-order" = false->below t.place sl'=i + 1)->Q (some (e.2,sl')) s)
    (h2:(wv w S ep es)[i]? = none->Q none s):wpAny (model prog w) A (setNext S sl i ep) Q E s:=by
  unfold setNext
  refine wpAny_bind (wpAny_setState_of ho hd T.fits ?_)
  dsimp only
  unfold setsByText
  refine wpAny_bind (wpAny_bind (wpAny_askSetting (wpAny_pure ?_)))
  dsimp only [model]
  by_cases hb:w.params.followText "set-order" = true
  . rw [if_pos hb]
    have e0:(ep != ep)=false:=by simp
    rw [e0,if_neg Bool.false_ne_true]
    unfold setWalk setsByText
    refine wpAny_bind (wpAny_bind (wpAny_setState_of ho hd T.fits ?_))
    dsimp only
    refine wpAny_bind (wpAny_bind (wpAny_askSetting (wpAny_pure ?_)))
    dsimp only [model]
    rw [if_pos hb]
    refine wpAny_bind (wpAny_askSetting (wpAny_pure (wpAny_pure ?_)))
    dsimp only
    have ew:wv w S ep es=pickOrder (w.params.setOrder S ep) es:=by unfold wv; rw [if_pos hb]
    rw [ew] at h1 h2
    cases q:(pickOrder (w.params.setOrder S ep) es)[i]? with
    | none=>exact h2 q
    | some e=>exact h1 e sl q fun z=>by rw [hb] at z; cases z
  . have hb':w.params.followText "set-order" = false:=by simpa using hb
    rw [if_neg hb]
    have hl:t.led=true:=by rw [hled,hb']; rfl
    have ew:wv w S ep es=es:=by unfold wv; rw [if_neg hb]
    rw [ew] at h1 h2
    have hs:=hsl hb'
    split
    . rename_i z
      have z':(!t.plain && decide (es.size > 1))=true:=z
      rw [T.pl] at z'
      cases z'
    . refine wpAny_bind ?_
      show wpAny _ _ (if (!t.led && !es.isEmpty)=true then PySem.unsupported "set:maker-not-led" else Pure.pure ()) _ _ _
      rw [hl]
      rw [if_neg (by simp)]
      refine wpAny_pure ?_
      refine wpAny_pure ?_
      rw [hs]
      have hsz:=T.sz
      by_cases hi:i < es.size
      . have e1:es[i]? = some es[i]:=by simp [hi]
        have e2:t.place[i]? = some (t.place[i]'(by omega)):=by simp [hsz,hi]
        rw [e1,e2]
        exact h1 es[i] _ e1 fun _=>Lb T.ris (by omega)
      . have e1:es[i]? = none:=by simp; omega
        rw [e1]
        exact h2 e1
end
end Ht
namespace Ht
open PySem PySem.Spec PyProof.Rows Sem L2 PySem.SetTable
theorem si_next:Slot "set_iterator" "__next__" "set_iterator.__next__" :=
  Slot.of (owner := "set_iterator") (n := "__next__") (by rw [typeLookup_type,builtinLookup_eq_fast]; kernel_rfl) (by decide +kernel) (by decide +kernel) (by decide +kernel) (.inl (by decide +kernel)) (by rw [isSubtype_type]; kernel_rfl)
theorem L8:Slot "set_iterator" "__iter__" "set_iterator.__iter__" :=
  Slot.of (owner := "set_iterator") (n := "__iter__") (by rw [typeLookup_type,builtinLookup_eq_fast]; kernel_rfl) (by decide +kernel) (by decide +kernel) (by decide +kernel) (.inl (by decide +kernel)) (by rw [isSubtype_type]; kernel_rfl)
theorem KK:entryFor table "set_iterator.__next__" = some Builtin.«set_iterator.__next__»:=entryFor_of_tree (by kernel_rfl)
theorem Py:entryFor table "set_iterator.__iter__" = some Builtin.«dict_keyiterator.__iter__»:=entryFor_alias (id' := "dict_keyiterator.__iter__") (by kernel_rfl) rfl (by decide +kernel) (by kernel_rfl)
theorem P1:entryFor table "set.__iter__" = some Builtin.«frozenset.__iter__»:=entryFor_alias (id' := "frozenset.__iter__") (by kernel_rfl) rfl (by decide +kernel) (by kernel_rfl)
theorem Ke (a:Value):argsOk "set_iterator.__next__" ⟨[a],[]⟩:=by unfold argsOk; kernel_rfl
theorem QM (a:Value):argsOk "set_iterator.__iter__" ⟨[a],[]⟩:=by unfold argsOk; kernel_rfl
def itO (S:Addr) (sl i n ep:Nat):Obj:={ cls:=.type "set_iterator",data:=.fields #[.int sl 0,.int i 0,.ref S,.int n 0,.int ep 0] }
section
variable {prog:Program} {w:World} {A:Around} {E:Value->Shared->Prop} {s:Shared}
theorem GR {α:Type} {Q:α->Shared->Prop} (hh:A.handled=none) (h:∀ a h',(∀ b o,s.heap.get? b=some o->h'.get? b=some o)->Shared.TypeIs { s with heap:=h' } (.ref a) "StopIteration" -> E (.ref a) { s with heap:=h' }) :
    wpAny (model prog w) A (newExc (.type "StopIteration") [] >>= fun e=>(raiseNew e:Sem α)) Q E s:=by
  unfold newExc newTuple
  refine wpAny_bind (wpAny_bind (wpAny_newObj_type ?_ (by size_fits)))
  refine wpAny_bind (m:=firstArgMember _ _) (wpAny_of_eq (a:=Value.none) (by kernel_rfl) ?_)
  refine wpAny_newObj_type ?_ (by size_fits)
  unfold raiseNew
  refine wpAny_bind (wpAny_handled ?_)
  rw [hh]
  refine wpAny_bind (wpAny_pure (wpAny_throw (h _ _ (fun b o e=>Heap.get?_push_of_some _ (Heap.get?_push_of_some _ e)) ⟨_,Heap.get?_push_size _ rfl,rfl⟩)))
theorem Ru {I S:Addr} {sl i ep:Nat} {es:Array (Int × Value)} {t:SetTable} {o:Obj} {Q:Option Value->Shared->Prop} {x:Int × Value} (hne:S ≠ I) (hI:s.heap.get? I=some (itO S sl i es.size ep)) (ho:s.heap.get? S=some o) (hd:o.data=.set es ep t) (T:Tab t es.size) (hled:t.led = !(w.params.followText "set-order"))
    (hsl:w.params.followText "set-order" = false->below t.place sl=i) (hx:(wv w S ep es)[i]? = some x)
    (q:∀ h' sl',h'.get? I=some (itO S sl' (i + 1) es.size ep)->(w.params.followText "set-order" = false->below t.place sl'=i + 1)->Heap.SameBut I s.heap h'->Q (some x.2) { s with heap:=h' }) :
    wpAny (model prog w) A (pyNext (.ref I)) Q E s:=by
  have hT:s.TypeIs (.ref I) "set_iterator" := ⟨_,hI,rfl⟩
  unfold pyNext
  refine wpAny_bind (wpAny_attempt (wpAny_callSpecial?_slot (name:=Str.ofString "__next__") hT si_next (wpAny_call_entry si_next hT KK ?_ (Ke _))))
  unfold Builtin.«set_iterator.__next__»
  refine wpAny_bind (wpAny_of_eq (a:=(Value.ref I,[])) rfl ?_)
  refine wpAny_bind (wpAny_fieldsOf hI rfl ?_)
  dsimp only
  unfold setEntries
  refine wpAny_bind (wpAny_bind (wpAny_setState_of ho hd T.fits (wpAny_pure ?_)))
  dsimp only
  have e0:((es.size:Int) != (es.size:Int))=false:=by simp
  rw [e0,if_neg Bool.false_ne_true]
  simp only [Int.toNat_natCast]
  refine wpAny_bind (Jd ho hd T hled hsl (fun e sl' h1 h2=>?_) fun z=>by rw [hx] at z; cases z)
  rw [hx] at h1
  cases h1
  dsimp only
  refine wpAny_bind (wpAny_setField_rec hI (by simp) fun h1 g1 s1=>?_)
  refine wpAny_bind (wpAny_setField_rec g1 (by simp) fun h2' g2 s2=>?_)
  refine wpAny_pure ⟨_,rfl,wpAny_pure (q h2' sl' ?_ h2 (s1.trans s2))⟩
  rw [g2]
  simp [itO,rawInt]
theorem UR {I S:Addr} {sl i ep:Nat} {es:Array (Int × Value)} {t:SetTable} {o:Obj} {Q:Option Value->Shared->Prop} (hh:A.handled=none) (hI:s.heap.get? I=some (itO S sl i es.size ep)) (ho:s.heap.get? S=some o) (hd:o.data=.set es ep t) (T:Tab t es.size) (hled:t.led = !(w.params.followText "set-order"))
    (hsl:w.params.followText "set-order" = false->below t.place sl=i) (hx:(wv w S ep es)[i]? = none)
    (q:∀ h',(∀ b o,b ≠ I->s.heap.get? b=some o->h'.get? b=some o)->Q none { s with heap:=h' }) :
    wpAny (model prog w) A (pyNext (.ref I)) Q E s:=by
  have hT:s.TypeIs (.ref I) "set_iterator" := ⟨_,hI,rfl⟩
  unfold pyNext
  refine wpAny_bind (wpAny_attempt (wpAny_callSpecial?_slot (name:=Str.ofString "__next__") hT si_next (wpAny_call_entry si_next hT KK ?_ (Ke _))))
  unfold Builtin.«set_iterator.__next__»
  refine wpAny_bind (wpAny_of_eq (a:=(Value.ref I,[])) rfl ?_)
  refine wpAny_bind (wpAny_fieldsOf hI rfl ?_)
  dsimp only
  unfold setEntries
  refine wpAny_bind (wpAny_bind (wpAny_setState_of ho hd T.fits (wpAny_pure ?_)))
  dsimp only
  have e0:((es.size:Int) != (es.size:Int))=false:=by simp
  rw [e0,if_neg Bool.false_ne_true]
  simp only [Int.toNat_natCast]
  refine wpAny_bind (Jd ho hd T hled hsl (fun e sl' h1 h2=>by rw [hx] at h1; cases h1) fun _=>?_)
  dsimp only
  refine wpAny_bind (wpAny_setField_rec hI (by simp) fun h1 g1 s1=>?_)
  refine GR (A:=A.in1) (s:={ s with heap:=h1 }) hh fun a h' k ty=>?_
  refine wpAny_bind (wpAny_isInstance (T := "StopIteration") (b:=true) ty isSubtype_stop ?_)
  exact wpAny_pure (q h' fun b o hb e=>k b o (s1.extBut b o hb e))
theorem Rt {I S:Addr} {sl i n ep:Nat} {Q:Value->Shared->Prop} (hI:s.heap.get? I=some (itO S sl i n ep)) (h:Q (.ref I) s):wpAny (model prog w) A (pyIter (.ref I)) Q E s:=by
  have hT:s.TypeIs (.ref I) "set_iterator" := ⟨_,hI,rfl⟩
  refine wpAny_pyIter_slot hT L8 (wpAny_call_entry L8 hT Py ?_ (QM _))
  exact wpAny_pure ⟨_,rfl, "set_iterator",_,hT,si_next.lookup,h⟩
theorem UQ {S:Addr} {ep:Nat} {es:Array (Int × Value)} {t:SetTable} {o:Obj} {Q:Value->Shared->Prop} (ho:s.heap.get? S=some o) (hex:o.ExactSet) (hd:o.data=.set es ep t) (T:Tab t es.size)
    (h:Q (.ref s.heap.objs.size) { s with heap:=s.heap.push (itO S 0 0 es.size ep) }):wpAny (model prog w) A (pyIter (.ref S)) Q E s:=by
  have hT:s.TypeIs (.ref S) "set" := ⟨_,ho,hex.1⟩
  refine wpAny_pyIter_slot hT PySem.F.slot_set_iter (wpAny_call_entry PySem.F.slot_set_iter hT P1 ?_ (PySem.F.args_set_iter_1 _))
  unfold Builtin.«frozenset.__iter__» Builtin.Frozenset.slot0 Builtin.Frozenset.sizeOf setEntries setDrawn setsByText
  refine wpAny_bind (wpAny_bind (wpAny_of_eq (a:=(Value.ref S,[])) rfl (wpAny_pure ?_)))
  refine wpAny_bind (wpAny_bind (wpAny_bind (wpAny_setState_of ho hd T.fits (wpAny_pure (wpAny_pure ?_)))))
  refine wpAny_bind (wpAny_bind (wpAny_setState_of ho hd T.fits ?_))
  dsimp only
  refine wpAny_bind (wpAny_bind (wpAny_askSetting (wpAny_pure (wpAny_pure ?_))))
  dsimp only
  have e0:∀ b:Bool,(!b && (!t.plain && decide (es.size > 1)))=false:=fun b=>by rw [T.pl]; simp
  split
  . rename_i z
    have z':=(e0 _).symm.trans z
    cases z'
  . refine wpAny_bind (wpAny_pure ?_)
    refine wpAny_bind (wpAny_setEpoch_of ho hd T.fits ?_)
    unfold newFields
    exact wpAny_bind (wpAny_newObj_type (wpAny_pure ⟨_,rfl, "set_iterator",_,⟨_,Heap.get?_push_size _ rfl,rfl⟩,si_next.lookup,h⟩))
end
end Ht
namespace Ht
open PySem PySem.Spec PyProof.Rows Sem L2 PySem.SetTable
section
variable {prog:Program} {w:World} {A:Around} {E:Value->Shared->Prop} {s:Shared}
theorem TZ:splitId "set.__len__" = some ("set", "__len__"):=by decide +kernel
theorem Oa {S:Addr} {Q:Bool->Shared->Prop} (hT:s.TypeIs (.ref S) "set") (h:Q false s):wpAny (model prog w) A (Builtin.List.listLengthHint (.ref S)) Q E s:=by
  obtain ⟨id,hid⟩:∃ id,id = "set.__len__" := ⟨_,rfl⟩
  have l:=PySem.F.slot_set_len.lookup
  have z:=sub_set_self
  have sp:=TZ
  rw [← hid] at l sp
  unfold Builtin.List.listLengthHint
  wp_walk
  rw [sp]
  wp_walk
  split
  . wp_walk
    exact h
  . rename_i no
    exact absurd (by rw [hid]; decide +kernel) no
theorem M9 {I S:Addr} {ep:Nat} {es:Array (Int × Value)} {t:SetTable} {o:Obj} (hh:A.handled=none) (hne:S ≠ I) (hd:o.data=.set es ep t) (T:Tab t es.size) (hled:t.led = !(w.params.followText "set-order")) :
    Walks prog w A I [I,S] [I] es.size (fun i v=>∃ e,(wv w S ep es)[i]? = some e /\ v=e.2)
      (fun i h=>(∃ sl:Nat,h.get? I=some (itO S sl i es.size ep) /\ (w.params.followText "set-order" = false->below t.place sl=i)) /\ h.get? S=some o) where
  sub:=fun b hb=>by simp at hb; simp [hb]
  frame:=fun i h h' st k=>by
    obtain ⟨⟨sl,h1,h2⟩,h3⟩:=st
    exact ⟨⟨sl,k I (by simp) _ h1,h2⟩,k S (by simp) _ h3⟩
  item:=fun i s Q E hi st q=>by
    obtain ⟨⟨sl,h1,h2⟩,h3⟩:=st
    obtain ⟨x,hx⟩:∃ x,(wv w S ep es)[i]? = some x:=⟨(wv w S ep es)[i]'(by rw [Ef]; exact hi),by simp [Ef,hi]⟩
    refine Ru hne h1 h3 hd T hled h2 hx fun h' sl' g1 g2 sb=>?_
    exact q x.2 h' s.toks ⟨x,hx,rfl⟩ ⟨⟨sl',g1,g2⟩,(sb.2 S hne).trans h3⟩ fun b o hb e=>(sb.2 b (by simpa using hb)).trans e
  done:=fun s Q E st q=>by
    obtain ⟨⟨sl,h1,h2⟩,h3⟩:=st
    refine UR hh h1 h3 hd T hled h2 (by simp [Ef]) fun h' k=>?_
    exact q h' s.toks fun b o hb e=>k b o (by simpa using hb) e
  self:=fun i s Q E st h=>by
    obtain ⟨⟨sl,h1,h2⟩,h3⟩:=st
    exact Rt h1 h
theorem L3 {S:Addr} {ep:Nat} {es:Array (Int × Value)} {t:SetTable} {o:Obj} (hex:o.ExactSet) (hd:o.data=.set es ep t) (T:Tab t es.size) (hled:t.led = !(w.params.followText "set-order")) :
    PySem.W.KdlSrc prog w "set" S S es.size (fun i v=>∃ e,(wv w S ep es)[i]? = some e /\ v=e.2) (fun h=>h.get? S=some o) where
  type:=fun s h=>⟨_,h,hex.1⟩
  there:=fun h e=>⟨Heap.lt_size e,Heap.lt_size e⟩
  keep:=fun h h' e k=>k S (.inl rfl) _ e
  notList:=by decide
  notTuple:=by decide
  hint:=fun A E s Q e h=>Oa ⟨_,e,hex.1⟩ h
  iter:=fun A s hh e=>⟨itO S 0 0 es.size ep,_,fun E Q h=>UQ e hex hd T h,M9 hh (Nat.ne_of_lt (Heap.lt_size e)) hd T hled,⟨0,Heap.get?_push_size _ rfl,fun _=>La T.ris⟩,Heap.get?_push_of_some _ e⟩
theorem JZ {S:Addr} {ks:List Int} {Q:Value->Shared->Prop} (hh:A.handled=none) (h64:ks.length < 64) (hS:SetI prog w s.heap S ks)
    (q:∀ (h1 h':Heap) tk c (out:Array Value) ms,(∀ b o,s.heap.get? b=some o->h1.get? b=some o)->(∀ b o,h1.get? b=some o->h'.get? b=some o)->h'.get? h1.objs.size=some (seqObj "list" out c)->IntsAre out.toList ms->ms.Perm ks->ms.Pairwise (· <= ·)->Q (.ref h1.objs.size) { s with heap:=h',toks:=tk }) :
    wpAny (model prog w) A (call (.builtin "sorted") [.ref S]) Q E s:=by
  obtain ⟨o,es,ep,t,ho,hex,hd,hel,⟨ns,hen,hp⟩,T,hled⟩:=hS
  have small:es.size < 64:=by rw [JF hen hp]; exact h64
  refine Calls.call_function_entry kind_sorted plain_sorted entry_sorted (args_sorted1 _) ?_
  unfold Builtin.«sorted»
  refine wpAny_bind (wpAny_of_eq (a:=()) rfl ?_)
  refine wpAny_bind (PySem.W.kdu_collect (A:=A.in1) (L3 (S:=S) hex hd T hled) hh ho (by rw [sizeLine_eq]; omega) fun h1 t1 acc k1 it=>?_)
  have hacc:acc.toList=(wv w S ep es).toList.map (·.2):=by
    refine List.ext_getElem? fun i=>?_
    by_cases hi:i < acc.size
    . obtain ⟨e,h1,h2⟩:=it.2 i acc[i] (by simp [hi])
      have:acc.toList[i]? = some acc[i]:=by simp [hi]
      rw [this,h2,List.getElem?_map,Array.getElem?_toList,h1]
      rfl
    . have h1:=it.1
      have h2:=Ef w S ep es
      rw [List.getElem?_eq_none (by simp; omega),List.getElem?_eq_none (by simp; omega)]
  obtain ⟨ls,hls,hpl⟩:=FU ((IL w S ep es).map (·.2)) hen
  rw [← hacc] at hls
  have hlen:acc.toList.length=es.size:=by rw [Array.length_toList]; exact it.1
  refine wpAny_bind (wpAny_newList ?_ (by rw [sizeLine_eq]; omega))
  have hL:(h1.push (seqObj "list" acc.toList.toArray 0)).get? h1.objs.size=some (seqObj "list" acc.toList.toArray 0):=Heap.get?_push_size _ rfl
  have kL:∀ b o,h1.get? b=some o->(h1.push (seqObj "list" acc.toList.toArray 0)).get? b=some o:=fun b o e=>Heap.get?_push_of_some _ e
  refine wpAny_bind (wpAny_holding (wpAny_call_entry slot_list_sort ⟨_,hL,rfl⟩ entry_list_sort (list_sort_tree hL hls (by omega) fun out ms a1 a2 a3=>⟨_,rfl,?_⟩) (args_list_sort _)))
  obtain ⟨c,hc⟩:=sortedHeap_at (out:=out) hL
  exact wpAny_pure ⟨_,rfl,q h1 _ _ c out ms k1 (fun b o e=>by rw [sortedHeap_old (Nat.ne_of_lt (Heap.lt_size e)) (Heap.lt_size (kL b o e))]; exact kL b o e) hc a1 ((a2.trans hpl).trans hp) a3⟩
end
end Ht
namespace Ht
def KB (x:Int):List Int->List Int
  | []=>[x]
  | y :: ys=>if x < y then x :: y :: ys else if x=y then y :: ys else y :: KB x ys
def srt (xs:List Int):List Int:=xs.foldr KB []
theorem Gq (x k:Int):∀ ys:List Int,k ∈ KB x ys ↔ k=x ∨ k ∈ ys
  | []=>by simp [KB]
  | y :: ys=>by
    unfold KB
    split
    . simp
    . split
      . rename_i e
        subst e
        simp
      . rw [List.mem_cons,Gq x k ys,List.mem_cons]
        constructor <;> (intro z; rcases z with z | z | z <;> simp [z])
theorem Hl (x:Int):∀ {ys:List Int},ys.Pairwise (· < ·)->(KB x ys).Pairwise (· < ·)
  | [],_=>by simp [KB]
  | y :: ys,h=>by
    obtain ⟨h1,h2⟩:=List.pairwise_cons.mp h
    unfold KB
    split
    . rename_i hx
      exact List.pairwise_cons.mpr ⟨fun z hz=>(List.mem_cons.mp hz).elim (fun e=>e ▸ hx) fun m=>Int.lt_trans hx (h1 z m),h⟩
    . split
      . exact h
      . refine List.pairwise_cons.mpr ⟨fun z hz=>?_,Hl x h2⟩
        rcases (Gq x z ys).mp hz with rfl | m
        . omega
        . exact h1 z m
theorem Qv (xs:List Int) (k:Int):k ∈ srt xs ↔ k ∈ xs:=by
  unfold srt
  induction xs with
  | nil=>simp
  | cons x xs ih=>rw [List.foldr_cons,Gq,ih,List.mem_cons]
theorem OX (xs:List Int):(srt xs).Pairwise (· < ·):=by
  unfold srt
  induction xs with
  | nil=>exact .nil
  | cons x xs ih=>exact Hl x ih
theorem MG:∀ {xs ys:List Int},xs.Pairwise (· < ·)->ys.Pairwise (· < ·)->(∀ k,k ∈ xs ↔ k ∈ ys)->xs=ys
  | [],[],_,_,_=>rfl
  | [],y :: ys,_,_,h=>by have:=(h y).mpr (List.mem_cons_self ..); cases this
  | x :: xs,[],_,_,h=>by have:=(h x).mp (List.mem_cons_self ..); cases this
  | x :: xs,y :: ys,a,b,h=>by
    obtain ⟨a1,a2⟩:=List.pairwise_cons.mp a
    obtain ⟨b1,b2⟩:=List.pairwise_cons.mp b
    have e:x=y:=by
      rcases List.mem_cons.mp ((h x).mp (List.mem_cons_self ..)) with z | z
      . exact z
      . rcases List.mem_cons.mp ((h y).mpr (List.mem_cons_self ..)) with z2 | z2
        . exact z2.symm
        . have:=a1 y z2
          have:=b1 x z
          omega
    subst e
    rw [MG a2 b2 fun k=>?_]
    constructor
    . intro hk
      rcases List.mem_cons.mp ((h k).mp (List.mem_cons_of_mem _ hk)) with z | z
      . have:=a1 k hk; omega
      . exact z
    . intro hk
      rcases List.mem_cons.mp ((h k).mpr (List.mem_cons_of_mem _ hk)) with z | z
      . have:=b1 k hk; omega
      . exact z
theorem TY {ms ns:List Int} (p:ms.Perm (BC ns)) (h:ms.Pairwise (· <= ·)):ms=srt ns:=by
  have nd:ms.Nodup:=p.nodup_iff.mpr (LA ns)
  have lt:ms.Pairwise (· < ·):=(List.pairwise_and_iff.mpr ⟨h,nd⟩).imp fun z=>by
    have:=z.1
    have:=z.2
    omega
  exact MG lt (OX ns) fun k=>by rw [p.mem_iff,PN,Qv]
end Ht
namespace L2
open PySem PySem.Spec PyProof.Rows Sem Ht
def Q0 (P:Program) (w:World) (p:Addr) (ks:List Int):HO:=.ext fun h=>SetI P w h p ks
section
variable {X:Cx}
theorem Ny (hc:X.calm=true):BO X (.type "set") (fun xs H Q=>∃ a ns,xs=[.ref a] /\ (SqL X.K H a (ns.map V.int) ∨ SqT X.K H a (ns.map V.int)) /\ (BC ns).length <= 18 /\ ∀ p,H p=none->Q (.ref p) (upd H p (Q0 X.prog X.w p (BC ns)))):=by
  intro pins s σ H xs us Q I r h
  obtain ⟨a,ns,rfl,ha,room,q⟩:=h
  obtain ⟨u,rfl,ru⟩:=Vals.one r
  cases ru
  have fin:∀ h' tk,(∀ c o,s.heap.get? c=some o->h'.get? c=some o)->SetI X.prog X.w h' s.heap.objs.size (BC ns)->EP X pins σ Q (.ref s.heap.objs.size) { s with heap:=h',toks:=tk }:=fun h' tk kp hS=>by
    refine ⟨.ref s.heap.objs.size,_,I.laid (o:=Q0 X.prog X.w s.heap.objs.size (BC ns)) kp (Nat.le_refl _) ?_,rfl,q _ (I.hok.fresh (Nat.le_refl _))⟩
    obtain ⟨o,es,ep,t,e,rest⟩:=id hS
    exact ⟨hS,⟨o,e⟩,fun h1 h2 z k=>z.at k⟩
  rcases ha with ha | ha
  . obtain ⟨its,rv,pl,hz⟩:=I.list ha
    exact Kt (I.ok.hd hc) pl.isList (Go rv) room fin
  . obtain ⟨its,rv,pl,hz⟩:=I.tuple ha
    exact NH (I.ok.hd hc) pl (Go rv) room fin
theorem LW (hc:X.calm=true):BO X (.builtin "sorted") (fun xs H Q=>∃ p ns,xs=[.ref p] /\ H p=some (Q0 X.prog X.w p (BC ns)) /\ (BC ns).length < 64 /\ ∀ l,H l=none->Q (.ref l) (upd H l (.lst ((srt ns).map V.int)))):=by
  intro pins s σ H xs us Q I r h
  obtain ⟨p,ns,rfl,hp,h64,q⟩:=h
  obtain ⟨u,rfl,ru⟩:=Vals.one r
  cases ru
  obtain ⟨hS,_⟩:=I.hok p _ hp
  refine JZ (I.ok.hd hc) h64 hS fun h1 h' tk c out ms k1 k2 e1 im pm sm=>?_
  have em:=TY pm sm
  subst em
  have I1:=I.kept (t':=tk) k1
  have rv:=D6 im
  refine ⟨.ref h1.objs.size,_,I1.laid (t':=tk) (o:=.lst ((srt ns).map V.int)) k2 (Nat.le_refl _) ⟨?_,out.toList,c,rv,e1⟩,rfl,q _ (I1.hok.fresh (Nat.le_refl _))⟩
  obtain ⟨o,es,ep,t,_,_,_,_,⟨ns',hen,hp'⟩,T,_⟩:=hS
  have hsz:=JF hen (hp'.trans pm.symm)
  rw [List.length_map,sizeLine_eq]
  rcases T.mks with ⟨_,b⟩ | ⟨_,b⟩ | ⟨_,b⟩ <;> omega
end
end L2
namespace Mi
open PySem L2 Ht
def JY (d:D):M D:=bnd (BL d) fun ds=>fun μ=>match Hk ds with
  | some ns=>if (BC ns).length <= 18 then some (.lst ((srt ns).map D.int),μ) else none
  | none=>none
theorem Gk {K:PySem.W.Frag} {ι:Nat->Addr} {k:Nat} {H:Hp}:∀ ns:List Int,IsL K ι k H (ns.map D.int) (ns.map V.int)
  | []=>IsL.nil
  | n :: r=>by
    rw [List.map_cons,List.map_cons]
    unfold IsL
    exact ⟨_,_,rfl,ofI _,Gk r⟩
section
variable {X:Cx} {e:Expr} {pos p p2 pos2:Pos}
theorem Ky {m:Sl->M D} (yl:X.mg "sorted" = none) (ys:X.mg "set" = none) (he:RE X e m) (hc:X.calm=true:=by rfl) (hgl:Gl X "sorted" := by rfl) (hgs:Gl X "set" := by rfl) (hst:Ea e=false:=by rfl) :
    RE X (.Call (.Name "sorted" p) [.Call (.Name "set" p2) [e] [] pos2] [] pos) (mUn JY m):=by
  have hs:PE X (.Call (.Name "set" p2) [e] [] pos2) _:=DJ (Ny hc) hgs ys Mi.KZ (DY he.pe ET (Ai hst)) (by decide) (by decide) (Ai hst) rfl
  refine RE.wk (GX (LW hc) hgl yl PyProof.Rows.boot_sorted (DY hs ET (Ai rfl)) (by decide) (by decide) (Ai rfl) rfl) fun σ H Q h=>?_
  obtain ⟨ι,μ,τ,d,μ',R,S,ev,q⟩:=h
  obtain ⟨x,μ1,e1,e2⟩:=AI ev
  obtain ⟨ds,μ2,e3,e4⟩:=AI e2
  refine ⟨ι,μ,τ,x,μ1,R,S,e1,fun ι1 H1 E1 R1 v1 i1=>?_⟩
  obtain ⟨hm,a,vs,rfl,h1,h2⟩:=CH R1 i1 e3
  subst hm
  cases hx:Hk ds with
  | none=>rw [hx] at e4; cases e4
  | some ns=>
    rw [hx] at e4
    have e5:(if (BC ns).length <= 18 then some (D.lst ((srt ns).map D.int),μ2) else none)=some (d,μ'):=e4
    split at e5
    . rename_i room
      cases e5
      have ev:=J9 h2 hx
      subst ev
      refine ⟨a,ns,rfl,h1,room,fun p hp=>?_⟩
      obtain ⟨E2,R2⟩:=R1.laid (Q0 X.prog X.w p (BC ns)) hp
      exact ⟨p,ns,rfl,A0,by omega,fun l hl=>MZ R2 (Gk _) (fun ι' H' E' R'=>q ι' H' ((E1.trans E2).trans E') R') l hl⟩
    . cases e5
end
end Mi
namespace L2
open PySem PySem.Spec PyProof.Rows Sem Ht
section
variable {prog:Program} {w:World} {A:Around} {E:Value->Shared->Prop} {s:Shared}
theorem OY {n:Nat}:Builtin.Range.rangeSize 0 n 1=(n:Int):=by rw [rangeSize_one]; split <;> omega
theorem NG {n:Nat} (h:n <= 1000):Builtin.Range.small 0 n 1=true:=small_one (by omega) (by omega) (by omega) (by omega)
theorem KN {r:Addr} {n:Nat} {t u v:Tok} {Q:List Value->Shared->Prop} (hh:A.handled=none) (hr:IsRange s.heap r 0 n 1 t u v) (hn:n <= 1000)
    (q:∀ h' tk (acc:List Value),(∀ b o,s.heap.get? b=some o->h'.get? b=some o)->IntsAre acc ((List.range n).map Int.ofNat)->Q acc { s with heap:=h',toks:=tk }) :
    wpAny (model prog w) A (collect (.ref r)) Q E s:=by
  unfold collect
  refine wpAny_bind (wpAny_runValue (codeAny_builtin entry_proto_collect' ?_))
  rw [Around.under_plainId PySem.F.plain_proto_collect _]
  unfold Builtin.«proto.collect»
  refine wpAny_bind (wpAny_newList ?_)
  refine wpAny_pure ⟨plainId_quiet PySem.F.plain_list_iadd _,codeAny_builtin entry_list_iadd' ?_⟩
  rw [Around.under_plainId PySem.F.plain_list_iadd _]
  have got:∀ (acc:Array Value) (c:Nat) (h':Heap) (tk:Nat),(∀ b o,s.heap.get? b=some o->h'.get? b=some o)->h'.get? s.heap.objs.size=some { cls:=.type "list",dict:=none,data:=.seq acc c,slots:=#[] }->ItemsOf (fun i v=>∃ t,v=.int (0 + (i:Int) * 1) t) acc n->
      wpAny (model prog w) A (load s.heap.objs.size >>= fun o=>match o.data with | .seq xs _=>Pure.pure xs.toList | _=>PySem.unsupported "internal:collect") Q E { s with heap:=h',toks:=tk }:=fun acc c h' tk k e it=>by
    refine wpAny_bind (wpAny_load e (wpAny_pure (q h' tk acc.toList k ?_)))
    have im:=intsAre_map acc.toList fun v hv=>by
      obtain ⟨i,hi,rfl⟩:=List.getElem_of_mem hv
      obtain ⟨t,e⟩:=it.2 i _ (Array.getElem?_eq_getElem (by simpa using hi))
      exact ⟨_,t,by simpa using e⟩
    have en:acc.toList.map numOf=(List.range n).map Int.ofNat:=by
      refine List.ext_getElem? fun i=>?_
      rw [List.getElem?_map,List.getElem?_map]
      by_cases hi:i < n
      . have hi':i < acc.size:=by rw [it.1]; exact hi
        obtain ⟨t,e⟩:=it.2 i _ (Array.getElem?_eq_getElem hi')
        rw [Array.getElem?_toList,Array.getElem?_eq_getElem hi',e,List.getElem?_range hi]
        simp [numOf]
      . rw [List.getElem?_eq_none (by rw [Array.length_toList,it.1]; omega),List.getElem?_eq_none (by simp; omega)]
        rfl
    rwa [en] at im
  have key:=wpAny_extend_range (prog:=prog) (w:=w) (A:=A) (s:={ s with heap:=s.heap.push { cls:=.type "list",data:=.seq ([]:List Value).toArray } })
    (R:=fun (z:Result) (s':Shared)=>∃ (h':Heap) (tk:Nat) (acc:Array Value) (c:Nat),z=.ok (.ret (.ref s.heap.objs.size)) /\ s'={ s with heap:=h',toks:=tk } /\
      (∀ b o,s.heap.get? b=some o->h'.get? b=some o) /\ h'.get? s.heap.objs.size=some { cls:=.type "list",dict:=none,data:=.seq acc c,slots:=#[] } /\ ItemsOf (fun i v=>∃ t,v=.int (0 + (i:Int) * 1) t) acc n)
    (n:=n) hh (Heap.get?_push_of_some _ hr) (NG hn) OY (by omega) s.heap.objs.size (.ref s.heap.objs.size) 0 (Heap.get?_push_size _ rfl)
    (fun h' tk acc c k e it=>⟨h',tk,acc,c,rfl,rfl,fun b o z=>k b o (Nat.ne_of_lt (Heap.lt_size z)) (Heap.get?_push_of_some _ z),e,it⟩)
  refine wpAny_mono key (fun fin s' z=>?_) fun e s' z=>by obtain ⟨_,_,_,_,y,_⟩:=z; cases y
  cases fin with
  | done f=>
    obtain ⟨h',tk,acc,c,y,rfl,k,e,it⟩:=z
    cases y
    exact got acc c h' tk k e it
  | again c=>
    refine ⟨z.1,codeAny_mono z.2 fun f s2 y=>?_⟩
    obtain ⟨h',tk,acc,c,rfl,rfl,k,e,it⟩:=y
    exact got acc c h' tk k e it
end
section
variable {X:Cx}
theorem Nz:BO X (.type "range") (fun xs H Q=>∃ n:Nat,xs=[.int n] /\ ∀ p,H p=none->Q (.ref p) (upd H p (.rng 0 n))):=by
  intro pins s σ H xs us Q I r h
  obtain ⟨n,rfl,q⟩:=h
  obtain ⟨u,rfl,t,rfl⟩:=Vals.one r
  refine call_range_1 ⟨.ref s.heap.objs.size,_,I.laid (o:=.rng 0 n) (fun b o e=>Heap.get?_push_of_some _ e) (Nat.le_refl _) ⟨_,_,_,Heap.get?_push_size _ rfl⟩,rfl,q _ (I.hok.fresh (Nat.le_refl _))⟩
abbrev MS (n:Nat):List V:=((List.range n).map Int.ofNat).map V.int
theorem Ni (n:Nat):(MS n).length=n:=by simp
theorem KS (hc:X.calm=true):BO X (.type "tuple") (fun xs H Q=>∃ p n,xs=[.ref p] /\ H p=some (.rng 0 (n:Nat)) /\ n <= 1000 /\ ∀ l,H l=none->Q (.ref l) (upd H l (.tup (MS n)))):=by
  intro pins s σ H xs us Q I r h
  obtain ⟨p,n,rfl,hp,hn,q⟩:=h
  obtain ⟨u,rfl,ru⟩:=Vals.one r
  cases ru
  obtain ⟨t,u,v,e⟩:=I.hok p _ hp
  refine callType_codes PySem.F.called_tuple (PySem.F.typeCall_tuple_1 (.ref p)) PySem.F.entry_object_init (Q₁:=fun x s₁=>s₁.TypeIs x "tuple" /\ EP X pins σ Q x s₁) ?_ (fun x s₁ z=>And.intro z.1 (And.intro (PySem.F.args_object_init_2 x (.ref p)) ?_))
  . refine codeAny_call_builtin PySem.F.plain_tuple_new PySem.F.entry_tuple_new (wpAny_of_eq (PySem.F.newCall_tuple_1 _) ?_)
    have a1:=sub_tuple_self
    have a2:=init_tuple_lookup
    have a3:=madeHere_tuple
    have a4:s.TypeIs (.ref p) "range" := ⟨_,e,rfl⟩
    unfold Builtin.«tuple.__new__»
    have go:∀ (A:Around) (Q:List Value->Shared->Prop) (E:Value->Shared->Prop),A.handled=none->(∀ h' tk (acc:List Value),(∀ b o,s.heap.get? b=some o->h'.get? b=some o)->IntsAre acc ((List.range n).map Int.ofNat)->Q acc { s with heap:=h',toks:=tk })->wpAny (model X.prog X.w) A (collect (.ref p)) Q E s:=fun A Q E hh z=>KN hh e hn z
    wp_walk using go
    . exact I.ok.hd hc
    . intro h' tk acc k im
      have hl:acc.length=n:=by
        have:=congrArg List.length im.nums
        simpa using this
      refine wpAny_bind (wpAny_pure ?_)
      unfold Builtin.Tuple.tupleExact
      refine wpAny_bind (wpAny_newObj_type ?_ (by show acc.toArray.size <= sizeLine; rw [sizeLine_eq]; simp; omega))
      have I1:=I.kept (t':=tk) k
      refine wpAny_pure ⟨⟨_,Heap.get?_push_size _ rfl,rfl⟩,.ref h'.objs.size,_,I1.laid (t':=tk) (o:=.tup (MS n)) (fun b o z=>Heap.get?_push_of_some _ z) (Nat.le_refl _) ⟨by rw [Ni,sizeLine_eq]; omega,acc,D6 im,IsTup.new _ _⟩,rfl,q _ (I1.hok.fresh (Nat.le_refl _))⟩
  . exact object_init_meets PySem.F.called_tuple.init.lookup PySem.F.called_tuple.made (by decide) X.prog X.w X.A.in1 (wants (fun r s₂=>r=.none /\ EP X pins σ Q x s₂) X.xe) s₁ (And.intro z.1 (And.intro rfl z.2))
end
end L2
namespace Mi
open PySem L2 Ht
def SQ (n:Nat):List D:=((List.range n).map Int.ofNat).map D.int
def Oi (how:List D->D) (d:D):M D:=match d with
  | .int j=>fun μ=>if 0 <= j /\ j <= 1000 then some (how (SQ j.toNat),μ) else none
  | _=>BD
section
variable {X:Cx} {e:Expr} {pos p p2 pos2:Pos}
theorem Q6 {T:String} {f:List D->D} {how:List V->HO} {m:Sl->M D} (call:X.calm=true->BO X (.type T) (fun xs H Q=>∃ p n,xs=[.ref p] /\ H p=some (.rng 0 (n:Nat)) /\ n <= 1000 /\ ∀ l,H l=none->Q (.ref l) (upd H l (how (MS n)))))
    (fin:∀ {ι:Nat->Addr} {μ:Mh} {H:Hp} {Q:VK} {ds:List D} {vs:List V},RelH X.K ι μ H->IsL X.K ι μ.length H ds vs->(Aft X.K ι μ H μ fun ι' H'=>∀ v,Is X.K ι' μ.length H' (f ds) v->Q v H')->∀ l,H l=none->Q (.ref l) (upd H l (how vs)))
    (yl:X.mg T=none) (ys:X.mg "range" = none) (bt:bootBuiltins T=some (.type T)) (he:RE X e m) (hc:X.calm=true:=by rfl) (hgl:Gl X T:=by rfl) (hgs:Gl X "range" := by rfl) (hst:Ea e=false:=by rfl) (n1:(T:Str) ≠ "__name__" := by decide) (n2:((T:Str) == ("__debug__" : Str))=false:=by decide) :
    RE X (.Call (.Name T p) [.Call (.Name "range" p2) [e] [] pos2] [] pos) (mUn (Oi f) m):=by
  have hs:PE X (.Call (.Name "range" p2) [e] [] pos2) _:=DJ Nz hgs ys PyProof.Rows.boot_range (DY he.pe ET (Ai hst)) (by decide) (by decide) (Ai hst) rfl
  refine RE.wk (DJ (call hc) hgl yl bt (DY hs ET (Ai rfl)) n1 n2 (Ai rfl) rfl) fun σ H Q h=>?_
  obtain ⟨ι,μ,τ,d,μ',R,S,ev,q⟩:=h
  obtain ⟨x,μ1,e1,e2⟩:=AI ev
  refine ⟨ι,μ,τ,x,μ1,R,S,e1,fun ι1 H1 E1 R1 v1 i1=>?_⟩
  cases x with
  | int j=>
    have e3:(if 0 <= j /\ j <= 1000 then some (f (SQ j.toNat),μ1) else none)=some (d,μ'):=e2
    split at e3
    . rename_i hj
      cases e3
      have z:=BY i1
      subst z
      have ej:j=((j.toNat:Nat):Int):=by omega
      refine ⟨j.toNat,by rw [← ej],fun p hp=>?_⟩
      obtain ⟨E2,R2⟩:=R1.laid (.rng 0 (j.toNat:Nat)) hp
      exact ⟨p,j.toNat,rfl,A0,by omega,fun l hl=>fin R2 (Gk _) (fun ι' H' E' R'=>q ι' H' ((E1.trans E2).trans E') R') l hl⟩
    . cases e3
  | _=>cases e2
theorem NS {m:Sl->M D} (yl:X.mg "tuple" = none) (ys:X.mg "range" = none) (he:RE X e m) (hc:X.calm=true:=by rfl) (hgl:Gl X "tuple" := by rfl) (hgs:Gl X "range" := by rfl) (hst:Ea e=false:=by rfl) :
    RE X (.Call (.Name "tuple" p) [.Call (.Name "range" p2) [e] [] pos2] [] pos) (mUn (Oi D.tup) m):=Q6 (T := "tuple") (how:=HO.tup) KS MY yl ys Mi.BK he hc hgl hgs hst
end
end Mi
namespace L2
open PySem PySem.Spec PyProof.Rows Sem Ht
theorem Qt:fillsNumberSlot (.type "tuple") "mul" = Pure.pure false:=PySem.fillsNumberSlot_seq (id := "tuple.__mul__") (r:=some (.builtin "tuple.__rmul__")) PySem.F.slot_tuple_mul.lookup (by decide +kernel) PySem.F.slot_tuple_rmul.lookup (by decide +kernel)
theorem TQ:seqRepeat? (.type "tuple")=Pure.pure (some (.builtin "tuple.__mul__")):=by
  unfold seqRepeat?
  rw [PySem.seqSlot_of (T := "tuple") (name := "__mul__") PySem.F.slot_tuple_mul.lookup (by decide +kernel),PySem.seqSlot_of (T := "tuple") (name := "__rmul__") PySem.F.slot_tuple_rmul.lookup (by decide +kernel)]
  rfl
section
variable {prog:Program} {w:World} {A:Around} {E:Value->Shared->Prop} {s:Shared}
theorem TU (a:Int) (t:Tok) (l:Addr) (items:Array Value):Meets (Builtin.«int.__rmul__» ⟨[.int a t,.ref l],[]⟩) (fun _ R s=>IsTup s.heap l items /\ R (.ok (.ret Value.notImplemented)) s):=
  .of_wp fun prog w A R s h=>by
    obtain ⟨⟨o,ho,hc,n,hd⟩,h⟩:=h
    have hT:s.TypeIs (.ref l) "tuple" := ⟨o,ho,hc⟩
    have z:=PySem.F.sub_tuple_int
    wp_walk
    rw [hd]
    wp_walk
    exact ⟨_,rfl,h⟩
theorem TR (l:Addr) (items:Array Value) (k:Int) (t:Tok) (h0:items.isEmpty=false) (h1:1 <= k) (h2:k <= 1000) (h3:items.size <= 1000) :
    Meets (Builtin.«tuple.__mul__» ⟨[.ref l,.int k t],[]⟩) (fun _ R s=>IsTup s.heap l items /\ (k=1->R (.ok (.ret (.ref l))) s) /\ (k ≠ 1->R (.ok (.ret (.ref s.heap.objs.size))) { s with heap:=s.heap.push { cls:=.type "tuple",data:=.seq ((List.replicate k.toNat items).foldl (· ++ ·) #[]) } })):=
  .of_wp fun prog w A R s h=>by
    obtain ⟨⟨o,ho,hc,n,hd⟩,q1,q2⟩:=h
    have hT:s.TypeIs (.ref l) "tuple" := ⟨o,ho,hc⟩
    have b1:(items.size:Int) * k <= 1000000:=by
      have:=Int.mul_le_mul (show (items.size:Int) <= 1000 by omega) h2 (by omega) (by omega)
      omega
    have c1:(decide (k < -2 ^ 63) || decide (k ≥ 2 ^ 63))=false:=by simp; omega
    have c3:(decide (k <= 0) || items.isEmpty)=false:=by rw [h0]; simp; omega
    have c5:Builtin.Tuple.tupleTooMany ((items.size:Int) * k)=false:=by
      unfold Builtin.Tuple.tupleTooMany
      simp [sizeLine_eq]
      omega
    unfold Builtin.«tuple.__mul__»
    wp_walk
    rw [c1,if_neg Bool.false_ne_true]
    refine wpAny_bind ?_
    unfold Builtin.Tuple.tupleItemsOf
    refine wpAny_bind (wpAny_seqItems ho hd (wpAny_pure ?_))
    rw [h0]
    by_cases hk:k=1
    . have c2:(false || k == 1)=true:=by simp [hk]
      rw [c2]
      simp only [↓reduceIte]
      wp_walk
      exact ⟨_,rfl,q1 hk⟩
    . have c2:(false || k == 1)=false:=by simp [hk]
      rw [c2]
      simp only [Bool.false_eq_true,↓reduceIte]
      rw [Bool.or_false,decide_eq_false (show ¬ k <= 0 by omega)]
      simp only [Bool.false_eq_true,↓reduceIte]
      rw [if_neg (show ¬ (items.size:Int) * k > (2 ^ 63 - 1) / 8 by omega),c5]
      simp only [Bool.false_eq_true,↓reduceIte]
      unfold Builtin.Tuple.tupleExact
      refine wpAny_bind (wpAny_newObj_type (wpAny_pure ⟨_,rfl,q2 hk⟩) ?_)
      show ((List.replicate k.toNat items).foldl (· ++ ·) #[]).size <= sizeLine
      have sz:∀ (m:Nat) (z:Array Value),((List.replicate m items).foldl (· ++ ·) z).size=z.size + m * items.size:=by
        intro m
        induction m with
        | zero=>intro z; simp
        | succ m ih=>intro z; rw [List.replicate_succ,List.foldl_cons,ih,Array.size_append,Nat.succ_mul]; omega
      rw [sz,sizeLine_eq]
      have:((k.toNat * items.size:Nat):Int)=(items.size:Int) * k:=by
        rw [Int.natCast_mul,Int.toNat_of_nonneg (by omega),Int.mul_comm]
      simp
      omega
end
theorem Eb (its:List Value):∀ (m:Nat) (z:List Value),(List.replicate m its.toArray).foldl (· ++ ·) z.toArray=(z ++ (List.replicate m its).flatten).toArray
  | 0,z=>by simp
  | m + 1,z=>by
    rw [List.replicate_succ,List.foldl_cons,List.append_toArray,Eb its m,List.replicate_succ,List.flatten_cons,List.append_assoc]
theorem Vals.reps {vs:List V} {us:List Value} (r:Vals vs us):∀ m:Nat,Vals (List.replicate m vs).flatten (List.replicate m us).flatten
  | 0=>.nil
  | m + 1=>by
    rw [List.replicate_succ,List.flatten_cons,List.replicate_succ,List.flatten_cons]
    exact r.append (Vals.reps r m)
section
variable {X:Cx}
theorem Rc:OpR X (binaryOp .Mult) (fun x y H Q=>∃ l k xs,x=.ref l /\ y=.int k /\ SqT X.K H l xs /\ xs ≠ [] /\ xs.length <= 1000 /\ 1 <= k /\ k <= 1000 /\ (k=1->Q (.ref l) H) /\ (k ≠ 1->∀ p,H p=none->Q (.ref p) (upd H p (.tup (List.replicate k.toNat xs).flatten)))):=by
  intro pins s σ H x y v u Q I rx ry h
  obtain ⟨l,k,xs,rfl,rfl,ha,hx,hz,k1,k2,q1,q2⟩:=h
  cases rx
  obtain ⟨t,rfl⟩:=ry
  obtain ⟨its,r,p,_⟩:=I.tuple ha
  have hlen:=r.length
  have hT:s.TypeIs (.ref l) "tuple" := by obtain ⟨o,e,c,_⟩:=p; exact ⟨o,e,c⟩
  have he:its.toArray.isEmpty=false:=by
    cases its with
    | nil=>exact absurd (List.length_eq_zero_iff.mp (by simpa using hlen)) hx
    | cons a b=>rfl
  refine wpAny_binaryOp_repeat_ref (T := "tuple") (U := "int") (by decide) hT (fun s'=>typeIs_int s' k t) Qt PySem.F.fills_int_mul PySem.F.slot_int_rmul TQ PySem.F.slot_int_index.lookup ?_
  refine call_meets PySem.F.slot_int_rmul (typeIs_int s k t) PySem.F.entry_int_rmul (PySem.F.args_int_rmul_2 _ _) (TU k t l its.toArray) ⟨p,rfl,hT,?_⟩
  refine call_meets PySem.F.slot_tuple_mul hT PySem.F.entry_tuple_mul (PySem.F.args_tuple_mul_2 _ _) (TR l its.toArray k t he k1 k2 (by rw [List.size_toArray]; omega)) ⟨p,fun z=>⟨.ref l,H,I,rfl,q1 z⟩,fun z=>?_⟩
  have ef:=Eb its k.toNat []
  rw [List.nil_append] at ef
  rw [ef]
  refine ⟨.ref s.heap.objs.size,_,I.laid (t':=s.toks) (o:=.tup (List.replicate k.toNat xs).flatten) (fun b ob q=>Heap.get?_push_of_some _ q) (Nat.le_refl _) ⟨?_,_,r.reps _,IsTup.new _ _⟩,rfl,q2 z _ (I.hok.fresh (Nat.le_refl _))⟩
  rw [Iy,sizeLine_eq]
  have:k.toNat * xs.length <= 1000 * 1000:=Nat.mul_le_mul (by omega) hz
  omega
end
end L2
namespace Mi
open PySem L2 Ht
def GU (a b:D):M D:=match a,b with
  | .tup ds,.int k=>fun μ=>if ds ≠ [] /\ ds.length <= 1000 /\ 1 <= k /\ k <= 1000 then some (.tup (List.replicate k.toNat ds).flatten,μ) else none
  | a,b=>DI a b
section
variable {X:Cx}
theorem K9:OpR X (binaryOp .Mult) (rM X.K GU):=fun pins s σ H x y v u Q I rx ry h=>by
  obtain ⟨ι,μ,a,b,d,μ',R,ia,ib,e,q⟩:=h
  unfold GU at e
  split at e
  . rename_i ds k
    split at e
    . rename_i hc
      obtain ⟨c1,c2,c3,c4⟩:=hc
      cases e
      have zb:=BY ib
      subst zb
      unfold Is at ia
      obtain ⟨p,vs,rfl,h1,h2⟩:=ia
      have hl:=h2.length
      refine Rc pins s σ H _ _ v u Q I rx ry ⟨p,k,vs,rfl,rfl,h1,fun z=>c1 (List.length_eq_zero_iff.mp (by rw [← hl,z]; rfl)),by omega,c3,c4,fun z=>?_,fun z=>?_⟩
      . subst z
        refine q ι H R.ext0 R _ ?_
        unfold Is
        exact ⟨p,vs,rfl,h1,by simpa using h2⟩
      . exact MY R (h2.rep _) q
    . cases e
  . exact Hh pins s σ H _ _ v u Q I rx ry ⟨ι,μ,a,b,d,μ',R,ia,ib,e,q⟩
end
end Mi
namespace Mi
open PySem L2 Ht
section
variable {X:Cx} {e:Expr} {pos pos':Pos}
end
end Mi
namespace L2
open PySem PySem.Spec PyProof.Rows
section
variable {X:Cx} {scope:Scope} {tgs:List Str} {ix:List Nat}
def JS (P:Program) (w:World) (A:Around):Option Expr->Env->(Bool->Shared->Prop)->(Value->Shared->Prop)->Shared->Prop
  | none,_,Q,_,s=>Q true s
  | some c,env,Q,E,s=>wpAny (model P w) A (isTrue c env (eval c env)) Q E s
theorem OQ {P:Program} {w:World} {A:Around} {env:Env} {Q Q':Bool->Shared->Prop} {E:Value->Shared->Prop} {s:Shared}:∀ {co:Option Expr},JS P w A co env Q (fun _ _=>False) s->(∀ b s,Q b s->Q' b s)->JS P w A co env Q' E s
  | none,h,k=>k _ _ h
  | some _,h,k=>Ff h k
def TL (P:Program) (w:World) (A:Around) (tg elt:Expr) (co:Option Expr) (it acc:Value) (env:Env) (R:Result->Shared->Prop) (G:Shared->Prop) (r:Option Value) (s1:Shared):Prop:=match r with
  | none=>R (.ok .next) s1
  | some v=>wpAny (model P w) A (letOwnedTupleGo tg it v) (fun _ s0=>wpAny (model P w) A (assign tg env v) (fun _ s2=>
      JS P w A co env (fun ok s3=>if ok=true then wpAny (model P w) A (eval elt env) (fun x s4=>wpAny (model P w) A (call (.builtin "list.append") [acc,x]) (fun _ s5=>G s5) (notedBy (model P w) A env fun e s'=>R (.error e) s') s4) (notedBy (model P w) A env fun e s'=>R (.error e) s') s3 else G s3)
        (notedBy (model P w) A env fun e s'=>R (.error e) s') s2) (notedBy (model P w) A env fun e s'=>R (.error e) s') s0) (notedBy (model P w) A env fun e s'=>R (.error e) s') s1
theorem Pa {P:Program} {w:World} {A:Around} {tg elt iter:Expr} {pos:Pos} {it acc:Value} {env:Env} {R:Result->Shared->Prop} {s:Shared} (I:Nat->Shared->Prop):∀ (co:Option Expr),
    (∀ n s,I n s->wpAny (model P w) A (pyNext it) (TL P w A tg elt co it acc env R fun s5=>∃ m,m < n /\ I m s5) (notedBy (model P w) A env fun e s'=>R (.error e) s') s)->∀ n,I n s->
    codeAny (model P w) A (.compLoop (.ListComp elt [⟨tg,iter,co.toList,0⟩] scope pos) 0 it acc env) R s
  | none,turn,n,h=>PySem.W.kcp_loop I (fun n s hI=>wpAny_mono (turn n s hI) (fun r s1 q=>match r,q with
      | none,q=>q
      | some v,q=>wpAny_mono q (fun _ _ q=>wpAny_mono q (fun _ _ q=>by
          have q':=q
          dsimp only [JS] at q'
          rw [if_pos rfl] at q'
          exact q') fun _ _ x=>x) fun _ _ x=>x) fun _ _ x=>x) n h
  | some c,turn,n,h=>PySem.W.kct_loop I (fun n s hI=>wpAny_mono (turn n s hI) (fun r s1 q=>match r,q with
      | none,q=>q
      | some v,q=>q) fun _ _ x=>x) n h
def Lf (X:Cx) (co:Option Expr) (tc:TT):Prop:=
  ∀ (pins:List (Addr × Obj)) (s:Shared) (σ:St) (H:Hp) (Q:Bool->Hp->Prop),Inv X pins σ H s->tc σ H Q->JS X.prog X.w X.A co X.env (TP X pins σ Q) X.xe s
theorem KC {n:Nat}:∀ {is:List Nat},(∀ i ∈ is,i < n)->∀ vs σ H (Q:St->Hp->Prop),Mi.Dc is vs σ H Q->Mi.Dc is vs σ H fun σ2 H2=>Q σ2 H2 /\ σ2.length=σ.length /\ σ2.drop n=σ.drop n
  | [],_,vs,σ,H,Q,h=>⟨h.1,h.2,rfl,rfl⟩
  | i :: is,hi,vs,σ,H,Q,h=>by
    obtain ⟨v,vr,rfl,h⟩:=h
    refine ⟨v,vr,rfl,?_⟩
    have z:=KC (is:=is) (fun j hj=>hi j (List.mem_cons_of_mem _ hj)) vr _ H Q h
    have e1:(σ.set i (some v)).length=σ.length:=by simp
    have e2:(σ.set i (some v)).drop n=σ.drop n:=by rw [List.drop_set_of_lt (hi i (by simp))]
    rw [e1,e2] at z
    exact z
theorem Pk {n k:Nat} {is:List Nat} {K:PySem.W.Frag} (h:∀ i ∈ is,i < n):GK n (UT K k (Mi.Dc is)):=fun x σ H Q q=>by
  obtain ⟨a,xs,e,h1,h2,h3⟩:=q
  exact ⟨a,xs,e,h1,h2,KC h _ _ _ _ h3⟩
theorem Fs {elt tg iter:Expr} {co:Option Expr} {pos:Pos} {g:TG} {tc:TT} {te:TE} {pins:List (Addr × Obj)} {σ:St} {H2:Hp} {s2:Shared} {it:Addr} {fp:List Addr} {tn:Nat->Heap->Prop} {J:It} {Q:VK}
    (S:BScope X scope tgs ix) (hc:X.calm=true) (hg:∀ fp C s H,PG (cxB X scope tgs fp C s H) tg g) (hgk:GK tgs.length g) (hi:∀ fp C s H,Lf (cxB X scope tgs fp C s H) co tc) (he:∀ fp C s H,PE (cxB X scope tgs fp C s H) elt te)
    (I2:Inv X pins σ H2 s2) (T:Kh X.prog X.w X.K tg J fp it tn) (t0:tn 0 s2.heap) (hf:∀ b ∈ fp,D5 X pins H2 b)
    (W:Nat->Nat->List V->Hp->Prop) (w0:∃ m,W 0 m [] H2)
    (turn:∀ i m ys H,W i m ys H->(J.stop i H /\ ys.length <= sizeLine /\ ∀ p,H p=none->Q (.ref p) (upd H p (.lst ys))) ∨
      (J.go i H /\ ys.length < sizeLine /\ ∃ N:List V->Hp->Prop,(∀ ys' H',N ys' H'->∃ m',m' < m /\ W (i + 1) m' ys' H') /\ ∀ x H',J.yld i H x H'->g x (Bp tgs ix σ) H' fun σ2 H2=>tc σ2 H2 fun b H3=>
        if b=true then te σ2 H3 fun v H4=>N (ys ++ [v]) H4 else N ys H3))
    {RR:Value->Addr->Result->Shared->Prop}
    (fin:∀ (D C:Addr) (s':Shared) (H':Hp) (m:Str->Option Value),Inv X pins σ H' s'->Q (.ref D) H'->s'.heap.Ns C m->D5 X pins H' C->RR (.ref D) C (.ok .next) s') :
    wpAny (model X.prog X.w) X.A (newList []) (fun acc s₃=>wpAny (model X.prog X.w) X.A (newFunctionEnv scope X.env.globals (C7 X.env scope.names []) [] X.env.qual none .none (some X.env)) (fun cenv s₄=>
      codeAny (model X.prog X.w) X.A (.compStart (.ListComp elt [⟨tg,iter,co.toList,0⟩] scope pos) 0 (.ref it) acc { cenv with scope:=relabel scope X.env }) (RR acc cenv.locals) s₄) X.xe s₃) X.xe s2:=by
  refine wpAny_newObj_type (wpAny_newFunctionEnv S.nocell (by intro y hy; simp at hy) (fun h₁ hns₁ hsb₁=>?_) S.kind)
  dsimp only at hns₁ hsb₁ ⊢
  generalize hH2:s2.heap.push { cls:=.type "list",dict:=none,data:=.seq ([]:List Value).toArray }=G2 at hns₁ hsb₁ ⊢
  have hC:G2.objs.size=s2.heap.objs.size + 1:=by rw [← hH2,Heap.size_push]
  have hCle:s2.heap.objs.size <= G2.objs.size:=by rw [hC]; exact Nat.le_succ _
  have hDC:s2.heap.objs.size ≠ G2.objs.size:=by rw [hC]; exact Nat.ne_of_lt (Nat.lt_succ_self _)
  have below:∀ b,b < s2.heap.objs.size->b ≠ G2.objs.size /\ b ≠ s2.heap.objs.size:=fun b hb=>⟨by rw [hC]; exact Nat.ne_of_lt (Nat.lt_succ_of_lt hb),Nat.ne_of_lt hb⟩
  have old:∀ b o,s2.heap.get? b=some o->h₁.get? b=some o:=fun b o e=>hsb₁.extBut b o (below b (Heap.lt_size e)).1 (Heap.get?_push_of_some _ (hH2 ▸ Heap.get?_push_of_some _ e))
  have hacc:h₁.get? s2.heap.objs.size=some (Dl [] 0):=hsb₁.extBut _ _ hDC (Heap.get?_push_of_some _ (hH2 ▸ Heap.get?_push_size _ rfl))
  have hfo:∀ b ∈ fp,b < s2.heap.objs.size:=fun b hb=>let ⟨o,e,_⟩:=T.obj 0 _ t0 b hb; Heap.lt_size e
  have ok:=LS (tgs:=tgs) (ix:=ix) (C:=G2.objs.size) S I2 hf hfo hCle
  have sub:∀ x c,(C7 X.env scope.names []).lookup x=some c->X.env.cells.lookup x=some c:=DR scope.names [] (fun _ _ z=>by simp at z)
  have nDfs:s2.heap.objs.size ∉ frs X.stack:=fun hz=>by
    rcases List.mem_cons.mp (I2.stkSub _ hz) with z | z
    . exact absurd I2.lt (by rw [← z]; exact Nat.lt_irrefl _)
    . exact I2.nofs (Nat.le_refl _) z
  have nDcell:∀ x c,(C7 X.env scope.names []).lookup x=some c->c ≠ s2.heap.objs.size:=fun x c e=>Nat.ne_of_lt (I2.cellLt (sub x c e))
  have ncell:∀ (its:List Value) (k:Nat) (v:Option Value),(Dl its k).data ≠ .cell v:=fun its k v z=>by cases z
  have stat:∀ {Hx:Hp} {o:Obj},(∀ b ∈ fp,Hx b=none)->∀ b ∈ fp,D5 (cxB X scope tgs fp G2.objs.size s2 H2) [(s2.heap.objs.size,o)] Hx b:=fun {Hx o} hn b hb=>
    ⟨hn b hb,(ok.exf b hb).1,ok.exfs b hb,.inl hb,(ok.exf b hb).2,fun p hp z=>by
      have e:p=(s2.heap.objs.size,o):=by simpa [cxB] using hp
      subst e
      exact absurd (hfo b hb) (by rw [← z]; exact Nat.lt_irrefl _)⟩
  have loop:∀ s₃:Shared,s₃={ s2 with heap:=h₁,toks:=s2.toks + ([]:List (Str × Value)).length }->
      codeAny (model X.prog X.w) X.A (.compLoop (.ListComp elt [⟨tg,iter,co.toList,0⟩] scope pos) 0 (.ref it) (.ref s2.heap.objs.size) (compEnvC scope (C7 X.env scope.names []) G2.objs.size X.env)) (RR (.ref s2.heap.objs.size) G2.objs.size) s₃:=by
    rintro s₃ rfl
    obtain ⟨m0,w0⟩:=w0
    refine Pa (fun n s=>∃ i ys its k H,Inv (cxB X scope tgs fp G2.objs.size s2 H2) [(s2.heap.objs.size,Dl its k)] (Bp tgs ix σ) H s /\ tn i s.heap /\ (∀ b ∈ fp,H b=none) /\ Vals ys its /\ W i n ys H) co ?_ m0
      ⟨0,[],[],0,H2,Gn S I2 hf hfo hCle (Nat.le_refl _) hDC hns₁ old rfl rfl hacc (ncell _ _),T.keep 0 _ _ t0 fun b _ o e=>old b o e,fun b hb=>(hf b hb).1,.nil,w0⟩
    rintro n s ⟨i,ys,its,k,H,I,st,fr,rv,w⟩
    rcases turn i n ys H w with ⟨stop,hz,q⟩ | ⟨go,hz8,N,hN,step⟩
    . refine thn (T.done (cxB X scope tgs fp G2.objs.size s2 H2) rfl rfl rfl hc i _ s _ H _ I (stat fr) st stop) fun r s1 ⟨hr,I1⟩=>?_
      subst hr
      obtain ⟨pe,pn,_⟩:=I1.pin (s2.heap.objs.size,Dl its k) (List.mem_append_right _ (by simp))
      have J0:Inv X pins σ H s1:=I2.call' I1.os I1.base I1.hok I1.bare fun b hb=>⟨(hf b hb).2.2.2.1,(hf b hb).2.1,(hf b hb).2.2.2.2.1,(hf b hb).2.2.2.2.2⟩
      have J1:Inv X pins σ (upd H s2.heap.objs.size (.lst ys)) s1:=J0.track (I2.fpOk (Nat.le_refl _) pn) ⟨hz,its,k,rv,pe⟩
      obtain ⟨m,hn,_⟩:=I1.loc
      exact fin _ _ s1 _ m J1 (q _ pn) hn (I2.fpOk hCle (by rw [Ap (Ne.symm hDC)]; exact I1.free))
    . refine thn (T.item (cxB X scope tgs fp G2.objs.size s2 H2) rfl rfl rfl hc i _ s _ H _ I (stat fr) st go) fun r s1 ⟨u,hr,h1⟩=>?_
      subst hr
      refine thn h1 fun _ s5 ⟨x,H5,I5,r5,y5,st5,fr5⟩=>?_
      have I5':=I5.pinned (stat fr5) (T.obj _ _ st5)
      refine Ff (hg fp G2.objs.size s2 H2 _ s5 _ H5 x u _ I5' r5 (hgk _ _ _ _ (step x H5 y5))) fun _ s6 ⟨σ6,H6,I6,q6,l6,d6⟩=>?_
      refine OQ (hi fp G2.objs.size s2 H2 _ s6 σ6 H6 _ I6 q6) fun okb s7 ⟨H7,I7,q7⟩=>?_
      cases okb with
      | false=>
        rw [if_neg Bool.false_ne_true] at q7 ⊢
        obtain ⟨m',hm,w7⟩:=hN _ _ q7
        refine ⟨m',hm,i + 1,ys,its,k,H7,Lo I7.unpinned l6 d6,T.keep _ _ _ st5 fun b hb o e=>(I7.pin (b,o) (List.mem_append_right _ (List.mem_append_right _ (A6 hb e)))).1,fun b hb=>?_,rv,w7⟩
        obtain ⟨o,e,_⟩:=T.obj _ _ st5 b hb
        exact (I7.pin (b,o) (List.mem_append_right _ (List.mem_append_right _ (A6 hb e)))).2.1
      | true=>
        rw [if_pos rfl] at q7 ⊢
        refine Ff (he fp G2.objs.size s2 H2 _ s7 σ6 H7 _ I7 q7) fun xv s8 ⟨v,H8,I8,rv8,q8⟩=>?_
        obtain ⟨m',hm,w8⟩:=hN _ _ q8
        obtain ⟨pe,pn,_⟩:=I8.pin (s2.heap.objs.size,Dl its k) (List.mem_append_right _ (List.mem_append_left _ (by simp)))
        have hlen:=rv.length
        refine call_meets PySem.F.slot_list_append ⟨_,pe,rfl⟩ PySem.F.entry_list_append (PySem.F.args_list_append_2 _ _) (PySem.list_append s2.heap.objs.size its.toArray k xv (by rw [List.size_toArray]; omega)) ⟨pe,?_⟩
        have hp:its.toArray.push xv=(its ++ [xv]).toArray:=by simp
        have q':∃ k',(s8.heap.update s2.heap.objs.size (Obj.mapSeq (fun a=>a.push xv))).get? s2.heap.objs.size=some (Dl (its ++ [xv]) k'):=⟨_,by
          unfold Dl
          rw [← hp]
          exact PySem.IsL.update pe (fun a=>a.push xv)⟩
        obtain ⟨k',q'⟩:=q'
        have I9:Inv (cxB X scope tgs fp G2.objs.size s2 H2) [] σ6 H8 { s8 with heap:=s8.heap.update s2.heap.objs.size (Obj.mapSeq (fun a=>a.push xv)) }:=
          (I8.pins_of (pins':=[]) (fun p hp=>absurd hp (by simp))).turned (t':=s8.toks) (fun b o hb e=>(Heap.get?_update_other s8.heap (Obj.mapSeq (fun a=>a.push xv)) (Ne.symm hb)).trans e) pn hDC (.inr (Nat.le_refl _)) nDcell (fun p hp=>absurd hp (by simp [cxB]))
        have I10:Inv (cxB X scope tgs fp G2.objs.size s2 H2) [(s2.heap.objs.size,Dl (its ++ [xv]) k')] σ6 H8 { s8 with heap:=s8.heap.update s2.heap.objs.size (Obj.mapSeq (fun a=>a.push xv)) }:=
          I9.pins_of fun p hp=>by
            have e:p=(s2.heap.objs.size,Dl (its ++ [xv]) k'):=by simpa using hp
            subst e
            exact ⟨q',pn,hDC,nDfs,ncell _ _⟩
        refine ⟨m',hm,i + 1,ys ++ [v],its ++ [xv],k',H8,Lo I10 l6 d6,T.keep _ _ _ st5 fun b hb o e=>?_,fun b hb=>?_,rv.append (.cons rv8 .nil),w8⟩
        . exact (Heap.get?_update_other s8.heap (Obj.mapSeq (fun a=>a.push xv)) (Ne.symm (below b (hfo b hb)).2)).trans (I8.pin (b,o) (List.mem_append_right _ (List.mem_append_right _ (A6 hb e)))).1
        . obtain ⟨o,e,_⟩:=T.obj _ _ st5 b hb
          exact (I8.pin (b,o) (List.mem_append_right _ (List.mem_append_right _ (A6 hb e)))).2.1
  exact codeAny_compStart_list (loop _ rfl) (T.self _ 0 _ _ _ (T.keep 0 _ _ t0 fun b _ o e=>old b o e) (loop _ rfl))
theorem O9 {elt tg iter:Expr} (co:Option Expr) {pos:Pos} {wi:TI} {g:TG} {tc:TT} {te:TE} (S:BScope X scope tgs ix) (hc:X.calm=true) (hi:PI X tg iter wi) (hg:∀ fp C s H,PG (cxB X scope tgs fp C s H) tg g) (hgk:GK tgs.length g)
    (hif:∀ fp C s H,Lf (cxB X scope tgs fp C s H) co tc) (he:∀ fp C s H,PE (cxB X scope tgs fp C s H) elt te) (hs:∀ x,foldedSetIterable iter X.env x=pure x:=by intro _; rfl) :
    PE X (.ListComp elt [⟨tg,iter,co.toList,0⟩] scope pos) (HZ tgs ix wi g tc te):=by
  intro pins s σ H Q I h
  rw [eval_ListComp]
  refine wpAny_comprehension_free (use:=none) rfl hs (Bg (S.cells I.ok)) S.kind S.loc ?_
  show wpAny _ _ (eval iter X.env) _ _ s
  refine thn (hi pins s σ H _ I h) fun v s1 h1=>thn h1 fun itv s2 h2=>?_
  obtain ⟨it,fp,tn,J,H2,e,I2,T,t0,f2,W,w0,turn⟩:=h2
  subst e
  refine Fs (RR:=fun acc C=>compPost (model X.prog X.w) X.A X.xe none (EP X pins σ Q) acc C) S hc hg hgk hif he I2 T t0 f2 W w0 turn ?_
  intro D C s' H' m J1 q hn fC
  obtain ⟨f0,f1,f2,f3,f4,f5⟩:=fC
  exact ⟨m,hn,fun h' sb=>⟨.ref D,H',J1.turned (t':=s'.toks) (fun b o hb e=>(sb.2 b hb).trans e) f0 f1 f3 f4 f5,rfl,q⟩⟩
end
end L2
namespace Mi
open PySem L2
section
variable {X:Cx} {scope:Scope} {tgs:List Str} {ix:List Nat} {elt tg iter:Expr} {pos:Pos}
theorem Hd {K:PySem.W.Frag}:Lf X none (tT K C3):=fun pins s σ H Q I h=>by
  obtain ⟨ι,μ,τ,b,μ',R,S,e,q⟩:=h
  cases e
  exact ⟨H,I,q ι H R.ext0 R⟩
theorem Er {c:Expr} {mc:Sl->M Bool} (h:RT X c mc):Lf X (some c) (tT X.K mc):=fun pins s σ H Q I hq=>h.pe pins s σ H Q I hq
theorem JV {K:PySem.W.Frag} {n:Nat} {src:Sl->M (List D)} {bf:D->Sl->M Sl} {g:TG} {mc:Sl->M Bool} {me:Sl->M D} {fin:List D->M D} {σ:St} {H:Hp} {Q:VK} (hn:tgs.length=n) (hg:∀ v σ H Q,tG K bf v σ H Q->g v σ H Q) (hf:∀ ι μ μ' H ds vs d (Q:VK),RelH K ι μ H->IsL K ι μ.length H ds vs->fin ds μ=some (d,μ')->(Aft K ι μ H μ' fun ι' H'=>∀ v,Is K ι' μ'.length H' d v->Q v H')->
      vs.length <= sizeLine /\ ∀ p,H p=none->Q (.ref p) (upd H p (.lst vs)))
    (h:tE K (BA n ix src bf mc me fin) σ H Q):HZ tgs ix (tI K src) g (tT K mc) (tE K me) σ H Q:=by
  subst hn
  obtain ⟨ι,μ,τ,d,μ',R,S,e,q⟩:=h
  obtain ⟨ds,μ1,e1,e5⟩:=AI e
  obtain ⟨u,μ2,e2,e6⟩:=AI e5
  obtain ⟨zs,μ3,e3,e7⟩:=AI e6
  obtain ⟨hl,e4⟩:=Ct e2
  clear e e5 e6
  subst e4
  refine ⟨ι,μ,τ,ds,_,R,S,e1,fun ι1 H1 E1 R1 J it=>?_⟩
  refine ⟨fun i' m ys H=>m=ds.length - i' /\ i' <= ds.length /\ ys.length <= i' /\ ∃ (ι:Nat->Addr) (μ:Mh) (as:List D),RelH K ι μ H /\ RelS K ι μ.length H τ σ /\ ItM K J ds ι μ H /\ IsL K ι μ.length H as ys /\ CY bf mc me (CJ tgs.length ix τ) (ds.drop i') as μ=some (zs,μ3) /\
    Aft K ι μ H μ' fun ι' H'=>∀ v,Is K ι' μ'.length H' d v->Q v H',⟨ds.length,by simp,Nat.zero_le _,Nat.le_refl _,ι1,_,[],R1,S.ext E1,it,.nil,e3,fun ι2 H2 E2 R2=>q ι2 H2 (E1.trans E2) R2⟩,?_⟩
  rintro i' m ys H ⟨hm,hil,hyl,ι,μ,as,R,S,it,ia,e3,q⟩
  obtain ⟨go,stop,yl⟩:=it ι μ H R.ext0 R
  by_cases hlt:i' < ds.length
  . refine .inr ⟨go i' hlt,by omega,fun ys' H'=>ys'.length <= i' + 1 /\ ∃ (ι:Nat->Addr) (μ:Mh) (as:List D),RelH K ι μ H' /\ RelS K ι μ.length H' τ σ /\ ItM K J ds ι μ H' /\ IsL K ι μ.length H' as ys' /\ CY bf mc me (CJ tgs.length ix τ) (ds.drop (i' + 1)) as μ=some (zs,μ3) /\
      Aft K ι μ H' μ' fun ι' H'=>∀ v,Is K ι' μ'.length H' d v->Q v H',fun ys' H' z=>⟨_,(by omega:ds.length - (i' + 1) < m),rfl,hlt,z⟩,fun x H2 y=>?_⟩
    have hd:ds[i']? = some ds[i']:=by simp [hlt]
    obtain ⟨E2,R2,ix2⟩:=yl i' x H2 _ hd y
    rw [List.drop_eq_getElem_cons hlt] at e3
    obtain ⟨τ1,μ1,e1,e5⟩:=AI e3
    clear e3
    obtain ⟨cc,μ2,e2,e6⟩:=AI e5
    clear e5
    have S2:=(S.ext E2).block (tgs:=tgs) (ix:=ix)
    refine hg _ _ _ _ ⟨ι,_,_,_,τ1,μ1,R2,S2,ix2,e1,fun ι0 H0 E0 R0 σ0 S0=>?_⟩
    have E20:=E2.trans E0
    refine ⟨ι0,_,_,cc,μ2,R0,S0,e2,fun ι3 H3 E3 R3=>?_⟩
    have E13:=E20.trans E3
    cases cc with
    | false=>
      exact ⟨by omega,ι3,μ2,as,R3,S.ext E13,it.ext E13,ia.ext E13,e6,fun ι5 H5 E5 R5=>q ι5 H5 (E13.trans E5) R5⟩
    | true=>
      obtain ⟨y',μ4,e4,e8⟩:=AI e6
      refine ⟨ι3,μ2,_,y',μ4,R3,S0.ext E3,e4,fun ι4 H4 E4 R4 v iv=>?_⟩
      have E14:=E13.trans E4
      exact ⟨by simp; omega,ι4,μ4,as ++ [y'],R4,S.ext E14,it.ext E14,(ia.ext E14).append (.one iv),e8,fun ι5 H5 E5 R5=>q ι5 H5 (E14.trans E5) R5⟩
  . have hi':i'=ds.length:=by omega
    subst hi'
    rw [List.drop_length] at e3
    cases e3
    obtain ⟨z1,z2⟩:=hf ι _ μ' H _ ys d Q R ia e7 q
    exact .inl ⟨stop,z1,z2⟩
theorem OT {K:PySem.W.Frag} {is:List Nat} {v:V} {σ:St} {H:Hp} {Q:St->Hp->Prop} (h:tG K (Cz is) v σ H Q):UT K is.length (Dc is) v σ H Q:=by
  obtain ⟨ι,μ,τ,d,τ',μ',R,S,i1,e,q⟩:=h
  cases d with
  | tup ds=>
    unfold Is at i1
    obtain ⟨p,vs,rfl,h1,h2⟩:=i1
    have e':(if ds.length=is.length then HD is ds τ else BD) μ=some (τ',μ'):=e
    by_cases hl:ds.length=is.length
    . rw [if_pos hl] at e'
      refine ⟨p,vs,rfl,h1,by rw [h2.length,hl],FW R S h2 e' fun z σ' S'=>?_⟩
      subst z
      exact q ι H R.ext0 R σ' S'
    . rw [if_neg hl] at e'; cases e'
  | _=>cases e
theorem Jq (co:Option Expr) {n:Nat} {es:List Expr} {kk:Nat} {tp:Pos} {is:List Nat} {src:Sl->M (List D)} {mc:Sl->M Bool} {me:Sl->M D} (S:BScope X scope tgs ix) (hc:X.calm=true) (hi:RI X (.Tuple es kk tp) iter src) (hg:∀ fp C s H,PGs (cxB X scope tgs fp C s H) es (Dc is)) (hif:∀ fp C s H,Lf (cxB X scope tgs fp C s H) co (tT X.K mc)) (he:∀ fp C s H,RE (cxB X scope tgs fp C s H) elt me)
    (hlen:∀ fp C s H,(assignEach es (cxB X scope tgs fp C s H).env).length=is.length:=by intro _ _ _ _; rfl) (hst:∀ fp C s H,(assignEach es (cxB X scope tgs fp C s H).env).findIdx? (·.1)=none:=by intro _ _ _ _; rfl)
    (hin:∀ i ∈ is,i < tgs.length:=by decide) (hn:tgs.length=n:=by rfl) (hs:∀ x,foldedSetIterable iter X.env x=pure x:=by intro _; rfl):RE X (.ListComp elt [⟨.Tuple es kk tp,iter,co.toList,0⟩] scope pos) (BA n ix src (Cz is) mc me Av):=
  RE.wk (O9 co (te:=tE X.K me) S hc hi.pe (fun fp C s H=>K6 (X:=cxB X scope tgs fp C s H) hc (hg fp C s H) (hlen fp C s H) (hst fp C s H)) (Pk hin) hif (fun fp C s H=>(he fp C s H).pe) hs) fun _ _ _ h=>JV hn (fun _ _ _ _ h=>OT h) (fun _ _ _ _ _ _ _ _ R i e q=>BF R i e q) h
end
end Mi
namespace L2
open PySem PySem.Spec PyProof.Rows
section
variable {X:Cx}
theorem Re:OpR X (binaryOp .Mult) (fun x y H Q=>∃ l k xs,x=.ref l /\ y=.int k /\ H l=some (.lst xs) /\ xs ≠ [] /\ xs.length <= 1000 /\ 0 <= k /\ k <= 1000 /\ ∀ p,H p=none->Q (.ref p) (upd H p (.lst (List.replicate k.toNat xs).flatten))):=by
  intro pins s σ H x y v u Q I rx ry h
  obtain ⟨l,k,xs,rfl,rfl,ha,hx,hz,k1,k2,q⟩:=h
  cases rx
  obtain ⟨t,rfl⟩:=ry
  obtain ⟨z,its,nn,r,hl2,e2⟩:=I.lstM ha
  have hlen:=r.length
  have he:its.toArray.isEmpty=false:=by
    cases its with
    | nil=>exact absurd (List.length_eq_zero_iff.mp (by simpa using hlen)) hx
    | cons a b=>rfl
  have hb:its.toArray.size * k.toNat <= 1000 * 1000:=Nat.mul_le_mul (by rw [List.size_toArray]; omega) (by omega)
  refine wpAny_binaryOp_repeat_ref (T := "list") (U := "int") (by decide) ⟨_,e2,rfl⟩ (fun s'=>typeIs_int s' k t) noFill_list_mul PySem.F.fills_int_mul PySem.F.slot_int_rmul repeat_list PySem.F.slot_int_index.lookup ?_
  refine call_meets PySem.F.slot_int_rmul (typeIs_int s k t) PySem.F.entry_int_rmul (PySem.F.args_int_rmul_2 _ _) (PySem.int___rmul___int_list k t l its.toArray nn) ⟨e2,rfl,⟨_,e2,rfl⟩,?_⟩
  refine call_meets PySem.F.slot_list_mul ⟨_,e2,rfl⟩ PySem.F.entry_list_mul (PySem.F.args_list_mul_2 _ _) (PySem.AutoListH.list___mul___list_int_3 l its.toArray nn k t (by simp [PySem.Builtin.List.listFitsIndex]; omega) (by omega) (by simp [PySem.Builtin.List.listTooLong,PySem.sizeLine] at hb ⊢; omega)) ⟨e2,?_⟩
  rw [he,if_neg Bool.false_ne_true]
  have ef:=Eb its k.toNat []
  rw [List.nil_append] at ef
  have ef':List.foldl (fun x1 x2=>x1 ++ x2) #[] (List.replicate k.toNat its.toArray)=(List.replicate k.toNat its).flatten.toArray:=ef
  rw [ef']
  refine ⟨.ref s.heap.objs.size,_,I.laid (t':=s.toks) (o:=.lst (List.replicate k.toNat xs).flatten) (fun b ob q=>Heap.get?_push_of_some _ q) (Nat.le_refl _) ⟨?_,_,_,r.reps _,Heap.get?_push_size _ rfl⟩,rfl,q _ (I.hok.fresh (Nat.le_refl _))⟩
  rw [Iy,sizeLine_eq]
  have:k.toNat * xs.length <= 1000 * 1000:=Nat.mul_le_mul (by omega) hz
  omega
end
end L2
namespace Mi
open PySem L2 Ht
section
variable {X:Cx} {e tg iter:Expr} {body:List Stmt} {pos:Pos}
def K2 (a b:D):M D:=match a,b with
  | .lst ds,.int k=>fun μ=>if ds ≠ [] /\ ds.length <= 1000 /\ 0 <= k /\ k <= 1000 then some (.ref μ.length,μ ++ [.lst (List.replicate k.toNat ds).flatten]) else none
  | _,_=>BD
theorem UE:OpR X (binaryOp .Mult) (rM X.K K2):=fun pins s σ H x y v u Q I rx ry h=>by
  obtain ⟨ι,μ,a,b,d,μ',R,ia,ib,e,q⟩:=h
  unfold K2 at e
  split at e
  . rename_i ds k
    split at e
    . rename_i hc
      obtain ⟨c1,c2,c3,c4⟩:=hc
      cases e
      have zb:=BY ib
      subst zb
      unfold Is at ia
      obtain ⟨p,vs,rfl,h1,_,h2⟩:=ia
      have hl:=h2.length
      refine Re pins s σ H _ _ v u Q I rx ry ⟨p,k,vs,rfl,rfl,h1,fun z=>c1 (List.length_eq_zero_iff.mp (by rw [← hl,z]; rfl)),by omega,c3,c4,fun p2 hp=>?_⟩
      obtain ⟨ι',E1,R1,e0⟩:=R.grown (m:=.lst (List.replicate k.toNat ds).flatten) hp ⟨_,rfl,h2.rep _⟩
      exact q ι' _ E1 R1 _ (by unfold Is; exact ⟨by simp,by rw [e0]⟩)
    . cases e
  . cases e
def WG (ks:List Key) (m:Sl->M (List D)):Sl->M D:=fun τ μ=>match m τ (μ ++ [.dK []]) with
  | some (ds,μ1)=>match μ1[μ.length]? with
    | some (.dK [])=>if ds.length=ks.length then some (.ref μ.length,μ1.set μ.length (.dK (ks.zip ds))) else none
    | _=>none
  | none=>none
def FX (n:Nat) (bf:D->Sl->M Sl) (mb:Sl->M (Fl × Sl)):Nat->Nat->Sl->M (Fl × Sl)
  | 0,_,_=>BD
  | f + 1,i,τ=>fun μ=>match μ[n]? with
    | some (.lst ds)=>match ds[i]? with
      | some x=>(bnd (bf x τ) fun τ1=>bnd (mb τ1) fun r=>match r.1 with
        | .next=>FX n bf mb f (i + 1) r.2
        | .cont=>FX n bf mb f (i + 1) r.2
        | .brk=>ret (.next,r.2)
        | .rt d=>ret (.rt d,r.2)) μ
      | none=>some ((.next,τ),μ)
    | _=>none
def Ji (Aj:Nat) (m:Sl->M D) (bf:D->Sl->M Sl) (mb:Sl->M (Fl × Sl)):Sl->M (Fl × Sl):=fun τ=>bnd (m τ) fun x=>match x with
  | .ref n=>FX n bf mb Aj 0 τ
  | _=>BD
theorem Q2 (Aj:Nat) {m:Sl->M D} {bf:D->Sl->M Sl} {mb:Sl->M (Fl × Sl)} (hp:PassesOwn (model X.prog X.w) X.A X.env X.xe) (hc:X.calm=true) (hi:RE X iter m) (hg:RG X tg bf) (hb:RSs X body mb)
    (hs:∀ x,foldedSetIterable iter X.env x=pure x:=by intro _; rfl):RS X (.For tg iter body [] pos) (Ji Aj m bf mb):=RS.wk (Ox hp hc (ML hi.pe) hg.pe hb.pe hs) fun Dn σ H h=>by
  obtain ⟨ι,μ,τ,f,τ',μ',R,S,e,q⟩:=h
  obtain ⟨x,μ1,e1,e2⟩:=AI e
  refine ⟨ι,μ,τ,x,μ1,R,S,e1,fun ι1 H1 E1 R1 v i1=>?_⟩
  cases x with
  | ref n=>
    unfold Is at i1
    obtain ⟨hk,rfl⟩:=i1
    have hn0:∃ ds,μ1[n]? = some (.lst ds):=by
      cases Aj with
      | zero=>cases e2
      | succ f=>
        have e3:FX n bf mb (f + 1) 0 τ μ1=some ((_,τ'),μ'):=e2
        unfold FX at e3
        split at e3
        . rename_i ds hd; exact ⟨ds,hd⟩
        . cases e3
    obtain ⟨ds0,hn0⟩:=hn0
    obtain ⟨u,hu,o⟩:=R1.obj n _ hn0
    obtain ⟨vs0,rfl,iv0⟩:=o
    refine ⟨_,rfl,⟨vs0,SqL.of hu⟩,?_⟩
    let W:Nat->Nat->St->Hp->Prop:=fun i m σ H=>∃ ι μ τ f τ' μ',RelH X.K ι μ H /\ RelS X.K ι μ.length H τ σ /\ n < μ.length /\ ι n=ι1 n /\ FX n bf mb m i τ μ=some ((f,τ'),μ') /\
      Aft X.K ι μ H μ' fun ι' H'=>∀ σ',RelS X.K ι' μ'.length H' τ' σ'->FlP X.K Dn ι' μ'.length H' τ' σ' f
    refine ⟨W,⟨Aj,ι1,μ1,τ,f,τ',μ',R1,S.ext E1,hk,rfl,e2,fun ι2 H2 E2 R2=>q ι2 H2 (E1.trans E2) R2⟩,?_⟩
    rintro i m σ H ⟨ι,μ,τ,f,τ',μ',R,S,hn,en,e,q⟩
    cases m with
    | zero=>cases e
    | succ m=>
      unfold FX at e
      split at e
      . rename_i ds hd
        obtain ⟨u,hu,o⟩:=R.obj n _ hd
        obtain ⟨vs,rfl,iv⟩:=o
        rw [en] at hu
        have hl:=iv.length
        split at e
        . rename_i x hx
          obtain ⟨xv,hxv,ixv⟩:=iv.get hx
          refine .inr ⟨⟨vs,xv,SqL.of hu,hxv⟩,fun σ' H'=>W (i + 1) m σ' H',fun σ' H' z=>⟨_,Nat.lt_succ_self _,z⟩,fun y H2 yl=>?_⟩
          obtain ⟨z,yl⟩:=yl
          subst z
          have:=yl vs (SqL.of hu)
          rw [hxv] at this
          cases this
          obtain ⟨τ1,μ2,e1,ea⟩:=AI e
          obtain ⟨⟨f2,τ2⟩,μ3,e2,eb⟩:=AI ea
          refine ⟨ι,μ,τ,_,τ1,μ2,R,S,ixv,e1,fun ι3 H3 E3 R3 σ3 S3=>?_⟩
          refine ⟨ι3,μ2,τ1,f2,τ2,μ3,R3,S3,e2,fun ι4 H4 E4 R4 σ4 S4=>?_⟩
          have E14:=E3.trans E4
          have hn4:n < μ3.length:=Nat.lt_of_lt_of_le hn E14.le
          have en4:ι4 n=ι1 n:=(E14.agree n hn).trans en
          cases f2 with
          | next=>exact ⟨ι4,μ3,τ2,f,τ',μ',R4,S4,hn4,en4,eb,fun ι5 H5 E5 R5=>q ι5 H5 (E14.trans E5) R5⟩
          | cont=>exact ⟨ι4,μ3,τ2,f,τ',μ',R4,S4,hn4,en4,eb,fun ι5 H5 E5 R5=>q ι5 H5 (E14.trans E5) R5⟩
          | brk=>cases eb; exact q ι4 H4 E14 R4 σ4 S4
          | rt d=>cases eb; exact q ι4 H4 E14 R4 σ4 S4
        . rename_i hx
          cases e
          have hle:ds.length <= i:=by simpa using hx
          exact .inl ⟨⟨vs,SqL.of hu,by omega⟩,q ι H R.ext0 R σ S⟩
      . cases e
  | _=>cases e2
end
end Mi
namespace Sq
open PySem PySem.W PyProof.Rows
def run {α:Type} (lt:Nat->Nat->Bool):KasT α->α
  | .ret a=>a
  | .ask i j k=>run lt (k (lt i j))
theorem DE {α β:Type} {lt:Nat->Nat->Bool} {f:α->KasT β}:∀ t:KasT α,run lt (t.bind f)=run lt (f (run lt t))
  | .ret _=>rfl
  | .ask i j k=>DE (k (lt i j))
structure Ord (N:Nat) (lt:Nat->Nat->Bool):Prop where
  tot:∀ i j,i < N->j < N->i ≠ j->lt i j=true ∨ lt j i=true
  tr:∀ i j k,lt i j=true->lt j k=true->lt i k=true
  irr:∀ i,lt i i=false
abbrev Pm (N:Nat) (p:Array Nat):Prop:=p.toList.Perm (List.range N)
section
variable {N:Nat} {lt:Nat->Nat->Bool} {p:Array Nat}
theorem Pm.size (h:Pm N p):p.size=N:=by
  have:=h.length_eq
  simpa using this
theorem Pm.bd (h:Pm N p) {i:Nat} (hi:i < N):p.getD i 0 < N:=by
  have hs:=h.size
  have:p.getD i 0 ∈ p.toList:=by
    have e:p.getD i 0=p[i]'(by omega):=by simp [Array.getD,hs,hi]
    rw [e]
    exact Array.mem_toList_iff.mpr (Array.getElem_mem _)
  exact List.mem_range.mp (h.mem_iff.mp this)
theorem Pm.inj (h:Pm N p) {i j:Nat} (hi:i < N) (hj:j < N) (e:p.getD i 0=p.getD j 0):i=j:=by
  have hs:=h.size
  have nd:p.toList.Nodup:=h.nodup_iff.mpr List.nodup_range
  have e1:p.getD i 0=p.toList[i]'(by simp [hs,hi]):=by simp [Array.getD,hs,hi]
  have e2:p.getD j 0=p.toList[j]'(by simp [hs,hj]):=by simp [Array.getD,hs,hj]
  rw [e1,e2] at e
  exact (List.getElem_inj nd).mp e
theorem Pm.tot (h:Pm N p) (o:Ord N lt) {i j:Nat} (hi:i < N) (hj:j < N) (hne:i ≠ j):lt (p.getD i 0) (p.getD j 0)=true ∨ lt (p.getD j 0) (p.getD i 0)=true:=o.tot _ _ (Pm.bd h hi) (Pm.bd h hj) fun e=>hne (h.inj hi hj e)
theorem Pm.not (h:Pm N p) (o:Ord N lt) {i j:Nat} (hi:i < N) (hj:j < N) (hne:i ≠ j) (e:lt (p.getD i 0) (p.getD j 0)=false):lt (p.getD j 0) (p.getD i 0)=true:=(h.tot o hi hj hne).elim (fun z=>by rw [e] at z; cases z) id
def Up (lt:Nat->Nat->Bool) (p:Array Nat) (n:Nat):Prop:=∀ i j,i < j->j < n->lt (p.getD i 0) (p.getD j 0)=true
theorem Up.more (o:Ord N lt) {n:Nat} (h:Up lt p n) (hn:1 <= n) (e:lt (p.getD (n - 1) 0) (p.getD n 0)=true):Up lt p (n + 1):=fun i j hij hj=>by
  rcases Nat.lt_or_ge j n with z | z
  . exact h i j hij z
  . have:j=n:=by omega
    subst this
    rcases Nat.lt_or_ge i (j - 1) with y | y
    . exact o.tr _ _ _ (h i (j - 1) y (by omega)) e
    . have:i=j - 1:=by omega
      subst this; exact e
theorem GF (o:Ord N lt) (P:Pm N p):∀ (f n:Nat),1 <= n->n + f <= N->Up lt p n->n <= run lt (kas_asc p f n) /\ run lt (kas_asc p f n) <= n + f /\ Up lt p (run lt (kas_asc p f n)) /\ (run lt (kas_asc p f n) < n + f->lt (p.getD (run lt (kas_asc p f n)) 0) (p.getD (run lt (kas_asc p f n) - 1) 0)=true)
  | 0,n,h1,h2,u=>⟨Nat.le_refl _,Nat.le_refl _,u,fun z=>absurd z (Nat.lt_irrefl _)⟩
  | f + 1,n,h1,h2,u=>by
    unfold kas_asc
    show n <= run lt (if lt (p.getD n 0) (p.getD (n - 1) 0)=true then .ret n else kas_asc p f (n + 1)) /\ _
    cases e:lt (p.getD n 0) (p.getD (n - 1) 0) with
    | true=>
      rw [show run lt (KasT.ask (p.getD n 0) (p.getD (n - 1) 0) fun c=>if c=true then .ret n else kas_asc p f (n + 1))=n from by show run lt (if lt (p.getD n 0) (p.getD (n - 1) 0)=true then KasT.ret n else kas_asc p f (n + 1))=n; rw [e]; rfl]
      exact ⟨Nat.le_refl _,by omega,u,fun _=>e⟩
    | false=>
      rw [show run lt (KasT.ask (p.getD n 0) (p.getD (n - 1) 0) fun c=>if c=true then .ret n else kas_asc p f (n + 1))=run lt (kas_asc p f (n + 1)) from by show run lt (if lt (p.getD n 0) (p.getD (n - 1) 0)=true then KasT.ret n else kas_asc p f (n + 1))=_; rw [e]; rfl]
      rw [if_neg (by decide)]
      obtain ⟨a,b,c,d⟩:=GF o P f (n + 1) (by omega) (by omega) (u.more o h1 (P.not o (by omega) (by omega) (by omega) e))
      exact ⟨by omega,by omega,c,fun z=>d (by omega)⟩
def Dn (lt:Nat->Nat->Bool) (p:Array Nat) (n:Nat):Prop:=∀ i j,i < j->j < n->lt (p.getD j 0) (p.getD i 0)=true
theorem G4 (o:Ord N lt) (P:Pm N p):∀ (f n:Nat),1 <= n->n + f <= N->Dn lt p n->∃ m,run lt (kas_desc f p n 0)=(p,m,0) /\ n <= m /\ m <= n + f /\ Dn lt p m
  | 0,n,h1,h2,u=>⟨n,rfl,Nat.le_refl _,Nat.le_refl _,u⟩
  | f + 1,n,h1,h2,u=>by
    cases e:lt (p.getD n 0) (p.getD (n - 1) 0) with
    | true=>
      have u':Dn lt p (n + 1):=fun i j hij hj=>by
        rcases Nat.lt_or_ge j n with z | z
        . exact u i j hij z
        . have:j=n:=by omega
          subst this
          rcases Nat.lt_or_ge i (j - 1) with y | y
          . exact o.tr _ _ _ e (u i (j - 1) y (by omega))
          . have:i=j - 1:=by omega
            subst this; exact e
      obtain ⟨m,a,b,c,d⟩:=G4 o P f (n + 1) (by omega) (by omega) u'
      refine ⟨m,?_,by omega,by omega,d⟩
      unfold kas_desc
      show run lt (if lt (p.getD n 0) (p.getD (n - 1) 0)=true then _ else _)=_
      rw [e,if_pos rfl,if_neg (by omega)]
      exact a
    | false=>
      have e2:=P.not o (i:=n) (j:=n - 1) (by omega) (by omega) (by omega) e
      refine ⟨n,?_,Nat.le_refl _,by omega,u⟩
      unfold kas_desc
      show run lt (if lt (p.getD n 0) (p.getD (n - 1) 0)=true then _ else KasT.ask (p.getD (n - 1) 0) (p.getD n 0) _)=_
      rw [e,if_neg (by decide)]
      show run lt (if lt (p.getD (n - 1) 0) (p.getD n 0)=true then _ else _)=_
      rw [e2]; rfl
theorem F8 {xs ys:Array Nat} {i j:Nat} (h:xs[i]? = ys[j]?):xs.getD i 0=ys.getD j 0:=by
  rw [Array.getD_eq_getD_getElem?,Array.getD_eq_getD_getElem?,h]
theorem GQ (P:Pm N p) (i j:Nat):Pm N (kas_rev p i j):=(mirror_perm p i j _).toList.trans P
theorem Ti (P:Pm N p) {m:Nat} (hm:m <= N) (d:Dn lt p m):Up lt (kas_rev p 0 m) m:=fun i j hij hj=>by
  have hs:=P.size
  have g:∀ k,k < m->(kas_rev p 0 m).getD k 0=p.getD (m - 1 - k) 0:=fun k hk=>F8 (by
    unfold kas_rev
    rw [getElem?_mirror_all (by omega) k,if_pos ⟨Nat.zero_le _,hk⟩]
    congr 1; omega)
  rw [g i (by omega),g j hj]
  exact d (m - 1 - j) (m - 1 - i) (by omega) (by omega)
theorem H9 (o:Ord N lt) (P:Pm N p) (hN:2 <= N):∃ n p',run lt (kas_count N p)=(n,p') /\ 1 <= n /\ n <= N /\ Pm N p' /\ Up lt p' n:=by
  have u1:Up lt p 1:=fun i j hij hj=>by omega
  obtain ⟨a,b,c,d⟩:=GF o P (N - 1) 1 (Nat.le_refl _) (by omega) u1
  generalize hm:run lt (kas_asc p (N - 1) 1)=m at a b c d
  unfold kas_count
  rw [DE,hm]
  by_cases e:m=N
  . rw [if_pos (by simp [e])]
    exact ⟨m,p,rfl,a,by omega,P,c⟩
  . rw [if_neg (by simp [e])]
    by_cases h1:m > 1
    . rw [if_pos h1]
      have z:lt (p.getD 0 0) (p.getD (m - 1) 0)=true:=c 0 (m - 1) (by omega) (by omega)
      refine ⟨m,p,?_,a,by omega,P,c⟩
      show run lt (if lt (p.getD 0 0) (p.getD (m - 1) 0)=true then _ else _)=_
      rw [z]; rfl
    . rw [if_neg h1]
      have m1:m=1:=by omega
      subst m1
      have dd:=d (by omega)
      have dn:Dn lt p 2:=fun i j hij hj=>by
        have:i=0 /\ j=1:=by omega
        obtain ⟨rfl,rfl⟩:=this
        exact dd
      obtain ⟨m,r,b1,b2,d2⟩:=G4 o P (N - 2) 2 (by omega) (by omega) dn
      have P':=GQ P 0 m
      have u':=Ti P (m:=m) (by omega) d2
      obtain ⟨a3,b3,c3,_⟩:=GF o P' (N - m) m (by omega) (by omega) u'
      refine ⟨run lt (kas_asc (kas_rev p 0 m) (N - m) m),kas_rev p 0 m,?_,by omega,by omega,P',c3⟩
      unfold kas_descPart
      rw [DE,show N - (1 + 1)=N - 2 from rfl,show 1 + 1=2 from rfl,r]
      show run lt (if (0:Nat) > 0 then _ else kas_tail3 m N p)=_
      rw [if_neg (by omega)]
      unfold kas_tail3
      rw [DE]
      rfl
theorem FN (o:Ord N lt) (P:Pm N p) {k:Nat} (hk:k < N) (u:Up lt p k):∀ (f l r:Nat),l <= r->r <= k->r - l <= f->(∀ i,i < l->lt (p.getD i 0) (p.getD k 0)=true)->(∀ i,r <= i->i < k->lt (p.getD k 0) (p.getD i 0)=true)->
    ∃ m,run lt (kas_place p k f l r)=m /\ m <= k /\ (∀ i,i < m->lt (p.getD i 0) (p.getD k 0)=true) /\ (∀ i,m <= i->i < k->lt (p.getD k 0) (p.getD i 0)=true)
  | 0,l,r,h1,h2,h3,a,b=>⟨l,rfl,by omega,a,fun i hi=>b i (by omega)⟩
  | f + 1,l,r,h1,h2,h3,a,b=>by
    unfold kas_place
    by_cases e:l ≥ r
    . rw [if_pos e]
      exact ⟨l,rfl,by omega,a,fun i hi=>b i (by omega)⟩
    . rw [if_neg e]
      have hmid:l <= (l + r) / 2 /\ (l + r) / 2 < r:=by omega
      show ∃ m,run lt (if lt (p.getD k 0) (p.getD ((l + r) / 2) 0)=true then _ else _)=m /\ _
      cases c:lt (p.getD k 0) (p.getD ((l + r) / 2) 0) with
      | true=>
        rw [if_pos rfl]
        refine FN o P hk u f l ((l + r) / 2) (by omega) (by omega) (by omega) a fun i hi hik=>?_
        rcases Nat.lt_or_ge ((l + r) / 2) i with z | z
        . exact o.tr _ _ _ c (u _ _ z hik)
        . have:i=(l + r) / 2:=by omega
          subst this; exact c
      | false=>
        rw [if_neg (by decide)]
        have c':=P.not o hk (show (l + r) / 2 < N by omega) (by omega) c
        refine FN o P hk u f ((l + r) / 2 + 1) r (by omega) (by omega) (by omega) (fun i hi=>?_) b
        rcases Nat.lt_or_ge i ((l + r) / 2) with z | z
        . exact o.tr _ _ _ (u _ _ z (by omega)) c'
        . have:i=(l + r) / 2:=by omega
          subst this; exact c'
theorem Mv (o:Ord N lt):∀ (f k:Nat) (p:Array Nat),Pm N p->1 <= k->k + f=N->Up lt p k->Pm N (run lt (kas_bin f p k)) /\ Up lt (run lt (kas_bin f p k)) N
  | 0,k,p,P,h1,h2,u=>⟨P,(show k=N by omega) ▸ u⟩
  | f + 1,k,p,P,h1,h2,u=>by
    unfold kas_bin
    rw [DE]
    obtain ⟨m,e,hm,a,b⟩:=FN o P (k:=k) (by omega) u k 0 k (Nat.zero_le _) (Nat.le_refl _) (by omega) (fun i hi=>by omega) (fun i h1 h2=>by omega)
    rw [e]
    have hs:=P.size
    have g:∀ j,(bubble p k (k - m)).getD j 0=if j=m then p.getD k 0 else if m < j /\ j <= k then p.getD (j - 1) 0 else p.getD j 0:=fun j=>by
      have:=getElem?_bubble (xs:=p) (src:=k) (by omega) (k - m) (by omega) j
      rw [show k - (k - m)=m by omega] at this
      by_cases z:j=m
      . rw [if_pos z] at this ⊢; exact F8 this
      . rw [if_neg z] at this ⊢
        by_cases y:m < j /\ j <= k
        . rw [if_pos y] at this ⊢; exact F8 this
        . rw [if_neg y] at this ⊢; exact F8 this
    refine Mv o f (k + 1) _ ((bubble_perm p k _).toList.trans P) (by omega) (by omega) fun i j hij hj=>?_
    by_cases ji:j=m
    . have gi:(bubble p k (k - m)).getD i 0=p.getD i 0:=by rw [g i,if_neg (by omega),if_neg (by omega)]
      have gj:(bubble p k (k - m)).getD j 0=p.getD k 0:=by rw [g j,if_pos ji]
      rw [gi,gj]
      exact a i (by omega)
    . by_cases jj:m < j
      . have gj:(bubble p k (k - m)).getD j 0=p.getD (j - 1) 0:=by rw [g j,if_neg ji,if_pos ⟨jj,by omega⟩]
        rw [gj]
        by_cases ii:i=m
        . have gi:(bubble p k (k - m)).getD i 0=p.getD k 0:=by rw [g i,if_pos ii]
          rw [gi]
          exact b (j - 1) (by omega) (by omega)
        . by_cases i2:m < i
          . have gi:(bubble p k (k - m)).getD i 0=p.getD (i - 1) 0:=by rw [g i,if_neg ii,if_pos ⟨i2,by omega⟩]
            rw [gi]
            exact u (i - 1) (j - 1) (by omega) (by omega)
          . have gi:(bubble p k (k - m)).getD i 0=p.getD i 0:=by rw [g i,if_neg ii,if_neg (by omega)]
            rw [gi]
            exact u i (j - 1) (by omega) (by omega)
      . have gi:(bubble p k (k - m)).getD i 0=p.getD i 0:=by rw [g i,if_neg (by omega),if_neg (by omega)]
        have gj:(bubble p k (k - m)).getD j 0=p.getD j 0:=by rw [g j,if_neg ji,if_neg (by omega)]
        rw [gi,gj]
        exact u i j hij (by omega)
theorem sort_run (o:Ord N lt) (hN:2 <= N):Pm N (run lt (kas_sort N)) /\ Up lt (run lt (kas_sort N)) N:=by
  unfold kas_sort
  rw [DE]
  obtain ⟨n,p',e,h1,h2,P,u⟩:=H9 (p:=List.toArray (List.range N)) o (List.Perm.refl _) hN
  rw [e]
  by_cases z:n < N
  . rw [if_pos z]
    rw [show max n 1=n by omega]
    exact Mv o (N - n) n p' P h1 (by omega) u
  . rw [if_neg z]
    have:n=N:=by omega
    subst this
    exact ⟨P,u⟩
end
end Sq
namespace Sq
open PySem PySem.W PyProof.Rows
def Bd {α:Type} (N:Nat) (lt:Nat->Nat->Bool):KasT α->Prop
  | .ret _=>True
  | .ask i j k=>i < N /\ j < N /\ Bd N lt (k (lt i j))
theorem wp_of {α:Type} {N:Nat} {lt:Nat->Nat->Bool} {cmp:Nat->Nat->(Bool->Shared->Prop)->Shared->Prop} {s:Shared} (hc:∀ i j (C:Bool->Shared->Prop),i < N->j < N->C (lt i j) s->cmp i j C s) {Q:α->Shared->Prop}:∀ t:KasT α,Bd N lt t->Q (run lt t) s->t.kasWp cmp Q s
  | .ret _,_,h=>h
  | .ask i j k,b,h=>hc i j _ b.1 b.2.1 (wp_of hc (k (lt i j)) b.2.2 h)
theorem EG {α β:Type} {N:Nat} {lt:Nat->Nat->Bool} {f:α->KasT β}:∀ t:KasT α,Bd N lt t->Bd N lt (f (run lt t))->Bd N lt (t.bind f)
  | .ret _,_,h=>h
  | .ask i j k,b,h=>⟨b.1,b.2.1,EG (k (lt i j)) b.2.2 h⟩
section
variable {N:Nat} {lt:Nat->Nat->Bool} {p:Array Nat}
theorem Lc (P:Pm N p):∀ (f n:Nat),1 <= n->n + f <= N->Bd N lt (kas_asc p f n)
  | 0,n,h1,h2=>trivial
  | f + 1,n,h1,h2=>by
    refine ⟨Pm.bd P (by omega),Pm.bd P (by omega),?_⟩
    dsimp only
    split
    . trivial
    . exact Lc P f (n + 1) (by omega) (by omega)
theorem GE:∀ (f n q:Nat) {p:Array Nat},Pm N p->1 <= n->n + f <= N->Bd N lt (kas_desc f p n q)
  | 0,n,q,p,P,h1,h2=>trivial
  | f + 1,n,q,p,P,h1,h2=>by
    refine ⟨Pm.bd P (by omega),Pm.bd P (by omega),?_⟩
    dsimp only
    split
    . split
      . exact GE f (n + 1) 0 (GQ P _ _) (by omega) (by omega)
      . exact GE f (n + 1) 0 P (by omega) (by omega)
    . refine ⟨Pm.bd P (by omega),Pm.bd P (by omega),?_⟩
      dsimp only
      split
      . trivial
      . exact GE f (n + 1) (q + 1) P (by omega) (by omega)
theorem QC (o:Ord N lt) (P:Pm N p) (hN:2 <= N):Bd N lt (kas_count N p):=by
  have u1:Up lt p 1:=fun i j hij hj=>by omega
  obtain ⟨a,b,c,d⟩:=GF o P (N - 1) 1 (Nat.le_refl _) (by omega) u1
  unfold kas_count
  refine EG _ (Lc P (N - 1) 1 (Nat.le_refl _) (by omega)) ?_
  generalize hm:run lt (kas_asc p (N - 1) 1)=m at a b c d
  by_cases e:m=N
  . rw [if_pos (by simp [e])]; trivial
  . rw [if_neg (by simp [e])]
    by_cases h1:m > 1
    . rw [if_pos h1]
      have z:lt (p.getD 0 0) (p.getD (m - 1) 0)=true:=c 0 (m - 1) (by omega) (by omega)
      refine ⟨Pm.bd P (by omega),Pm.bd P (by omega),?_⟩
      rw [z]; trivial
    . rw [if_neg h1]
      have m1:m=1:=by omega
      subst m1
      have dd:=d (by omega)
      have dn:Dn lt p 2:=fun i j hij hj=>by
        have:i=0 /\ j=1:=by omega
        obtain ⟨rfl,rfl⟩:=this
        exact dd
      obtain ⟨m,r,b1,b2,d2⟩:=G4 o P (N - 2) 2 (by omega) (by omega) dn
      unfold kas_descPart
      refine EG _ (GE (N - (1 + 1)) (1 + 1) 0 P (by omega) (by omega)) ?_
      rw [show N - (1 + 1)=N - 2 from rfl,show 1 + 1=2 from rfl,r]
      show Bd N lt (if (0:Nat) > 0 then _ else kas_tail3 m N p)
      rw [if_neg (by omega)]
      unfold kas_tail3
      exact EG _ (Lc (GQ P 0 m) (N - m) m (by omega) (by omega)) trivial
theorem GW (P:Pm N p) {k:Nat} (hk:k < N):∀ (f l r:Nat),r <= k->Bd N lt (kas_place p k f l r)
  | 0,l,r,h=>trivial
  | f + 1,l,r,h=>by
    unfold kas_place
    by_cases e:l ≥ r
    . rw [if_pos e]; trivial
    . rw [if_neg e]
      refine ⟨Pm.bd P hk,Pm.bd P (by omega),?_⟩
      dsimp only
      split
      . exact GW P hk f l ((l + r) / 2) (by omega)
      . exact GW P hk f ((l + r) / 2 + 1) r h
theorem QI:∀ (f k:Nat) (p:Array Nat),Pm N p->k + f=N->Bd N lt (kas_bin f p k)
  | 0,k,p,P,h=>trivial
  | f + 1,k,p,P,h=>by
    unfold kas_bin
    exact EG _ (GW P (by omega) k 0 k (Nat.le_refl _)) (QI f (k + 1) _ ((bubble_perm p k _).toList.trans P) (by omega))
theorem sort_bd (o:Ord N lt) (hN:2 <= N):Bd N lt (kas_sort N):=by
  have P0:Pm N (List.toArray (List.range N)):=List.Perm.refl _
  unfold kas_sort
  refine EG _ (QC o P0 hN) ?_
  obtain ⟨n,p',e,h1,h2,P,u⟩:=H9 (p:=List.toArray (List.range N)) o P0 hN
  rw [e]
  by_cases z:n < N
  . rw [if_pos z]
    exact QI _ _ p' P (by omega)
  . rw [if_neg z]; trivial
end
end Sq
namespace Nk
open PySem PySem.Spec PyProof.Rows HT
def Nu (c:Cs):List Int:=c.1 :: c.2.1 :: c.2.2
def cLt (a b:Cs):Bool:=B5 (Nu a) (Nu b)
theorem KH {a b:Cs} (h:Nu a=Nu b):a=b:=by
  obtain ⟨a1,a2,a3⟩:=a
  obtain ⟨b1,b2,b3⟩:=b
  simp only [Nu,List.cons.injEq] at h
  rw [h.1,h.2.1,h.2.2]
theorem C4 {a b:Cs} (h:csK a=csK b):a=b:=by
  obtain ⟨a1,a2,a3⟩:=a
  obtain ⟨b1,b2,b3⟩:=b
  unfold csK at h
  simp only [NK.tup.injEq,List.cons.injEq,NK.int.injEq,and_true] at h
  obtain ⟨h1,h2,h3⟩:=h
  have:a3=b3:=by
    have inj:∀ (x y:List Int),x.map NK.int=y.map NK.int->x=y:=by
      intro x
      induction x with
      | nil=>intro y h; cases y with
        | nil=>rfl
        | cons _ _=>cases h
      | cons u x ih=>intro y h; cases y with
        | nil=>cases h
        | cons v y=>
          rw [List.map_cons,List.map_cons,List.cons.injEq,NK.int.injEq] at h
          rw [h.1,ih y h.2]
    exact inj a3 b3 h3
  rw [h1,h2,this]
theorem F6:∀ a:List Int,B5 a a=false
  | []=>rfl
  | x :: a=>by rw [BG,if_pos rfl]; exact F6 a
theorem Ix:∀ {a b:List Int},a ≠ b->B5 a b=true ∨ B5 b a=true
  | [],[],h=>absurd rfl h
  | [],_ :: _,_=>.inl rfl
  | _ :: _,[],_=>.inr rfl
  | x :: a,y :: b,h=>by
    by_cases e:x=y
    . subst e
      rw [BG,BG,if_pos rfl,if_pos rfl]
      exact Ix fun z=>h (by rw [z])
    . rw [BG,BG,if_neg e,if_neg (Ne.symm e)]
      rcases Int.lt_or_gt_of_ne e with z | z
      . exact .inl (decide_eq_true z)
      . exact .inr (decide_eq_true z)
theorem LF:∀ {a b c:List Int},B5 a b=true->B5 b c=true->B5 a c=true
  | [],[],_,h,_=>by cases h
  | [],_ :: _,[],_,h=>by cases h
  | [],_ :: _,_ :: _,_,_=>rfl
  | _ :: _,[],_,h,_=>by cases h
  | _ :: _,_ :: _,[],_,h=>by cases h
  | x :: a,y :: b,z :: c,h,g=>by
    rw [BG] at h g ⊢
    by_cases e:x=y
    . subst e
      rw [if_pos rfl] at h
      by_cases e2:x=z
      . subst e2
        rw [if_pos rfl] at g ⊢
        exact LF h g
      . rw [if_neg e2] at g ⊢; exact g
    . rw [if_neg e] at h
      have h':=of_decide_eq_true h
      by_cases e2:y=z
      . subst e2
        rw [if_neg e]; exact h
      . rw [if_neg e2] at g
        have g':=of_decide_eq_true g
        rw [if_neg (by omega)]
        exact decide_eq_true (by omega)
theorem JA {h:Heap}:∀ {l:List Int} {vs:List Value},Ats h (l.map NK.int) vs->IntsAre vs l
  | [],_,a=>by unfold List.map Ats at a; subst a; exact .nil
  | i :: l,_,a=>by
    unfold List.map Ats at a
    obtain ⟨v,vs',rfl,a1,a2⟩:=a
    unfold At at a1
    obtain ⟨t,rfl⟩:=a1
    exact .cons i t (JA a2)
theorem G5 {h:Heap} {c:Cs} {v:Value} (x:At h (csK c) v):∃ a o items n t u q,v=.ref a /\ h.get? a=some o /\ o.cls=.type "tuple" /\ o.data=.seq items n /\ items.toList=[.int c.1 t,.int c.2.1 u,q] /\ At h (.tup (c.2.2.map NK.int)) q:=by
  unfold csK At at x
  obtain ⟨a,o,items,n,rfl,h1,h2,h3,h4⟩:=x
  unfold Ats at h4
  obtain ⟨v1,r1,e1,a1,h4⟩:=h4
  unfold Ats at h4
  obtain ⟨v2,r2,e2,a2,h4⟩:=h4
  unfold Ats at h4
  obtain ⟨v3,r3,e3,a3,h4⟩:=h4
  unfold Ats at h4
  unfold At at a1 a2
  obtain ⟨t,rfl⟩:=a1
  obtain ⟨u,rfl⟩:=a2
  subst h4 e3 e2
  exact ⟨a,o,items,n,t,u,v3,rfl,h1,h2,h3,e1,a3⟩
theorem Hz:∀ l:List Int,NK.deeps (l.map NK.int)=0
  | []=>rfl
  | i :: l=>by show max 0 (NK.deeps (l.map NK.int))=0; rw [Hz l]; rfl
section
variable {prog:Program} {w:World} {A:Around} {E:Value->Shared->Prop} {s:Shared}
theorem Vl {a b:Cs} {x y:Value} {Q:Bool->Shared->Prop} (hu:A.units + 8 < cLine) (hx:At s.heap (csK a) x) (hy:At s.heap (csK b) y) (q:Q (cLt a b) s):wpAny (model prog w) A (keyLt' (tuples' true) x y) Q E s:=by
  obtain ⟨x,ox,xs,n,t,u,p,rfl,h1,h2,h3,h4,h5⟩:=G5 hx
  obtain ⟨y,oy,ys,n',t',u',p',rfl,g1,g2,g3,g4,g5⟩:=G5 hy
  refine PySem.W.kat_lt h1 h3 g1 g3 ?_
  rw [h4,g4]
  unfold cLt Nu at q
  rw [BG] at q
  refine PySem.W.kat_cons (SeqAt.EqAt.int_int a.1 t b.1 t' prog w _ _ ?_)
  by_cases e1:a.1=b.1
  . rw [beq_iff_eq.mpr e1]
    rw [if_pos e1,BG] at q
    refine PySem.W.kat_yes (PySem.W.kat_cons (SeqAt.EqAt.int_int a.2.1 u b.2.1 u' prog w _ _ ?_))
    by_cases e2:a.2.1=b.2.1
    . rw [beq_iff_eq.mpr e2]
      rw [if_pos e2] at q
      refine PySem.W.kat_yes (PySem.W.kat_cons (At.eq (by show A.units + (NK.deeps (a.2.2.map NK.int) + 1) < cLine; rw [Hz]; omega) h5 g5 prog w _ _ ?_))
      by_cases e3:a.2.2=b.2.2
      . have hd:decide (NK.tup (a.2.2.map NK.int)=NK.tup (b.2.2.map NK.int))=true:=decide_eq_true (by rw [e3])
        rw [hd]
        refine PySem.W.kat_yes (PySem.W.kat_nil ?_)
        rw [e3,F6] at q
        have z1:xs.size=3:=by rw [← Array.length_toList,h4]; rfl
        have z2:ys.size=3:=by rw [← Array.length_toList,g4]; rfl
        rw [z1,z2]
        exact q
      . have hne : ¬ (NK.tup (a.2.2.map NK.int)=NK.tup (b.2.2.map NK.int)):=fun z=>e3 (by
          have:=C4 (a:=(0,0,a.2.2)) (b:=(0,0,b.2.2)) (by unfold csK; rw [z])
          exact (Prod.mk.inj (Prod.mk.inj this).2).2)
        rw [decide_eq_false hne]
        refine PySem.W.kat_no ?_
        show wpAny _ _ (oneLt' false p p') Q _ s
        unfold At at h5 g5
        obtain ⟨z,o1,i1,m1,rfl,k1,k2,k3,k4⟩:=h5
        obtain ⟨z',o2,i2,m2,rfl,k1',k2',k3',k4'⟩:=g5
        exact PySem.W.kat_one _ _ (LD ⟨o1,k1,k2,m1,k3⟩ ⟨o2,k1',k2',m2,k3'⟩ (JA k4) (JA k4') (by omega) q)
    . rw [beq_eq_false_iff_ne.mpr e2]
      rw [if_neg e2] at q
      refine PySem.W.kat_no ?_
      exact PySem.W.kat_one _ _ (lt_int q)
  . rw [beq_eq_false_iff_ne.mpr e1]
    rw [if_neg e1] at q
    refine PySem.W.kat_no ?_
    exact oneLt_int q
end
end Nk
namespace Nk
open PySem PySem.Spec PyProof.Rows HT
theorem Ats.get {h:Heap}:∀ {ks:List NK} {vs:List Value},Ats h ks vs->∀ (i:Nat) (k:NK),ks[i]? = some k->∃ v,vs[i]? = some v /\ At h k v
  | [],_,_,i,k,e=>by simp at e
  | k0 :: ks,_,a,i,k,e=>by
    unfold Ats at a
    obtain ⟨v,vs',rfl,a1,a2⟩:=a
    cases i with
    | zero=>simp at e; subst e; exact ⟨v,rfl,a1⟩
    | succ i=>
      obtain ⟨u,e1,e2⟩:=Ats.get a2 i k (by simpa using e)
      exact ⟨u,by simpa using e1,e2⟩
theorem Ats.of_get {h:Heap}:∀ {ks:List NK} {vs:List Value},vs.length=ks.length->(∀ (i:Nat) (k:NK) (v:Value),ks[i]? = some k->vs[i]? = some v->At h k v)->Ats h ks vs
  | [],[],_,_=>by unfold Ats; rfl
  | [],_ :: _,e,_=>by simp at e
  | _ :: _,[],e,_=>by simp at e
  | k :: ks,v :: vs,e,f=>by
    unfold Ats
    exact ⟨v,vs,rfl,f 0 k v rfl rfl,Ats.of_get (by simpa using e) fun i k' v' h1 h2=>f (i + 1) k' v' (by simpa using h1) (by simpa using h2)⟩
abbrev Fe:Cs:=(0,0,[])
def HR (ks:List Cs) (i j:Nat):Bool:=cLt (ks.getD i Fe) (ks.getD j Fe)
theorem T1 {ks:List Cs} (nd:ks.Nodup):Sq.Ord ks.length (HR ks) where
  tot:=fun i j hi hj hne=>Ix fun z=>hne (by
    have e:=KH z
    have e1:ks.getD i Fe=ks[i]:=by simp [hi]
    have e2:ks.getD j Fe=ks[j]:=by simp [hj]
    rw [e1,e2] at e
    exact (List.getElem_inj nd).mp e)
  tr:=fun i j k h g=>LF h g
  irr:=fun i=>F6 _
theorem NF {ks:List Cs} {p:Array Nat} (P:Sq.Pm ks.length p) (u:Sq.Up (HR ks) p ks.length):(p.toList.map fun i=>ks.getD i Fe).Perm ks /\ (p.toList.map fun i=>ks.getD i Fe).Pairwise fun x y=>cLt x y=true:=by
  constructor
  . have h1:=P.map fun i=>ks.getD i Fe
    have h2:(List.range ks.length).map (fun i=>ks.getD i Fe)=ks:=by
      apply List.ext_getElem
      . simp
      . intro i h1 h2
        simp at h1
        simp [h1]
    rw [h2] at h1
    exact h1
  . have hs:=P.size
    rw [List.pairwise_map,List.pairwise_iff_getElem]
    intro i j hi hj hij
    have hi':i < p.size:=by simpa using hi
    have hj':j < p.size:=by simpa using hj
    have:=u i j hij (by omega)
    have e1:p.getD i 0=p.toList[i]:=by simp [Array.getD,hi']
    have e2:p.getD j 0=p.toList[j]:=by simp [Array.getD,hj']
    rw [e1,e2] at this
    exact this
section
variable {prog:Program} {w:World} {A:Around} {E:Value->Shared->Prop} {s:Shared}
theorem Pp:∀ {ks:List Cs} {vs:List Value},Ats s.heap (ks.map csK) vs->∃ fs:List Value,fs.length=vs.length /\ PySem.W.KatTups s.heap vs fs /\ ∀ v ∈ fs,∃ i t,v=.int i t
  | [],_,a=>by
    unfold List.map Ats at a
    subst a
    exact ⟨[],rfl,trivial,fun v h=>by cases h⟩
  | k :: ks,_,a=>by
    unfold List.map Ats at a
    obtain ⟨v,vs',rfl,a1,a2⟩:=a
    obtain ⟨fs,e,t,f⟩:=Pp a2
    obtain ⟨x,o,items,n,t1,u,q,rfl,h1,h2,h3,h4,_⟩:=G5 a1
    refine ⟨.int k.1 t1 :: fs,by simp [e],PySem.W.KatTups.cons h1 h2 h3 ?_ t,fun w hw=>(List.mem_cons.mp hw).elim (fun z=>⟨_,_,z⟩) (f w)⟩
    rw [← Array.getElem?_toList,h4]
    rfl
theorem L5 {a:Addr} {vs:List Value} {n:Nat} {ks:List Cs} {P:PySem.Fin->Shared->Prop} (hu:A.units + 8 < cLine) (ho:s.heap.get? a=some (seqObj "list" vs.toArray n)) (hk:Ats s.heap (ks.map csK) vs) (nd:ks.Nodup) (h64:vs.length < 64)
    (h:∀ (out:List Value) (ks':List Cs),Ats s.heap (ks'.map csK) out->ks'.Perm ks->ks'.Pairwise (fun x y=>cLt x y=true)->(∀ v ∈ out,v ∈ vs)->P (.done (.ret .none)) { s with heap:=sortedHeap s.heap a vs out.toArray }) :
    wpAny (model prog w) A (Builtin.«list.sort» ⟨[.ref a],[]⟩) P E s:=by
  have hlen:vs.length=ks.length:=by have:=hk.len; simpa using this
  have ha:a < s.heap.objs.size:=Heap.lt_size ho
  have ho1:=get?_update_seq ho (fun _=>(#[]:Array Value))
  rw [list_sort_plain]
  refine wpAny_bind (listItems_at ho rfl (wpAny_bind (listUpdate_at ho rfl ?_ (by rw [List.size_toArray,sizeLine_eq]; omega) (Nat.zero_le _))))
  refine wpAny_bind (seqEpoch_at ho1 rfl (wpAny_bind (wpAny_newTuple ?_ (by show vs.length <= _; rw [sizeLine_eq]; omega))))
  refine wpAny_bind (wpAny_newList ?_ (Nat.zero_le _))
  refine wpAny_holding ?_
  show wpAny (model prog w) A _ P E { s with heap:=((s.heap.update a (Obj.mapSeq fun _=>(#[]:Array Value))).push (seqObj "tuple" vs.toArray 0)).push (seqObj "list" #[] 0) }
  generalize hG:((s.heap.update a (Obj.mapSeq fun _=>(#[]:Array Value))).push (seqObj "tuple" vs.toArray 0)).push (seqObj "list" #[] 0)=G
  have ho6:G.get? a=(s.heap.update a (Obj.mapSeq fun _=>(#[]:Array Value))).get? a:=by
    rw [← hG,Heap.get?_push_ne _ _ _ (by rw [size_push',Heap.size_update]; exact Nat.ne_of_lt (Nat.lt_succ_of_lt ha)),Heap.get?_push_ne _ _ _ (by rw [Heap.size_update]; exact Nat.ne_of_lt ha)]
  rw [ho1] at ho6
  have kp:∀ b o items m,s.heap.get? b=some o->o.cls=.type "tuple" -> o.data=.seq items m->G.get? b=some o:=fun b o items m e c _=>by
    have hb:b < s.heap.objs.size:=Heap.lt_size e
    have hne:b ≠ a:=fun z=>by
      subst z
      rw [ho] at e
      cases e
      exact absurd (show (Value.type "list")=.type "tuple" from c) (by decide)
    rw [← hG,Heap.get?_push_ne _ _ _ (by rw [size_push',Heap.size_update]; exact Nat.ne_of_lt (Nat.lt_succ_of_lt hb)),Heap.get?_push_ne _ _ _ (by rw [Heap.size_update]; exact Nat.ne_of_lt hb),Heap.get?_update_ne _ _ _ _ hne]
    exact e
  have hkG:Ats G (ks.map csK) vs:=hk.kept kp
  have fin:∀ out:List Value,out.length=vs.length->(∀ ks':List Cs,Ats s.heap (ks'.map csK) out->True)->sortedHeap s.heap a vs out.toArray=G.update a (Obj.mapSeq fun _=>out.toArray):=fun out _ _=>by rw [← hG]; rfl
  dsimp only
  by_cases h2:vs.toArray.size < 2
  . rw [if_pos h2,if_pos h2]
    have h2':vs.length < 2:=by simpa using h2
    refine wpAny_bind (wpAny_pure ?_)
    rw [StateT.run_pure]
    refine wpAny_bind (wpAny_pure ?_)
    dsimp only
    have ex:(arrOf (SortSt.mk' general' (vs.toArray.zip vs.toArray) #[] 7 none)).map (·.2)=vs.toArray:=by
      show (vs.toArray.zip vs.toArray).map (·.2)=vs.toArray
      apply Array.toList_inj.mp
      rw [Array.toList_map,Array.toList_zip]
      exact List.map_snd_zip (by simp)
    refine wpAny_bind (seqEpoch_at ho6 rfl (wpAny_bind (listUpdate_at ho6 rfl ?_ (Nat.zero_le _) (by rw [ex,List.size_toArray,sizeLine_eq]; omega))))
    simp only [bne_self_eq_false,Bool.false_eq_true,if_false]
    have:=h vs ks hk (List.Perm.refl _) (by
      match ks,hlen with
      | [],_=>exact List.Pairwise.nil
      | [x],_=>exact List.pairwise_singleton _ _
      | _ :: _ :: _,e=>simp at e; omega) (fun _ z=>z)
    rw [fin vs rfl fun _ _=>trivial] at this
    refine wpAny_pure ?_
    rw [ex]
    exact this
  . rw [if_neg h2,if_neg h2]
    have h2':2 <= vs.length:=by simpa using h2
    obtain ⟨fs,fl,ft,fi⟩:=Pp (s:={ s with heap:=G }) hkG
    refine wpAny_bind (PySem.W.kat_kind (T:=.type "int") ft (by omega) (fun v hv=>by
      obtain ⟨i,t,rfl⟩:=fi v hv
      exact PySem.W.Looks.of_pure rfl) rfl ?_)
    have ord:=T1 nd
    have hN:2 <= ks.length:=by omega
    obtain ⟨pm,up⟩:=Sq.sort_run ord hN
    have ask:(PySem.W.kas_sort vs.length).kasWp (PySem.W.kas_ask prog w A (tuples' (Value.type "int" != Value.type "tuple")) vs) (fun p s''=>p=Sq.run (HR ks) (PySem.W.kas_sort ks.length) /\ s''={ s with heap:=G }) { s with heap:=G }:=by
      rw [hlen]
      refine Sq.wp_of (N:=ks.length) (lt:=HR ks) (fun i j C hi hj hC=>?_) _ (Sq.sort_bd ord hN) ⟨rfl,rfl⟩
      obtain ⟨v,e1,a1⟩:=hkG.get i (csK ks[i]) (by simp [hi])
      obtain ⟨v',e2,a2⟩:=hkG.get j (csK ks[j]) (by simp [hj])
      unfold PySem.W.kas_ask
      have g1:vs.getD i Value.none=v:=by rw [List.getD_eq_getElem?_getD,e1]; rfl
      have g2:vs.getD j Value.none=v':=by rw [List.getD_eq_getElem?_getD,e2]; rfl
      rw [g1,g2]
      refine Vl (s:={ s with heap:=G }) hu a1 a2 ?_
      unfold HR at hC
      have k1:ks.getD i Fe=ks[i]:=by simp [hi]
      have k2:ks.getD j Fe=ks[j]:=by simp [hj]
      rw [k1,k2] at hC
      exact hC
    refine wpAny_bind (wpAny_mono (PySem.W.kat_run (ks:=vs) (Q:=fun st' s'=>(arrOf st').map (·.2)=List.toArray ((Sq.run (HR ks) (PySem.W.kas_sort ks.length)).toList.map fun i=>vs.getD i Value.none) /\ failedOf st'=none /\ s'={ s with heap:=G }) rfl h2' h64 (fun p' st' s' b1 b2 b3 b4=>⟨by rw [PySem.W.kat_snds rfl b2,b4.1],b3,b4.2⟩) ask) ?_ fun _ _ e=>e)
    rintro ⟨⟨⟩,st'⟩ s' ⟨har,hf,rfl⟩
    dsimp only
    have hsz:((arrOf st').map (·.2)).size=vs.length:=by rw [har,List.size_toArray,List.length_map,Array.length_toList,pm.size,hlen]
    refine wpAny_bind (seqEpoch_at ho6 rfl (wpAny_bind (listUpdate_at ho6 rfl ?_ (Nat.zero_le _) (by rw [hsz,sizeLine_eq]; omega))))
    rw [hf]
    simp only [bne_self_eq_false,Bool.false_eq_true,if_false]
    obtain ⟨s1,s2⟩:=NF pm up
    have oa:Ats s.heap ((((Sq.run (HR ks) (PySem.W.kas_sort ks.length)).toList.map fun i=>ks.getD i Fe)).map csK) ((Sq.run (HR ks) (PySem.W.kas_sort ks.length)).toList.map fun i=>vs.getD i Value.none):=by
      refine Ats.of_get (by simp) fun i k v e1 e2=>?_
      rw [List.getElem?_map,List.getElem?_map] at e1
      rw [List.getElem?_map] at e2
      cases e:(Sq.run (HR ks) (PySem.W.kas_sort ks.length)).toList[i]? with
      | none=>rw [e] at e2; cases e2
      | some j=>
        rw [e] at e1 e2
        cases e1
        cases e2
        have hj:j < ks.length:=List.mem_range.mp (pm.mem_iff.mp (List.mem_of_getElem? e))
        obtain ⟨v,g1,g2⟩:=hk.get j (csK ks[j]) (by simp [hj])
        show At s.heap (csK (ks.getD j Fe)) (vs.getD j Value.none)
        rw [show ks.getD j Fe=ks[j] by simp [hj],List.getD_eq_getElem?_getD,g1]
        exact g2
    have sub:∀ v ∈ (Sq.run (HR ks) (PySem.W.kas_sort ks.length)).toList.map (fun i=>vs.getD i Value.none),v ∈ vs:=fun v hv=>by
      obtain ⟨j,hj,rfl⟩:=List.mem_map.mp hv
      have hj:j < vs.length:=by rw [hlen]; exact List.mem_range.mp (pm.mem_iff.mp hj)
      rw [List.getD_eq_getElem?_getD,List.getElem?_eq_getElem hj]
      exact List.getElem_mem hj
    have:=h _ _ oa s1 s2 sub
    rw [fin _ (by rw [List.length_map,Array.length_toList,pm.size,hlen]) fun _ _=>trivial,← har] at this
    exact wpAny_pure this
end
end Nk
namespace Hs
open PySem PySem.SetTable
def nth (t:SetTable):Nat->Probe->Probe
  | 0,p=>p
  | n + 1,p=>nth t n (t.advance p)
theorem J2 (t:SetTable):∀ (n:Nat) (p:Probe),nth t (n + 1) p=t.advance (nth t n p)
  | 0,_=>rfl
  | n + 1,p=>J2 t n (t.advance p)
theorem Ir (t:SetTable):∀ (a b:Nat) (p:Probe),nth t (a + b) p=nth t b (nth t a p)
  | 0,b,p=>by rw [Nat.zero_add]; rfl
  | a + 1,b,p=>by
    rw [show a + 1 + b=(a + b) + 1 by omega]
    exact Ir t a b (t.advance p)
theorem QP {t u:SetTable} (h:t.mask=u.mask) (p:Probe):t.advance p=u.advance p:=by
  unfold SetTable.advance
  rw [h]
theorem GY {t u:SetTable} (h:t.mask=u.mask):∀ (n:Nat) (p:Probe),nth t n p=nth u n p
  | 0,_=>rfl
  | n + 1,p=>by
    show nth t n (t.advance p)=nth u n (u.advance p)
    rw [QP h,GY h n]
theorem IK (t:SetTable) (p:Probe):(t.advance p).dummy=p.dummy:=by
  unfold SetTable.advance
  split <;> rfl
def Oth (t:SetTable) (f:Nat->Int) (h:Int) (j:Nat):Prop:=∃ i,t.slot j=.live i /\ f i ≠ h
theorem LL {t:SetTable} (nd:∀ j,t.slot j ≠ .dummy) {f:Nat->Int} {h:Int}:∀ (Aj:Nat) (p:Probe),p.dummy=none->
    (∃ n,n < Aj /\ t.slot (nth t n p).j=.empty /\ probe.go t f h Aj p=some (.empty (nth t n p).j none) /\ ∀ k,k < n->Oth t f h (nth t k p).j) ∨
    (∃ n i,n < Aj /\ t.slot (nth t n p).j=.live i /\ f i=h /\ probe.go t f h Aj p=some (.candidate (nth t n p).j i (nth t (n + 1) p)) /\ ∀ k,k < n->Oth t f h (nth t k p).j) ∨
    (probe.go t f h Aj p=none /\ ∀ k,k < Aj->Oth t f h (nth t k p).j)
  | 0,p,_=>.inr (.inr ⟨rfl,fun k hk=>absurd hk (Nat.not_lt_zero k)⟩)
  | Aj + 1,p,hd=>by
    cases e:t.slot p.j with
    | empty=>
      refine .inl ⟨0,Nat.succ_pos _,e,?_,fun k hk=>absurd hk (Nat.not_lt_zero k)⟩
      unfold probe.go
      rw [e,hd]
      rfl
    | dummy=>exact absurd e (nd _)
    | live i=>
      by_cases hf:f i=h
      . refine .inr (.inl ⟨0,i,Nat.succ_pos _,e,hf,?_,fun k hk=>absurd hk (Nat.not_lt_zero k)⟩)
        unfold probe.go
        rw [e]
        show (if (f i == h)=true then _ else _)=_
        rw [if_pos (by rw [hf]; exact beq_self_eq_true h)]
        rfl
      . have eg:probe.go t f h (Aj + 1) p=probe.go t f h Aj (t.advance p):=by
          rw [probe.go,e]
          show (if (f i == h)=true then _ else _)=_
          rw [if_neg (by rw [beq_iff_eq]; exact hf)]
        have o0:Oth t f h p.j:=⟨i,e,hf⟩
        have lift:∀ {n:Nat},(∀ k,k < n->Oth t f h (nth t k (t.advance p)).j)->∀ k,k < n + 1->Oth t f h (nth t k p).j:=fun hk k h2=>by
          cases k with
          | zero=>exact o0
          | succ k=>exact hk k (by omega)
        rcases LL nd Aj (t.advance p) ((IK t p).trans hd) with ⟨n,h1,h2,h3,h4⟩ | ⟨n,i',h1,h2,h3,h4,h5⟩ | ⟨h1,h2⟩
        . exact .inl ⟨n + 1,by omega,h2,eg.trans h3,lift h4⟩
        . exact .inr (.inl ⟨n + 1,i',by omega,h2,h3,eg.trans h4,lift h5⟩)
        . exact .inr (.inr ⟨eg.trans h1,lift h2⟩)
def Met1 (t:SetTable) (h:Int) (j:Nat):Prop:=∃ n,n < 10 * turns t.mask /\ (nth t n (t.probeStart h)).j=j /\ ∀ k,k < n->t.slot (nth t k (t.probeStart h)).j ≠ .empty
end Hs
namespace Hs
open PySem PySem.SetTable Ht
theorem Gp {α:Type} (xs:Array α) (p:Nat) (x:α):(insertAt xs p x).toList=xs.toList.take p ++ x :: xs.toList.drop p:=by
  unfold insertAt
  have e:(xs.toList.take (xs.size))=xs.toList:=List.take_of_length_le (by simp)
  have e2:List.take (xs.size - p) (List.drop p xs.toList)=List.drop p xs.toList:=List.take_of_length_le (by simp)
  simp [Array.toList_append,e,e2]
def prs (t:SetTable) (es:Array (Int × Value)):List (Nat × Int × Value):=t.place.toList.zip es.toList
def Good (t:SetTable) (es:Array (Int × Value)):Prop:=∀ q ∈ prs t es,Met1 t q.2.1 q.1
theorem JU {t:SetTable} (r:Ris t.place.toList) (d:t.dummies = #[]) {j:Nat}:t.slot j ≠ .empty ↔ j ∈ t.place.toList:=by
  constructor
  . intro h
    cases e:t.slot j with
    | empty=>exact absurd e h
    | dummy=>exact absurd e (Bq d j)
    | live i=>exact Ha e
  . intro h e
    obtain ⟨i,hi⟩:=GL r h
    rw [e] at hi
    cases hi
theorem QU {α β:Type} (xs:Array α) (ys:Array β) (h:xs.size=ys.size) (p:Nat) (x:α) (y:β) {q:α × β}:q ∈ (insertAt xs p x).toList.zip (insertAt ys p y).toList ↔ q=(x,y) ∨ q ∈ xs.toList.zip ys.toList:=by
  have hl:(xs.toList.take p).length=(ys.toList.take p).length:=by simp [h]
  have hz:xs.toList.zip ys.toList=(xs.toList.take p).zip (ys.toList.take p) ++ (xs.toList.drop p).zip (ys.toList.drop p):=by
    rw [← List.zip_append hl,List.take_append_drop,List.take_append_drop]
  rw [Gp,Gp,List.zip_append hl,List.zip_cons_cons,hz]
  simp only [List.mem_append,List.mem_cons]
  constructor
  . rintro (a | a | a)
    . exact .inr (.inl a)
    . exact .inl a
    . exact .inr (.inr a)
  . rintro (a | a | a)
    . exact .inr (.inl a)
    . exact .inl a
    . exact .inr (.inr a)
theorem Met1.mono {t u:SetTable} (hm:t.mask=u.mask) {h:Int} {j:Nat} (m:Met1 t h j) (k:∀ x,t.slot x ≠ .empty->u.slot x ≠ .empty):Met1 u h j:=by
  obtain ⟨n,h1,h2,h3⟩:=m
  have ep:t.probeStart h=u.probeStart h:=by unfold SetTable.probeStart; rw [hm]
  refine ⟨n,by rw [← hm]; exact h1,by rw [← ep,← GY hm]; exact h2,fun x hx=>?_⟩
  rw [← ep,← GY hm]
  exact k _ (h3 x hx)
theorem KE {t:SetTable} (r:Ris t.place.toList) (d:t.dummies = #[]) {h:Int} {j:Nat} {b:Bool} (e:t.freeSlot h=some (j,b)):Met1 t h j /\ t.slot j=.empty:=by
  have nd:∀ j,t.slot j ≠ .dummy:=Bq d
  unfold SetTable.freeSlot at e
  rcases LL (t:=t) nd (f:=fun _=>h + 1) (h:=h) (10 * turns t.mask) (t.probeStart h) rfl with ⟨n,h1,h2,h3,h4⟩ | ⟨n,i,h1,h2,h3,h4,h5⟩ | ⟨h1,h2⟩
  . have e':t.probe (fun _=>h + 1) h (t.probeStart h)=some (.empty (nth t n (t.probeStart h)).j none):=h3
    rw [e'] at e
    have:(nth t n (t.probeStart h)).j=j:=by
      have:=congrArg (fun o=>o.map Prod.fst) e
      simpa using this
    rw [this] at h2
    refine ⟨⟨n,h1,this,fun k hk=>?_⟩,h2⟩
    obtain ⟨i,hi,_⟩:=h4 k hk
    rw [hi]
    intro z
    cases z
  . exact absurd h3 (show ¬ (h + 1=h) by omega)
  . have e':t.probe (fun _=>h + 1) h (t.probeStart h)=none:=h1
    rw [e'] at e
    cases e
theorem Good.put {t:SetTable} {es:Array (Int × Value)} (g:Good t es) (r:Ris t.place.toList) (d:t.dummies = #[]) (hs:t.place.size=es.size) {h:Int} {x:Value} {j:Nat} {b:Bool} (e:t.freeSlot h=some (j,b)):Good (t.put j).1 (insertAt es (below t.place j) (h,x)):=by
  obtain ⟨m,em⟩:=KE r d e
  have hj:j ∉ t.place.toList:=fun z=>(JU r d).mpr z em
  have r':Ris (t.put j).1.place.toList:=Ia r hj
  have d':(t.put j).1.dummies = #[]:=by
    show (if has t.dummies j=true then eraseAt t.dummies (below t.dummies j) else t.dummies) = #[]
    rw [d]
    have:has (#[]:Array Nat) j=false:=by unfold has; simp
    rw [this]
    rfl
  have kp:∀ y,t.slot y ≠ .empty->(t.put j).1.slot y ≠ .empty:=fun y hy=>by
    rw [JU r d] at hy
    rw [JU r' d']
    show y ∈ (insertAt t.place (below t.place j) j).toList
    rw [(insertAt_perm t.place (below t.place j) j).mem_iff]
    simp only [Array.toList_push,List.mem_append]
    first | exact .inl hy | exact .inr hy
  intro q hq
  have hq':q ∈ (insertAt t.place (below t.place j) j).toList.zip (insertAt es (below t.place j) (h,x)).toList:=hq
  rcases (QU t.place es hs _ _ _).mp hq' with rfl | hq'
  . exact Met1.mono (t:=t) (u:=(t.put j).1) rfl m kp
  . exact Met1.mono (t:=t) (u:=(t.put j).1) rfl (g q hq') kp
end Hs
namespace Hs
open PySem PySem.SetTable Ht
def C5 (mask i pt:Nat):Probe:={ j:=i,more:=runEnd mask i - i,i,perturb:=pt,dummy:=none }
theorem Iq (t:SetTable):∀ (k:Nat) (p:Probe),k <= p.more->nth t k p={ p with j:=p.j + k,more:=p.more - k }
  | 0,p,_=>rfl
  | k + 1,p,h=>by
    have e:t.advance p={ p with j:=p.j + 1,more:=p.more - 1 }:=by
      unfold SetTable.advance
      rw [if_pos (by omega)]
    show nth t k (t.advance p)=_
    rw [e,Iq t k _ (by show k <= p.more - 1; omega)]
    show ({ p with j:=p.j + 1 + k,more:=p.more - 1 - k }:Probe)={ p with j:=p.j + (k + 1),more:=p.more - (k + 1) }
    rw [show p.j + 1 + k=p.j + (k + 1) by omega,show p.more - 1 - k=p.more - (k + 1) by omega]
theorem PQ {t:SetTable} {mask:Nat} (hm:t.mask=mask) (i pt:Nat):nth t (runEnd mask i - i + 1) (C5 mask i pt)=C5 mask (leap mask i pt).1 (leap mask i pt).2:=by
  rw [J2,Iq t _ _ (by show _ <= runEnd mask i - i; omega)]
  unfold SetTable.advance
  rw [if_neg (by show ¬ (runEnd mask i - i - (runEnd mask i - i) > 0); omega),hm]
  rfl
theorem Tc (mask i:Nat):i <= runEnd mask i /\ runEnd mask i - i <= 9:=by
  unfold runEnd
  split <;> omega
theorem LN {p:Nat->Bool} {n k:Nat} (h:(List.range n).find? p=some k):k < n /\ p k=true /\ ∀ x,x < k->p x=false:=by
  refine ⟨List.mem_range.mp (List.mem_of_find?_eq_some h),List.find?_some h,fun x hx=>?_⟩
  have hk:k < n:=List.mem_range.mp (List.mem_of_find?_eq_some h)
  obtain ⟨_,as,bs,e,ha⟩:=List.find?_eq_some_iff_append.mp h
  have hlen:as.length=k:=by
    have h1:(List.range n)[as.length]? = some k:=by rw [e]; simp
    have h2:=(List.getElem?_eq_some_iff.mp h1).1
    have h3:=(List.getElem?_eq_some_iff.mp h1).2
    simpa using h3
  have hx2:x ∈ as:=by
    have h1:(List.range n)[x]? = some x:=by
      have hxn:x < n:=by omega
      simp [hxn]
    rw [e,List.getElem?_append_left (by omega)] at h1
    exact List.mem_of_getElem? h1
  have:=ha x hx2
  simpa using this
theorem KD {t:SetTable} {mask:Nat} (hm:t.mask=mask) {owner:Array (Option Nat)}:∀ (Aj i pt j:Nat),layClean.free mask owner Aj i pt=some j->
    ∃ n,n < 10 * Aj /\ (nth t n (C5 mask i pt)).j=j /\ ∀ k,k < n->owner.getD (nth t k (C5 mask i pt)).j (some 0) ≠ none
  | 0,i,pt,j,e=>by cases e
  | Aj + 1,i,pt,j,e=>by
    obtain ⟨r1,r2⟩:=Tc mask i
    have at':∀ k,k <= runEnd mask i - i->(nth t k (C5 mask i pt)).j=i + k:=fun k hk=>by rw [Iq t k _ hk]; rfl
    unfold layClean.free at e
    split at e
    . rename_i k hk
      cases e
      obtain ⟨k1,k2,k3⟩:=LN hk
      refine ⟨k,by omega,at' k (by omega),fun x hx=>?_⟩
      rw [at' x (by omega)]
      have:=k3 x hx
      intro z
      rw [z] at this
      cases this
    . rename_i hk
      obtain ⟨n,n1,n2,n3⟩:=KD hm Aj _ _ j e
      have hall:∀ x,x <= runEnd mask i - i->owner.getD (i + x) (some 0) ≠ none:=fun x hx z=>by
        have:=List.find?_eq_none.mp hk x (List.mem_range.mpr (by omega))
        rw [z] at this
        exact this rfl
      have en:∀ x,nth t (runEnd mask i - i + 1 + x) (C5 mask i pt)=nth t x (C5 mask (leap mask i pt).1 (leap mask i pt).2):=fun x=>by rw [Ir,PQ hm]
      refine ⟨runEnd mask i - i + 1 + n,by omega,by rw [en]; exact n2,fun x hx=>?_⟩
      by_cases h:x <= runEnd mask i - i
      . rw [at' x h]
        exact hall x h
      . have:owner.getD (nth t (x - (runEnd mask i - i + 1)) (C5 mask (leap mask i pt).1 (leap mask i pt).2)).j (some 0) ≠ none:=n3 (x - (runEnd mask i - i + 1)) (by omega)
        rw [← en,show runEnd mask i - i + 1 + (x - (runEnd mask i - i + 1))=x by omega] at this
        exact this
end Hs
namespace Hs
open PySem PySem.SetTable Ht
def Okp (mask:Nat) (p:Probe):Prop:=p.j + p.more <= mask
theorem Hg {mask i pt:Nat} (h:i <= mask):Okp mask (C5 mask i pt):=by
  show i + (runEnd mask i - i) <= mask
  unfold runEnd
  split <;> omega
theorem Ri {t:SetTable} {mask:Nat} (hm:t.mask=mask) {p:Probe} (h:Okp mask p):Okp mask (t.advance p):=by
  unfold SetTable.advance
  split
  . show p.j + 1 + (p.more - 1) <= mask
    have:p.j + p.more <= mask:=h
    omega
  . rw [hm]
    exact Hg (pt:=(leap mask p.i p.perturb).2) (by show (p.i * 5 + 1 + p.perturb / 32) % (mask + 1) <= mask; have:=Nat.mod_lt (p.i * 5 + 1 + p.perturb / 32) (show 0 < mask + 1 by omega); omega)
theorem MM {t:SetTable} {mask:Nat} (hm:t.mask=mask):∀ (n:Nat) {p:Probe},Okp mask p->Okp mask (nth t n p)
  | 0,_,h=>h
  | n + 1,_,h=>MM hm n (Ri hm h)
abbrev NP (mask:Nat) (h:Int):Probe:=C5 mask (bits h % (mask + 1)) (bits h)
theorem Te {t:SetTable} {mask:Nat} (hm:t.mask=mask) (h:Int) (n:Nat):(nth t n (NP mask h)).j <= mask:=by
  have a:Okp mask (nth t n (NP mask h)):=MM hm n (Hg (by have:=Nat.mod_lt (bits h) (show 0 < mask + 1 by omega); omega))
  have a':(nth t n (NP mask h)).j + (nth t n (NP mask h)).more <= mask:=a
  omega
def SJ (t:SetTable) (mask:Nat) (owner:Array (Option Nat)) (hs:List Int):Prop:=∀ (j c:Nat),owner.getD j none=some c->∃ h,hs[c]? = some h /\ ∃ n,n < 10 * turns mask /\ (nth t n (NP mask h)).j=j /\ ∀ k,k < n->owner.getD (nth t k (NP mask h)).j (some 0) ≠ none
theorem MA {owner:Array (Option Nat)} {j x:Nat} {v:Option Nat} {d:Option Nat}:(owner.setIfInBounds j v).getD x d=if x=j /\ j < owner.size then v else owner.getD x d:=by
  unfold Array.getD
  simp only [Array.size_setIfInBounds]
  by_cases hx:x < owner.size
  . rw [dif_pos hx,dif_pos hx]
    by_cases e:x=j
    . subst e
      rw [if_pos ⟨rfl,hx⟩]
      simp
    . rw [if_neg (fun z=>e z.1)]
      show (owner.setIfInBounds j v)[x]'(by rw [Array.size_setIfInBounds]; exact hx)=owner[x]
      rw [Array.getElem_setIfInBounds_ne]
      exact fun z=>e z.symm
  . rw [dif_neg hx,dif_neg hx,if_neg]
    rintro ⟨rfl,z⟩
    exact hx z
theorem MX {t:SetTable} {mask:Nat} (hm:t.mask=mask):∀ (l don:List Int) (owner owner':Array (Option Nat)) (k':Nat),l.foldl (Cy mask) (some (owner,don.length))=some (owner',k')->SJ t mask owner don->SJ t mask owner' (don ++ l)
  | [],don,owner,owner',k',e,L=>by
    rw [List.foldl_nil] at e
    cases e
    rw [List.append_nil]
    exact L
  | h :: l,don,owner,owner',k',e,L=>by
    rw [List.foldl_cons] at e
    cases f:layClean.free mask owner (turns mask) (bits h % (mask + 1)) (bits h) with
    | none=>
      have st:Cy mask (some (owner,don.length)) h=none:=by
        show ((layClean.free mask owner (turns mask) (bits h % (mask + 1)) (bits h)).bind fun j=>some (owner.setIfInBounds j (some don.length),don.length + 1))=_
        rw [f]
        rfl
      rw [st] at e
      have no:∀ l:List Int,l.foldl (Cy mask) none=none:=fun l=>by
        induction l with
        | nil=>rfl
        | cons a l ih=>exact ih
      rw [no] at e
      cases e
    | some j=>
      have st:Cy mask (some (owner,don.length)) h=some (owner.setIfInBounds j (some don.length),(don ++ [h]).length):=by
        show ((layClean.free mask owner (turns mask) (bits h % (mask + 1)) (bits h)).bind fun j=>some (owner.setIfInBounds j (some don.length),don.length + 1))=_
        rw [f,List.length_append]
        rfl
      rw [st] at e
      obtain ⟨hj,hn⟩:=Hn (Gs _ _ _ _ f)
      have kp:∀ x,owner.getD x (some 0) ≠ none->(owner.setIfInBounds j (some don.length)).getD x (some 0) ≠ none:=fun x hx=>by
        rw [MA]
        split
        . intro z; cases z
        . exact hx
      have L':SJ t mask (owner.setIfInBounds j (some don.length)) (don ++ [h]):=fun x c hx=>by
        rw [MA] at hx
        split at hx
        . rename_i q
          cases hx
          obtain ⟨n,n1,n2,n3⟩:=KD (t:=t) hm _ _ _ _ f
          exact ⟨h,by simp,n,n1,by rw [q.1]; exact n2,fun k hk=>kp _ (n3 k hk)⟩
        . obtain ⟨h',e1,n,n1,n2,n3⟩:=L x c hx
          have hc:c < don.length:=(List.getElem?_eq_some_iff.mp e1).1
          exact ⟨h',by rw [List.getElem?_append_left hc]; exact e1,n,n1,n2,fun k hk=>kp _ (n3 k hk)⟩
      have:=MX hm l (don ++ [h]) _ owner' k' e L'
      simpa using this
end Hs
namespace Hs
open PySem PySem.SetTable Ht
theorem L7 {mask:Nat}:∀ (l:List Int) (owner owner':Array (Option Nat)) (k k':Nat),l.foldl (Cy mask) (some (owner,k))=some (owner',k')->owner'.size=owner.size
  | [],owner,owner',k,k',e=>by
    rw [List.foldl_nil] at e
    cases e
    rfl
  | h :: l,owner,owner',k,k',e=>by
    rw [List.foldl_cons] at e
    have st:Cy mask (some (owner,k)) h=((layClean.free mask owner (turns mask) (bits h % (mask + 1)) (bits h)).bind fun j=>some (owner.setIfInBounds j (some k),k + 1)):=rfl
    cases f:layClean.free mask owner (turns mask) (bits h % (mask + 1)) (bits h) with
    | none=>
      rw [st,f] at e
      have no:∀ l:List Int,l.foldl (Cy mask) none=none:=fun l=>by
        induction l with
        | nil=>rfl
        | cons a l ih=>exact ih
      have e2:l.foldl (Cy mask) none=some (owner',k'):=e
      rw [no] at e2
      cases e2
    | some j=>
      rw [st,f] at e
      have:=L7 l (owner.setIfInBounds j (some k)) owner' (k + 1) k' e
      rw [this,Array.size_setIfInBounds]
theorem LT {mask:Nat} {hashes:Array Int} {owner:Array (Option Nat)} (e:layClean mask hashes=some owner):owner.size=mask + 1:=by
  have h0:layClean mask hashes=(hashes.foldl (Cy mask) (some (Array.replicate (mask + 1) none,0))).map (·.1):=rfl
  rw [h0,← Array.foldl_toList] at e
  cases f:hashes.toList.foldl (Cy mask) (some (Array.replicate (mask + 1) none,0)) with
  | none=>rw [f] at e; cases e
  | some r=>
    obtain ⟨o',k'⟩:=r
    rw [f] at e
    cases e
    rw [L7 _ _ _ _ _ f,Array.size_replicate]
theorem LU {t:SetTable} {mask:Nat} (hm:t.mask=mask) {hashes:Array Int} {owner:Array (Option Nat)} (e:layClean mask hashes=some owner):SJ t mask owner hashes.toList:=by
  have h0:layClean mask hashes=(hashes.foldl (Cy mask) (some (Array.replicate (mask + 1) none,0))).map (·.1):=rfl
  rw [h0,← Array.foldl_toList] at e
  cases f:hashes.toList.foldl (Cy mask) (some (Array.replicate (mask + 1) none,0)) with
  | none=>rw [f] at e; cases e
  | some r=>
    obtain ⟨o',k'⟩:=r
    rw [f] at e
    cases e
    have:=MX hm hashes.toList [] (Array.replicate (mask + 1) none) o' k' f (fun j c h=>by
      unfold Array.getD at h
      split at h
      . rename_i q
        have h':(Array.replicate (mask + 1) (none:Option Nat))[j]'q=some c:=h
        rw [Array.getElem_replicate] at h'
        cases h'
      . cases h)
    simpa using this
abbrev C6 (mask:Nat) (owner:Array (Option Nat)):List (Nat × Nat):=(List.range (mask + 1)).filterMap fun j=>(owner.getD j none).map (j,·)
theorem mem_live {mask:Nat} {owner:Array (Option Nat)} {j c:Nat}:(j,c) ∈ C6 mask owner ↔ j <= mask /\ owner.getD j none=some c:=by
  rw [List.mem_filterMap]
  constructor
  . rintro ⟨x,hx,e⟩
    cases h:owner.getD x none with
    | none=>rw [h] at e; cases e
    | some y=>
      rw [h] at e
      cases e
      exact ⟨by have:=List.mem_range.mp hx; omega,h⟩
  . rintro ⟨h1,h2⟩
    exact ⟨j,List.mem_range.mpr (by omega),by rw [h2]; rfl⟩
theorem N3 {α β:Type} {f:α->Option β}:∀ {js:List Nat} {cs:List α},(∀ c ∈ cs,∃ y,f c=some y)->∀ {q:Nat × β},q ∈ js.zip (cs.filterMap f)->∃ c,(q.1,c) ∈ js.zip cs /\ f c=some q.2
  | [],_,_,q,h=>by cases h
  | _ :: _,[],_,q,h=>by cases h
  | j :: js,c :: cs,hf,q,h=>by
    obtain ⟨y,hy⟩:=hf c List.mem_cons_self
    rw [List.filterMap_cons_some hy,List.zip_cons_cons] at h
    rcases List.mem_cons.mp h with rfl | h
    . exact ⟨c,List.mem_cons_self,hy⟩
    . obtain ⟨c',h1,h2⟩:=N3 (fun x hx=>hf x (List.mem_cons_of_mem _ hx)) h
      exact ⟨c',List.mem_cons_of_mem _ h1,h2⟩
theorem zip_live {l:List (Nat × Nat)} {q:Nat × Nat}:q ∈ (l.map (·.1)).zip (l.map (·.2)) ↔ q ∈ l:=by
  have:(l.map (·.1)).zip (l.map (·.2))=l:=by
    induction l with
    | nil=>rfl
    | cons a l ih=>rw [List.map_cons,List.map_cons,List.zip_cons_cons,ih]
  rw [this]
theorem Kx {t t1:SetTable} {es es1:Array (Int × Value)} {wanted:Nat} (h:relayAll t es wanted=(es1,t1,false)) (r:Ris t1.place.toList):Good t1 es1:=by
  unfold relayAll at h
  split at h
  . rename_i t' order e
    dsimp only at h
    split at h
    . rename_i cv
      cases h
      unfold relaid laid at e
      cases f:layClean (sizeAbove wanted - 1) (es.map (·.1)) with
      | none=>rw [f] at e; cases e
      | some owner=>
        rw [f] at e
        have e':some (({ mask:=sizeAbove wanted - 1,place:=((C6 (sizeAbove wanted - 1) owner).map (·.1)).toArray,dummies:=#[],finger:=t.finger,led:=t.led,moves:=t.movedTo (sizeAbove wanted - 1),plain:=t.plain }:SetTable),((C6 (sizeAbove wanted - 1) owner).map (·.2)).toArray)=some (t1,order):=e
        generalize hmask:sizeAbove wanted - 1=mask at e' f
        cases e'
        intro q hq
        have hq':q ∈ ((C6 mask owner).map (·.1)).zip (((C6 mask owner).map (·.2)).filterMap fun i=>es[i]?):=by
          have:q ∈ ((C6 mask owner).map (·.1)).toArray.toList.zip (Array.filterMap (fun x=>es[x]?) ((C6 mask owner).map (·.2)).toArray).toList:=hq
          rw [Array.toList_filterMap] at this
          exact this
        have L:=LU (t:={ mask:=mask,place:=((C6 mask owner).map (·.1)).toArray,dummies:=#[],finger:=t.finger,led:=t.led,moves:=t.movedTo mask,plain:=t.plain }) rfl f
        have hc:∀ c ∈ (C6 mask owner).map (·.2),∃ y,es[c]? = some y:=fun c hc=>by
          obtain ⟨p,hp,rfl⟩:=List.mem_map.mp hc
          obtain ⟨_,h2⟩:=mem_live (j:=p.1) (c:=p.2) |>.mp hp
          obtain ⟨h,e1,_⟩:=L _ _ h2
          have:p.2 < es.size:=by
            have:=(List.getElem?_eq_some_iff.mp e1).1
            simpa using this
          exact ⟨es[p.2],by simp [this]⟩
        obtain ⟨c,h1,h2⟩:=N3 hc hq'
        obtain ⟨_,h3⟩:=mem_live.mp (zip_live.mp h1)
        obtain ⟨h,e1,n,n1,n2,n3⟩:=L _ _ h3
        have eh:h=q.2.1:=by
          have hc2:=(Array.getElem?_eq_some_iff.mp h2)
          simp [Array.getElem?_map,h2] at e1
          exact e1.symm
        subst eh
        refine ⟨n,n1,n2,fun k hk=>?_⟩
        have hk':=n3 k hk
        have hlt:=Te (t:={ mask:=mask,place:=((C6 mask owner).map (·.1)).toArray,dummies:=#[],finger:=t.finger,led:=t.led,moves:=t.movedTo mask,plain:=t.plain }) (mask:=mask) rfl q.2.1 k
        refine (JU r rfl).mpr ?_
        obtain ⟨c',hc'⟩:=Ho (Nat.lt_of_le_of_lt hlt (by rw [LT f]; exact Nat.lt_succ_self _)) hk'
        exact List.mem_map.mpr ⟨(_,c'),mem_live.mpr ⟨hlt,hc'⟩,rfl⟩
    . cases h
  . cases h
end Hs
set_option maxHeartbeats 4000000
namespace Hs
open PySem PySem.Spec PyProof.Rows Nk
section
variable {prog:Program} {w:World} {A:Around} {E:Value->Shared->Prop} {s:Shared}
theorem GZ:∀ (d:Nat) {k:NK} {v:Value} {A:Around} {E:Value->Shared->Prop} {s:Shared} {Q:Bool->Shared->Prop},k.deep <= d->At s.heap k v->Q false s->wpAny (model prog w) A (ofAClassStatement d v) Q E s
  | d,.int i,v,A,E,s,Q,hd,a,q=>by
    unfold At at a
    obtain ⟨t,rfl⟩:=a
    unfold ofAClassStatement
    exact wpAny_pure q
  | 0,.tup ks,v,A,E,s,Q,hd,a,q=>by
    have hd':NK.deeps ks + 1 <= 0:=hd
    omega
  | d' + 1,.tup ks,v,A,E,s,Q,hd,a,q=>by
    have hd':NK.deeps ks + 1 <= d' + 1:=hd
    unfold At at a
    obtain ⟨x,o,items,n,rfl,h1,h2,h3,h4⟩:=a
    have hT:s.TypeIs (.ref x) "tuple" := ⟨o,h1,h2⟩
    unfold ofAClassStatement
    wp_walk
    rw [h3]
    refine wpAny_pure ?_
    dsimp only
    refine wpAny_bind ?_
    rw [← Array.forIn_toList]
    refine wpAny_forIn_list _ (fun rest r s'=>r=(none,()) /\ s'=s /\ ∃ ks',NK.deeps ks' <= d' /\ Ats s.heap ks' rest) _ ?_ ?_ _ _ ⟨rfl,rfl,ks,by omega,h4⟩
    . rintro y rest r s' ⟨hr,rfl,ks',hk,at'⟩
      cases ks' with
      | nil=>unfold Ats at at'; cases at'
      | cons k' ks'=>
        unfold Ats at at'
        obtain ⟨_,_,e,a1,a2⟩:=at'
        cases e
        have hk':max (NK.deep k') (NK.deeps ks') <= d':=hk
        refine wpAny_bind (GZ d' (k:=k') (by omega) a1 ?_)
        rw [if_neg Bool.false_ne_true]
        exact wpAny_pure ⟨rfl,rfl,ks',by omega,a2⟩
    . rintro r s' ⟨hr,rfl,_⟩
      subst hr
      exact wpAny_pure q
theorem PR {kx:NK} {ax:Addr} (hx:(kind prog w).is s.heap kx ax):∀ {ys:List Value},(∀ y ∈ ys,∃ k b,y=.ref b /\ (kind prog w).is s.heap k b)->∀ {Q:Bool->Shared->Prop},Q false s->wpAny (model prog w) A (searchCouldBeSeen (.ref ax) ys) Q E s:=by
  intro ys hy Q q
  unfold searchCouldBeSeen
  refine wpAny_bind ?_
  refine wpAny_forIn_list _ (fun rest r s'=>r=(none,()) /\ s'=s /\ ∀ y ∈ rest,∃ k b,y=.ref b /\ (kind prog w).is s.heap k b) _ ?_ ?_ _ _ ⟨rfl,rfl,hy⟩
  . rintro y rest r s' ⟨hr,rfl,hh⟩
    obtain ⟨k,b,rfl,hk⟩:=hh y List.mem_cons_self
    have more:∀ z ∈ rest,∃ k b,z=.ref b /\ (kind prog w).is s'.heap k b:=fun z hz=>hh z (List.mem_cons_of_mem _ hz)
    dsimp only
    by_cases e:(ax == b || (carriedByValue (.ref ax) && carriedByValue (.ref b)))=true
    . rw [if_pos e]
      exact wpAny_pure ⟨rfl,rfl,more⟩
    . rw [if_neg e]
      refine wpAny_bind (At.quiet 8 hx.2 hx.1 ?_)
      rw [if_neg (by decide)]
      refine wpAny_bind (At.quiet 8 hk.2 hk.1 ?_)
      rw [if_neg (by decide)]
      refine wpAny_bind (GZ 8 hx.2 hx.1 ?_)
      rw [if_neg (by decide)]
      refine wpAny_bind (GZ 8 hk.2 hk.1 ?_)
      rw [if_neg (by decide)]
      exact wpAny_pure ⟨rfl,rfl,more⟩
  . rintro r s' ⟨hr,rfl,_⟩
    subst hr
    exact wpAny_pure q
end
end Hs
set_option maxHeartbeats 4000000
namespace Hs
open PySem PySem.Spec PyProof.Rows Nk PySem.SetTable Ht
section
variable {prog:Program} {w:World} {A:Around} {E:Value->Shared->Prop} {s:Shared}
structure Ents (prog:Program) (w:World) (h:Heap) (es:Array (Int × Value)) (ks:List NK):Prop where
  len:es.size=ks.length
  at':∀ (i:Nat) (k:NK),ks[i]? = some k->∃ b,es[i]? = some (k.hash,.ref b) /\ (kind prog w).is h k b
theorem Ents.back {h:Heap} {es:Array (Int × Value)} {ks:List NK} (n:Ents prog w h es ks) {i:Nat} {e:Int × Value} (he:es[i]? = some e):∃ k b,ks[i]? = some k /\ e=(k.hash,.ref b) /\ (kind prog w).is h k b:=by
  have hi:i < ks.length:=by rw [← n.len]; exact (Array.getElem?_eq_some_iff.mp he).1
  obtain ⟨b,h1,h2⟩:=n.at' i ks[i] (by simp [hi])
  rw [he] at h1
  exact ⟨ks[i],b,by simp [hi],Option.some.inj h1,h2⟩
theorem L6 {t:SetTable} {j i:Nat} (h:t.slot j=.live i):t.place[i]? = some j:=by
  unfold SetTable.slot at h
  dsimp only at h
  split at h
  . rename_i q
    cases h
    exact beq_iff_eq.mp q
  . split at h <;> cases h
theorem NN {ad:Bool} {a ax:Addr} {o:Obj} {es:Array (Int × Value)} {ep:Nat} {t:SetTable} {ks:List NK} {kx:NK} {Q:SetFound->Shared->Prop} (hu:(kind prog w).room A) (ho:s.heap.get? a=some o) (hd:o.data=.set es ep t) (fits:t.fits es.size=true) (r:Ris t.place.toList) (dm:t.dummies = #[]) (odd:t.gaveWay=false) (en:Ents prog w s.heap es ks) (hx:(kind prog w).is s.heap kx ax)
    {n0:Nat} (e0:t.slot (nth t n0 (t.probeStart kx.hash)).j=.empty) (b0:n0 < 10 * turns t.mask) (first:∀ k,k < n0->t.slot (nth t k (t.probeStart kx.hash)).j ≠ .empty)
    (found:∀ i:Nat,i < es.size->ks[i]? = some kx->Q (.there (if ad then none else some i)) s) (lost:(∀ k,k < n0->∀ i,t.slot (nth t k (t.probeStart kx.hash)).j=.live i->ks[i]? ≠ some kx)->Q (.free (nth t n0 (t.probeStart kx.hash)).j false) s) :
    ∀ (Aj m:Nat) (stand:Option Probe),stand.getD (t.probeStart kx.hash)=nth t m (t.probeStart kx.hash)->m <= n0->n0 - m < Aj->(∀ k,k < m->∀ i,t.slot (nth t k (t.probeStart kx.hash)).j=.live i->ks[i]? ≠ some kx)->
      wpAny (model prog w) A (setSearchFrom a (.ref ax) kx.hash ad Aj stand) Q E s:=by
  intro Aj
  induction Aj with
  | zero=>intro m stand _ _ hf _; omega
  | succ Aj ih=>
    intro m stand hs hm hf old
    have nd:∀ j,t.slot j ≠ .dummy:=Bq dm
    have hdum:(nth t m (t.probeStart kx.hash)).dummy=none:=by
      have:∀ (n:Nat) (p:Probe),p.dummy=none->(nth t n p).dummy=none:=fun n=>by
        induction n with
        | zero=>intro p h; exact h
        | succ n ih=>intro p h; exact ih _ ((IK t p).trans h)
      exact this m _ rfl
    unfold setSearchFrom
    refine wpAny_bind (wpAny_setState_of ho hd fits ?_)
    dsimp only
    rw [if_neg (by rw [odd]; exact Bool.false_ne_true),hs]
    have row:∀ n,nth t n (nth t m (t.probeStart kx.hash))=nth t (m + n) (t.probeStart kx.hash):=fun n=>(Ir t m n _).symm
    show wpAny (model prog w) A (match t.probe (fun i=>(es[i]?.map (·.1)).getD 0) kx.hash (nth t m (t.probeStart kx.hash)) with
      | some met=>_
      | x=>_) Q E s
    rcases LL (t:=t) nd (f:=fun i=>(es[i]?.map (·.1)).getD 0) (h:=kx.hash) (10 * turns t.mask) (nth t m (t.probeStart kx.hash)) hdum with ⟨n,h1,h2,h3,h4⟩ | ⟨n,i,h1,h2,h3,h4,h5⟩ | ⟨h1,h2⟩
    . have e':t.probe (fun i=>(es[i]?.map (·.1)).getD 0) kx.hash (nth t m (t.probeStart kx.hash))=some (.empty (nth t n (nth t m (t.probeStart kx.hash))).j none):=h3
      rw [e']
      dsimp only
      have en0:m + n=n0:=by
        rw [row] at h2
        rcases Nat.lt_trichotomy (m + n) n0 with z | z | z
        . exact absurd h2 (first _ z)
        . exact z
        . obtain ⟨i,hi,_⟩:=h4 (n0 - m) (by omega)
          rw [row,show m + (n0 - m)=n0 by omega,e0] at hi
          cases hi
      rw [row,en0]
      refine wpAny_pure (lost fun k hk i hi=>?_)
      by_cases hkm:k < m
      . exact old k hkm i hi
      . obtain ⟨i',hi',hne⟩:=h4 (k - m) (by omega)
        rw [row,show m + (k - m)=k by omega,hi] at hi'
        cases hi'
        intro z
        obtain ⟨b,hb,_⟩:=en.at' i kx z
        apply hne
        show (es[i]?.map (·.1)).getD 0=kx.hash
        rw [hb]
        rfl
    . have e':t.probe (fun i=>(es[i]?.map (·.1)).getD 0) kx.hash (nth t m (t.probeStart kx.hash))=some (.candidate (nth t n (nth t m (t.probeStart kx.hash))).j i (nth t (n + 1) (nth t m (t.probeStart kx.hash)))):=h4
      rw [e']
      dsimp only
      have hsz:t.place.size=es.size:=by
        unfold SetTable.fits at fits
        rw [Bool.and_eq_true] at fits
        exact beq_iff_eq.mp fits.1
      have hi:i < es.size:=by rw [← hsz]; exact (Array.getElem?_eq_some_iff.mp (L6 h2)).1
      obtain ⟨k,b,hk,he,hkb⟩:=en.back (Array.getElem?_eq_getElem hi)
      have he':es[i]? = some (k.hash,.ref b):=by rw [Array.getElem?_eq_getElem hi,he]
      have h2':t.slot (nth t n (nth t m (t.probeStart kx.hash))).j=.live i:=h2
      have lt:m + n < n0:=by
        rw [row] at h2
        rcases Nat.lt_or_ge (m + n) n0 with z | z
        . exact z
        . by_cases q:m + n=n0
          . rw [q,e0] at h2; cases h2
          . obtain ⟨i',hi',_⟩:=h5 (n0 - m) (by omega)
            rw [row,show m + (n0 - m)=n0 by omega,e0] at hi'
            cases hi'
      have same:t.sameMemory t.moves t.mask=some true:=by unfold SetTable.sameMemory; rw [if_pos (beq_self_eq_true _)]
      have old':k ≠ kx->∀ x,x < m + n + 1->∀ y,t.slot (nth t x (t.probeStart kx.hash)).j=.live y->ks[y]? ≠ some kx:=fun hne x hx' y hy=>by
        by_cases h1':x < m
        . exact old x h1' y hy
        . by_cases h3':x < m + n
          . obtain ⟨y',hy',hn'⟩:=h5 (x - m) (by omega)
            rw [row,show m + (x - m)=x by omega,hy] at hy'
            cases hy'
            intro z
            obtain ⟨b',hb',_⟩:=en.at' y kx z
            apply hn'
            show (es[y]?.map (·.1)).getD 0=kx.hash
            rw [hb']
            rfl
          . have ex:x=m + n:=by omega
            subst ex
            rw [row] at h2
            rw [h2] at hy
            cases hy
            rw [hk]
            intro z
            exact hne (Option.some.inj z)
      cases hl:t.led
      . rw [if_pos (by decide)]
        refine wpAny_bind (PR hx (fun y hy=>?_) ?_)
        . obtain ⟨e,h1',rfl⟩:=List.mem_map.mp hy
          have h2'':e ∈ es:=by
            have:=Array.mem_toList_iff.mp h1'
            exact (Array.mem_filter.mp this).1
          obtain ⟨i',hi',ei'⟩:=Array.mem_iff_getElem.mp h2''
          obtain ⟨k',b',_,q2,q3⟩:=en.back (Array.getElem?_eq_getElem hi')
          rw [ei'] at q2
          exact ⟨k',b',by rw [q2],q3⟩
        rw [if_neg Bool.false_ne_true]
        rw [he']
        dsimp only
        refine wpAny_bind (wpAny_holding ((kind prog w).eqBool hu hkb hx ?_))
        refine wpAny_bind (wpAny_setState_of ho hd fits ?_)
        dsimp only
        by_cases ek:k=kx
        . cases ad
          . rw [decide_eq_true ek,if_neg (by decide),same]
            dsimp only
            rw [if_pos rfl,h2']
            dsimp only
            rw [he']
            wp_walk
            exact found i hi (by rw [hk,ek])
          . rw [decide_eq_true ek,if_pos (by decide)]
            exact wpAny_pure (found i hi (by rw [hk,ek]))
        . rw [decide_eq_false ek,if_neg (by rw [Bool.and_false]; decide),same]
          dsimp only
          rw [if_pos rfl,h2']
          dsimp only
          rw [he']
          wp_walk
          exact ih (m + n + 1) (some _) (row (n + 1)) (by omega) (by omega) (old' ek)
      . rw [if_neg (by decide)]
        rw [he']
        dsimp only
        refine wpAny_bind (wpAny_holding ((kind prog w).eqBool hu hkb hx ?_))
        refine wpAny_bind (wpAny_setState_of ho hd fits ?_)
        dsimp only
        by_cases ek:k=kx
        . cases ad
          . rw [decide_eq_true ek,if_neg (by decide),same]
            dsimp only
            rw [if_pos rfl,h2']
            dsimp only
            rw [he']
            wp_walk
            exact found i hi (by rw [hk,ek])
          . rw [decide_eq_true ek,if_pos (by decide)]
            exact wpAny_pure (found i hi (by rw [hk,ek]))
        . rw [decide_eq_false ek,if_neg (by rw [Bool.and_false]; decide),same]
          dsimp only
          rw [if_pos rfl,h2']
          dsimp only
          rw [he']
          wp_walk
          exact ih (m + n + 1) (some _) (row (n + 1)) (by omega) (by omega) (old' ek)
    . exfalso
      obtain ⟨i,hi,_⟩:=h2 (n0 - m) (by omega)
      rw [row,show m + (n0 - m)=n0 by omega,e0] at hi
      cases hi
end
end Hs
set_option maxHeartbeats 4000000
namespace Hs
open PySem PySem.Spec PyProof.Rows Nk PySem.SetTable Ht
section
variable {prog:Program} {w:World}
theorem KY:∀ (d:Nat) {k:NK} {v:Value} {A:Around} {E:Value->Shared->Prop} {s:Shared} {Q:Bool->Shared->Prop},k.deep <= d->At s.heap k v->Q true s->wpAny (model prog w) A (hashByValue d v) Q E s
  | d,.int i,v,A,E,s,Q,hd,a,q=>by
    unfold At at a
    obtain ⟨t,rfl⟩:=a
    unfold hashByValue
    exact wpAny_pure q
  | 0,.tup ks,v,A,E,s,Q,hd,a,q=>by
    have hd':NK.deeps ks + 1 <= 0:=hd
    omega
  | d' + 1,.tup ks,v,A,E,s,Q,hd,a,q=>by
    have hd':NK.deeps ks + 1 <= d' + 1:=hd
    unfold At at a
    obtain ⟨x,o,items,n,rfl,h1,h2,h3,h4⟩:=a
    have hT:s.TypeIs (.ref x) "tuple" := ⟨o,h1,h2⟩
    unfold hashByValue
    wp_walk
    refine wpAny_of_eq PySem.F.slot_tuple_hash.lookup ?_
    show wpAny (model prog w) A (seqItems? (.ref x) >>= _) Q E s
    refine wpAny_bind (wpAny_seqItems h1 h3 ?_)
    refine wpAny_bind ?_
    show wpAny (model prog w) A (forIn items _ _) _ E s
    rw [← Array.forIn_toList]
    refine wpAny_forIn_list _ (fun rest r s'=>r=(none,()) /\ s'=s /\ ∃ ks',NK.deeps ks' <= d' /\ Ats s.heap ks' rest) _ ?_ ?_ _ _ ⟨rfl,rfl,ks,by omega,h4⟩
    . rintro y rest r s' ⟨hr,rfl,ks',hk,at'⟩
      cases ks' with
      | nil=>unfold Ats at at'; cases at'
      | cons k' ks'=>
        unfold Ats at at'
        obtain ⟨_,_,e,a1,a2⟩:=at'
        cases e
        have hk':max (NK.deep k') (NK.deeps ks') <= d':=hk
        refine wpAny_bind (KY d' (k:=k') (by omega) a1 ?_)
        rw [if_neg (by decide)]
        exact wpAny_pure ⟨rfl,rfl,ks',by omega,a2⟩
    . rintro r s' ⟨hr,rfl,_⟩
      subst hr
      exact wpAny_pure q
end
end Hs
set_option maxHeartbeats 4000000
namespace Hs
open PySem PySem.Spec PyProof.Rows Nk PySem.SetTable Ht
section
variable {prog:Program} {w:World}
theorem Qx {t:SetTable} (r:Ris t.place.toList) {i j:Nat} (h:t.place[i]? = some j):t.slot j=.live i:=by
  have hm:j ∈ t.place.toList:=by
    rw [← Array.getElem?_toList] at h
    exact List.mem_of_getElem? h
  obtain ⟨i',e⟩:=GL r hm
  have h':=L6 e
  have:i'=i:=by
    rw [← Array.getElem?_toList] at h h'
    have hl:=(List.getElem?_eq_some_iff.mp h').1
    exact (List.getElem?_inj hl (NQ r)).mp (h'.trans h.symm)
  rw [e,this]
theorem WE {h:Heap} {t:SetTable} {es:Array (Int × Value)} {ns:List NK} {kx:NK} (r:Ris t.place.toList) (g:Good t es) (en:Ents prog w h es ns) (hs:t.place.size=es.size) {n0:Nat} (e0:t.slot (nth t n0 (t.probeStart kx.hash)).j=.empty)
    (no:∀ k,k < n0->∀ i:Nat,t.slot (nth t k (t.probeStart kx.hash)).j=.live i->ns[i]? ≠ some kx):kx ∉ ns:=fun hm=>by
  obtain ⟨i,hi,e⟩:=List.getElem_of_mem hm
  have en':ns[i]? = some kx:=by rw [List.getElem?_eq_getElem hi,e]
  obtain ⟨b,hb,_⟩:=en.at' i kx en'
  have hip:i < t.place.size:=by rw [hs]; exact (Array.getElem?_eq_some_iff.mp hb).1
  have hpl:t.place[i]? = some t.place[i]:=Array.getElem?_eq_getElem hip
  have sl:=Qx r hpl
  have hq:(t.place[i],kx.hash,Value.ref b) ∈ prs t es:=by
    refine List.mem_of_getElem? (i:=i) ?_
    unfold prs
    rw [List.getElem?_zip_eq_some,Array.getElem?_toList,Array.getElem?_toList]
    exact ⟨hpl,hb⟩
  obtain ⟨n1,h1,h2,h3⟩:=g _ hq
  have h2':(nth t n1 (t.probeStart kx.hash)).j=t.place[i]:=h2
  have lt:n1 < n0:=by
    rcases Nat.lt_trichotomy n1 n0 with z | z | z
    . exact z
    . rw [← z,h2',sl] at e0; cases e0
    . exact absurd e0 (h3 n0 z)
  exact no n1 lt i (by rw [h2']; exact sl) en'
theorem LM {t:SetTable} {n:Nat} (T:Tab t n) (hn:n <= t.mask) (h:Int):∃ n0,t.slot (nth t n0 (t.probeStart h)).j=.empty /\ n0 < 10 * turns t.mask /\ (∀ k,k < n0->t.slot (nth t k (t.probeStart h)).j ≠ .empty) /\ t.freeSlot h=some ((nth t n0 (t.probeStart h)).j,false):=by
  obtain ⟨j,e,q⟩:=Mj T.dm T.sm T.ris (by rw [T.sz]; exact hn) h
  obtain ⟨⟨n0,h1,h2,h3⟩,_⟩:=KE T.ris T.dm e
  exact ⟨n0,by rw [h2]; exact q,h1,h3,by rw [h2]; exact e⟩
end
end Hs
set_option maxHeartbeats 4000000
namespace Hs
open PySem PySem.Spec PyProof.Rows Nk PySem.SetTable Ht
section
variable {prog:Program} {w:World} {h h':Heap} {P P':NK->Addr->Prop}
def EL (P:NK->Addr->Prop):List (Int × Value)->List NK->Prop
  | [],ks=>ks=[]
  | e :: es,ks=>∃ k ks' b,ks=k :: ks' /\ e=(k.hash,.ref b) /\ P k b /\ EL P es ks'
theorem EL.len:∀ {es:List (Int × Value)} {ks:List NK},EL P es ks->es.length=ks.length
  | [],_,e=>by unfold EL at e; subst e; rfl
  | _ :: _,_,e=>by
    unfold EL at e
    obtain ⟨k,ks',b,rfl,_,_,r⟩:=e
    simp [EL.len r]
theorem EL.at':∀ {es:List (Int × Value)} {ks:List NK},EL P es ks->∀ (i:Nat) (k:NK),ks[i]? = some k->∃ b,es[i]? = some (k.hash,.ref b) /\ P k b
  | [],_,e,i,k,hk=>by unfold EL at e; subst e; simp at hk
  | _ :: _,_,e,i,k,hk=>by
    unfold EL at e
    obtain ⟨k0,ks',b,rfl,rfl,hb,r⟩:=e
    cases i with
    | zero=>simp at hk; subst hk; exact ⟨b,rfl,hb⟩
    | succ i=>simpa using EL.at' r i k (by simpa using hk)
theorem EL.ents {es:Array (Int × Value)} {ks:List NK} (hp:∀ k b,P k b->(kind prog w).is h k b) (e:EL P es.toList ks):Ents prog w h es ks:=⟨by have:=e.len; simpa using this,fun i k hk=>by
  obtain ⟨b,h1,h2⟩:=e.at' i k hk
  exact ⟨b,by rw [← Array.getElem?_toList]; exact h1,hp k b h2⟩⟩
theorem EL.append:∀ {es fs:List (Int × Value)} {ks js:List NK},EL P es ks->EL P fs js->EL P (es ++ fs) (ks ++ js)
  | [],_,_,_,e,f=>by unfold EL at e; subst e; exact f
  | _ :: _,_,_,_,e,f=>by
    unfold EL at e
    obtain ⟨k,ks',b,rfl,rfl,hb,r⟩:=e
    show EL P (_ :: (_ ++ _)) _
    unfold EL
    exact ⟨k,_,b,rfl,rfl,hb,EL.append r f⟩
theorem EL.take:∀ (n:Nat) {es:List (Int × Value)} {ks:List NK},EL P es ks->EL P (es.take n) (ks.take n)
  | 0,_,_,_=>by rw [List.take_zero,List.take_zero]; unfold EL; rfl
  | _ + 1,[],_,e=>by unfold EL at e; subst e; show EL P [] []; unfold EL; rfl
  | n + 1,_ :: _,_,e=>by
    unfold EL at e
    obtain ⟨k,ks',b,rfl,rfl,hb,r⟩:=e
    show EL P (_ :: _) (_ :: _)
    unfold EL
    exact ⟨k,_,b,rfl,rfl,hb,EL.take n r⟩
theorem EL.drop:∀ (n:Nat) {es:List (Int × Value)} {ks:List NK},EL P es ks->EL P (es.drop n) (ks.drop n)
  | 0,_,_,e=>e
  | _ + 1,[],_,e=>by unfold EL at e; subst e; show EL P [] []; unfold EL; rfl
  | n + 1,_ :: _,_,e=>by
    unfold EL at e
    obtain ⟨k,ks',b,rfl,rfl,hb,r⟩:=e
    exact EL.drop n r
theorem EL.ins {es:Array (Int × Value)} {ks:List NK} (e:EL P es.toList ks) {kx:NK} {ax:Addr} (hx:P kx ax) (p:Nat):EL P (insertAt es p (kx.hash,.ref ax)).toList (ks.take p ++ kx :: ks.drop p):=by
  rw [Gp]
  refine (e.take p).append ?_
  unfold EL
  exact ⟨kx,_,ax,rfl,rfl,hx,e.drop p⟩
theorem Pg {α:Type} (ks:List α) (k:α) (p:Nat):(ks.take p ++ k :: ks.drop p).Perm (ks ++ [k]):=by
  have h1:(ks.take p ++ k :: ks.drop p).Perm (k :: (ks.take p ++ ks.drop p)):=List.perm_middle
  rw [List.take_append_drop] at h1
  exact h1.trans (List.perm_append_singleton k ks).symm
theorem EL.perm {es fs:List (Int × Value)} (p:fs.Perm es):∀ {ks:List NK},EL P es ks->∃ js,EL P fs js /\ js.Perm ks:=by
  induction p with
  | nil=>intro ks e; exact ⟨ks,e,List.Perm.refl _⟩
  | cons x _ ih=>
    intro ks e
    unfold EL at e
    obtain ⟨k,ks',b,rfl,rfl,hb,r⟩:=e
    obtain ⟨js,h1,h2⟩:=ih r
    refine ⟨k :: js,?_,h2.cons k⟩
    unfold EL
    exact ⟨k,js,b,rfl,rfl,hb,h1⟩
  | swap x y l=>
    intro ks e
    unfold EL at e
    obtain ⟨k,ks',b,rfl,rfl,hb,r⟩:=e
    unfold EL at r
    obtain ⟨k2,ks2,b2,rfl,rfl,hb2,r2⟩:=r
    refine ⟨k2 :: k :: ks2,?_,List.Perm.swap k k2 ks2⟩
    unfold EL
    refine ⟨k2,_,b2,rfl,rfl,hb2,?_⟩
    unfold EL
    exact ⟨k,_,b,rfl,rfl,hb,r2⟩
  | trans _ _ ih1 ih2=>
    intro ks e
    obtain ⟨js,h1,h2⟩:=ih2 e
    obtain ⟨is,h3,h4⟩:=ih1 h1
    exact ⟨is,h3,h4.trans h2⟩
def SetC (w:World) (P:NK->Addr->Prop) (h:Heap) (a:Addr) (ks:List NK):Prop:=
  ∃ o es ep t ns,h.get? a=some o /\ o.ExactSet /\ o.data=.set es ep t /\ EL P es.toList ns /\ ns.Perm ks /\ Tab t es.size /\ Good t es /\ t.led = !(w.params.followText "set-order")
end
end Hs
set_option maxHeartbeats 4000000
namespace Hs
open PySem PySem.Spec PyProof.Rows Nk PySem.SetTable Ht
section
variable {prog:Program} {w:World} {A:Around} {E:Value->Shared->Prop} {s:Shared}
theorem PL {t:SetTable} {n:Nat} (T:Tab t n):t.gaveWay=false:=by
  unfold SetTable.gaveWay
  rcases T.mks with ⟨a,_⟩ | ⟨a,_⟩ | ⟨a,_⟩ <;> rw [a] <;> rfl
theorem NR {t t2:SetTable} {es es2:Array (Int × Value)} {wanted:Nat} (h:relayAll t es wanted=(es2,t2,false)):∃ order,t.relaid (es.map (·.1)) wanted=some (t2,order) /\ es2=order.filterMap (es[·]?):=by
  unfold relayAll at h
  split at h
  . rename_i t' order e
    dsimp only at h
    split at h
    . cases h
      exact ⟨order,e,rfl⟩
    . cases h
  . cases h
theorem N2 {a ax:Addr} {ks:List NK} {kx:NK} {Q:Bool->Shared->Prop} {P:NK->Addr->Prop} (hu:(kind prog w).room A) (hP:∀ k b,P k b->(kind prog w).is s.heap k b) (hS:SetC w P s.heap a ks) (hxp:P kx ax) (room:(if kx ∈ ks then ks else ks ++ [kx]).length <= 75)
    (q:∀ b h' tk,Heap.SameBut a s.heap h'->SetC w P h' a (if kx ∈ ks then ks else ks ++ [kx])->Q b { s with heap:=h',toks:=tk }) :
    wpAny (model prog w) A (setAddHashed a (.ref ax) kx.hash) Q E s:=by
  obtain ⟨o,es,ep,t,ns,ho,hex,hd,el,hp,T,g,hled⟩:=hS
  have hx:=hP kx ax hxp
  have hsz:es.size=ks.length:=by have:=el.len; rw [hp.length_eq] at this; simpa using this
  have hpz:t.place.size=es.size:=T.sz
  have hmask:es.size <= t.mask:=by rcases T.mks with ⟨m,b⟩ | ⟨m,b⟩ | ⟨m,b⟩ <;> omega
  unfold setAddHashed setAddHashedIn
  refine wpAny_holding (wpAny_bind (wpAny_setState_of (s:=s) ho hd T.fits ?_))
  dsimp only
  rw [if_neg (show ¬ (byScan (.ref ax) es=true) from by unfold byScan Value.scannable; simp)]
  unfold setSearch
  obtain ⟨n0,e0,b0,f0,fs⟩:=LM T hmask kx.hash
  refine wpAny_bind (NN (s:=s) hu ho hd T.fits T.ris T.dm (PL T) (el.ents hP) hx e0 b0 f0 (fun i hi hm=>?_) (fun no=>?_) 100000 0 none rfl (Nat.zero_le _) (by have:turns t.mask=t.mask + 15:=rfl; rcases T.mks with ⟨m,_⟩ | ⟨m,_⟩ | ⟨m,_⟩ <;> rw [m] at this b0 <;> omega) (fun k hk=>absurd hk (Nat.not_lt_zero k)))
  . have hm':kx ∈ ks:=hp.mem_iff.mp (List.mem_of_getElem? hm)
    dsimp only
    refine wpAny_pure ?_
    rw [if_pos hm'] at q
    exact q _ s.heap _ (Heap.SameBut.refl a s.heap) ⟨o,es,ep,t,ns,ho,hex,hd,el,hp,T,g,hled⟩
  . have hm':kx ∉ ks:=fun z=>WE T.ris g (el.ents hP) hpz e0 no (hp.mem_iff.mpr z)
    rw [if_neg hm',List.length_append,List.length_singleton] at room
    rw [if_neg hm'] at q
    dsimp only
    refine wpAny_bind (wpAny_setState_of (s:=s) ho hd T.fits ?_)
    dsimp only
    generalize hj:(nth t n0 (t.probeStart kx.hash)).j=j at e0 fs
    have hjp:j ∉ t.place.toList:=fun z=>(JU T.ris T.dm).mpr z e0
    have r1:Ris (t.put j).1.place.toList:=Ia T.ris hjp
    have d1:(t.put j).1.dummies = #[]:=by
      show (if has t.dummies j=true then eraseAt t.dummies (below t.dummies j) else t.dummies) = #[]
      rw [T.dm]
      have:has (#[]:Array Nat) j=false:=by unfold has; simp
      rw [this]
      rfl
    have z1:(t.put j).1.place.size=es.size + 1:=by
      have:=(insertAt_perm t.place (below t.place j) j).length_eq
      simp at this
      show (insertAt t.place (below t.place j) j).size=_
      omega
    have y1:(insertAt es (below t.place j) (kx.hash,Value.ref ax)).size=es.size + 1:=by
      have:=(insertAt_perm es (below t.place j) (kx.hash,Value.ref ax)).length_eq
      simpa using this
    have g1:Good (t.put j).1 (insertAt es (below t.place j) (kx.hash,Value.ref ax)):=g.put T.ris T.dm hpz fs
    have m1:(t.put j).1.mask=t.mask:=rfl
    have p1:(t.put j).1.plain=true:=T.pl
    have l1:(t.put j).1.led=t.led:=rfl
    have el1:=el.ins hxp (below t.place j)
    have hp1:=(Pg ns kx (below t.place j)).trans (hp.append_right [kx])
    have f1:(t.put j).1.fits (insertAt es (below t.place j) (kx.hash,Value.ref ax)).size=true:=by
      unfold SetTable.fits SetTable.fill
      rw [z1,y1,d1,m1]
      rcases T.mks with ⟨m,b⟩ | ⟨m,b⟩ | ⟨m,b⟩ <;> simp [m] <;> omega
    show wpAny (model prog w) A (if (t.put j).1.plain=true then _ else _) Q E _
    rw [if_pos p1]
    refine wpAny_bind (KY 8 hx.2 hx.1 ?_)
    simp only [if_true]
    generalize (t.put j).1=t1 at r1 d1 z1 g1 m1 p1 l1 f1 ⊢
    show wpAny (model prog w) A (storeSet a (insertAt es (below t.place j) (kx.hash,Value.ref ax)) t1 >>= _) Q E _
    generalize insertAt es (below t.place j) (kx.hash,Value.ref ax)=es1 at y1 g1 el1 f1 ⊢
    refine wpAny_bind (wpAny_storeSet_of (s:=s) ho hd ?_ (by rw [sizeLine_eq]; omega))
    have ho1:=F7 ho hd es1 t1
    have sb1:=Heap.SameBut.update s.heap a (Obj.putSet es1 t1)
    by_cases hf:t1.tooFull=true
    . rw [if_pos (by rw [hf]; rfl)]
      have small:es.size + 1=5 ∨ es.size + 1=19:=by
        unfold SetTable.tooFull SetTable.fill at hf
        rw [z1,d1,m1] at hf
        simp at hf
        rcases T.mks with ⟨m,b⟩ | ⟨m,b⟩ | ⟨m,b⟩ <;> rw [m] at hf <;> omega
      obtain ⟨t2,es2,e2,T2,l2,q2⟩:∃ t2 es2,relayAll t1 es1 (grown (es.size + 1))=(es2,t2,false) /\ Tab t2 es2.size /\ t2.led=t1.led /\ es2.toList.Perm es1.toList:=by
        rcases small with h | h
        . exact Jn (by rw [h]; decide +kernel) (by omega) p1
        . exact Jo (M:=127) (.inr (.inr (.inr rfl))) (by rw [h]; decide +kernel) (by omega) (.inr (.inr ⟨rfl,by omega,by omega⟩)) p1
      have g2:=Kx e2 T2.ris
      obtain ⟨order,e3,e4⟩:=NR e2
      have s2:es2.size=es1.size:=by
        have:=q2.length_eq
        simpa using this
      have fin:∀ h' tk,h'.get? a=some { o with data:=.set es2 (ep + 1 + 1) t2 }->Heap.SameBut a s.heap h'->Q true { s with heap:=h',toks:=tk }:=fun h' tk hg sb=>by
        obtain ⟨js,hj1,hj2⟩:=el1.perm q2
        exact q _ _ _ sb ⟨_,es2,_,t2,js,hg,hex,rfl,hj1,hj2.trans hp1,T2,g2,by rw [l2,l1]; exact hled⟩
      refine wpAny_bind ?_
      unfold setRelay
      refine wpAny_bind (wpAny_setState_of (s:={ s with heap:=s.heap.update a (Obj.putSet es1 t1) }) ho1 rfl f1 ?_)
      dsimp only
      rw [if_neg (by rcases small with h | h <;> rw [h] <;> decide +kernel),e3]
      wp_walk
      rw [← e4,if_neg (by rw [s2]; simp)]
      refine wpAny_pure ?_
      dsimp only
      refine wpAny_storeSet_of (s:={ s with heap:=s.heap.update a (Obj.putSet es1 t1) }) ho1 rfl ?_ (by rw [sizeLine_eq]; omega)
      exact wpAny_pure (fin _ _ (F7 ho1 rfl es2 t2) (sb1.trans (Heap.SameBut.update _ a _)))
    . rw [if_neg (by simpa using hf)]
      refine wpAny_pure (q _ _ _ sb1 ⟨_,es1,_,t1,_,ho1,hex,rfl,el1,hp1,⟨r1,by omega,d1,?_,p1⟩,g1,by rw [l1]; exact hled⟩)
      rw [m1]
      unfold SetTable.tooFull SetTable.fill at hf
      rw [z1,d1,m1] at hf
      simp at hf
      rcases T.mks with ⟨m,b⟩ | ⟨m,b⟩ | ⟨m,b⟩
      . rw [m] at hf
        exact .inl ⟨m,by omega⟩
      . rw [m] at hf
        exact .inr (.inl ⟨m,by omega⟩)
      . exact .inr (.inr ⟨m,by omega,by omega⟩)
theorem Oc {a ax:Addr} {ks:List NK} {kx:NK} {Q:Bool->Shared->Prop} {P:NK->Addr->Prop} (hu:(kind prog w).room A) (hP:∀ k b,P k b->(kind prog w).is s.heap k b) (hS:SetC w P s.heap a ks) (hxp:P kx ax) (room:(if kx ∈ ks then ks else ks ++ [kx]).length <= 75)
    (q:∀ b h' tk,Heap.SameBut a s.heap h'->SetC w P h' a (if kx ∈ ks then ks else ks ++ [kx])->Q b { s with heap:=h',toks:=tk }) :
    wpAny (model prog w) A (setAdd a (.ref ax)) Q E s:=by
  unfold setAdd
  exact wpAny_holding (wpAny_bind ((kind prog w).pyHash hu (hP kx ax hxp) (N2 (s:={ s with toks:=s.toks + (kind prog w).draws kx }) hu hP hS hxp room q)))
end
end Hs
set_option maxHeartbeats 4000000
namespace Hs
open PySem PySem.Spec PyProof.Rows Sem L2 Nk PySem.SetTable Ht
def Az {α:Type} [DecidableEq α] (xs:List α):List α:=xs.foldl (fun ys x=>if x ∈ ys then ys else ys ++ [x]) []
section
variable {α:Type} [DecidableEq α]
theorem FQ (xs:List α) (x:α):Az (xs ++ [x])=if x ∈ Az xs then Az xs else Az xs ++ [x]:=by
  unfold Az
  rw [List.foldl_append]
  rfl
theorem Hi:∀ (xs ys:List α),ys.length <= (xs.foldl (fun ys x=>if x ∈ ys then ys else ys ++ [x]) ys).length
  | [],ys=>Nat.le_refl _
  | x :: xs,ys=>by
    rw [List.foldl_cons]
    refine Nat.le_trans ?_ (Hi xs _)
    split
    . exact Nat.le_refl _
    . simp
theorem Nh (xs:List α) (i:Nat):(Az (xs.take i)).length <= (Az xs).length:=by
  have h:=Hi (xs.drop i) (Az (xs.take i))
  have e:(xs.drop i).foldl (fun ys x=>if x ∈ ys then ys else ys ++ [x]) (Az (xs.take i))=Az xs:=by
    unfold Az
    rw [← List.foldl_append,List.take_append_drop]
  rw [e] at h
  exact h
theorem CC (xs:List α):(Az xs).Nodup /\ ∀ k,k ∈ Az xs ↔ k ∈ xs:=by
  have key:∀ (xs ys:List α),ys.Nodup->(xs.foldl (fun ys x=>if x ∈ ys then ys else ys ++ [x]) ys).Nodup /\ ∀ k,k ∈ xs.foldl (fun ys x=>if x ∈ ys then ys else ys ++ [x]) ys ↔ k ∈ ys ∨ k ∈ xs:=fun xs=>by
    induction xs with
    | nil=>intro ys nd; exact ⟨nd,fun k=>by simp⟩
    | cons x xs ih=>
      intro ys nd
      rw [List.foldl_cons]
      by_cases h:x ∈ ys
      . rw [if_pos h]
        obtain ⟨a,b⟩:=ih ys nd
        refine ⟨a,fun k=>(b k).trans ?_⟩
        constructor
        . rintro (z | z)
          . exact .inl z
          . exact .inr (List.mem_cons_of_mem _ z)
        . rintro (z | z)
          . exact .inl z
          . exact (List.mem_cons.mp z).elim (fun e=>.inl (e ▸ h)) .inr
      . rw [if_neg h]
        obtain ⟨a,b⟩:=ih (ys ++ [x]) (List.nodup_append.mpr ⟨nd,by simp,fun u hu v hv e=>h (by simp at hv; rw [← hv,← e]; exact hu)⟩)
        refine ⟨a,fun k=>(b k).trans ?_⟩
        simp only [List.mem_append,List.mem_cons,List.not_mem_nil,or_false,or_assoc]
  obtain ⟨a,b⟩:=key xs [] List.nodup_nil
  exact ⟨a,fun k=>(b k).trans (by simp)⟩
end
section
variable {prog:Program} {w:World} {A:Around} {E:Value->Shared->Prop} {s:Shared}
theorem SetC.at {P:NK->Addr->Prop} {h h':Heap} {a:Addr} {ks:List NK} (z:SetC w P h a ks) (k:∀ o,h.get? a=some o->h'.get? a=some o):SetC w P h' a ks:=by
  obtain ⟨o,es,ep,t,ns,e1,rest⟩:=z
  exact ⟨o,es,ep,t,ns,k o e1,rest⟩
theorem NL {I S:Addr} {ks:List NK} {fp:List Addr} {P:Nat->Value->Prop} {K:NK->Addr->Prop} {St:Nat->Heap->Prop} (hu:(kind prog w).room A.in1) (W:Walks prog w A.in1 I fp [I] ks.length P St) {h0:Heap} (hK:∀ h,(∀ c o,h0.get? c=some o->h.get? c=some o)->∀ k b,K k b->(kind prog w).is h k b) (hP:∀ i v,P i v->∃ k b,ks[i]? = some k /\ v=.ref b /\ K k b)
    (hSI:S ≠ I) (hSf:S ∉ fp) (h0S:h0.get? S=none) (h0I:h0.get? I=none) (room:(Az ks).length <= 75) {R:Result->Shared->Prop} :
    ∀ (m i:Nat) (s:Shared),ks.length - i=m->i <= ks.length->(∀ c o,h0.get? c=some o->s.heap.get? c=some o)->St i s.heap->SetC w K s.heap S (Az (ks.take i))->
      (∀ h' tk,(∀ c o,c ≠ S->c ≠ I->s.heap.get? c=some o->h'.get? c=some o)->SetC w K h' S (Az ks)->R (.ok (.ret .none)) { s with heap:=h',toks:=tk })->
      codeAny (model prog w) A (.builtin "set.update.loop" ⟨[.ref S,.ref I],[]⟩) R s:=by
  intro m
  have off:∀ {c:Addr} {o:Obj},h0.get? c=some o->c ≠ S /\ c ≠ I:=fun e=>⟨fun z=>(by rw [z,h0S] at e; cases e),fun z=>(by rw [z,h0I] at e; cases e)⟩
  induction m with
  | zero=>
    intro i s hm hi hk0 hst hS q
    have ei:i=ks.length:=by omega
    subst ei
    refine codeAny_builtin PyProof.Rows.F.entry_set_update_loop ?_
    rw [Around.under_plainId PyProof.Rows.F.plain_set_update_loop _]
    refine wpAny_bind (m:=pyNext (.ref I)) (W.done s _ _ hst fun h' tk kp=>wpAny_pure ?_)
    rw [List.take_length] at hS
    exact q h' tk (fun c o _ c2 e=>kp c o (by simpa using c2) e) (hS.at fun o e=>kp S o (by simpa using hSI) e)
  | succ m ih=>
    intro i s hm hi hk0 hst hS q
    have lt:i < ks.length:=by omega
    refine codeAny_builtin PyProof.Rows.F.entry_set_update_loop ?_
    rw [Around.under_plainId PyProof.Rows.F.plain_set_update_loop _]
    refine wpAny_bind (m:=pyNext (.ref I)) (W.item i s _ _ lt hst fun v h' tk hv st kp=>?_)
    obtain ⟨k,b,ek,rfl,hkb⟩:=hP i v hv
    have tk1:ks.take i ++ [k]=ks.take (i + 1):=by rw [List.take_succ,ek]; rfl
    have nb:(if k ∈ Az (ks.take i) then Az (ks.take i) else Az (ks.take i) ++ [k])=Az (ks.take (i + 1)):=by rw [← tk1,FQ]
    have hS1:SetC w K h' S (Az (ks.take i)):=hS.at fun o e=>kp S o (by simpa using hSI) e
    have hk1:∀ c o,h0.get? c=some o->h'.get? c=some o:=fun c o e=>kp c o (by simpa using (off e).2) (hk0 c o e)
    refine wpAny_bind (wpAny_holding (Oc (s:={ s with heap:=h',toks:=tk }) hu (hK h' hk1) hS1 hkb (by rw [nb]; exact Nat.le_trans (Nh _ _) room) fun b2 h2 t2 sb hS2=>?_))
    rw [nb] at hS2
    have k2:∀ c o,c ≠ S->h'.get? c=some o->h2.get? c=some o:=fun c o hc e=>(sb.2 c hc).trans e
    refine wpAny_pure ⟨plainId_quiet PyProof.Rows.F.plain_set_update_loop _,ih (i + 1) _ (by omega) lt (fun c o e=>k2 c o (off e).1 (hk1 c o e)) (W.frame _ _ _ st fun b hb o e=>k2 b o (fun z=>hSf (z ▸ hb)) e) hS2 fun h3 t3 kp3 hS3=>?_⟩
    exact q h3 t3 (fun c o c1 c2 e=>kp3 c o c1 c2 (k2 c o c1 (kp c o (by simpa using c2) e))) hS3
end
end Hs
namespace Hs
open PySem PySem.Spec PyProof.Rows Sem L2 Nk Ht
section
variable {prog:Program} {w:World} {A:Around} {E:Value->Shared->Prop} {s:Shared}
set_option maxHeartbeats 2000000 in
theorem IC {T:String} {l:Addr} {ns:List NK} {K:NK->Addr->Prop} (hu:(kind prog w).room A.in1.in1.in1) (hK:∀ h,(∀ c o,s.heap.get? c=some o->h.get? c=some o)->∀ k b,K k b->(kind prog w).is h k b) {Q:Value->Shared->Prop} {fp:Addr->List Addr} {P:Nat->Value->Prop} {St:Addr->Nat->Heap->Prop} {itO:Obj}
    (c1:isSubtype (.type T) (.type "set")=Pure.pure false) (c2:isSubtype (.type T) (.type "frozenset")=Pure.pure false) (c3:(Value.type T == Value.type "dict")=false)
    (tyl:∀ {s':Shared},(∀ o,s.heap.get? l=some o->s'.heap.get? l=some o)->s'.TypeIs (.ref l) T)
    (walk:∀ {s':Shared} {A':Around} {E' Q':Value->Shared->Prop},(∀ o,s.heap.get? l=some o->s'.heap.get? l=some o)->Q' (.ref s'.heap.objs.size) { s' with heap:=s'.heap.push itO }->wpAny (model prog w) A' (pyIter (.ref l)) Q' E' s')
    (W:∀ I,l ≠ I->Walks prog w A.in1.in1.in1 I (fp I) [I] ns.length P (St I)) (hP:∀ i v,P i v->∃ k b,ns[i]? = some k /\ v=.ref b /\ K k b) (hfp:∀ I,∀ b ∈ fp I,b=I ∨ b=l) (hl:∃ o,s.heap.get? l=some o)
    (hfr:itO.isFreed=false) (st0:∀ {h:Heap} (I:Addr),h.get? I=some itO->(∀ o,s.heap.get? l=some o->h.get? l=some o)->St I 0 h) (room:(Az ns).length <= 75)
    (q:∀ h' tk,(∀ c o,s.heap.get? c=some o->h'.get? c=some o)->SetC w K h' s.heap.objs.size (Az ns)->Q (.ref s.heap.objs.size) { s with heap:=h',toks:=tk }) :
    wpAny (model prog w) A (call (.type "set") [.ref l]) Q E s:=by
  refine MU PySem.F.called_set (PySem.F.typeCall_set_1 _) (L9 (.ref l) (Q:=fun x s₁=>x=.ref s.heap.objs.size /\ s₁={ s with heap:=s.heap.push (AW !(w.params.followText "set-order")) }) ⟨rfl,rfl⟩) ?_
  rintro x s₁ ⟨rfl,rfl⟩
  generalize hled:(!(w.params.followText "set-order"))=led
  have at_S:(s.heap.push (AW led)).get? s.heap.objs.size=some (AW led):=Heap.get?_push_size _ rfl
  have ty:Shared.TypeIs { s with heap:=s.heap.push (AW led) } (.ref s.heap.objs.size) "set" := ⟨_,at_S,rfl⟩
  have lt:l < s.heap.objs.size:=by obtain ⟨o,e⟩:=hl; exact Heap.lt_size e
  have kl:∀ o,s.heap.get? l=some o->(s.heap.push (AW led)).get? l=some o:=fun o e=>Heap.get?_push_of_some _ e
  have tyl:=tyl (s':={ s with heap:=s.heap.push (AW led) }) kl
  refine ⟨ty,codeAny_call_builtin PySem.F.called_set.init.plain PySem.F.entry_set_init (check_set_init_1 ty ?_)⟩
  unfold Builtin.«set.__init__» noKeywords Builtin.Frozenset.updateFrom
  have walk':∀ (A:Around) (E:Value->Shared->Prop) (Q:Value->Shared->Prop),Q (.ref (s.heap.push (AW led)).objs.size) { s with heap:=(s.heap.push (AW led)).push itO }->wpAny (model prog w) A (pyIter (.ref l)) Q E { s with heap:=s.heap.push (AW led) }:=fun A E Q z=>walk (s':={ s with heap:=s.heap.push (AW led) }) kl z
  wp_walk using walk'
  have sz:(s.heap.push (AW led)).objs.size=s.heap.objs.size + 1:=Heap.size_push ..
  have ne1:l ≠ (s.heap.push (AW led)).objs.size:=by rw [sz]; exact Nat.ne_of_lt (Nat.lt_succ_of_lt lt)
  have ne2:s.heap.objs.size ≠ (s.heap.push (AW led)).objs.size:=by rw [sz]; exact Nat.ne_of_lt (Nat.lt_succ_self _)
  have hSf:s.heap.objs.size ∉ fp (s.heap.push (AW led)).objs.size:=fun z=>(hfp _ _ z).elim ne2 (Nat.ne_of_gt lt)
  refine NL (A:=A.in1.in1) (h0:=s.heap) hu (W _ ne1) hK hP ne2 hSf (Heap.get?_none_of_le (Nat.le_refl _)) (Heap.get?_none_of_le (by rw [sz]; omega)) room ns.length 0 _ (Nat.sub_zero _) (Nat.zero_le _) (fun c o e=>Heap.get?_push_of_some _ (Heap.get?_push_of_some _ e)) (st0 _ (Heap.get?_push_size _ hfr) fun o e=>Heap.get?_push_of_some _ (kl o e)) ?start fun h' tk kp hS=>?fin
  case start=>
    refine ⟨_,#[],0,_,[],Heap.get?_push_of_some _ at_S,⟨rfl,rfl,rfl⟩,rfl,?_,.refl _,HY led,?_,hled.symm⟩
    . unfold EL; rfl
    . intro e he
      cases he
  case fin=>
    have ltS:∀ {c:Addr} {o:Obj},s.heap.get? c=some o->c < s.heap.objs.size:=fun e=>Heap.lt_size e
    exact wpAny_pure (wpAny_pure ⟨rfl,q h' tk (fun c o e=>kp c o (Nat.ne_of_lt (ltS e)) (by rw [sz]; exact Nat.ne_of_lt (Nat.lt_succ_of_lt (ltS e))) (Heap.get?_push_of_some _ (Heap.get?_push_of_some _ e))) hS⟩)
end
end Hs
set_option maxHeartbeats 4000000
namespace Nk
open PySem PySem.Spec PyProof.Rows Ht
def itK (d:Addr) (i n ep:Nat):Obj:={ cls:=.type "dict_keyiterator",data:=.fields #[.ref d,.int i 0,.int n 0,.int ep 0] }
section
variable {prog:Program} {w:World} {A:Around} {E:Value->Shared->Prop} {s:Shared} {d I:Addr} {o:Obj} {es:Array DictEntry} {ep:Nat}
theorem MN {i:Nat} {Q:Option Value->Shared->Prop} (hh:A.handled=none) (hI:s.heap.get? I=some (itK d i es.size ep)) (ho:s.heap.get? d=some o) (hd:o.data=.dict es ep)
    (more:∀ (hi:i < es.size) (h':Heap),h'.get? I=some (itK d (i + 1) es.size ep)->Heap.SameBut I s.heap h'->Q (some es[i].key) { s with heap:=h' })
    (done:es.size <= i->∀ h',Heap.ExtBut I s.heap h'->Q none { s with heap:=h' }):wpAny (model prog w) A (pyNext (.ref I)) Q E s:=by
  have hT:s.TypeIs (.ref I) "dict_keyiterator" := ⟨_,hI,rfl⟩
  have nm:∀ {A:Around} {s:Shared} {E:Value->Shared->Prop} {R:String->Shared->Prop},s.TypeIs (.ref I) "dict_keyiterator" -> R "dict_keyiterator" s->wpAny (model prog w) A (typeNameOfWhole (.ref I)) R E s:=fun ty r=>wpAny_typeNameOfWhole_keyiter ty r
  unfold pyNext
  refine wpAny_bind (wpAny_attempt (wpAny_callSpecial?_slot (name:=Str.ofString "__next__") hT PySem.F.slot_dict_keyiterator_next (wpAny_call_entry PySem.F.slot_dict_keyiterator_next hT PySem.F.entry_dict_keyiterator_next ?_ (PySem.F.args_dict_keyiterator_next_1 _))))
  wp_walk
  rw [hd]
  wp_walk
  rw [hd]
  refine wpAny_pure ?_
  rw [if_neg (by simp)]
  refine wpAny_pure ?_
  have key:(if (i:Int) < 0 then none else es[(i:Int).toNat]?)=es[i]?:=by rw [if_neg (by omega),Int.toNat_natCast]
  dsimp only
  rw [key]
  cases e:es[i]? with
  | some x=>
    wp_walk
    have hi:i < es.size:=(Array.getElem?_eq_some_iff.mp e).1
    have ex:es[i]=x:=(Array.getElem?_eq_some_iff.mp e).2
    refine ⟨_,rfl,wpAny_pure ?_⟩
    rw [← ex]
    refine more hi _ ?_ (Heap.SameBut.update ..)
    rw [if_neg (by decide +kernel),if_neg (by decide +kernel)]
    rw [Heap.get?_update_self _ hI (by rfl)]
    simp [itK,rawInt,Obj.mapFields]
  | none=>
    refine wpAny_bind (wpAny_bind (nm hT (wpAny_pure ?_)))
    rw [if_neg (by decide +kernel)]
    refine wpAny_bind (wpAny_setField_rec hI (by simp) fun h1 g1 s1=>?_)
    refine GR (A:=A.in1) (s:={ s with heap:=h1 }) hh fun a h' k ty=>?_
    refine wpAny_bind (wpAny_isInstance (T := "StopIteration") (b:=true) ty isSubtype_stop ?_)
    exact wpAny_pure (done (by simpa using e) h' fun b o hb e=>k b o (s1.extBut b o hb e))
theorem Rv {Q:Value->Shared->Prop} (lo:(d == sysModules)=false) (ho:s.heap.get? d=some o) (ex:o.ExactDict) (hd:o.data=.dict es ep) (q:Q (.ref s.heap.objs.size) { s with heap:=s.heap.push (itK d 0 es.size ep) }):wpAny (model prog w) A (pyIter (.ref d)) Q E s:=by
  have hT:s.TypeIs (.ref d) "dict" := ⟨o,ho,ex.1⟩
  refine wpAny_pyIter_slot hT PySem.F.slot_dict_iter (wpAny_call_entry PySem.F.slot_dict_iter hT PySem.F.entry_dict_iter ?_ (PySem.F.args_dict_iter_1 _))
  wp_walk
  rw [if_neg (by rw [ex.1]; decide)]
  wp_walk
  rw [hd]
  wp_walk
  rw [hd]
  wp_walk
  exact ⟨_,rfl, "dict_keyiterator",_,⟨_,Heap.get?_push_size _ rfl,rfl⟩,PySem.F.slot_dict_keyiterator_next.lookup,q⟩
theorem NM {i:Nat} {Q:Value->Shared->Prop} (hI:s.heap.get? I=some (itK d i es.size ep)) (q:Q (.ref I) s):wpAny (model prog w) A (pyIter (.ref I)) Q E s:=wpAny_pyIter_keyiter (d:=d) (i:=i) (n:=es.size) (ep:=ep) ⟨_,hI,rfl,rfl⟩ q
theorem Kl (hh:A.handled=none) (hne:d ≠ I) (hd:o.data=.dict es ep):Walks prog w A I [I,d] [I] es.size (fun i v=>∃ e,es[i]? = some e /\ v=e.key) (fun i h=>h.get? I=some (itK d i es.size ep) /\ h.get? d=some o):=by
  refine ⟨fun b hb=>?_,fun i h h' st k=>⟨k I (by simp) _ st.1,k d (by simp) _ st.2⟩,fun i s Q E hi st q=>?_,fun s Q E st q=>?_,fun i s Q E st q=>NM st.1 q⟩
  . rw [List.mem_singleton] at hb
    rw [hb]
    simp
  . refine MN hh st.1 st.2 hd (fun hi' h' g sb=>?_) fun z=>absurd hi (Nat.not_lt.mpr z)
    refine q _ h' s.toks ⟨es[i],Array.getElem?_eq_getElem hi',rfl⟩ ⟨g,(sb.2 d hne).trans st.2⟩ fun b o hb e=>?_
    exact (sb.2 b fun z=>hb (by rw [z]; simp)).trans e
  . refine MN hh st.1 st.2 hd (fun hi'=>absurd hi' (Nat.lt_irrefl _)) fun _ h' k=>?_
    exact q h' s.toks fun b o hb e=>k b o (fun z=>hb (by rw [z]; simp)) e
theorem JX (lo:(d == sysModules)=false) (ex:o.ExactDict) (hd:o.data=.dict es ep):PySem.W.KdlSrc prog w "dict" d d es.size (fun i v=>∃ e,es[i]? = some e /\ v=e.key) (fun h=>h.get? d=some o):=by
  refine ⟨fun s h=>⟨_,h,ex.1⟩,fun h e=>⟨Heap.lt_size e,Heap.lt_size e⟩,fun h h' e k=>k d (.inl rfl) _ e,by decide,by decide,fun A E s Q e q=>PySem.W.kdl_hint_dict ⟨_,e,ex.1⟩ q,fun A s hh e=>?_⟩
  exact ⟨itK d 0 es.size ep,_,fun E Q q=>Rv lo e ex hd q,Kl hh (Nat.ne_of_lt (Heap.lt_size e)) hd,Heap.get?_push_size _ rfl,Heap.get?_push_of_some _ e⟩
theorem Gj {vs:Array Value} (it:ItemsOf (fun i v=>∃ e,es[i]? = some e /\ v=e.key) vs es.size):vs.toList=es.toList.map (·.key):=by
  have h1:=it.1
  refine List.ext_getElem (by simp [h1]) fun i a b=>?_
  have hi:i < vs.size:=by simpa using a
  obtain ⟨e,g1,g2⟩:=it.2 i vs[i] (Array.getElem?_eq_getElem hi)
  have he:es[i]'(by omega)=e:=(Array.getElem?_eq_some_iff.mp g1).2
  simp [g2,← he]
end
end Nk
namespace Nk
open PySem PySem.Spec PyProof.Rows L2 Mi
theorem QA (c:Cs):(csK c).deep <= 8:=by
  have h:∀ ns:List Int,NK.deeps (ns.map NK.int)=0:=fun ns=>by
    induction ns with
    | nil=>rfl
    | cons n r ih=>unfold List.map NK.deeps; rw [ih]; rfl
  have:(csK c).deep=max 0 (max 0 (max (NK.deeps (c.2.2.map NK.int) + 1) 0)) + 1:=rfl
  rw [this,h]
  decide
theorem Kc {h:Heap}:∀ {ns:List Int} {its:List Value},Vals (ns.map V.int) its->Ats h (ns.map NK.int) its
  | [],_,r=>by cases r; unfold List.map Ats; rfl
  | n :: ns,_,r=>by
    cases r with
    | cons e t=>
      obtain ⟨tk,rfl⟩:=e
      unfold List.map Ats
      exact ⟨_,_,rfl,by unfold At; exact ⟨tk,rfl⟩,Kc t⟩
section
variable {X:Cx} {pins:List (Addr × Obj)} {σ:L2.St} {H:Hp} {s:Shared} {ι:Nat->Addr} {k:Nat}
theorem QK (I:Inv X pins σ H s) {c:Cs} {v:V} {u:Value} (i:Is X.K ι k H (csD c) v) (r:RelV v u):At s.heap (csK c) u:=by
  unfold csD Is at i
  obtain ⟨p,vs,rfl,h1,h2⟩:=i
  cases r
  obtain ⟨its,rv,⟨o,g1,g2,n,g3⟩,_⟩:=I.tuple h1
  unfold Mi.IsL at h2
  obtain ⟨v1,_,rfl,i1,h2⟩:=h2
  unfold Mi.IsL at h2
  obtain ⟨v2,_,rfl,i2,h2⟩:=h2
  unfold Mi.IsL at h2
  obtain ⟨v3,_,rfl,i3,h2⟩:=h2
  unfold Mi.IsL at h2
  subst h2
  unfold Is at i1 i2 i3
  subst i1 i2
  obtain ⟨p3,vs3,rfl,j1,j2⟩:=i3
  have e3:=j2.ints
  subst e3
  obtain ⟨its3,rv3,⟨o3,k1,k2,n3,k3⟩,_⟩:=I.tuple j1
  cases rv with
  | cons a1 rv=>
    cases rv with
    | cons a2 rv=>
      cases rv with
      | cons a3 rv=>
        cases rv
        obtain ⟨t1,rfl⟩:=a1
        obtain ⟨t2,rfl⟩:=a2
        cases a3
        unfold csK At
        refine ⟨p,o,_,n,rfl,g1,g2,g3,?_⟩
        unfold Ats
        refine ⟨_,_,rfl,by unfold At; exact ⟨t1,rfl⟩,?_⟩
        unfold Ats
        refine ⟨_,_,rfl,by unfold At; exact ⟨t2,rfl⟩,?_⟩
        unfold Ats
        refine ⟨_,_,rfl,?_,by unfold Ats; rfl⟩
        unfold At
        exact ⟨p3,o3,_,n3,rfl,k1,k2,k3,Kc rv3⟩
theorem isC (I:Inv X pins σ H s) {c:Cs} {a:Addr} (i:Is X.K ι k H (csD c) (.ref a)):(kind X.prog X.w).is s.heap (csK c) a:=⟨QK I i rfl,QA c⟩
end
def Ee (l:List (Cs × Addr × V)) (us:List Value):List (NK × Addr × Value):=(l.zip us).map fun x=>(csK x.1.1,x.1.2.1,x.2)
theorem Lh {l:List (Cs × Addr × V)} {us:List Value} (h:l.length=us.length):(Ee l us).map (·.1)=(l.map (·.1)).map csK:=by
  unfold Ee
  rw [List.map_map,List.map_map]
  have:(fun x:(Cs × Addr × V) × Value=>csK x.1.1)=(fun y:Cs × Addr × V=>csK y.1) ∘ Prod.fst:=rfl
  show (l.zip us).map (fun x=>csK x.1.1)=_
  rw [this,← List.map_map,List.map_fst_zip (by omega)]
  rfl
theorem Hj {ks:List Cs} (h:ks.Nodup):(ks.map csK).Nodup:=by
  refine List.Pairwise.map _ ?_ h
  intro a b hne e
  exact hne (C4 e)
theorem FF {l:List (Cs × Addr × V)} {us:List Value} {c:Cs} (h:l.length=us.length):(atKey (Ee l us) (csK c)).isSome=l.any fun y=>decide (y.1=c):=by
  have e:(atKey (Ee l us) (csK c)).isSome=((Ee l us).map (·.1)).any fun y=>decide (y=csK c):=by
    unfold atKey
    rw [Option.isSome_map,List.any_map]
    rw [Bool.eq_iff_iff,List.find?_isSome,List.any_eq_true]
    rfl
  rw [e,Lh h,List.any_map,List.any_map]
  congr 1
  funext y
  show decide (csK y.1=csK c)=decide (y.1=c)
  by_cases z:y.1=c
  . rw [z]; simp
  . rw [decide_eq_false z,decide_eq_false fun q=>z (C4 q)]
theorem P4 {P:Program} {w:World} {H:Hp} {h:Heap} {p:Addr} {l:List (Cs × Addr × V)} (hk:HOk P w H h) (e:H p=some (DQ p l)):∃ (us:List Value) (o:Obj) (es:Array DictEntry) (ep:Nat),Vals (l.map (·.2.2)) us /\ h.get? p=some o /\ o.ExactDict /\ o.data=.dict es ep /\
    es.toList=(l.zip us).map (fun x=>{ key:=.ref x.1.2.1,hash:=(csK x.1.1).hash,val:=x.2 }) /\ (l.map (·.1)).Nodup /\ l.length <= sizeLine /\ (p == sysModules)=false:=(hk p _ e).1
theorem Sf {P:Program} {w:World} {H:Hp} {h:Heap} {p:Addr} {l:List (Cs × Addr × V)} (x:∃ (us:List Value) (o:Obj) (es:Array DictEntry) (ep:Nat),Vals (l.map (·.2.2)) us /\ h.get? p=some o /\ o.ExactDict /\ o.data=.dict es ep /\
    es.toList=(l.zip us).map (fun x=>{ key:=.ref x.1.2.1,hash:=(csK x.1.1).hash,val:=x.2 }) /\ (l.map (·.1)).Nodup /\ l.length <= sizeLine /\ (p == sysModules)=false):ObjOk P w H h p (DQ p l):=by
  refine ⟨x,?_,?_⟩
  . obtain ⟨us,o,es,ep,_,h1,_⟩:=x
    exact ⟨o,h1⟩
  . rintro h1 h2 ⟨us,o,es,ep,a1,a2,a3⟩ k
    exact ⟨us,o,es,ep,a1,k o a2,a3⟩
theorem Vj {P:Program} {w:World} {h:Heap} {p:Addr} {l:List (Cs × Addr × V)} {us:List Value} {o:Obj} {es:Array DictEntry} {ep:Nat} (hl:l.length=us.length) (h1:h.get? p=some o) (h2:o.ExactDict) (h3:o.data=.dict es ep)
    (h4:es.toList=(l.zip us).map (fun x=>{ key:=.ref x.1.2.1,hash:=(csK x.1.1).hash,val:=x.2 })) (h5:(l.map (·.1)).Nodup) (hi:∀ y ∈ l,(kind P w).is h (csK y.1) y.2.1):h.DictOfH (kind P w) p (Ee l us):=by
  refine ⟨o,es,ep,h1,h2,h3,?_,?_,?_⟩
  . rw [h4]
    unfold Ee
    rw [List.map_map]
    rfl
  . intro x hx
    unfold Ee at hx
    obtain ⟨y,hy,rfl⟩:=List.mem_map.mp hx
    exact hi y.1 (List.of_mem_zip (a:=y.1) (b:=y.2) hy).1
  . rw [Lh hl]
    exact Hj h5
end Nk
namespace Mi
open PySem L2 Ht Nk
theorem CVs.keys {K:PySem.W.Frag} {ι:Nat->Addr} {k:Nat} {H:Hp}:∀ {l:List (Cs × D)} {r:List (Cs × Addr × V)},CVs K ι k H l r->r.map (·.1)=l.map (·.1)
  | [],_,h=>by cases h; rfl
  | (y,d) :: l,_,h=>by
    obtain ⟨a,v,r',rfl,_,_,h3⟩:=h
    rw [List.map_cons,List.map_cons,CVs.keys h3]
theorem CVs.at {K:PySem.W.Frag} {ι:Nat->Addr} {k:Nat} {H:Hp}:∀ {l:List (Cs × D)} {r:List (Cs × Addr × V)},CVs K ι k H l r->∀ y ∈ r,Is K ι k H (csD y.1) (.ref y.2.1)
  | [],_,h,y,hy=>by cases h; cases hy
  | (z,d) :: l,_,h,y,hy=>by
    obtain ⟨a,v,r',rfl,h1,_,h3⟩:=h
    rcases List.mem_cons.mp hy with rfl | hy
    . exact h1
    . exact CVs.at h3 y hy
theorem CVs.isL {K:PySem.W.Frag} {ι:Nat->Addr} {k:Nat} {H:Hp}:∀ {l:List (Cs × D)} {r:List (Cs × Addr × V)},CVs K ι k H l r->IsL K ι k H (l.map fun y=>csD y.1) (r.map fun y=>.ref y.2.1)
  | [],_,h=>by cases h; exact .nil
  | (z,d) :: l,_,h=>by
    obtain ⟨a,v,r',rfl,h1,_,h3⟩:=h
    exact .cons h1 (CVs.isL h3)
theorem CVs.app {K:PySem.W.Frag} {ι:Nat->Addr} {k:Nat} {H:Hp} {c:Cs} {a:Addr} {d:D} {v:V} (h1:Is K ι k H (csD c) (.ref a)) (h2:Is K ι k H d v):∀ {l:List (Cs × D)} {r:List (Cs × Addr × V)},CVs K ι k H l r->CVs K ι k H (l ++ [(c,d)]) (r ++ [(c,a,v)])
  | [],_,h=>by cases h; exact ⟨a,v,[],rfl,h1,h2,rfl⟩
  | (z,e) :: l,_,h=>by
    obtain ⟨b,w,r',rfl,g1,g2,g3⟩:=h
    exact ⟨b,w,_,rfl,g1,g2,CVs.app h1 h2 g3⟩
theorem Kf {α β:Type} {l:List (Cs × α)} {r:List (Cs × β)} (h:r.map (·.1)=l.map (·.1)) (c:Cs):(r.any fun y=>decide (y.1=c))=l.any fun y=>decide (y.1=c):=by
  have e1:(r.any fun y=>decide (y.1=c))=(r.map (·.1)).any fun y=>decide (y=c):=by rw [List.any_map]; rfl
  have e2:(l.any fun y=>decide (y.1=c))=(l.map (·.1)).any fun y=>decide (y=c):=by rw [List.any_map]; rfl
  rw [e1,e2,h]
def CV:List D->Option (List Int)
  | []=>some []
  | .int i :: r=>(CV r).map (i :: ·)
  | _ :: _=>none
theorem Fo:∀ {ds:List D} {ns:List Int},CV ds=some ns->ds=ns.map D.int
  | [],ns,e=>by cases e; rfl
  | .int i :: r,ns,e=>by
    unfold CV at e
    cases h:CV r with
    | none=>rw [h] at e; cases e
    | some m=>rw [h] at e; cases e; rw [Fo h]; rfl
  | .non :: _,_,e | .bl _ :: _,_,e | .str _ :: _,_,e | .ty _ :: _,_,e | .scr _ :: _,_,e | .tup _ :: _,_,e | .lst _ :: _,_,e | .ref _ :: _,_,e=>by cases e
def HF:D->Option Cs
  | .tup [.int a,.int b,.tup ds]=>(CV ds).map fun ns=>(a,b,ns)
  | _=>none
theorem Fg {d:D} {c:Cs} (e:HF d=some c):d=csD c:=by
  unfold HF at e
  split at e
  . rename_i a b ds
    cases h:CV ds with
    | none=>rw [h] at e; cases e
    | some ns=>rw [h] at e; cases e; rw [Fo h]; rfl
  . cases e
def JI:D->M (Nat × List (Cs × D))
  | .ref n=>fun μ=>match μ[n]? with
    | some (.dC l)=>some ((n,l),μ)
    | _=>none
  | _=>BD
theorem EH {K:PySem.W.Frag} {ι:Nat->Addr} {H:Hp} {μ μ':Mh} {d:D} {v:V} {r:Nat × List (Cs × D)} (R:RelH K ι μ H) (i:Is K ι μ.length H d v) (e:JI d μ=some (r,μ')):μ'=μ /\ d=.ref r.1 /\ μ[r.1]? = some (.dC r.2) /\ v=.ref (ι r.1) /\ ∃ kvs,H (ι r.1)=some (DQ (ι r.1) kvs) /\ CVs K ι μ.length H r.2 kvs:=by
  cases d with
  | ref n=>
    have e:(match μ[n]? with | some (.dC l)=>some ((n,l),μ) | _=>none)=some (r,μ'):=e
    split at e
    . rename_i l hq
      cases e
      unfold Is at i
      obtain ⟨u,h1,kvs,rfl,h2⟩:=R.obj n _ hq
      exact ⟨rfl,rfl,hq,i.2,kvs,h1,h2⟩
    . cases e
  | _=>cases e
section
variable {X:Cx} {e o i:Expr} {pos pos':Pos}
def PY:Sl->M D:=fun _ μ=>some (.ref μ.length,μ ++ [.dC []])
theorem O8:PE X (.Dict [] [] pos) (fun _ H Q=>∀ p,H p=none->Q (.ref p) (upd H p (DQ p []))):=fun pins s σ H Q I h=>
  wpAny_Dict_empty ⟨.ref s.heap.objs.size,_,I.laid (a:=s.heap.objs.size) (o:=DQ s.heap.objs.size []) (t':=s.toks) (fun _ _ q=>Heap.get?_push_of_some _ q) (Nat.le_refl _)
    (Sf ⟨[],_,#[],0,.nil,Heap.get?_push_size _ rfl,⟨rfl,rfl,rfl⟩,rfl,rfl,List.nodup_nil,Nat.zero_le _,beq_eq_false_iff_ne.mpr (Ne.symm (Nat.ne_of_lt I.big))⟩),rfl,h _ (I.hok.fresh (Nat.le_refl _))⟩
theorem Ol:RE X (.Dict [] [] pos) PY:=RE.wk O8 fun σ H Q h=>by
  obtain ⟨ι,μ,τ,d,μ',R,S,e,q⟩:=h
  cases e
  intro p hp
  obtain ⟨ι',E1,R1,e0⟩:=R.grown (m:=.dC []) (o:=DQ p []) hp ⟨[],rfl,rfl⟩
  exact q ι' _ E1 R1 _ (by unfold Is; exact ⟨by simp,by rw [e0]⟩)
theorem Jl {k:Nat} (hr:Room k X.A):(Nk.kind X.prog X.w).room X.A.in1:=by
  have:=hr.units
  show X.A.units + 1 + 8 < cLine
  omega
theorem KL {pins:List (Addr × Obj)} {σ:St} {H:Hp} {s:Shared} {ι:Nat->Addr} {k:Nat} {p:Addr} {l:List (Cs × Addr × V)} (I:Inv X pins σ H s) (h:H p=some (DQ p l)) (hi:∀ y ∈ l,Is X.K ι k H (csD y.1) (.ref y.2.1)) :
    ∃ us,l.length=us.length /\ Vals (l.map (·.2.2)) us /\ s.heap.DictOfH (Nk.kind X.prog X.w) p (Ee l us) /\ (l.map (·.1)).Nodup /\ l.length <= sizeLine /\ (p == sysModules)=false:=by
  obtain ⟨us,o,es,ep,h0,h1,h2,h3,h4,h5,h6,h7⟩:=P4 I.hok h
  have hl:l.length=us.length:=by have:=h0.length; simpa using this
  exact ⟨us,hl,h0,Vj hl h1 h2 h3 h4 h5 fun y hy=>isC I (hi y hy),h5,h6,h7⟩
def LV (neg:Bool) (y d:D):M D:=bnd (JI d) fun r=>fun μ=>(HF y).map fun c=>(.bl (if neg then !(r.2.any fun z=>decide (z.1=c)) else r.2.any fun z=>decide (z.1=c)),μ)
theorem PM {k:Nat} (hr:Room k X.A):OpR X (compareOp .NotIn) (rM X.K (LV true)):=fun pins s σ H x y v u Q I rx ry h=>by
  obtain ⟨ι,μ,a,b,d,μ',R,ia,ib,e,q⟩:=h
  obtain ⟨r,μ1,e1,e2⟩:=AI e
  obtain ⟨hm,_,g1,rfl,kvs,g2,g3⟩:=EH R ib e1
  subst hm
  cases hc:HF a with
  | none=>rw [hc] at e2; cases e2
  | some c=>
    rw [hc] at e2
    cases e2
    cases Fg hc
    have ia':=ia
    unfold csD Is at ia'
    obtain ⟨pa,_,rfl,_⟩:=ia'
    cases rx
    cases ry
    obtain ⟨us,hl,_,dd,_,_,lo⟩:=KL I g2 g3.at
    refine PyProof.Rows.wpAny_notIn_heap (Jl hr) (isC I ia) lo dd ?_
    rw [FF hl,Kf g3.keys]
    exact ⟨.bl _,H,I.tok _,rfl,q ι H R.ext0 R _ (ofB _)⟩
def Em (mo mi mv:Sl->M D):Sl->M (Fl × Sl):=fun τ=>bnd (mv τ) fun v=>bnd (mo τ) fun x=>bnd (mi τ) fun y=>bnd (JI x) fun r=>fun μ=>match HF y with
  | some c=>if r.2.length < sizeLine /\ (r.2.any fun z=>decide (z.1=c))=false then some ((.next,τ),μ.set r.1 (.dC (r.2 ++ [(c,v)]))) else none
  | none=>none
def U9 (td ty tv:TE) (K:PySem.W.Frag):TS:=fun Dn σ H=>tv σ H fun v H1=>td σ H1 fun x H2=>ty σ H2 fun y H3=>∃ p l c a ι k,x=.ref p /\ y=.ref a /\ H3 p=some (DQ p l) /\ (∀ z ∈ l,Is K ι k H3 (csD z.1) (.ref z.2.1)) /\ Is K ι k H3 (csD c) (.ref a) /\ l.length < sizeLine /\ (l.any fun z=>decide (z.1=c))=false /\ Dn.nx σ (upd H3 p (DQ p (l ++ [(c,a,v)])))
theorem RN {value:Expr} {td ty tv:TE} {k0:Nat} (hr:Room k0 X.A) (ho:PE X o td) (hi:PE X i ty) (hv:PE X value tv) (hs:swapsWith value (some (.Subscript o i pos')) pos.line X.env=pure false) :
    PS X (.Assign [.Subscript o i pos'] value pos) (U9 td ty tv X.K):=by
  intro pins s σ H D I h
  refine wpAny_Assign_Subscript (thn (hv pins s σ H _ I h) fun r s1 ⟨v,H1,I1,rv,q1⟩=>thn (ho pins s1 σ H1 _ I1 q1) fun u s2 ⟨x,H2,I2,rx,q2⟩=>thn (hi pins s2 σ H2 _ I2 q2) fun iv s3 ⟨y,H3,I3,ry,p,l,c,a,ι,k,ex,ey,e,hl,hc,hz,hn,q3⟩=>?_) hs
  subst ex ey
  cases rx
  cases ry
  obtain ⟨us,hlen,hvs,dd,nd,hs,lo⟩:=KL I3 e hl
  have hx:(Ee l us).length=l.length:=by unfold Ee; rw [List.length_map,List.length_zip]; omega
  have no:atKey (Ee l us) (csK c)=none:=by
    have:=FF (c:=c) hlen
    rw [hn] at this
    cases z:atKey (Ee l us) (csK c) with
    | none=>rfl
    | some _=>rw [z] at this; cases this
  refine wpAny_setItem_heap (hsz:=by omega) (Jl hr) (isC I3 hc) dd fun h' dd' sb=>⟨σ,_,?_,q3⟩
  rw [storedH_new no] at dd'
  obtain ⟨o',es',ep',d1,d2,d3,d4,_,_⟩:=dd'
  refine SA I3 (by rw [e]; exact True.intro) sb ⟨o',d1⟩ (Sf ⟨us ++ [r],o',es',ep',?_,d1,d2,d3,?_,?_,?_,lo⟩)
  . rw [List.map_append]
    exact hvs.append (.cons rv .nil)
  . rw [d4,List.zip_append hlen,List.map_append]
    unfold Ee
    rw [List.map_append,List.map_map]
    rfl
  . rw [List.map_append]
    refine List.nodup_append.mpr ⟨nd,by simp,?_⟩
    intro z hz' w hw
    have hw':w=c:=by simpa using hw
    intro hzc
    obtain ⟨t,ht,et⟩:=List.mem_map.mp hz'
    have et':t.1=c:=et.trans (hzc.trans hw')
    have:(l.any fun z=>decide (z.1=c))=true:=List.any_eq_true.mpr ⟨t,ht,by simp [et']⟩
    rw [hn] at this
    cases this
  . rw [List.length_append]; simp; omega
theorem ME {value:Expr} {mo mi mv:Sl->M D} {k:Nat} (hr:Room k X.A) (ho:RE X o mo) (hi:RE X i mi) (hv:RE X value mv) (hs:swapsWith value (some (.Subscript o i pos')) pos.line X.env=pure false:=by rfl):RS X (.Assign [.Subscript o i pos'] value pos) (Em mo mi mv):=RS.wk (RN hr ho.pe hi.pe hv.pe hs) fun Dn σ H h=>by
  obtain ⟨ι,μ,τ,f,τ',μ',R,S,e,q⟩:=h
  obtain ⟨v,μ1,e1,ee1⟩:=AI e
  obtain ⟨x,μ2,e2,ee2⟩:=AI ee1
  obtain ⟨y,μ3,e3,ee3⟩:=AI ee2
  obtain ⟨r,μ4,e4,ee4⟩:=AI ee3
  refine ⟨ι,μ,τ,v,μ1,R,S,e1,fun ι1 H1 E1 R1 v1 i1=>⟨ι1,μ1,τ,x,μ2,R1,S.ext E1,e2,fun ι2 H2 E2 R2 v2 i2=>⟨ι2,μ2,τ,y,μ3,R2,S.ext (E1.trans E2),e3,fun ι3 H3 E3 R3 v3 i3=>?_⟩⟩⟩
  obtain ⟨hm,hx,g1,hv2,kvs,g2,g3⟩:=EH R3 (i2.ext E3) e4
  subst hm
  have E13:=(E1.trans E2).trans E3
  cases hk:HF y with
  | none=>rw [hk] at ee4; cases ee4
  | some c=>
    rw [hk] at ee4
    have ee4:(if r.2.length < sizeLine /\ (r.2.any fun z=>decide (z.1=c))=false then some ((Fl.next,τ),List.set μ4 r.1 (MO.dC (r.2 ++ [(c,v)]))) else none)=some ((f,τ'),μ'):=ee4
    split at ee4
    . rename_i hl
      cases ee4
      cases Fg hk
      have i3':=i3
      unfold csD Is at i3'
      obtain ⟨a,_,rfl,_⟩:=i3'
      have hlt:r.1 < List.length μ4:=(List.getElem?_eq_some_iff.mp g1).1
      have hkl:kvs.length=r.2.length:=by have:=congrArg List.length g3.keys; simpa using this
      obtain ⟨E4,R4⟩:=R3.changed (m:=.dC (r.2 ++ [(c,v)])) (o:=DQ (ι3 r.1) (kvs ++ [(c,a,v1)])) hlt ⟨_,rfl,CVs.app i3 (i1.ext (E2.trans E3)) g3⟩
      exact ⟨_,kvs,c,a,ι3,_,hv2,rfl,g2,g3.at,i3,by omega,by rw [Kf g3.keys]; exact hl.2,q ι3 _ (E13.trans E4) R4 σ (S.ext (E13.trans E4))⟩
    . cases ee4
theorem Mp {l:List (Cs × Addr × V)} {us:List Value} {es:Array DictEntry} (hl:l.length=us.length) (h4:es.toList=(l.zip us).map (fun x=>{ key:=.ref x.1.2.1,hash:=(csK x.1.1).hash,val:=x.2 })):es.toList.map (·.key)=l.map fun y=>Value.ref y.2.1:=by
  rw [h4,List.map_map]
  have:((fun x:DictEntry=>x.key) ∘ fun x:(Cs × Addr × V) × Value=>({ key:=.ref x.1.2.1,hash:=(csK x.1.1).hash,val:=x.2 }:DictEntry))=(fun y:Cs × Addr × V=>Value.ref y.2.1) ∘ Prod.fst:=rfl
  rw [this,← List.map_map,List.map_fst_zip (by omega)]
theorem HW:∀ l:List (Cs × Addr × V),Vals (l.map fun y=>V.ref y.2.1) (l.map fun y=>Value.ref y.2.1)
  | []=>.nil
  | y :: r=>.cons rfl (HW r)
theorem LZ (hc:X.calm=true):BO X (.type "list") (fun xs H Q=>∃ p l,xs=[.ref p] /\ H p=some (DQ p l) /\ ∀ q,H q=none->Q (.ref q) (upd H q (.lst (l.map fun y=>.ref y.2.1)))):=by
  intro pins s σ H xs us Q I r h
  obtain ⟨p,l,rfl,hp,q⟩:=h
  obtain ⟨u,rfl,ru⟩:=Fh r
  cases ru
  obtain ⟨us,o,es,ep,h0,h1,h2,h3,h4,h5,h6,h7⟩:=P4 I.hok hp
  have hl:l.length=us.length:=by have:=h0.length; simpa using this
  have hsz:es.size=l.length:=by rw [← Array.length_toList,h4,List.length_map,List.length_zip]; omega
  refine PySem.W.kdl_call (JX h7 h2 h3) (I.ok.hd hc) h1 (by omega) fun h' tk acc c kp e it=>?_
  have ek:=(Gj it).trans (Mp hl h4)
  refine ⟨.ref s.heap.objs.size,_,I.laid (t':=tk) kp (Nat.le_refl _) (show ObjOk X.prog X.w _ h' _ (.lst (l.map fun y=>.ref y.2.1)) from ⟨by simpa using h6,acc.toList,c,?_,by rw [Array.toArray_toList]; exact e⟩),rfl,q _ (I.hok.fresh (Nat.le_refl _))⟩
  rw [ek]
  exact HW l
def Iw:List D->M D
  | [d]=>bnd (JI d) fun r=>fun μ=>some (.ref μ.length,μ ++ [.lst (r.2.map fun y=>csD y.1)])
  | _=>BD
theorem SE (hc:X.calm=true):BO X (.type "list") (rMA X.K Iw):=fun pins s σ H xs us Q I r h=>by
  obtain ⟨ι,μ,as,d,μ',R,ia,e,q⟩:=h
  unfold Iw at e
  split at e
  . obtain ⟨rr,μ1,e1,e2⟩:=AI e
    obtain ⟨v,rfl,i1⟩:=FT ia
    obtain ⟨hm,_,g1,rfl,kvs,g2,g3⟩:=EH R i1 e1
    subst hm
    cases e2
    refine LZ hc pins s σ H _ us Q I r ⟨_,kvs,rfl,g2,fun p hp=>?_⟩
    obtain ⟨ι',E1,R1,e0⟩:=R.grown (m:=.lst (rr.2.map fun y=>csD y.1)) hp ⟨_,rfl,g3.isL⟩
    exact q ι' _ E1 R1 _ (by unfold Is; exact ⟨by simp,by rw [e0]⟩)
  . cases e
end
end Mi
namespace Hs
open PySem PySem.Spec PyProof.Rows Sem L2 Nk Ht
section
variable {prog:Program} {w:World} {A:Around} {E:Value->Shared->Prop} {s:Shared}
theorem Rw {h h':Heap} (kp:∀ c o,h.get? c=some o->h'.get? c=some o) (k:NK) (b:Addr) (x:(kind prog w).is h k b):(kind prog w).is h' k b:=⟨x.1.kept fun c o items n e _ _=>kp c o e,x.2⟩
end
end Hs
namespace Nk
open PySem PySem.Spec PyProof.Rows PySem.SeqAt
def Np (x:Cs):List Cs->List Cs
  | []=>[x]
  | y :: r=>if cLt x y=true then x :: y :: r else y :: Np x r
def Dk:List Cs->List Cs
  | []=>[]
  | x :: r=>Np x (Dk r)
theorem FV (x:Cs):∀ l,(Np x l).Perm (x :: l)
  | []=>List.Perm.refl _
  | y :: r=>by
    unfold Np
    split
    . exact List.Perm.refl _
    . exact ((FV x r).cons y).trans (List.Perm.swap x y r)
theorem Bc:∀ l,(Dk l).Perm l
  | []=>List.Perm.refl _
  | x :: r=>(FV x _).trans ((Bc r).cons x)
theorem QH {a b c:Cs} (h:cLt a b=true) (g:cLt b c=true):cLt a c=true:=LF h g
theorem SG (a:Cs):cLt a a=false:=F6 _
theorem SF {a b:Cs} (h:a ≠ b):cLt a b=true ∨ cLt b a=true:=Ix fun z=>h (KH z)
theorem Mf (x:Cs):∀ {l:List Cs},(∀ y ∈ l,y ≠ x)->l.Pairwise (fun x y=>cLt x y=true)->(Np x l).Pairwise fun x y=>cLt x y=true
  | [],_,_=>List.pairwise_singleton _ _
  | y :: r,hx,h=>by
    obtain ⟨h1,h2⟩:=List.pairwise_cons.mp h
    unfold Np
    split
    . rename_i hl
      exact List.pairwise_cons.mpr ⟨fun z hz=>(List.mem_cons.mp hz).elim (fun e=>e ▸ hl) fun hz=>QH hl (h1 z hz),h⟩
    . rename_i hl
      refine List.pairwise_cons.mpr ⟨fun z hz=>?_,Mf x (fun z hz=>hx z (List.mem_cons_of_mem _ hz)) h2⟩
      rcases List.mem_cons.mp ((FV x r).mem_iff.mp hz) with rfl | hz
      . exact (SF (hx y List.mem_cons_self)).resolve_right hl
      . exact h1 z hz
theorem F2:∀ {l:List Cs},l.Nodup->(Dk l).Pairwise fun x y=>cLt x y=true
  | [],_=>List.Pairwise.nil
  | x :: r,h=>by
    obtain ⟨h1,h2⟩:=List.nodup_cons.mp h
    exact Mf x (fun y hy e=>h1 (by rw [← e]; exact (Bc r).mem_iff.mp hy)) (F2 h2)
theorem Lr:∀ {xs ys:List Cs},xs.Pairwise (fun x y=>cLt x y=true)->ys.Pairwise (fun x y=>cLt x y=true)->xs.Perm ys->xs=ys
  | [],ys,_,_,p=>by cases p.symm.eq_nil; rfl
  | x :: xs,[],_,_,p=>by cases p.eq_nil
  | x :: xs,y :: ys,hx,hy,p=>by
    obtain ⟨x1,x2⟩:=List.pairwise_cons.mp hx
    obtain ⟨y1,y2⟩:=List.pairwise_cons.mp hy
    have e:x=y:=by
      rcases List.mem_cons.mp (p.mem_iff.mp List.mem_cons_self) with e | e
      . exact e
      . rcases List.mem_cons.mp (p.symm.mem_iff.mp List.mem_cons_self) with e' | e'
        . exact e'.symm
        . have:=QH (y1 x e) (x1 y e')
          rw [SG] at this
          cases this
    subst e
    rw [Lr x2 y2 (List.Perm.cons_inv p)]
theorem L1 {ks l:List Cs} (nd:l.Nodup) (p:ks.Perm l) (u:ks.Pairwise fun x y=>cLt x y=true):ks=Dk l:=Lr u (F2 nd) (p.trans (Bc l).symm)
section
variable {prog:Program} {w:World} {A:Around} {E:Value->Shared->Prop} {s:Shared}
theorem Jb {d:Addr} {o:Obj} {es:Array DictEntry} {ep:Nat} {ks:List Cs} {Q:Value->Shared->Prop} (hh:A.handled=none) (hu:A.units + 16 < cLine) (lo:(d == sysModules)=false) (ho:s.heap.get? d=some o) (ex:o.ExactDict) (hd:o.data=.dict es ep)
    (hk:Ats s.heap (ks.map csK) (es.toList.map (·.key))) (nd:ks.Nodup) (h64:es.size < 64)
    (q:∀ (h1 h':Heap) tk c (out:List Value) (ks':List Cs),(∀ b o,s.heap.get? b=some o->h1.get? b=some o)->(∀ b o,h1.get? b=some o->h'.get? b=some o)->h'.get? h1.objs.size=some (seqObj "list" out.toArray c)->Ats h1 (ks'.map csK) out->ks'=Dk ks->(∀ v ∈ out,v ∈ es.toList.map (·.key))->Q (.ref h1.objs.size) { s with heap:=h',toks:=tk }) :
    wpAny (model prog w) A (call (.builtin "sorted") [.ref d]) Q E s:=by
  refine Calls.call_function_entry kind_sorted plain_sorted entry_sorted (args_sorted1 _) ?_
  unfold Builtin.«sorted»
  refine wpAny_bind (wpAny_of_eq (a:=()) rfl ?_)
  refine wpAny_bind (PySem.W.kdu_collect (A:=A.in1) (JX lo ex hd) hh ho (by rw [sizeLine_eq]; omega) fun h1 t1 acc k1 it=>?_)
  have ek:=Gj it
  have hlen:acc.toList.length=es.size:=by rw [Array.length_toList]; exact it.1
  refine wpAny_bind (wpAny_newList ?_ (by rw [sizeLine_eq]; omega))
  have hL:(h1.push (seqObj "list" acc.toList.toArray 0)).get? h1.objs.size=some (seqObj "list" acc.toList.toArray 0):=Heap.get?_push_size _ rfl
  have kL:∀ b o,h1.get? b=some o->(h1.push (seqObj "list" acc.toList.toArray 0)).get? b=some o:=fun b o e=>Heap.get?_push_of_some _ e
  have hk1:Ats h1 (ks.map csK) acc.toList:=by rw [ek]; exact hk.kept fun b o items n e _ _=>k1 b o e
  have hkL:Ats (h1.push (seqObj "list" acc.toList.toArray 0)) (ks.map csK) acc.toList:=hk1.kept fun b o items n e _ _=>kL b o e
  refine wpAny_bind (wpAny_holding (wpAny_call_entry slot_list_sort ⟨_,hL,rfl⟩ entry_list_sort (L5 (s:={ s with heap:=h1.push (seqObj "list" acc.toList.toArray 0),toks:=t1 }) (by show A.units + 1 + 1 + 8 < cLine; omega) hL hkL nd (by omega) fun out ks' a1 a2 a3 a4=>⟨_,rfl,?_⟩) (args_list_sort _)))
  obtain ⟨c,hc⟩:=sortedHeap_at (out:=out.toArray) hL
  have em:=L1 nd a2 a3
  have a1':Ats h1 (ks'.map csK) out:=by
    refine Ats.of_get (by have:=a1.len; simpa using this) fun i k v e1 e2=>?_
    obtain ⟨v',f1,f2⟩:=a1.get i k e1
    rw [e2] at f1
    cases f1
    have hv:v ∈ acc.toList:=a4 v (List.mem_of_getElem? e2)
    obtain ⟨j,hj,ej⟩:=List.getElem_of_mem hv
    have hjk:j < ks.length:=by have:=hk1.len; simp at this; simp at hj; omega
    obtain ⟨v2,g1,g2⟩:=hk1.get j (csK ks[j]) (by simp [hjk])
    rw [List.getElem?_eq_getElem hj,ej] at g1
    cases g1
    have same:=At.inj (At.kept g2 fun b o items n e _ _=>kL b o e) f2
    rw [← same]
    exact g2
  exact wpAny_pure ⟨_,rfl,q h1 _ _ c out ks' k1 (fun b o e=>by rw [sortedHeap_old (Nat.ne_of_lt (Heap.lt_size e)) (Heap.lt_size (kL b o e))]; exact kL b o e) hc a1' em (fun v hv=>by rw [← ek]; exact a4 v hv)⟩
end
end Nk
set_option maxHeartbeats 4000000
namespace Hs
open PySem PySem.Spec PyProof.Rows PySem.SeqAt Nk Ht
section
variable {prog:Program} {w:World} {A:Around} {E:Value->Shared->Prop} {s:Shared}
theorem EL.ats {P:NK->Addr->Prop} {h:Heap} (hP:∀ k b,P k b->(kind prog w).is h k b):∀ {es:List (Int × Value)} {ks:List NK},EL P es ks->Ats h ks (es.map (·.2))
  | [],_,e=>by unfold EL at e; subst e; show Ats h [] []; unfold Ats; rfl
  | _ :: _,_,e=>by
    unfold EL at e
    obtain ⟨k,ks',b,rfl,rfl,hb,r⟩:=e
    show Ats h (k :: ks') (Value.ref b :: _)
    unfold Ats
    exact ⟨_,_,rfl,(hP k b hb).1,EL.ats hP r⟩
theorem Sh:∀ {ks:List NK},(∀ k ∈ ks,∃ c,k=csK c)->∃ ds:List Cs,ks=ds.map csK
  | [],_=>⟨[],rfl⟩
  | k :: ks,h=>by
    obtain ⟨c,rfl⟩:=h k List.mem_cons_self
    obtain ⟨ds,rfl⟩:=Sh fun x hx=>h x (List.mem_cons_of_mem _ hx)
    exact ⟨c :: ds,rfl⟩
theorem O4 {as bs:List Cs} (na:as.Nodup) (nb:bs.Nodup) (p:(as.map csK).Perm (bs.map csK)):as.Perm bs:=(List.perm_ext_iff_of_nodup na nb).mpr fun x=>by
  constructor
  . intro h
    obtain ⟨y,hy,e⟩:=List.mem_map.mp (p.mem_iff.mp (List.mem_map.mpr ⟨x,h,rfl⟩))
    rw [← C4 e]; exact hy
  . intro h
    obtain ⟨y,hy,e⟩:=List.mem_map.mp (p.mem_iff.mpr (List.mem_map.mpr ⟨x,h,rfl⟩))
    rw [← C4 e]; exact hy
theorem Iu {as:List Cs} (h:(as.map csK).Nodup):as.Nodup:=by
  rw [List.nodup_iff_pairwise_ne,List.pairwise_map] at h
  exact h.imp fun z e=>z (by rw [e])
theorem Ja {S:Addr} {cs:List Cs} {P:NK->Addr->Prop} {Q:Value->Shared->Prop} (hh:A.handled=none) (hu:A.units + 16 < cLine) (hP:∀ k b,P k b->(kind prog w).is s.heap k b) (nd:cs.Nodup) (h64:cs.length < 64) (hS:SetC w P s.heap S (cs.map csK))
    (q:∀ (h1 h':Heap) tk c (out:List Value),(∀ b o,s.heap.get? b=some o->h1.get? b=some o)->(∀ b o,h1.get? b=some o->h'.get? b=some o)->h'.get? h1.objs.size=some (seqObj "list" out.toArray c)->Ats h1 ((Dk cs).map csK) out->(∀ v ∈ out,∃ k b,v=.ref b /\ P k b)->Q (.ref h1.objs.size) { s with heap:=h',toks:=tk }) :
    wpAny (model prog w) A (call (.builtin "sorted") [.ref S]) Q E s:=by
  obtain ⟨o,es,ep,t,ns,ho,hex,hd,el,hp,T,g,hled⟩:=hS
  have small:es.size < 64:=by
    have:=el.len
    have h2:=hp.length_eq
    rw [List.length_map] at h2
    rw [Array.length_toList] at this
    omega
  refine Calls.call_function_entry kind_sorted plain_sorted entry_sorted (args_sorted1 _) ?_
  unfold Builtin.«sorted»
  refine wpAny_bind (wpAny_of_eq (a:=()) rfl ?_)
  refine wpAny_bind (PySem.W.kdu_collect (A:=A.in1) (L3 (S:=S) hex hd T hled) hh ho (by rw [sizeLine_eq]; omega) fun h1 t1 acc k1 it=>?_)
  have hacc:acc.toList=(wv w S ep es).toList.map (·.2):=by
    have h1':=it.1
    have h2':=Ef w S ep es
    refine List.ext_getElem (by simp [h1',h2']) fun i a b=>?_
    have hi:i < acc.size:=by simpa using a
    obtain ⟨e,g1,g2⟩:=it.2 i acc[i] (Array.getElem?_eq_getElem hi)
    have he:(wv w S ep es)[i]'(by omega)=e:=(Array.getElem?_eq_some_iff.mp g1).2
    simp [g2,← he]
  obtain ⟨js,hj,hjp⟩:=el.perm (IL w S ep es)
  have hjc:js.Perm (cs.map csK):=hjp.trans hp
  obtain ⟨ds,rfl⟩:=Sh (ks:=js) fun k hk=>by
    obtain ⟨c,_,e⟩:=List.mem_map.mp (hjc.mem_iff.mp hk)
    exact ⟨c,e.symm⟩
  have ndd:ds.Nodup:=Iu (hjc.nodup_iff.mpr (Hj nd))
  have hat:Ats s.heap (ds.map csK) acc.toList:=by rw [hacc]; exact hj.ats hP
  have hlen:acc.toList.length=es.size:=by rw [Array.length_toList]; exact it.1
  refine wpAny_bind (wpAny_newList ?_ (by rw [sizeLine_eq]; omega))
  have hL:(h1.push (seqObj "list" acc.toList.toArray 0)).get? h1.objs.size=some (seqObj "list" acc.toList.toArray 0):=Heap.get?_push_size _ rfl
  have kL:∀ b o,h1.get? b=some o->(h1.push (seqObj "list" acc.toList.toArray 0)).get? b=some o:=fun b o e=>Heap.get?_push_of_some _ e
  have hk1:Ats h1 (ds.map csK) acc.toList:=hat.kept fun b o items n e _ _=>k1 b o e
  have hkL:Ats (h1.push (seqObj "list" acc.toList.toArray 0)) (ds.map csK) acc.toList:=hk1.kept fun b o items n e _ _=>kL b o e
  refine wpAny_bind (wpAny_holding (wpAny_call_entry slot_list_sort ⟨_,hL,rfl⟩ entry_list_sort (L5 (s:={ s with heap:=h1.push (seqObj "list" acc.toList.toArray 0),toks:=t1 }) (by show A.units + 1 + 1 + 8 < cLine; omega) hL hkL ndd (by omega) fun out ks' a1 a2 a3 a4=>⟨_,rfl,?_⟩) (args_list_sort _)))
  obtain ⟨c,hc⟩:=sortedHeap_at (out:=out.toArray) hL
  have em:ks'=Dk cs:=L1 nd (a2.trans (O4 ndd nd hjc)) a3
  subst em
  have a1':Ats h1 ((Dk cs).map csK) out:=by
    refine Ats.of_get (by have:=a1.len; simpa using this) fun i k v e1 e2=>?_
    obtain ⟨v',f1,f2⟩:=a1.get i k e1
    rw [e2] at f1
    cases f1
    have hv:v ∈ acc.toList:=a4 v (List.mem_of_getElem? e2)
    obtain ⟨j,hj',ej⟩:=List.getElem_of_mem hv
    have hjk:j < ds.length:=by have:=hk1.len; simp at this; simp at hj'; omega
    obtain ⟨v2,g1,g2⟩:=hk1.get j (csK ds[j]) (by simp [hjk])
    rw [List.getElem?_eq_getElem hj',ej] at g1
    cases g1
    have same:=At.inj (At.kept g2 fun b o items n e _ _=>kL b o e) f2
    rw [← same]
    exact g2
  have src:∀ v ∈ out,∃ k b,v=.ref b /\ P k b:=fun v hv=>by
    have hv':=a4 v hv
    rw [hacc] at hv'
    obtain ⟨e,he,rfl⟩:=List.mem_map.mp hv'
    obtain ⟨i,hi,ei⟩:=List.getElem_of_mem he
    have hjl:=hj.len
    have hi2:i < (ds.map csK).length:=by omega
    obtain ⟨b,f1,f2⟩:=hj.at' i (ds.map csK)[i] (List.getElem?_eq_getElem hi2)
    rw [List.getElem?_eq_getElem hi,ei] at f1
    cases f1
    exact ⟨_,b,rfl,f2⟩
  exact wpAny_pure ⟨_,rfl,q h1 _ _ c out k1 (fun b o e=>by rw [sortedHeap_old (Nat.ne_of_lt (Heap.lt_size e)) (Heap.lt_size (kL b o e))]; exact kL b o e) hc a1' src⟩
end
end Hs
set_option maxHeartbeats 4000000
namespace Hs
open PySem PySem.Spec PyProof.Rows Nk PySem.SetTable Ht L2
section
variable {prog:Program} {w:World} {A:Around} {E:Value->Shared->Prop} {s:Shared}
end
end Hs
set_option maxHeartbeats 4000000
namespace Hs
open PySem PySem.Spec PyProof.Rows Nk PySem.SetTable Ht L2
section
variable {prog:Program} {w:World} {A:Around} {E:Value->Shared->Prop} {s:Shared}
end
end Hs
set_option maxHeartbeats 4000000
namespace Hs
open PySem PySem.Spec PyProof.Rows Nk PySem.SetTable Ht L2
section
variable {prog:Program} {w:World} {A:Around} {E:Value->Shared->Prop} {s:Shared}
end
end Hs
namespace Mi
open PySem L2 Ht Nk
section
variable {X:Cx} {e:Expr}
theorem Kb {pins:List (Addr × Obj)} {σ:St} {H:Hp} {s:Shared} {ι:Nat->Addr} {k:Nat} (I:Inv X pins σ H s):∀ {l:List (Cs × Addr × V)},(∀ y ∈ l,Is X.K ι k H (csD y.1) (.ref y.2.1))->Ats s.heap ((l.map (·.1)).map csK) (l.map fun y=>Value.ref y.2.1)
  | [],_=>by show Ats s.heap [] []; unfold Ats; rfl
  | y :: l,h=>by
    show Ats s.heap (csK y.1 :: (l.map (·.1)).map csK) (Value.ref y.2.1 :: l.map fun y=>Value.ref y.2.1)
    unfold Ats
    exact ⟨_,_,rfl,QK I (h y List.mem_cons_self) rfl,Kb I fun z hz=>h z (List.mem_cons_of_mem _ hz)⟩
theorem PB {pins:List (Addr × Obj)} {σ:St} {H:Hp} {s:Shared} {ι:Nat->Addr} {k:Nat} {h1:Heap} (I:Inv X pins σ H s) (kp:∀ b o,s.heap.get? b=some o->h1.get? b=some o) {l:List (Cs × Addr × V)} (hi:∀ y ∈ l,Is X.K ι k H (csD y.1) (.ref y.2.1)) :
    ∀ {out:List Value} {ks:List Cs},Ats h1 (ks.map csK) out->(∀ v ∈ out,v ∈ l.map fun y=>Value.ref y.2.1)->∃ vs,Vals vs out /\ IsL X.K ι k H (ks.map csD) vs
  | _,[],a,_=>by
    unfold List.map Ats at a
    subst a
    exact ⟨[],.nil,.nil⟩
  | _,c :: ks,a,m=>by
    unfold List.map Ats at a
    obtain ⟨v,out',rfl,a1,a2⟩:=a
    obtain ⟨vs,r,i⟩:=PB I kp hi a2 fun v hv=>m v (List.mem_cons_of_mem _ hv)
    obtain ⟨y,hy,rfl⟩:=List.mem_map.mp (m v List.mem_cons_self)
    have a3:=(QK I (hi y hy) rfl).kept (h':=h1) fun b o items n e _ _=>kp b o e
    have ec:=C4 (At.inj a3 a1)
    exact ⟨.ref y.2.1 :: vs,.cons rfl r,.cons (by rw [← ec]; exact hi y hy) i⟩
theorem LX {k0:Nat} (hr:Room k0 X.A) (hc:X.calm=true):BO X (.builtin "sorted") (fun xs H Q=>∃ p l ι k,xs=[.ref p] /\ H p=some (DQ p l) /\ (∀ y ∈ l,Is X.K ι k H (csD y.1) (.ref y.2.1)) /\ l.length < 64 /\ ∀ q vs,H q=none->IsL X.K ι k H ((Dk (l.map (·.1))).map csD) vs->Q (.ref q) (upd H q (.lst vs))):=by
  intro pins s σ H xs us Q I r h
  obtain ⟨p,l,ι,k,rfl,hp,hi,h64,q⟩:=h
  obtain ⟨u,rfl,ru⟩:=Fh r
  cases ru
  obtain ⟨us,o,es,ep,h0,h1,h2,h3,h4,h5,h6,h7⟩:=P4 I.hok hp
  have hl:l.length=us.length:=by have:=h0.length; simpa using this
  have hsz:es.size=l.length:=by rw [← Array.length_toList,h4,List.length_map,List.length_zip]; omega
  have ek:=Mp hl h4
  refine Jb (ks:=l.map (·.1)) (I.ok.hd hc) (by have:=hr.units; omega) h7 h1 h2 h3 (by rw [ek]; exact Kb I hi) h5 (by omega) fun g1 h' tk c out ks' k1 k2 e1 at' em sub=>?_
  subst em
  obtain ⟨vs,rv,iv⟩:=PB I k1 hi at' (by rw [← ek]; exact sub)
  have I1:=I.kept (t':=tk) k1
  have hz:vs.length <= sizeLine:=by
    have:=iv.length
    rw [this,List.length_map,(Bc _).length_eq,List.length_map]
    omega
  exact ⟨.ref g1.objs.size,_,I1.laid (t':=tk) (o:=.lst vs) k2 (Nat.le_refl _) ⟨hz,out,c,rv,e1⟩,rfl,q _ vs (I1.hok.fresh (Nat.le_refl _)) iv⟩
def IW:List D->M D
  | [d]=>bnd (JI d) fun r=>fun μ=>if r.2.length < 64 then some (.lst ((Dk (r.2.map (·.1))).map csD),μ) else none
  | _=>BD
theorem SD {k0:Nat} (hr:Room k0 X.A) (hc:X.calm=true):BO X (.builtin "sorted") (rMA X.K IW):=fun pins s σ H xs us Q I r h=>by
  obtain ⟨ι,μ,as,d,μ',R,ia,e,q⟩:=h
  unfold IW at e
  split at e
  . obtain ⟨rr,μ1,e1,e2⟩:=AI e
    obtain ⟨v,rfl,i1⟩:=FT ia
    obtain ⟨hm,_,g1,rfl,kvs,g2,g3⟩:=EH R i1 e1
    subst hm
    split at e2
    . rename_i hlt
      cases e2
      have hkl:kvs.length=rr.2.length:=by have:=congrArg List.length g3.keys; simpa using this
      refine LX hr hc pins s σ H _ us Q I r ⟨_,kvs,ι,_,rfl,g2,g3.at,by omega,fun p vs hp iv=>?_⟩
      rw [g3.keys] at iv
      exact MZ R iv q p hp
    . cases e2
  . cases e
def Oy:D->List D->M D
  | .ref n,[]=>HI n fun ds=>(ds[ds.length - 1]?).map fun d=>(d,ds.dropLast)
  | _,_=>BD
theorem IsL.dropLast {K:PySem.W.Frag} {ι:Nat->Addr} {k:Nat} {H:Hp} {ds:List D} {vs:List V} (h:IsL K ι k H ds vs):IsL K ι k H ds.dropLast vs.dropLast:=by
  rw [List.dropLast_eq_take,List.dropLast_eq_take,h.length]
  exact h.take _
theorem Vb:MtR X "list.pop" (rMM X.K Oy):=fun pins s σ H x xs v us Q I rx rs h=>by
  obtain ⟨ι,μ,a,as,d,μ',R,ia,ib,e,q⟩:=h
  unfold Oy at e
  split at e
  . rename_i n
    obtain ⟨ds,es,h1,h2,rfl⟩:=HX e
    cases hd:ds[ds.length - 1]? with
    | none=>rw [hd] at h2; cases h2
    | some d0=>
      rw [hd] at h2
      cases h2
      unfold IsL at ib
      subst ib
      unfold Is at ia
      obtain ⟨_,rfl⟩:=ia
      obtain ⟨u,g1,vs,rfl,g2⟩:=R.obj n _ h1
      obtain ⟨w,ew,iw⟩:=g2.get hd
      refine UH pins s σ H _ _ v us Q I rx rs ⟨_,vs,w,rfl,rfl,g1,by rw [g2.length]; exact ew,?_⟩
      exact Lq R h1 g2.dropLast iw q
  . cases e
def Fm (m:Sl->M D):Sl->M Bool:=fun τ=>bnd (m τ) fun d=>bnd (BL d) fun ds=>ret (!ds.isEmpty)
theorem MD {m:Sl->M D} (h:RE X e m) (he:∀ whole,isTrue e X.env whole=(do let v ← whole; standAt e.pos; holding [v] (truthy v)):=by intro _; rfl):RT X e (Fm m):=RT.wk (Ou h.pe he) fun σ H Q q=>by
  obtain ⟨ι,μ,τ,b,μ',R,S,e,q⟩:=q
  obtain ⟨x,μ1,e1,ee1⟩:=AI e
  obtain ⟨ds,μ2,e2,ee2⟩:=AI ee1
  cases ee2
  refine ⟨ι,μ,τ,x,μ1,R,S,e1,fun ι1 H1 E1 R1 v1 i1=>?_⟩
  obtain ⟨hm,p,vs,rfl,g1,g2⟩:=CH R1 i1 e2
  subst hm
  have hl:=g2.length
  have he:vs.isEmpty=ds.isEmpty:=by
    cases vs <;> cases ds <;> first | rfl | (simp at hl)
  refine ⟨!vs.isEmpty,?_,by rw [he]; exact q ι1 H1 E1 R1⟩
  rcases g1 with g1 | g1
  . exact .inl ⟨vs,g1,rfl⟩
  . exact .inr (.inl ⟨vs,g1,rfl⟩)
end
end Mi
namespace Mi
open PySem L2 Ht Nk PySem.SeqAt
section
variable {X:Cx} {e st:Expr} {pos p2:Pos}
end
def Ft:List D->Option (List Cs)
  | []=>some []
  | d :: r=>match HF d,Ft r with
    | some c,some cs=>some (c :: cs)
    | _,_=>none
theorem HE:∀ {ds:List D} {cs:List Cs},Ft ds=some cs->ds=cs.map csD
  | [],cs,e=>by cases e; rfl
  | d :: r,cs,e=>by
    unfold Ft at e
    split at e
    . rename_i c cs' h1 h2
      cases e
      rw [Fg h1,HE h2]
      rfl
    . cases e
theorem IJ:∀ (cs:List Cs),Ft (cs.map csD)=some cs
  | []=>rfl
  | c :: r=>by
    have h:∀ ns:List Int,CV (ns.map D.int)=some ns:=fun ns=>by
      induction ns with
      | nil=>rfl
      | cons n ns ih=>unfold List.map CV; rw [ih]; rfl
    have h1:HF (csD c)=some c:=by
      show (CV (c.2.2.map D.int)).map (fun ns=>(c.1,c.2.1,ns))=some c
      rw [h]; rfl
    show Ft (csD c :: r.map csD)=_
    unfold Ft
    rw [h1,IJ r]
section
variable {X:Cx}
end
end Mi
set_option maxHeartbeats 2000000
namespace Mi
open PySem PySem.Spec PyProof.Rows L2 Ht Nk Hs
def PC (K:PySem.W.Frag) (ι:Nat->Addr) (k:Nat) (H:Hp) (nk:NK) (b:Addr):Prop:=∃ c,nk=csK c /\ Is K ι k H (csD c) (.ref b)
def Je (K:PySem.W.Frag) (w:World) (p:Addr) (ι:Nat->Addr) (k:Nat) (H:Hp) (cs:List Cs):HO:=.ext fun h=>SetC w (PC K ι k H) h p (cs.map csK)
theorem Qw {α:Type} {p:List α->Prop} (h0:p []) (h1:∀ xs x,p xs->p (xs ++ [x])) (xs:List α):p xs:=by
  have h:∀ ys:List α,p ys.reverse:=fun ys=>by
    induction ys with
    | nil=>exact h0
    | cons y ys ih=>rw [List.reverse_cons]; exact h1 _ _ ih
  have:=h xs.reverse
  rw [List.reverse_reverse] at this
  exact this
theorem Jz (cs:List Cs):Az (cs.map csK)=(Az cs).map csK:=by
  refine Qw (p:=fun cs=>Az (cs.map csK)=(Az cs).map csK) rfl (fun xs x ih=>?_) cs
  show Az ((xs ++ [x]).map csK)=(Az (xs ++ [x])).map csK
  rw [List.map_append,List.map_cons,List.map_nil,FQ,FQ,ih]
  by_cases h:x ∈ Az xs
  . rw [if_pos (List.mem_map.mpr ⟨x,h,rfl⟩),if_pos h]
  . rw [if_neg fun z=>h (by obtain ⟨d,hd,e⟩:=List.mem_map.mp z; rw [← C4 e]; exact hd),if_neg h,List.map_append]
    rfl
theorem LI {X:Cx} {H:Hp} {ι:Nat->Addr} {k:Nat}:∀ {cs:List Cs} {vs:List V} {us:List Value},IsL X.K ι k H (cs.map csD) vs->Vals vs us->∀ (i:Nat) (u:Value),us[i]? = some u->∃ nk b,(cs.map csK)[i]? = some nk /\ u=.ref b /\ PC X.K ι k H nk b
  | [],_,_,i,r,j,u,e=>by
    unfold List.map IsL at i
    subst i
    cases r
    simp at e
  | c :: cs,_,_,i,r,j,u,e=>by
    unfold List.map IsL at i
    obtain ⟨v,vs',rfl,i1,i2⟩:=i
    cases r with
    | cons r1 r2=>
      cases j with
      | zero=>
        simp at e
        subst e
        have i1':=i1
        unfold csD Is at i1'
        obtain ⟨b,_,rfl,_⟩:=i1'
        cases r1
        exact ⟨csK c,b,rfl,rfl,c,rfl,i1⟩
      | succ j=>
        obtain ⟨nk,b,h1,h2,h3⟩:=LI i2 r2 j u (by simpa using e)
        exact ⟨nk,b,by simpa using h1,h2,h3⟩
section
variable {X:Cx}
theorem PC.is {pins:List (Addr × Obj)} {σ:L2.St} {H:Hp} {s:Shared} {ι:Nat->Addr} {k:Nat} (I:Inv X pins σ H s) {h:Heap} (kp:∀ c o,s.heap.get? c=some o->h.get? c=some o) (nk:NK) (b:Addr) (z:PC X.K ι k H nk b):(kind X.prog X.w).is h nk b:=by
  obtain ⟨c,rfl,i⟩:=z
  exact Rw kp _ _ (isC I i)
theorem WB {P:Program} {w:World} {K:PySem.W.Frag} {H' H:Hp} {h:Heap} {p:Addr} {ι:Nat->Addr} {k:Nat} {cs:List Cs} (z:SetC w (PC K ι k H) h p (cs.map csK)):ObjOk P w H' h p (Je K w p ι k H cs):=by
  obtain ⟨o,es,ep,t,ns,e,rest⟩:=id z
  exact ⟨z,⟨o,e⟩,fun h1 h2 z k=>z.at k⟩
theorem LY {k0:Nat} (hr:Room k0 X.A) (hc:X.calm=true):BO X (.type "set") (fun xs H Q=>∃ a cs vs ι k,xs=[.ref a] /\ (SqL X.K H a vs ∨ SqT X.K H a vs) /\ IsL X.K ι k H (cs.map csD) vs /\ (Az cs).length <= 75 /\ ∀ p,H p=none->Q (.ref p) (upd H p (Je X.K X.w p ι k H (Az cs)))):=by
  intro pins s σ H xs us Q I r h
  obtain ⟨a,cs,vs,ι,k,rfl,ha,hi,room,q⟩:=h
  obtain ⟨u,rfl,ru⟩:=Vals.one r
  cases ru
  have hu:(kind X.prog X.w).room X.A.in1.in1.in1:=by
    have:=hr.un
    show X.A.units + 1 + 1 + 1 + 8 < cLine
    omega
  have hh:=I.ok.hd hc
  have room':(Az (cs.map csK)).length <= 75:=by rw [Jz,List.length_map]; exact room
  have fin:∀ h' tk,(∀ c o,s.heap.get? c=some o->h'.get? c=some o)->SetC X.w (PC X.K ι k H) h' s.heap.objs.size (Az (cs.map csK))->EP X pins σ Q (.ref s.heap.objs.size) { s with heap:=h',toks:=tk }:=fun h' tk kp hS=>by
    rw [Jz] at hS
    exact ⟨.ref s.heap.objs.size,_,I.laid (o:=Je X.K X.w s.heap.objs.size ι k H (Az cs)) kp (Nat.le_refl _) (WB hS),rfl,q _ (I.hok.fresh (Nat.le_refl _))⟩
  rcases ha with ha | ha
  . obtain ⟨its,rv,pl,hz⟩:=I.list ha
    have hl:=pl.isList
    have len:its.toArray.size=(cs.map csK).length:=by have h1:=rv.length; have h2:=hi.length; simp at *; omega
    exact IC (T := "list") (l:=a) (ns:=cs.map csK) (K:=PC X.K ι k H) hu (fun h kp nk b x=>PC.is I kp nk b x) (fp:=fun I=>[I,a]) (P:=fun i v=>its.toArray[i]? = some v) (St:=fun I i h=>h.IsListIter I a i /\ h.IsList a its.toArray) (itO:={ cls:=.type "list_iterator",data:=.fields #[.ref a,.int 0 0] }) PySem.F.sub_list_set PySem.F.sub_list_frozenset (by decide +kernel) (fun k=>(hl.at k).typeIs) (fun k z=>wpAny_pyIter_list (hl.at k) z) (fun I hI=>len ▸ Walks.list (by simp [hh]) I a hI its.toArray) (fun i v e=>LI hi rv i v (by simpa using e)) (fun I b hb=>by simpa using hb) (by obtain ⟨o,e,_⟩:=hl; exact ⟨o,e⟩) rfl (fun I e k=>⟨⟨_,e,rfl,rfl⟩,hl.at k⟩) room' fin
  . obtain ⟨its,rv,hl0,hz⟩:=I.tuple ha
    have hl:s.heap.IsTuple a its.toArray:=hl0
    have len:its.toArray.size=(cs.map csK).length:=by have h1:=rv.length; have h2:=hi.length; simp at *; omega
    exact IC (T := "tuple") (l:=a) (ns:=cs.map csK) (K:=PC X.K ι k H) hu (fun h kp nk b x=>PC.is I kp nk b x) (fp:=fun I=>[I,a]) (P:=fun i v=>its.toArray[i]? = some v) (St:=fun I i h=>h.IsTupleIter I a i /\ h.IsTuple a its.toArray) (itO:={ cls:=.type "tuple_iterator",data:=.fields #[.ref a,.int 0 0] }) Fi Fj (by decide +kernel) (fun k=>(hl.at k).typeIs) (fun k z=>wpAny_pyIter_tuple (hl.at k) z) (fun I hI=>len ▸ Walks.tuple (by simp [hh]) I a hI its.toArray) (fun i v e=>LI hi rv i v (by simpa using e)) (fun I b hb=>by simpa using hb) (by obtain ⟨o,e,_⟩:=hl; exact ⟨o,e⟩) rfl (fun I e k=>⟨⟨_,e,rfl,rfl⟩,hl.at k⟩) room' fin
end
end Mi
set_option maxHeartbeats 2000000
namespace Mi
open PySem PySem.Spec PyProof.Rows L2 Ht Nk Hs
section
variable {X:Cx} {e e2:Expr} {pos p p2 pos2 p3 pos3 pos4:Pos}
theorem PC.ext {K:PySem.W.Frag} {ι ι':Nat->Addr} {k k':Nat} {H H':Hp} (E:Ext ι k H ι' k' H') (nk:NK) (b:Addr) (z:PC K ι k H nk b):PC K ι' k' H' nk b:=by
  obtain ⟨c,h1,h2⟩:=z
  exact ⟨c,h1,h2.ext E⟩
theorem PD {pins:List (Addr × Obj)} {σ:L2.St} {H:Hp} {s:Shared} {ι:Nat->Addr} {k:Nat} {h1:Heap} (I:Inv X pins σ H s) (kp:∀ b o,s.heap.get? b=some o->h1.get? b=some o) :
    ∀ {out:List Value} {ks:List Cs},Ats h1 (ks.map csK) out->(∀ v ∈ out,∃ nk b,v=.ref b /\ PC X.K ι k H nk b)->∃ vs,Vals vs out /\ IsL X.K ι k H (ks.map csD) vs
  | _,[],a,_=>by
    unfold List.map Ats at a
    subst a
    exact ⟨[],.nil,.nil⟩
  | _,c :: ks,a,m=>by
    unfold List.map Ats at a
    obtain ⟨v,out',rfl,a1,a2⟩:=a
    obtain ⟨vs,r,i⟩:=PD I kp a2 fun v hv=>m v (List.mem_cons_of_mem _ hv)
    obtain ⟨nk,b,rfl,z⟩:=m v List.mem_cons_self
    have a3:=(PC.is I kp nk b z).1
    obtain ⟨c',rfl,i'⟩:=z
    have ec:=C4 (At.inj a3 a1)
    exact ⟨.ref b :: vs,.cons rfl r,.cons (by rw [← ec]; exact i') i⟩
theorem KT {k0:Nat} (hr:Room k0 X.A) (hc:X.calm=true):BO X (.builtin "sorted") (fun xs H Q=>∃ p cs ι k H0 ι2 k2,xs=[.ref p] /\ H p=some (Je X.K X.w p ι k H0 (Az cs)) /\ (∀ nk b,PC X.K ι k H0 nk b->PC X.K ι2 k2 H nk b) /\ (Az cs).length < 64 /\ ∀ l vs,H l=none->IsL X.K ι2 k2 H ((Dk (Az cs)).map csD) vs->Q (.ref l) (upd H l (.lst vs))):=by
  intro pins s σ H xs us Q I r h
  obtain ⟨p,cs,ι,k,H0,ι2,k2,rfl,hp,e1,hl18,q⟩:=h
  obtain ⟨u,rfl,ru⟩:=Vals.one r
  cases ru
  obtain ⟨hS,_⟩:=I.hok p _ hp
  refine Ja (I.ok.hd hc) (by have:=hr.un; omega) (fun nk b z=>PC.is I (fun _ _ e=>e) nk b (e1 nk b z)) (CC cs).1 hl18 hS fun h1 h' tk c out kp1 kp2 e2 a1 src=>?_
  obtain ⟨vs,rv,iv⟩:=PD (ι:=ι2) (k:=k2) I kp1 a1 fun v hv=>by
    obtain ⟨nk,b,h3,h4⟩:=src v hv
    exact ⟨nk,b,h3,e1 nk b h4⟩
  have I1:=I.kept (t':=tk) kp1
  have hz:vs.length <= sizeLine:=by
    have:=iv.length
    rw [this,List.length_map,(Bc _).length_eq,sizeLine_eq]
    omega
  exact ⟨.ref h1.objs.size,_,I1.laid (t':=tk) (o:=.lst vs) kp2 (Nat.le_refl _) ⟨hz,out,c,rv,e2⟩,rfl,q _ vs (I1.hok.fresh (Nat.le_refl _)) iv⟩
def FK (d:D):M D:=bnd (BL d) fun ds=>fun μ=>match Ft ds with
  | some cs=>if (Az cs).length < 64 then some (.lst ((Dk (Az cs)).map csD),μ) else none
  | none=>none
theorem Jp {m:Sl->M D} {k0:Nat} (hr:Room k0 X.A) (yl:X.mg "sorted" = none) (ys:X.mg "set" = none) (he:RE X e m) (hc:X.calm=true:=by rfl) (hgl:Gl X "sorted" := by rfl) (hgs:Gl X "set" := by rfl) (hst:Ea e=false:=by rfl) :
    RE X (.Call (.Name "sorted" p) [.Call (.Name "set" p2) [e] [] pos2] [] pos) (mUn FK m):=by
  have hs:PE X (.Call (.Name "set" p2) [e] [] pos2) _:=DJ (LY hr hc) hgs ys Mi.KZ (DY he.pe ET (Ai hst)) (by decide) (by decide) (Ai hst) rfl
  refine RE.wk (GX (KT hr hc) hgl yl PyProof.Rows.boot_sorted (DY hs ET (Ai rfl)) (by decide) (by decide) (Ai rfl) rfl) fun σ H Q h=>?_
  obtain ⟨ι,μ,τ,d,μ',R,S,ev,q⟩:=h
  obtain ⟨x,μ1,e1,e2⟩:=AI ev
  obtain ⟨ds,μ2,e3,e4⟩:=AI e2
  refine ⟨ι,μ,τ,x,μ1,R,S,e1,fun ι1 H1 E1 R1 v1 i1=>?_⟩
  obtain ⟨hm,a,vs,rfl,h1,h2⟩:=CH R1 i1 e3
  subst hm
  cases hx:Ft ds with
  | none=>rw [hx] at e4; cases e4
  | some cs=>
    rw [hx] at e4
    have e5:(if (Az cs).length < 64 then some (D.lst ((Dk (Az cs)).map csD),μ2) else none)=some (d,μ'):=e4
    split at e5
    . rename_i room
      cases e5
      cases HE hx
      refine ⟨a,cs,vs,ι1,_,rfl,h1,h2,by omega,fun p hp=>?_⟩
      obtain ⟨E2,R2⟩:=R1.laid (Je X.K X.w p ι1 _ H1 (Az cs)) hp
      refine ⟨p,cs,ι1,_,H1,ι1,_,rfl,A0,PC.ext E2,room,fun l ws hl iw=>MZ R2 iw (fun ι' H' E' R'=>q ι' H' ((E1.trans E2).trans E') R') l hl⟩
    . cases e5
end
end Mi
namespace L2
open PySem PySem.Spec PyProof.Rows
section
variable {X:Cx} {scope:Scope} {tgs:List Str} {ix:List Nat}
theorem Jx {i:Nat} {y:Str} {py:Pos} {elt tg iter:Expr} (co:Option Expr) {pos spos:Pos} {wi:TI} {g:TG} {tc:TT} {te:TE} (hN:X.N.Nodup) (hiN:X.N[i]? = some y) (hy:X.env.scope.names.lookup y=some .local)
    (S:BScope X scope tgs ix) (hc:X.calm=true) (hi:PI X tg iter wi) (hg:∀ fp C s H,PG (cxB X scope tgs fp C s H) tg g) (hgk:GK tgs.length g)
    (hif:∀ fp C s H,Lf (cxB X scope tgs fp C s H) co tc) (he:∀ fp C s H,PE (cxB X scope tgs fp C s H) elt te)
    (hsw:swapsWith (.ListComp elt [⟨tg,iter,co.toList,0⟩] scope pos) (some (.Name y py)) spos.line X.env=pure true:=by rfl) (hs:∀ x,foldedSetIterable iter X.env x=pure x:=by intro _; rfl) :
    PS X (.Assign [.Name y py] (.ListComp elt [⟨tg,iter,co.toList,0⟩] scope pos) spos) (OV (HZ tgs ix wi g tc te) (Di i)):=by
  intro pins s σ H D0 I h
  rw [exec_Assign_Name_used _ _ _ _ hsw]
  refine wpAny_bind (wpAny_standAt (wpAny_bind ?_))
  show wpAny _ X.A (do let _ ← comprehension (.ListComp elt [⟨tg,iter,co.toList,0⟩] scope pos) scope X.env _ (newList []) false (eval iter X.env) (some (assign (.Name y py) X.env))) _ _ s
  refine wpAny_bind (wpAny_mono (wpAny_comprehension_free (use:=some (assign (.Name y py) X.env)) (Q:=fun _ s'=>SP X pins D0 .next s') rfl hs (Bg (S.cells I.ok)) S.kind S.loc ?_) (fun _ s' hq=>wpAny_pure (wpAny_pure hq)) fun _ _ e=>e)
  refine thn (hi pins s σ H _ I h) fun v s1 h1=>thn h1 fun itv s2 h2=>?_
  obtain ⟨it,fp,tn,J,H2,e,I2,T,t0,f2,W,w0,turn⟩:=h2
  subst e
  refine Fs (Q:=fun x H1=>Di i x σ H1 D0.nx) (RR:=fun acc C=>compPost (model X.prog X.w) X.A X.xe (some (assign (.Name y py) X.env)) (fun _ s'=>SP X pins D0 .next s') acc C) S hc hg hgk hif he I2 T t0 f2 W w0 turn ?_
  intro D C s' H' m J1 q hn fC
  obtain ⟨f0,f1,f2,f3,f4,f5⟩:=fC
  show wpAny _ X.A (assign (.Name y py) X.env (.ref D)) _ _ _
  refine wpAny_assign_Name (FJ (v:=.ref D) J1 hN hiN (.inl hy) rfl (fun s'' I'' hsb=>?_) (.inr hy))
  obtain ⟨a,sb,ha⟩:=hsb
  have hCa:C ≠ a:=by
    rcases ha with z | z
    . rw [z]; exact f1
    . exact Ne.symm (f4 y a z)
  exact ⟨m,hn.sameBut sb hCa,fun h' sb'=>⟨_,H',I''.turned (t':=s''.toks) (fun b o hb e=>(sb'.2 b hb).trans e) f0 f1 f3 f4 f5,q⟩⟩
end
end L2
namespace Mi
open PySem L2
section
variable {X:Cx} {scope:Scope} {tgs:List Str} {ix:List Nat} {elt iter:Expr} {pos:Pos}
theorem C1 (co:Option Expr) (k:Nat) {n:Nat} {y:Str} {py spos:Pos} {es:List Expr} {kk:Nat} {tp:Pos} {is:List Nat} {src:Sl->M (List D)} {mc:Sl->M Bool} {me:Sl->M D} {fin:List D->M D} (hN:X.N.Nodup) (S:BScope X scope tgs ix) (hc:X.calm=true) (hi:RI X (.Tuple es kk tp) iter src) (hg:∀ fp C s H,PGs (cxB X scope tgs fp C s H) es (Dc is)) (hif:∀ fp C s H,Lf (cxB X scope tgs fp C s H) co (tT X.K mc)) (he:∀ fp C s H,RE (cxB X scope tgs fp C s H) elt me)
    (hfin:∀ ι μ μ' H ds vs d (Q:VK),RelH X.K ι μ H->IsL X.K ι μ.length H ds vs->fin ds μ=some (d,μ')->(Aft X.K ι μ H μ' fun ι' H'=>∀ v,Is X.K ι' μ'.length H' d v->Q v H')->vs.length <= sizeLine /\ ∀ p,H p=none->Q (.ref p) (upd H p (.lst vs)))
    (hlen:∀ fp C s H,(assignEach es (cxB X scope tgs fp C s H).env).length=is.length:=by intro _ _ _ _; rfl) (hst:∀ fp C s H,(assignEach es (cxB X scope tgs fp C s H).env).findIdx? (·.1)=none:=by intro _ _ _ _; rfl)
    (hiN:X.N[k]? = some y:=by rfl) (hy:X.env.scope.names.lookup y=some .local:=by rfl) (hin:∀ i ∈ is,i < tgs.length:=by decide) (hn:tgs.length=n:=by rfl)
    (hsw:swapsWith (.ListComp elt [⟨.Tuple es kk tp,iter,co.toList,0⟩] scope pos) (some (.Name y py)) spos.line X.env=pure true:=by rfl) (hs:∀ x,foldedSetIterable iter X.env x=pure x:=by intro _; rfl) :
    RS X (.Assign [.Name y py] (.ListComp elt [⟨.Tuple es kk tp,iter,co.toList,0⟩] scope pos) spos) (Ah (BA n ix src (Cz is) mc me fin) (AN k)):=
  RS.wk (Jx co (te:=tE X.K me) hN hiN hy S hc hi.pe (fun fp C s H=>K6 (X:=cxB X scope tgs fp C s H) hc (hg fp C s H) (hlen fp C s H) (hst fp C s H)) (Pk hin) hif (fun fp C s H=>(he fp C s H).pe) hsw hs) fun Dn σ H h=>by
    obtain ⟨ι,μ,τ,f,τ',μ',R,S,e,q⟩:=h
    obtain ⟨x,μ1,e1,e⟩:=AI e
    obtain ⟨τ1,μ2,e2,e⟩:=AI e
    cases e2
    cases e
    refine JV hn (fun _ _ _ _ h=>OT h) hfin ⟨ι,μ,τ,x,_,R,S,e1,fun ι1 H1 E1 R1 v i1=>?_⟩
    exact q ι1 H1 E1 R1 _ ((S.ext E1).set k i1)
end
end Mi
namespace K12
open PySem L2 Mi
def Ba:D:=.int (-1)
def EM:D:=.int (-2)
def CP:D:=.int (-2)
def Bn  : Sl->M (Fl × Sl):=
    (AT (Ah (mOp Cb (AH Dm (AD (mOp AQ (AB 0) (mC (.int 4))) AK)) (mC (.int 1))) (AN 1))
    (AT (sIf (AS (mOp As (mOp AQ (AB 0) (mC (.int 0))) (mC (.str "whole")))) (Ao (AH Al (AD (AH Al (AD (mOp AQ (AB 0) (mC (.int 2))) (AD (mC Ba) (AD (mOp GU (AH Al (AD (mC Ba) AK)) (AB 1)) AK)))) AK))) Bh)
    (Ao (AH Al (AD (mOp AQ (AB 0) (mC (.int 2))) (AD (mC Ba) (AD (mOp GU (AH Al (AD (mC .non) AK)) (AB 1)) AK)))))))
def BX (φ_case_begun:List D->M D) (φ_closed:List D->M D) (φ_beside:List D->M D):Sl->M (Fl × Sl):=
    (AT (sIf (AS (mOp As (mOp AQ (AB 0) (mC (.int 0))) (mC (.str "whole")))) (Ao (AH φ_closed (AD (BA 1 [2] (B4 (AB 1)) (AN 0) C3 (AH φ_case_begun (AD (AB 0) (AD (mC (.int 0)) (AD (AB 1) AK)))) Av) AK))) Bh)
    (AT (Ah (BA 1 [0,2] (B4 (mOp AQ (AB 1) (mC (.int 2)))) (AN 0) C3 (mIf (AS (mOp (Ju false) (AB 0) (mC .non))) (AB 0) (AH φ_beside (AD (mOp AQ (AB 1) (mC (.int 0))) (AD (mOp AQ (AB 1) (mC (.int 1))) (AD (AB 0) (AD (AB 2) AK)))))) Av) (AN 3))
    (Ao (AH Al (AD (mOp AQ (AB 1) (mC (.int 0))) (AD (AB 2) (AD (AH CU (AD (AB 3) AK)) AK)))))))
def BN (φ_cases_ended:List D->M D) (φ_closed:List D->M D):Sl->M (Fl × Sl):=
    (AT (sIf (AS (mOp As (mOp AQ (AB 0) (mC (.int 0))) (mC (.str "whole")))) (Ao (AH φ_closed (AD (AH φ_cases_ended (AD (AB 1) (AD (mC (.int 0)) (AD (mC Ba) AK)))) AK))) Bh)
    (Ao (AH Al (AD (mOp AQ (AB 1) (mC (.int 1))) (AD (mC Ba) (AD (mOp AQ (AB 1) (mC (.int 2))) AK))))))
def Bm (φ_case_begun:List D->M D) (φ_closed:List D->M D) (φ_beside:List D->M D) (φ_with_thing:List D->M D):Sl->M (Fl × Sl):=
    (AT (sIf (AS (mOp As (mOp AQ (AB 0) (mC (.int 0))) (mC (.str "whole")))) (Ao (AH φ_closed (AD (BA 1 [2] (B4 (AB 1)) (AN 0) C3 (AH φ_case_begun (AD (AB 0) (AD (mOp AU (AB 1) (mC (.int 1))) (AD (mC Ba) AK)))) Av) AK))) Bh)
    (AT (Ah (AH Al (AD (mOp AQ (AB 1) (mC (.int 0))) AK)) (AN 3))
    (AT (sIf (AS (mOp Fx (mOp AQ (AB 1) (mC (.int 1))) (mC Ba))) (Ah (AH φ_beside (AD (mOp AQ (AB 0) (mC (.int 0))) (AD (mOp AQ (AB 0) (mC (.int 1))) (AD (AB 3) (AD (mOp AQ (AB 1) (mC (.int 1))) AK))))) (AN 3)) Bh)
    (Ao (AH Al (AD (mOp AQ (AB 1) (mC (.int 0))) (AD (mOp AQ (AB 1) (mC (.int 1))) (AD (AH φ_with_thing (AD (mOp AQ (AB 1) (mC (.int 2))) (AD (AB 2) (AD (AB 3) AK)))) AK))))))))
def B3 (φ_cases_ended:List D->M D) (φ_closed:List D->M D) (φ_with_thing:List D->M D):Sl->M (Fl × Sl):=
    (AT (sIf (AS (mOp As (mOp AQ (AB 0) (mC (.int 0))) (mC (.str "whole")))) (AT (Ah (AH φ_cases_ended (AD (AB 1) (AD (mOp AU (AB 2) (mC (.int 1))) (AD (AB 3) AK)))) (AN 4))
    (Ao (mIf (Fm (AB 4)) (AH φ_closed (AD (AB 4) AK)) (mC .non)))) Bh)
    (AT (sIf (AS (mOp (Tl true) (AB 3) (mOp AQ (mOp AQ (AB 1) (mC (.int 2))) (AB 2)))) (Ao (mC .non)) Bh)
    (Ao (AH Al (AD (mOp AQ (AB 1) (mC (.int 0))) (AD (mOp AQ (AB 1) (mC (.int 1))) (AD (AH φ_with_thing (AD (mOp AQ (AB 1) (mC (.int 2))) (AD (AB 2) (AD (mC .non) AK)))) AK)))))))
def Ev  : Sl->M (Fl × Sl):=
    (AT (sIf (AS (mOp As (AB 0) (mC (.str "safe")))) (Ao (mUn (Oi D.tup) (AB 1))) Bh)
    (Ao (AH CU (AD (mUn JY (mOp AU (AB 2) (AH Al (AD (AB 3) AK)))) AK))))
def A2  : Sl->M (Fl × Sl):=
    (Ao (mOp AU (mOp AU (DZ (AB 0) Br (CT (AB 1))) (AH Al (AD (AB 2) AK))) (DZ (AB 0) (CT (mOp AU (AB 1) (mC (.int 1)))) Br)))
def Bf (φ_with_thing:List D->M D):Sl->M (Fl × Sl):=
    (AT (sIf (AS (mOp As (AB 1) (mC (.int 0)))) (Ao (AH Al (AD (mOp AQ (AB 0) (mC (.int 0))) (AD (AB 2) (AD (mOp AQ (AB 0) (mC (.int 2))) AK))))) Bh)
    (Ao (AH Al (AD (mOp AQ (AB 0) (mC (.int 0))) (AD (mOp AQ (AB 0) (mC (.int 1))) (AD (AH φ_with_thing (AD (mOp AQ (AB 0) (mC (.int 2))) (AD (mOp Cb (AB 1) (mC (.int 1))) (AD (mC CP) AK)))) AK))))))
def Be (φ_with_thing:List D->M D):Sl->M (Fl × Sl):=
    (AT (sIf (AS (mOp As (AB 1) (mC (.int 0)))) (Ao (mIf (AS (mOp As (mOp AQ (AB 0) (mC (.int 1))) (mC EM))) (AH Al (AD (mOp AQ (AB 0) (mC (.int 0))) (AD (mC Ba) (AD (mOp AQ (AB 0) (mC (.int 2))) AK)))) (mC .non))) Bh)
    (Ao (mIf (AS (mOp As (mOp AQ (mOp AQ (AB 0) (mC (.int 2))) (mOp Cb (AB 1) (mC (.int 1)))) (AB 2))) (AH Al (AD (mOp AQ (AB 0) (mC (.int 0))) (AD (mOp AQ (AB 0) (mC (.int 1))) (AD (AH φ_with_thing (AD (mOp AQ (AB 0) (mC (.int 2))) (AD (mOp Cb (AB 1) (mC (.int 1))) (AD (mC Ba) AK)))) AK)))) (mC .non))))
def BP (φ_case_ended:List D->M D):Sl->M (Fl × Sl):=
    (AT (Ah (BA 1 [1,2] (B4 (AB 0)) (AN 0) C3 (AH φ_case_ended (AD (AB 0) (AD (AB 1) (AD (AB 2) AK)))) Av) (AN 3))
    (Ao (BA 1 [] (B4 (AB 3)) (AN 0) (AS (mOp (Ju true) (AB 0) (mC .non))) (AB 0) Av)))
def DL (φ_reached:List D->M D):Sl->M (Fl × Sl):=
    (Ao (AH CU (AD (AH IW (AD (AH φ_reached (AD (AB 0) AK)) AK)) AK)))
def Cd (φ_moments_from:List D->M D):Sl->M (Fl × Sl):=
    (AT (Ah PY (AN 1))
    (AT (ES (B4 (AB 0)) (AN 2) (Em (AB 1) (AB 2) (mC .non)))
    (AT (Ah (AH Iw (AD (AB 1) AK)) (AN 3))
    (AT (FL Aj (Fm (AB 3)) (AT (Ah (EB Oy (AB 3)) (AN 2))
    (Ji 1000 (AH φ_moments_from (AD (AB 2) AK)) (Cz [4,5]) (sIf (AS (mOp (LV true) (AB 5) (AB 1))) (AT (Em (AB 1) (AB 5) (AH Al (AD (AB 4) (AD (AB 2) AK))))
    (Bl (Aw C8 (AB 3) (AD (AB 5) AK)))) Bh))))
    (Ao (AB 1))))))
def A9 (φ_with_thing:List D->M D):Sl->M (Fl × Sl):=
    (AT (Ah (AH Eu AK) (AN 1))
    (AT (sIf (AS (mOp Jw (mOp AQ (AB 0) (mC (.int 1))) (mC (.int 0)))) (Bl (Aw C8 (AB 1) (AD (AH Al (AD (mC (.int 0)) (AD (AH Al (AD (mOp AQ (AB 0) (mC (.int 1))) (AD (mC EM) (AD (mOp AQ (AB 0) (mC (.int 2))) AK)))) AK))) AK))) Bh)
    (AT (ES (EW (AD (mOp AQ (AB 0) (mC (.int 2))) AK)) (Cz [2,3]) (sIf (AS (mOp As (AB 3) (mC CP))) (Bl (Aw C8 (AB 1) (AD (AH Al (AD (mOp AU (AB 2) (mC (.int 1))) (AD (AH Al (AD (mOp AQ (AB 0) (mC (.int 0))) (AD (mOp AQ (AB 0) (mC (.int 1))) (AD (AH φ_with_thing (AD (mOp AQ (AB 0) (mC (.int 2))) (AD (AB 2) (AD (mOp AQ (AB 0) (mC (.int 0))) AK)))) AK)))) AK))) AK))) Bh))
    (Ao (AB 1)))))
def CF  : Sl->M (Fl × Sl):=
    (AT (sIf (AS (mOp Jt (AB 1) (AH Dm (AD (AB 0) AK)))) (Ao (mOp AQ (AB 0) (AB 1))) Bh)
    (Ao (mC (.int 0))))
def Ce  : Sl->M (Fl × Sl):=
    (AT (Ah (AH Eu AK) (AN 2))
    (AT (Ah (mOp Ay (AB 0) (mC (.int 2))) (AN 3))
    (AT (FL Aj (FR (AS (mOp As (mOp A1 (AB 0) (mC (.int 2))) (mC (.int 0)))) (FR (AS (mOp Jv (AB 3) (mC (.int 0)))) (AS (mOp Jt (AH Dm (AD (AB 2) AK)) (AB 1))))) (AT (Bl (Aw C8 (AB 2) (AD (mOp A1 (AB 3) (mOp Fk (mC (.int 10)) (mC (.int 9)))) AK)))
    (Ah (mOp Ay (AB 3) (mOp Fk (mC (.int 10)) (mC (.int 9)))) (AN 3))))
    (AT (Ah (mOp A1 (mOp DI (mOp AU (mOp Ay (AB 0) (mC (.int 2))) (mC (.int 7919))) (mC (.int 48271))) (mC (.int 2147483647))) (AN 3))
    (AT (ES (Gc (AD (AB 1) AK)) (AN 4) (AT (Ah (mOp A1 (mOp DI (AB 3) (mOp AU (mOp AU (mOp Ay (AB 3) (mC (.int 1009))) (mC (.int 69621))) (AB 4))) (mC (.int 2147483647))) (AN 3))
    (AT (Bl (Aw C8 (AB 2) (AD (mOp A1 (mOp DI (AB 3) (mOp AU (mOp Ay (AB 3) (mC (.int 127))) (mC (.int 40009)))) (mC (.int 2147483629))) AK)))
    (Ah (mOp AU (AB 3) (mC (.int 1))) (AN 3)))))
    (Ao (DZ (AB 2) Br (CT (AB 1)))))))))
def DN  : Sl->M (Fl × Sl):=
    (AT (Ah (mOp AU (mC (.int 2)) (mOp A1 (mOp Ay (AB 0) (mC (.int 4))) (mC (.int 9)))) (AN 2))
    (AT (Ah (mOp AQ (AH Av (AD (AH Av (AD (mC (.str "w")) (AD (mC (.str "r")) (AD (mC (.str "s")) (AD (mC (.str "t")) AK))))) (AD (AH Av (AD (mC (.str "writer")) (AD (mC (.str "a")) (AD (mC (.str "ab")) (AD (mC (.str "b")) AK))))) (AD (AH Av (AD (mC (.str "z")) (AD (mC (.str "zz")) (AD (mC (.str "zzzzzzzz")) (AD (mC (.str "begin")) AK))))) AK)))) (mOp A1 (mOp Ay (AB 0) (mC (.int 36))) (mC (.int 3)))) (AN 3))
    (AT (Ah (mOp AU (mC (.int 1)) (mOp A1 (mOp Ay (AB 0) (mC (.int 108))) (mC (.int 3)))) (AN 4))
    (AT (Ah (BA 1 [] (B4 (DZ (AB 3) Br (CT (mOp AU (mC (.int 1)) (AB 4))))) (AN 0) C3 (AH Al (AD (AB 0) (AD (mC (.int 0)) (AD (AH Al AK) AK)))) Av) (AN 5))
    (Ao (AH Al (AD (AB 1) (AD (AB 2) (AD (mOp A1 (mOp Ay (AB 0) (mC (.int 324))) (AB 2)) (AD (AH Al AK) (AD (AH CU (AD (AB 5) AK)) AK)))))))))))
def Cf (φ_Lorders:List D->M D):Sl->M (Fl × Sl):=
    (AT (Ah (AH Av (AD (AH Av AK) AK)) (AN 1))
    (AT (ES (B4 (AB 0)) (AN 2) (AT (Ah (BA 1 [2] (B4 (AB 0)) (AN 0) (AS (mOp Fx (AB 0) (AB 1))) (AB 0) Av) (AN 3))
    (Ah (mOp AU (AB 1) (BA 1 [2] (B4 (AH φ_Lorders (AD (AB 3) AK))) (AN 0) C3 (mOp AU (AH Av (AD (AB 1) AK)) (AB 0)) Av)) (AN 1))))
    (Ao (AB 1))))
def Dy  : Sl->M (Fl × Sl):=
    (AT (Ah (AB 0) (Cz [2,3,4]))
    (AT (Ah (AH Pb (AD (AB 4) AK)) (AN 4))
    (AT (ES (B4 (AB 1)) (AN 5) (sIf (AS (mOp As (AB 5) (mC (.str "w")))) (AT (Ah (AB 3) (AN 2))
    (Ah (mUn Du (mC (.int 2))) (AN 3))) (Ah (AB 2) (SH (AB 4) (AB 5)))))
    (Ao (AH Al (AD (AB 2) (AD (AB 3) (AD (AH CU (AD (AB 4) AK)) AK))))))))
def Gb (φ_Lorders:List D->M D) (φ_Lmoved:List D->M D):Sl->M (Fl × Sl):=
    (AT (Ah (AH Av AK) (AN 1))
    (AT (ES (B4 (AB 0)) (AN 2) (AT (Ah (mOp K3 (mOp K2 (AH Av (AD (mC (.str "w")) AK)) (AH LK (AD (mOp Jw (mOp AQ (AB 2) (mC (.int 1))) (mC (.int 0))) AK))) (BA 2 [] (EW (AD (mOp AQ (AB 2) (mC (.int 2))) AK)) (Cz [0,1]) (AS (mOp As (AB 1) (mUn Du (mC (.int 2))))) (AB 0) Av)) (AN 3))
    (Ah (mOp AU (AB 1) (BA 1 [2] (B4 (AH φ_Lorders (AD (AB 3) AK))) (AN 0) C3 (AH φ_Lmoved (AD (AB 1) (AD (AB 0) AK))) Av)) (AN 1))))
    (Ao (AH CU (AD (mUn FK (AB 1)) AK)))))
def F5  : Sl->M (Fl × Sl):=
    (Ao (mOp AU (mOp AU (DZ (AB 0) Br (CT (AB 1))) (AH Al (AD (AB 2) AK))) (DZ (AB 0) (CT (mOp AU (AB 1) (mC (.int 1)))) Br)))
def Ew (φ_Lwith:List D->M D) (φ_claim_reads:List D->M D) (φ_Lall:List D->M D) (φ_claim_told:List D->M D):Sl->M (Fl × Sl):=
    (AT (sIf (AS (mOp As (mOp AQ (mOp AQ (mOp AQ (AB 2) (mC (.int 0))) (mC (.int 2))) (AB 3)) (mUn Du (mC (.int 1))))) (AT (Ah (BA 3 [3] (B4 (AB 2)) (Cz [0,1,2]) C3 (AH Al (AD (AB 0) (AD (AB 1) (AD (AH φ_Lwith (AD (AB 2) (AD (AB 3) (AD (mUn Du (mC (.int 2))) AK)))) AK)))) Av) (AN 5))
    (Ao (AH Al (AD (AH φ_claim_reads (AD (AB 0) (AD (AB 1) (AD (AB 3) AK)))) (AD (AH φ_Lall (AD (AB 5) AK)) AK))))) Bh)
    (AT (Ah (AH Eu AK) (AN 6))
    (AT (ES (Gc (AD (mOp AQ (AB 0) (mC (.int 1))) AK)) (AN 7) (AT (Ah (BA 1 [3,7] (B4 (AB 2)) (AN 0) (AS (mOp As (mOp AQ (mOp AQ (AB 0) (mC (.int 2))) (AB 1)) (AB 2))) (AB 0) Av) (AN 5))
    (AT (sIf (AS (mOp Fx (mOp (Ju false) (AH φ_claim_told (AD (AB 0) (AD (AB 1) (AD (AB 3) (AD (AB 7) AK))))) (mC .non)) (mOp As (AB 5) (AH Av AK)))) (Ao (AH Al (AD (mC .non) (AD (AB 2) AK)))) Bh)
    (sIf (AS (mOp Fx (AB 5) (AH Av AK))) (Bl (Aw C8 (AB 6) (AD (AB 7) AK))) Bh))))
    (AT (sIf (AS (mOp As (AB 6) (AH Av AK))) (Ao (AH Al (AD (AB 1) (AD (AB 2) AK)))) Bh)
    (AT (Ah (mOp AQ (AB 6) (mOp A1 (AB 4) (AH Dm (AD (AB 6) AK)))) (AN 7))
    (AT (Ah (BA 3 [3,7] (B4 (AB 2)) (Cz [0,1,2]) (AS (mOp As (mOp AQ (AB 2) (AB 3)) (AB 4))) (AH Al (AD (AB 0) (AD (AB 1) (AD (AH φ_Lwith (AD (AB 2) (AD (AB 3) (AD (mUn Du (mC (.int 1))) AK)))) AK)))) Av) (AN 5))
    (Ao (AH Al (AD (AH φ_claim_told (AD (AB 0) (AD (AB 1) (AD (AB 3) (AD (AB 7) AK))))) (AD (AH φ_Lall (AD (AB 5) AK)) AK))))))))))
def Cr (φ_claim_writes:List D->M D) (φ_Lall:List D->M D) (φ_claim_written:List D->M D):Sl->M (Fl × Sl):=
    (AT (sIf (AS (mOp As (mOp AQ (mOp AQ (AB 2) (mC (.int 0))) (mC (.int 1))) (mUn Du (mC (.int 1))))) (AT (Ah (mOp Cb (mC (.int 3)) (AH LK (AD (mOp Jv (AH Dm (AD (mOp AQ (AB 0) (mC (.int 4))) AK)) (mC (.int 3))) AK))) (AN 4))
    (AT (Ah (mOp AQ (AH Av (AD (mOp AQ (AB 0) (mC (.int 2))) (AD (mOp Cb (mOp AQ (AB 0) (mC (.int 1))) (mC (.int 1))) (AD (mOp A1 (mOp AU (mOp DI (mC (.int 3)) (mOp AQ (AB 0) (mC (.int 2)))) (mC (.int 1))) (mOp AQ (AB 0) (mC (.int 1)))) AK)))) (mOp A1 (AB 3) (AB 4))) (AN 5))
    (AT (Ah (BA 3 [5] (B4 (AB 2)) (Cz [0,1,2]) C3 (AH Al (AD (AB 0) (AD (AB 3) (AD (AB 2) AK)))) Av) (AN 6))
    (Ao (AH Al (AD (AH φ_claim_writes (AD (AB 0) (AD (AB 1) (AD (AB 5) AK)))) (AD (AH φ_Lall (AD (AB 6) AK)) AK))))))) Bh)
    (AT (Ah (BA 3 [] (B4 (AB 2)) (Cz [0,1,2]) (AS (mOp As (AB 1) (mUn Du (mC (.int 2))))) (AH Al (AD (AB 0) (AD (mUn Du (mC (.int 1))) (AD (AB 2) AK)))) Av) (AN 6))
    (Ao (AH Al (AD (AH φ_claim_written (AD (AB 0) (AD (AB 1) AK))) (AD (AH φ_Lall (AD (AB 6) AK)) AK))))))
def Ex (φ_Lwritten:List D->M D) (φ_Lread:List D->M D):Sl->M (Fl × Sl):=
    (AT (sIf (mOr (AS (mOp As (mOp A1 (AB 3) (mOp AU (mC (.int 1)) (AB 4))) (mC (.int 0)))) (AS (mOp As (mOp A1 (mOp Ay (AB 3) (mC (.int 4))) (mC (.int 4))) (mC (.int 0))))) (Ao (AH φ_Lwritten (AD (AB 0) (AD (AB 1) (AD (AB 2) (AD (mOp Ay (AB 3) (mC (.int 16))) AK)))))) Bh)
    (Ao (AH φ_Lread (AD (AB 0) (AD (AB 1) (AD (AB 2) (AD (mOp Cb (mOp A1 (AB 3) (mOp AU (mC (.int 1)) (AB 4))) (mC (.int 1))) (AD (mOp Ay (AB 3) (mC (.int 16))) AK))))))))
def Dz  : Sl->M (Fl × Sl):=
    (Ao (mOp As (mOp AQ (AB 0) (mC (.int 0))) (mOp AQ (AB 0) (mC (.int 1)))))
def J6 (φ_Lcell_at:List D->M D) (φ_Lmaking:List D->M D) (φ_claim_begun:List D->M D) (φ_Lstream:List D->M D) (φ_Ldeed:List D->M D) (φ_Lalike:List D->M D):Sl->M (Fl × Sl):=
    (AT (Ah (AH φ_Lcell_at (AD (AB 0) (AD (mC (.int 0)) AK))) (AN 1))
    (AT (Ah (AH φ_Lmaking (AD (AB 1) (AD (mC (.str "whole")) AK))) (AN 2))
    (AT (Ah (mOp AU (DZ (AB 2) Br (CT (mC (.int 4)))) (AH Al (AD (DZ (mOp AQ (AB 2) (mC (.int 4))) Br (CT (mOp AU (mC (.int 3)) (AH LK (AD (mOp As (mOp A1 (AB 1) (mC (.int 4))) (mC (.int 3))) AK))))) AK))) (AN 2))
    (AT (Ah (mOp Cb (AH Dm (AD (mOp AQ (AB 2) (mC (.int 4))) AK)) (mC (.int 1))) (AN 3))
    (AT (Ah (AH φ_claim_begun (AD (AB 2) AK)) (AN 4))
    (AT (Ah (AH Al (AD (AH Al (AD (mOp AQ (AB 2) (mC (.int 2))) (AD (mUn Du (mC (.int 1))) (AD (mOp GU (AH Al (AD (mUn Du (mC (.int 1))) AK)) (AB 3)) AK)))) AK)) (AN 5))
    (AT (ES (B4 (mOp AU (AH Av (AD (mC (.int 0)) AK)) (DZ (AB 0) (CT (mC (.int 1))) (CT (mOp Cb (mC (.int 13)) (mOp DI (mC (.int 5)) (AH LK (AD (mOp As (AB 3) (mC (.int 3))) AK)))))))) (AN 6) (AT (sIf (mOr (AS (mOp Fx (AB 4) (AB 5))) (Rn (AS (AH Me (AD (AB 4) (AD (mC (.ty "tuple")) AK)))))) (Ao (mC (.bl false))) Bh)
    (AT (Ah (mOp AQ (AH φ_Lstream (AD (AB 6) (AD (mC (.int 1)) AK))) (mC (.int 0))) (AN 7))
    (AT (Ah (AH CU (AD (BA 2 [7] (EW (AD (AB 5) AK)) (Cz [0,1]) (AS (mOp Jv (mOp A1 (mOp Ay (AB 2) (mOp AU (mC (.int 7)) (AB 0))) (mC (.int 3))) (mC (.int 0)))) (AB 1) Av) AK)) (AN 8))
    (AT (sIf (FR (AS (mOp Fx (AB 8) (AH Al AK))) (Rn (AS (AH φ_Lalike (AD (AH φ_Ldeed (AD (AB 2) (AD (AB 8) (AD (AB 8) (AD (AB 7) (AD (AB 3) AK)))))) AK))))) (Ao (mC (.bl false))) Bh)
    (Ah (AH φ_Ldeed (AD (AB 2) (AD (AB 4) (AD (AB 5) (AD (AB 7) (AD (AB 3) AK)))))) (Cz [4,5])))))))
    (Ao (mOp As (AB 4) (AB 5))))))))))
end K12
namespace K12
open PySem L2 Mi
def top (i:Nat):Stmt:=PySem.Challenge.pw_strongboxes_k12_claims_of_whole_boxes.main.body.getD i (.Pass ⟨0,0,0,0⟩)
section
variable {P:Program} {w:World} {K:PySem.W.Frag} {mg:Str->Option Value} {base:Heap}
abbrev Bj:Stmt:=top 4
theorem sc_claim_begun:Ac ["making", "readers"] ["making"] (AF Bj):=⟨rfl,rfl,rfl,by decide +kernel,rfl,by decide +kernel,by decide +kernel⟩
theorem HP  {k:Nat} {f:Addr} (y_len:mg "len" = none) (g_NONE:Glo K mg "NONE" Ba) (cdv:Value) (A:Around) (outer:List Env) (s:Shared) (H:Hp) (E:XK) (hr:Room k (A.deeper (PyProof.Rows.envOfC "claim_begun" (AF Bj) s.heap.objs.size f cdv))) :
    RSs (Bb CX0 P w K mg base ["making", "readers"] "claim_begun" (AF Bj) f cdv A outer s H E).nox (AX Bj) (Bn):=by
  have nd:=sc_claim_begun.nd
  exact (AJ (Af 1 nd (AO Et (CQ ID y_len Mi.DS (AC (AR Ag (AA 0) AE) AG)) AE))
      (AJ (BW (Ae (CB hr) (AR Ag (AA 0) AE) A5) (AL (Aa (Ab (AC (Ab (AC (AR Ag (AA 0) AE) (AC (DG g_NONE) (AC (AO K9 (Ab (AC (DG g_NONE) AG)) (AA 1)) AG)))) AG)))) Ar)
      (AL (Aa (Ab (AC (AR Ag (AA 0) AE) (AC (DG g_NONE) (AC (AO K9 (Ab (AC Cq AG)) (AA 1)) AG))))))))
abbrev BV:Stmt:=top 5
theorem sc_claim_writes:Ac ["making", "claim", "worth", "tells"] ["making", "claim", "worth"] (AF BV):=⟨rfl,rfl,rfl,by decide +kernel,rfl,by decide +kernel,by decide +kernel⟩
theorem GT {φ_case_begun:List D->M D} {k_case_begun:Nat} {φ_closed:List D->M D} {k_closed:Nat} {φ_beside:List D->M D} {k_beside:Nat} {k:Nat} {f:Addr} (F_case_begun:Fn P w K mg base "case_begun" ["case", "hand", "worth"] k_case_begun φ_case_begun) (hk_case_begun:k_case_begun <= k) (F_closed:Fn P w K mg base "closed" ["cases"] k_closed φ_closed) (hk_closed:k_closed <= k) (F_beside:Fn P w K mg base "beside" ["kind", "size", "worths", "coming"] k_beside φ_beside) (hk_beside:k_beside <= k) (y_tuple:mg "tuple" = none) (cdv:Value) (A:Around) (outer:List Env) (s:Shared) (H:Hp) (E:XK) (hr:Room k (A.deeper (PyProof.Rows.envOfC "claim_writes" (AF BV) s.heap.objs.size f cdv))) :
    RSs (Bb CX0 P w K mg base ["making", "claim", "worth", "tells"] "claim_writes" (AF BV) f cdv A outer s H E).nox (AX BV) (BX φ_case_begun φ_closed φ_beside):=by
  have nd:=sc_claim_writes.nd
  exact (AJ (BW (Ae (CB hr) (AR Ag (AA 0) AE) A5) (AL (Aa (Am (hkj:=hk_closed) F_closed hr (AC (En (tgs:=["case"]) (ix:=[2]) (i:=0) (n:=1) ⟨rfl,by decide +kernel,by decide +kernel,⟨Or.inl rfl,trivial⟩,rfl,by decide +kernel⟩ rfl (BE (AA 1)) (fun _ _ _ _=>AV (i:=0) (show List.Nodup (["case", "worth"]:List Str) from by decide +kernel) rfl (Or.inl rfl)) (fun _ _ _ _=>Co) (fun _ _ _ _=>(Am (hkj:=hk_case_begun) F_case_begun hr (AC (AA 0) (AC AE (AC (AA 1) AG)))))) AG)))) Ar)
      (AJ (Cn 3 (tgs:=["told"]) (ix:=[0,2]) (i:=0) (n:=1) nd ⟨rfl,by decide +kernel,by decide +kernel,⟨Or.inl rfl,Or.inl rfl,trivial⟩,rfl,by decide +kernel⟩ rfl (BE (AR Ag (AA 1) AE)) (fun _ _ _ _=>AV (i:=0) (show List.Nodup (["told", "making", "worth"]:List Str) from by decide +kernel) rfl (Or.inl rfl)) (fun _ _ _ _=>Co) (fun _ _ _ _=>(MH (Ae VZ (AA 0) Cq) (AA 0) (Am (hkj:=hk_beside) F_beside hr (AC (AR Ag (AA 1) AE) (AC (AR Ag (AA 1) AE) (AC (AA 0) (AC (AA 2) AG))))))) (fun _ _ _ _ _ _ _ _ R i e q=>BF R i e q))
      (AL (Aa (Ab (AC (AR Ag (AA 1) AE) (AC (AA 2) (AC (Au De y_tuple Mi.BK (AC (AA 3) AG)) AG))))))))
abbrev BM:Stmt:=top 6
theorem sc_claim_written:Ac ["making", "claim"] ["making", "claim"] (AF BM):=⟨rfl,rfl,rfl,by decide +kernel,rfl,by decide +kernel,by decide +kernel⟩
theorem Fw {φ_cases_ended:List D->M D} {k_cases_ended:Nat} {φ_closed:List D->M D} {k_closed:Nat} {k:Nat} {f:Addr} (F_cases_ended:Fn P w K mg base "cases_ended" ["cases", "hand", "worth"] k_cases_ended φ_cases_ended) (hk_cases_ended:k_cases_ended <= k) (F_closed:Fn P w K mg base "closed" ["cases"] k_closed φ_closed) (hk_closed:k_closed <= k) (g_NONE:Glo K mg "NONE" Ba) (cdv:Value) (A:Around) (outer:List Env) (s:Shared) (H:Hp) (E:XK) (hr:Room k (A.deeper (PyProof.Rows.envOfC "claim_written" (AF BM) s.heap.objs.size f cdv))) :
    RSs (Bb CX0 P w K mg base ["making", "claim"] "claim_written" (AF BM) f cdv A outer s H E).nox (AX BM) (BN φ_cases_ended φ_closed):=by
  have nd:=sc_claim_written.nd
  exact (AJ (BW (Ae (CB hr) (AR Ag (AA 0) AE) A5) (AL (Aa (Am (hkj:=hk_closed) F_closed hr (AC (Am (hkj:=hk_cases_ended) F_cases_ended hr (AC (AA 1) (AC AE (AC (DG g_NONE) AG)))) AG)))) Ar)
      (AL (Aa (Ab (AC (AR Ag (AA 1) AE) (AC (DG g_NONE) (AC (AR Ag (AA 1) AE) AG)))))))
abbrev Bi:Stmt:=top 7
theorem sc_claim_reads:Ac ["making", "claim", "reader", "told"] ["making", "claim", "reader"] (AF Bi):=⟨rfl,rfl,rfl,by decide +kernel,rfl,by decide +kernel,by decide +kernel⟩
theorem HN {φ_case_begun:List D->M D} {k_case_begun:Nat} {φ_closed:List D->M D} {k_closed:Nat} {φ_beside:List D->M D} {k_beside:Nat} {φ_with_thing:List D->M D} {k_with_thing:Nat} {k:Nat} {f:Addr} (F_case_begun:Fn P w K mg base "case_begun" ["case", "hand", "worth"] k_case_begun φ_case_begun) (hk_case_begun:k_case_begun <= k) (F_closed:Fn P w K mg base "closed" ["cases"] k_closed φ_closed) (hk_closed:k_closed <= k) (F_beside:Fn P w K mg base "beside" ["kind", "size", "worths", "coming"] k_beside φ_beside) (hk_beside:k_beside <= k) (F_with_thing:Fn P w K mg base "with_thing" ["things", "place", "thing"] k_with_thing φ_with_thing) (hk_with_thing:k_with_thing <= k) (g_NONE:Glo K mg "NONE" Ba) (cdv:Value) (A:Around) (outer:List Env) (s:Shared) (H:Hp) (E:XK) (hr:Room k (A.deeper (PyProof.Rows.envOfC "claim_reads" (AF Bi) s.heap.objs.size f cdv))) :
    RSs (Bb CX0 P w K mg base ["making", "claim", "reader", "told"] "claim_reads" (AF Bi) f cdv A outer s H E).nox (AX Bi) (Bm φ_case_begun φ_closed φ_beside φ_with_thing):=by
  have nd:=sc_claim_reads.nd
  exact (AJ (BW (Ae (CB hr) (AR Ag (AA 0) AE) A5) (AL (Aa (Am (hkj:=hk_closed) F_closed hr (AC (En (tgs:=["case"]) (ix:=[2]) (i:=0) (n:=1) ⟨rfl,by decide +kernel,by decide +kernel,⟨Or.inl rfl,trivial⟩,rfl,by decide +kernel⟩ rfl (BE (AA 1)) (fun _ _ _ _=>AV (i:=0) (show List.Nodup (["case", "reader"]:List Str) from by decide +kernel) rfl (Or.inl rfl)) (fun _ _ _ _=>Co) (fun _ _ _ _=>(Am (hkj:=hk_case_begun) F_case_begun hr (AC (AA 0) (AC (AO Aq (AA 1) AE) (AC (DG g_NONE) AG)))))) AG)))) Ar)
      (AJ (Af 3 nd (Ab (AC (AR Ag (AA 1) AE) AG)))
      (AJ (BW (Ae (Nf hr) (AR Ag (AA 1) AE) (DG g_NONE)) (AL (Af 3 nd (Am (hkj:=hk_beside) F_beside hr (AC (AR Ag (AA 0) AE) (AC (AR Ag (AA 0) AE) (AC (AA 3) (AC (AR Ag (AA 1) AE) AG))))))) Ar)
      (AL (Aa (Ab (AC (AR Ag (AA 1) AE) (AC (AR Ag (AA 1) AE) (AC (Am (hkj:=hk_with_thing) F_with_thing hr (AC (AR Ag (AA 1) AE) (AC (AA 2) (AC (AA 3) AG)))) AG)))))))))
abbrev Bz:Stmt:=top 8
theorem sc_claim_told:Ac ["making", "claim", "reader", "worth", "left"] ["making", "claim", "reader", "worth"] (AF Bz):=⟨rfl,rfl,rfl,by decide +kernel,rfl,by decide +kernel,by decide +kernel⟩
theorem Ih {φ_cases_ended:List D->M D} {k_cases_ended:Nat} {φ_closed:List D->M D} {k_closed:Nat} {φ_with_thing:List D->M D} {k_with_thing:Nat} {k:Nat} {f:Addr} (F_cases_ended:Fn P w K mg base "cases_ended" ["cases", "hand", "worth"] k_cases_ended φ_cases_ended) (hk_cases_ended:k_cases_ended <= k) (F_closed:Fn P w K mg base "closed" ["cases"] k_closed φ_closed) (hk_closed:k_closed <= k) (F_with_thing:Fn P w K mg base "with_thing" ["things", "place", "thing"] k_with_thing φ_with_thing) (hk_with_thing:k_with_thing <= k) (cdv:Value) (A:Around) (outer:List Env) (s:Shared) (H:Hp) (E:XK) (hr:Room k (A.deeper (PyProof.Rows.envOfC "claim_told" (AF Bz) s.heap.objs.size f cdv))) :
    RSs (Bb CX0 P w K mg base ["making", "claim", "reader", "worth", "left"] "claim_told" (AF Bz) f cdv A outer s H E).nox (AX Bz) (B3 φ_cases_ended φ_closed φ_with_thing):=by
  have nd:=sc_claim_told.nd
  exact (AJ (BW (Ae (CB hr) (AR Ag (AA 0) AE) A5) (AJ (Af 4 nd (Am (hkj:=hk_cases_ended) F_cases_ended hr (AC (AA 1) (AC (AO Aq (AA 2) AE) (AC (AA 3) AG)))))
      (AL (Aa (MH (MD (AA 4)) (Am (hkj:=hk_closed) F_closed hr (AC (AA 4) AG)) Cq)))) Ar)
      (AJ (BW (Ae Rk (AA 3) (AR Ag (AR Ag (AA 1) AE) (AA 2))) (AL (Aa Cq)) Ar)
      (AL (Aa (Ab (AC (AR Ag (AA 1) AE) (AC (AR Ag (AA 1) AE) (AC (Am (hkj:=hk_with_thing) F_with_thing hr (AC (AR Ag (AA 1) AE) (AC (AA 2) (AC Cq AG)))) AG))))))))
abbrev Dp:Stmt:=top 9
theorem sc_beside:Ac ["kind", "size", "worths", "coming"] ["kind", "size", "worths", "coming"] (AF Dp):=⟨rfl,rfl,rfl,by decide +kernel,rfl,by decide +kernel,by decide +kernel⟩
theorem Oq  {k:Nat} {f:Addr} (y_tuple:mg "tuple" = none) (y_range:mg "range" = none) (y_sorted:mg "sorted" = none) (y_set:mg "set" = none) (cdv:Value) (A:Around) (outer:List Env) (s:Shared) (H:Hp) (E:XK) (hr:Room k (A.deeper (PyProof.Rows.envOfC "beside" (AF Dp) s.heap.objs.size f cdv))) :
    RSs (Bb CX0 P w K mg base ["kind", "size", "worths", "coming"] "beside" (AF Dp) f cdv A outer s H E).nox (AX Dp) (Ev):=by
  have nd:=sc_beside.nd
  exact (AJ (BW (Ae (CB hr) (AA 0) A5) (AL (Aa (NS y_tuple y_range (AA 1)))) Ar)
      (AL (Aa (Au De y_tuple Mi.BK (AC (Ky y_sorted y_set (AO Aq (AA 2) (Ab (AC (AA 3) AG)))) AG)))))
abbrev By:Stmt:=top 10
theorem sc_with_thing:Ac ["things", "place", "thing"] ["things", "place", "thing"] (AF By):=⟨rfl,rfl,rfl,by decide +kernel,rfl,by decide +kernel,by decide +kernel⟩
theorem Ig  {k:Nat} {f:Addr}  (cdv:Value) (A:Around) (outer:List Env) (s:Shared) (H:Hp) (E:XK) (hr:Room k (A.deeper (PyProof.Rows.envOfC "with_thing" (AF By) s.heap.objs.size f cdv))) :
    RSs (Bb CX0 P w K mg base ["things", "place", "thing"] "with_thing" (AF By) f cdv A outer s H E).nox (AX By) (A2):=by
  have nd:=sc_with_thing.nd
  exact (AL (Aa (AO Aq (AO Aq (DX (AA 0) C2 (CK (AA 1))) (Ab (AC (AA 2) AG))) (DX (AA 0) (CK (AO Aq (AA 1) AE)) C2))))
abbrev B1:Stmt:=top 11
theorem sc_case_begun:Ac ["case", "hand", "worth"] ["case", "hand", "worth"] (AF B1):=⟨rfl,rfl,rfl,by decide +kernel,rfl,by decide +kernel,by decide +kernel⟩
theorem Ij {φ_with_thing:List D->M D} {k_with_thing:Nat} {k:Nat} {f:Addr} (F_with_thing:Fn P w K mg base "with_thing" ["things", "place", "thing"] k_with_thing φ_with_thing) (hk_with_thing:k_with_thing <= k) (g_WAITS:Glo K mg "WAITS" CP) (cdv:Value) (A:Around) (outer:List Env) (s:Shared) (H:Hp) (E:XK) (hr:Room k (A.deeper (PyProof.Rows.envOfC "case_begun" (AF B1) s.heap.objs.size f cdv))) :
    RSs (Bb CX0 P w K mg base ["case", "hand", "worth"] "case_begun" (AF B1) f cdv A outer s H E).nox (AX B1) (Bf φ_with_thing):=by
  have nd:=sc_case_begun.nd
  exact (AJ (BW (Ae (CB hr) (AA 1) AE) (AL (Aa (Ab (AC (AR Ag (AA 0) AE) (AC (AA 2) (AC (AR Ag (AA 0) AE) AG)))))) Ar)
      (AL (Aa (Ab (AC (AR Ag (AA 0) AE) (AC (AR Ag (AA 0) AE) (AC (Am (hkj:=hk_with_thing) F_with_thing hr (AC (AR Ag (AA 0) AE) (AC (AO Et (AA 1) AE) (AC (DG g_WAITS) AG)))) AG)))))))
abbrev B0:Stmt:=top 12
theorem sc_case_ended:Ac ["case", "hand", "worth"] ["case", "hand", "worth"] (AF B0):=⟨rfl,rfl,rfl,by decide +kernel,rfl,by decide +kernel,by decide +kernel⟩
theorem Ii {φ_with_thing:List D->M D} {k_with_thing:Nat} {k:Nat} {f:Addr} (F_with_thing:Fn P w K mg base "with_thing" ["things", "place", "thing"] k_with_thing φ_with_thing) (hk_with_thing:k_with_thing <= k) (g_HAD:Glo K mg "HAD" EM) (g_NONE:Glo K mg "NONE" Ba) (cdv:Value) (A:Around) (outer:List Env) (s:Shared) (H:Hp) (E:XK) (hr:Room k (A.deeper (PyProof.Rows.envOfC "case_ended" (AF B0) s.heap.objs.size f cdv))) :
    RSs (Bb CX0 P w K mg base ["case", "hand", "worth"] "case_ended" (AF B0) f cdv A outer s H E).nox (AX B0) (Be φ_with_thing):=by
  have nd:=sc_case_ended.nd
  exact (AJ (BW (Ae (CB hr) (AA 1) AE) (AL (Aa (MH (Ae (CB hr) (AR Ag (AA 0) AE) (DG g_HAD)) (Ab (AC (AR Ag (AA 0) AE) (AC (DG g_NONE) (AC (AR Ag (AA 0) AE) AG)))) Cq))) Ar)
      (AL (Aa (MH (Ae (CB hr) (AR Ag (AR Ag (AA 0) AE) (AO Et (AA 1) AE)) (AA 2)) (Ab (AC (AR Ag (AA 0) AE) (AC (AR Ag (AA 0) AE) (AC (Am (hkj:=hk_with_thing) F_with_thing hr (AC (AR Ag (AA 0) AE) (AC (AO Et (AA 1) AE) (AC (DG g_NONE) AG)))) AG)))) Cq))))
abbrev Bk:Stmt:=top 13
theorem sc_cases_ended:Ac ["cases", "hand", "worth", "ended"] ["cases", "hand", "worth"] (AF Bk):=⟨rfl,rfl,rfl,by decide +kernel,rfl,by decide +kernel,by decide +kernel⟩
theorem HQ {φ_case_ended:List D->M D} {k_case_ended:Nat} {k:Nat} {f:Addr} (F_case_ended:Fn P w K mg base "case_ended" ["case", "hand", "worth"] k_case_ended φ_case_ended) (hk_case_ended:k_case_ended <= k) (cdv:Value) (A:Around) (outer:List Env) (s:Shared) (H:Hp) (E:XK) (hr:Room k (A.deeper (PyProof.Rows.envOfC "cases_ended" (AF Bk) s.heap.objs.size f cdv))) :
    RSs (Bb CX0 P w K mg base ["cases", "hand", "worth", "ended"] "cases_ended" (AF Bk) f cdv A outer s H E).nox (AX Bk) (BP φ_case_ended):=by
  have nd:=sc_cases_ended.nd
  exact (AJ (Cn 3 (tgs:=["case"]) (ix:=[1,2]) (i:=0) (n:=1) nd ⟨rfl,by decide +kernel,by decide +kernel,⟨Or.inl rfl,Or.inl rfl,trivial⟩,rfl,by decide +kernel⟩ rfl (BE (AA 0)) (fun _ _ _ _=>AV (i:=0) (show List.Nodup (["case", "hand", "worth"]:List Str) from by decide +kernel) rfl (Or.inl rfl)) (fun _ _ _ _=>Co) (fun _ _ _ _=>(Am (hkj:=hk_case_ended) F_case_ended hr (AC (AA 0) (AC (AA 1) (AC (AA 2) AG))))) (fun _ _ _ _ _ _ _ _ R i e q=>BF R i e q))
      (AL (Aa (En (tgs:=["case"]) (ix:=[]) (i:=0) (n:=1) ⟨rfl,by decide +kernel,by decide +kernel,trivial,rfl,by decide +kernel⟩ rfl (BE (AA 3)) (fun _ _ _ _=>AV (i:=0) (show List.Nodup (["case"]:List Str) from by decide +kernel) rfl (Or.inl rfl)) (fun _ _ _ _=>GO (Ae Rl (AA 0) Cq)) (fun _ _ _ _=>(AA 0))))))
abbrev Do:Stmt:=top 14
theorem sc_closed:Ac ["cases"] ["cases"] (AF Do):=⟨rfl,rfl,rfl,by decide +kernel,rfl,by decide +kernel,by decide +kernel⟩
theorem Op {φ_reached:List D->M D} {k_reached:Nat} {k:Nat} {f:Addr} (F_reached:Fn P w K mg base "reached" ["cases"] k_reached φ_reached) (hk_reached:k_reached <= k) (y_sorted:mg "sorted" = none) (y_tuple:mg "tuple" = none) (cdv:Value) (A:Around) (outer:List Env) (s:Shared) (H:Hp) (E:XK) (hr:Room k (A.deeper (PyProof.Rows.envOfC "closed" (AF Do) s.heap.objs.size f cdv))) :
    RSs (Bb CX0 P w K mg base ["cases"] "closed" (AF Do) f cdv A outer s H E).nox (AX Do) (DL φ_reached):=by
  have nd:=sc_closed.nd
  exact (AL (Aa (Au De y_tuple Mi.BK (AC (CQ (SD hr rfl) y_sorted PyProof.Rows.boot_sorted (AC (Am (hkj:=hk_reached) F_reached hr (AC (AA 0) AG)) AG)) AG))))
abbrev DA:Stmt:=top 15
theorem sc_reached:Ac ["cases", "ways", "case", "waiting", "hand", "later"] ["cases"] (AF DA):=⟨rfl,rfl,rfl,by decide +kernel,rfl,by decide +kernel,by decide +kernel⟩
theorem NV {φ_moments_from:List D->M D} {k_moments_from:Nat} {k:Nat} {f:Addr} (F_moments_from:Fn P w K mg base "moments_from" ["case"] k_moments_from φ_moments_from) (hk_moments_from:k_moments_from <= k) (y_list:mg "list" = none) (cdv:Value) (A:Around) (outer:List Env) (s:Shared) (H:Hp) (E:XK) (hr:Room k (A.deeper (PyProof.Rows.envOfC "reached" (AF DA) s.heap.objs.size f cdv))) :
    RSs (Bb CX0 P w K mg base ["cases", "ways", "case", "waiting", "hand", "later"] "reached" (AF DA) f cdv A outer s H E).nox (AX DA) (Cd φ_moments_from):=by
  have nd:=sc_reached.nd
  exact (AJ (Af 1 nd Ol)
      (AJ (Ds PassesOwn.never rfl (BE (AA 0)) (DW 2 nd) (AL (ME hr (AA 1) (AA 2) Cq)))
      (AJ (Af 3 nd (Au (SE rfl) y_list Mi.IE (AC (AA 1) AG)))
      (AJ (Jk Aj PassesOwn.never (MD (AA 3)) (AJ (Af 2 nd (NT PySem.F.slot_list_pop PySem.F.type_list_pop Vb (AA 3)))
      (AL (Q2 1000 PassesOwn.never rfl (Am (hkj:=hk_moments_from) F_moments_from hr (AC (AA 2) AG)) (Ib (is:=[4,5]) rfl (Ad (AV (i:=4) nd rfl (by first | exact Or.inl rfl | exact Or.inr rfl)) (Ad (AV (i:=5) nd rfl (by first | exact Or.inl rfl | exact Or.inr rfl)) CL))) (AL (BW (Ae (PM hr) (AA 5) (AA 1)) (AJ (ME hr (AA 1) (AA 5) (Ab (AC (AA 4) (AC (AA 2) AG))))
      (AL (D9 (DF PySem.F.slot_list_append PySem.F.type_list_append DM (AA 3) (AC (AA 5) AG))))) Ar))))))
      (AL (Aa (AA 1)))))))
abbrev BU:Stmt:=top 16
theorem sc_moments_from:Ac ["case", "later", "reader", "told"] ["case"] (AF BU):=⟨rfl,rfl,rfl,by decide +kernel,rfl,by decide +kernel,by decide +kernel⟩
theorem GS {φ_with_thing:List D->M D} {k_with_thing:Nat} {k:Nat} {f:Addr} (F_with_thing:Fn P w K mg base "with_thing" ["things", "place", "thing"] k_with_thing φ_with_thing) (hk_with_thing:k_with_thing <= k) (y_enumerate:mg "enumerate" = none) (g_HAD:Glo K mg "HAD" EM) (g_WAITS:Glo K mg "WAITS" CP) (cdv:Value) (A:Around) (outer:List Env) (s:Shared) (H:Hp) (E:XK) (hr:Room k (A.deeper (PyProof.Rows.envOfC "moments_from" (AF BU) s.heap.objs.size f cdv))) :
    RSs (Bb CX0 P w K mg base ["case", "later", "reader", "told"] "moments_from" (AF BU) f cdv A outer s H E).nox (AX BU) (A9 φ_with_thing):=by
  have nd:=sc_moments_from.nd
  exact (AJ (Af 1 nd (Ic AG))
      (AJ (BW (Ae Va (AR Ag (AA 0) AE) AE) (AL (D9 (DF PySem.F.slot_list_append PySem.F.type_list_append DM (AA 1) (AC (Ab (AC AE (AC (Ab (AC (AR Ag (AA 0) AE) (AC (DG g_HAD) (AC (AR Ag (AA 0) AE) AG)))) AG))) AG)))) Ar)
      (AJ (Ds PassesOwn.never rfl (GP y_enumerate (AC (AR Ag (AA 0) AE) AG)) (Ib (is:=[2,3]) rfl (Ad (AV (i:=2) nd rfl (by first | exact Or.inl rfl | exact Or.inr rfl)) (Ad (AV (i:=3) nd rfl (by first | exact Or.inl rfl | exact Or.inr rfl)) CL))) (AL (BW (Ae (CB hr) (AA 3) (DG g_WAITS)) (AL (D9 (DF PySem.F.slot_list_append PySem.F.type_list_append DM (AA 1) (AC (Ab (AC (AO Aq (AA 2) AE) (AC (Ab (AC (AR Ag (AA 0) AE) (AC (AR Ag (AA 0) AE) (AC (Am (hkj:=hk_with_thing) F_with_thing hr (AC (AR Ag (AA 0) AE) (AC (AA 2) (AC (AR Ag (AA 0) AE) AG)))) AG)))) AG))) AG)))) Ar)))
      (AL (Aa (AA 1))))))
abbrev Cm:Stmt:=top 18
theorem sc_Lcell_at:Ac ["_law_script", "_law_k"] ["_law_script", "_law_k"] (AF Cm):=⟨rfl,rfl,rfl,by decide +kernel,rfl,by decide +kernel,by decide +kernel⟩
theorem K1  {k:Nat} {f:Addr} (y_len:mg "len" = none) (cdv:Value) (A:Around) (outer:List Env) (s:Shared) (H:Hp) (E:XK) (hr:Room k (A.deeper (PyProof.Rows.envOfC "_law_cell_at" (AF Cm) s.heap.objs.size f cdv))) :
    RSs (Bb CX0 P w K mg base ["_law_script", "_law_k"] "_law_cell_at" (AF Cm) f cdv A outer s H E).nox (AX Cm) (CF):=by
  have nd:=sc_Lcell_at.nd
  exact (AJ (BW (Ae VY (AA 1) (CQ ID y_len Mi.DS (AC (AA 0) AG))) (AL (Aa (AR Ag (AA 0) (AA 1)))) Ar)
      (AL (Aa AE)))
abbrev DB:Stmt:=top 19
theorem sc_Lstream:Ac ["_law_cell", "_law_many", "_law_found", "_law_number", "_law_k"] ["_law_cell", "_law_many"] (AF DB):=⟨rfl,rfl,rfl,by decide +kernel,rfl,by decide +kernel,by decide +kernel⟩
theorem NW  {k:Nat} {f:Addr} (y_len:mg "len" = none) (y_range:mg "range" = none) (cdv:Value) (A:Around) (outer:List Env) (s:Shared) (H:Hp) (E:XK) (hr:Room k (A.deeper (PyProof.Rows.envOfC "_law_stream" (AF DB) s.heap.objs.size f cdv))) :
    RSs (Bb CX0 P w K mg base ["_law_cell", "_law_many", "_law_found", "_law_number", "_law_k"] "_law_stream" (AF DB) f cdv A outer s H E).nox (AX DB) (Ce):=by
  have nd:=sc_Lstream.nd
  exact (AJ (Af 2 nd (Ic AG))
      (AJ (Af 3 nd (AO CA (AA 0) AE))
      (AJ (Jk Aj PassesOwn.never (RW.rt (Ku (Ae (CB hr) (AO CS (AA 0) AE) AE) (Ku (Ae UF (AA 3) AE) (MC (Ae VY (CQ ID y_len Mi.DS (AC (AA 2) AG)) (AA 1)))))) (AJ (D9 (DF PySem.F.slot_list_append PySem.F.type_list_append DM (AA 2) (AC (AO CS (AA 3) (AO SN AE AE)) AG)))
      (AL (Af 3 nd (AO CA (AA 3) (AO SN AE AE))))))
      (AJ (Af 3 nd (AO CS (AO Hh (AO Aq (AO CA (AA 0) AE) AE) AE) AE))
      (AJ (Ds PassesOwn.never rfl (Hc y_range (AC (AA 1) AG)) (DW 4 nd) (AJ (Af 3 nd (AO CS (AO Hh (AA 3) (AO Aq (AO Aq (AO CA (AA 3) AE) AE) (AA 4))) AE))
      (AJ (D9 (DF PySem.F.slot_list_append PySem.F.type_list_append DM (AA 2) (AC (AO CS (AO Hh (AA 3) (AO Aq (AO CA (AA 3) AE) AE)) AE) AG)))
      (AL (Af 3 nd (AO Aq (AA 3) AE))))))
      (AL (Aa (DX (AA 2) C2 (CK (AA 1))))))))))
abbrev DD:Stmt:=top 20
theorem sc_Lmaking:Ac ["_law_x", "_law_kind", "_law_size", "_law_names", "_law_readers", "_law_hands"] ["_law_x", "_law_kind"] (AF DD):=⟨rfl,rfl,rfl,by decide +kernel,rfl,by decide +kernel,by decide +kernel⟩
theorem NY  {k:Nat} {f:Addr} (y_tuple:mg "tuple" = none) (cdv:Value) (A:Around) (outer:List Env) (s:Shared) (H:Hp) (E:XK) (hr:Room k (A.deeper (PyProof.Rows.envOfC "_law_making" (AF DD) s.heap.objs.size f cdv))) :
    RSs (Bb CX0 P w K mg base ["_law_x", "_law_kind", "_law_size", "_law_names", "_law_readers", "_law_hands"] "_law_making" (AF DD) f cdv A outer s H E).nox (AX DD) (DN):=by
  have nd:=sc_Lmaking.nd
  exact (AJ (Af 2 nd (AO Aq AE (AO CS (AO CA (AA 0) AE) AE)))
      (AJ (Af 3 nd (AR Ag (B2 (AC (B2 (AC A5 (AC A5 (AC A5 (AC A5 AG))))) (AC (B2 (AC A5 (AC A5 (AC A5 (AC A5 AG))))) (AC (B2 (AC A5 (AC A5 (AC A5 (AC A5 AG))))) AG)))) (AO CS (AO CA (AA 0) AE) AE)))
      (AJ (Af 4 nd (AO Aq AE (AO CS (AO CA (AA 0) AE) AE)))
      (AJ (Cn 5 (tgs:=["_law_name"]) (ix:=[]) (i:=0) (n:=1) nd ⟨rfl,by decide +kernel,by decide +kernel,trivial,rfl,by decide +kernel⟩ rfl (BE (DX (AA 3) C2 (CK (AO Aq AE (AA 4))))) (fun _ _ _ _=>AV (i:=0) (show List.Nodup (["_law_name"]:List Str) from by decide +kernel) rfl (Or.inl rfl)) (fun _ _ _ _=>Co) (fun _ _ _ _=>(Ab (AC (AA 0) (AC AE (AC (Ab AG) AG))))) (fun _ _ _ _ _ _ _ _ R i e q=>BF R i e q))
      (AL (Aa (Ab (AC (AA 1) (AC (AA 2) (AC (AO CS (AO CA (AA 0) AE) (AA 2)) (AC (Ab AG) (AC (Au De y_tuple Mi.BK (AC (AA 5) AG)) AG))))))))))))
abbrev DC:Stmt:=top 23
theorem sc_Lorders:Ac ["_law_things", "_law_found", "_law_thing", "_law_rest"] ["_law_things"] (AF DC):=⟨rfl,rfl,rfl,by decide +kernel,rfl,by decide +kernel,by decide +kernel⟩
theorem NX {φ_Lorders:List D->M D} {k_Lorders:Nat} {k:Nat} {f:Addr} (F_Lorders:Fn P w K mg base "_law_orders" ["_law_things"] k_Lorders φ_Lorders) (hk_Lorders:k_Lorders <= k) (cdv:Value) (A:Around) (outer:List Env) (s:Shared) (H:Hp) (E:XK) (hr:Room k (A.deeper (PyProof.Rows.envOfC "_law_orders" (AF DC) s.heap.objs.size f cdv))) :
    RSs (Bb CX0 P w K mg base ["_law_things", "_law_found", "_law_thing", "_law_rest"] "_law_orders" (AF DC) f cdv A outer s H E).nox (AX DC) (Cf φ_Lorders):=by
  have nd:=sc_Lorders.nd
  exact (AJ (Af 1 nd (B2 (AC (B2 AG) AG)))
      (AJ (Ds PassesOwn.never rfl (BE (AA 0)) (DW 2 nd) (AJ (Cn 3 (tgs:=["_law_other"]) (ix:=[2]) (i:=0) (n:=1) nd ⟨rfl,by decide +kernel,by decide +kernel,⟨Or.inl rfl,trivial⟩,rfl,by decide +kernel⟩ rfl (BE (AA 0)) (fun _ _ _ _=>AV (i:=0) (show List.Nodup (["_law_other", "_law_thing"]:List Str) from by decide +kernel) rfl (Or.inl rfl)) (fun _ _ _ _=>GO (Ae (Nf hr) (AA 0) (AA 1))) (fun _ _ _ _=>(AA 0)) (fun _ _ _ _ _ _ _ _ R i e q=>BF R i e q))
      (AL (Af 1 nd (AO Aq (AA 1) (En (tgs:=["_law_order"]) (ix:=[2]) (i:=0) (n:=1) ⟨rfl,by decide +kernel,by decide +kernel,⟨Or.inl rfl,trivial⟩,rfl,by decide +kernel⟩ rfl (BE (Am (hkj:=hk_Lorders) F_Lorders hr (AC (AA 3) AG))) (fun _ _ _ _=>AV (i:=0) (show List.Nodup (["_law_order", "_law_thing"]:List Str) from by decide +kernel) rfl (Or.inl rfl)) (fun _ _ _ _=>Co) (fun _ _ _ _=>(AO Aq (B2 (AC (AA 1) AG)) (AA 0)))))))))
      (AL (Aa (AA 1)))))
abbrev Dq:Stmt:=top 24
theorem sc_Lmoved:Ac ["_law_case", "_law_order", "_law_worth_here", "_law_coming", "_law_tells", "_law_thing"] ["_law_case", "_law_order"] (AF Dq):=⟨rfl,rfl,rfl,by decide +kernel,rfl,by decide +kernel,by decide +kernel⟩
theorem Os  {k:Nat} {f:Addr} (y_list:mg "list" = none) (y_tuple:mg "tuple" = none) (cdv:Value) (A:Around) (outer:List Env) (s:Shared) (H:Hp) (E:XK) (hr:Room k (A.deeper (PyProof.Rows.envOfC "_law_moved" (AF Dq) s.heap.objs.size f cdv))) :
    RSs (Bb CX0 P w K mg base ["_law_case", "_law_order", "_law_worth_here", "_law_coming", "_law_tells", "_law_thing"] "_law_moved" (AF Dq) f cdv A outer s H E).nox (AX Dq) (Dy):=by
  have nd:=sc_Lmoved.nd
  exact (AJ (Kv (AA 0) (Ib (is:=[2,3,4]) rfl (Ad (AV (i:=2) nd rfl (by first | exact Or.inl rfl | exact Or.inr rfl)) (Ad (AV (i:=3) nd rfl (by first | exact Or.inl rfl | exact Or.inr rfl)) (Ad (AV (i:=4) nd rfl (by first | exact Or.inl rfl | exact Or.inr rfl)) CL)))))
      (AJ (Af 4 nd (Au Ua y_list Mi.IE (AC (AA 4) AG)))
      (AJ (Ds PassesOwn.never rfl (BE (AA 1)) (DW 5 nd) (AL (BW (Ae (CB hr) (AA 5) A5) (AJ (Af 2 nd (AA 3))
      (AL (Af 3 nd (EI EJ AE)))) (AL (Kv (AA 2) (Tg (AA 4) (AA 5)))))))
      (AL (Aa (Ab (AC (AA 2) (AC (AA 3) (AC (Au De y_tuple Mi.BK (AC (AA 4) AG)) AG)))))))))
abbrev GN:Stmt:=top 25
theorem sc_Lall:Ac ["_law_cases", "_law_found", "_law_case", "_law_open_ones"] ["_law_cases"] (AF GN):=⟨rfl,rfl,rfl,by decide +kernel,rfl,by decide +kernel,by decide +kernel⟩
theorem Tj {φ_Lorders:List D->M D} {k_Lorders:Nat} {φ_Lmoved:List D->M D} {k_Lmoved:Nat} {k:Nat} {f:Addr} (F_Lorders:Fn P w K mg base "_law_orders" ["_law_things"] k_Lorders φ_Lorders) (hk_Lorders:k_Lorders <= k) (F_Lmoved:Fn P w K mg base "_law_moved" ["_law_case", "_law_order"] k_Lmoved φ_Lmoved) (hk_Lmoved:k_Lmoved <= k) (y_int:mg "int" = none) (y_enumerate:mg "enumerate" = none) (y_sorted:mg "sorted" = none) (y_set:mg "set" = none) (y_tuple:mg "tuple" = none) (cdv:Value) (A:Around) (outer:List Env) (s:Shared) (H:Hp) (E:XK) (hr:Room k (A.deeper (PyProof.Rows.envOfC "_law_all" (AF GN) s.heap.objs.size f cdv))) :
    RSs (Bb CX0 P w K mg base ["_law_cases", "_law_found", "_law_case", "_law_open_ones"] "_law_all" (AF GN) f cdv A outer s H E).nox (AX GN) (Gb φ_Lorders φ_Lmoved):=by
  have nd:=sc_Lall.nd
  exact (AJ (Af 1 nd (B2 AG))
      (AJ (Ds PassesOwn.never rfl (BE (AA 0)) (DW 2 nd) (AJ (Af 3 nd (AO UG (AO UE (B2 (AC A5 AG)) (Au Mt y_int Mi.FE (AC (Dt Va (AR Ag (AA 2) AE) AE) AG))) (Jq (some _) (tgs:=["_law_k", "_law_told"]) (ix:=[]) (is:=[0,1]) (n:=2)  ⟨rfl,by decide +kernel,by decide +kernel,trivial,rfl,by decide +kernel⟩ rfl (GP y_enumerate (AC (AR Ag (AA 2) AE) AG)) (fun _ _ _ _=>(Ad (AV (i:=0) (show List.Nodup (["_law_k", "_law_told"]:List Str) from by decide +kernel) rfl (Or.inl rfl)) (Ad (AV (i:=1) (show List.Nodup (["_law_k", "_law_told"]:List Str) from by decide +kernel) rfl (Or.inl rfl)) CL))) (fun _ _ _ _=>Er (Ae (CB hr) (AA 1) (EI EJ AE))) (fun _ _ _ _=>(AA 0)))))
      (AL (Af 1 nd (AO Aq (AA 1) (En (tgs:=["_law_order"]) (ix:=[2]) (i:=0) (n:=1) ⟨rfl,by decide +kernel,by decide +kernel,⟨Or.inl rfl,trivial⟩,rfl,by decide +kernel⟩ rfl (BE (Am (hkj:=hk_Lorders) F_Lorders hr (AC (AA 3) AG))) (fun _ _ _ _=>AV (i:=0) (show List.Nodup (["_law_order", "_law_case"]:List Str) from by decide +kernel) rfl (Or.inl rfl)) (fun _ _ _ _=>Co) (fun _ _ _ _=>(Am (hkj:=hk_Lmoved) F_Lmoved hr (AC (AA 1) (AC (AA 0) AG))))))))))
      (AL (Aa (Au De y_tuple Mi.BK (AC (Jp hr y_sorted y_set (AA 1)) AG))))))
abbrev Ej:Stmt:=top 26
theorem sc_Lwith:Ac ["_law_tells", "_law_k", "_law_thing"] ["_law_tells", "_law_k", "_law_thing"] (AF Ej):=⟨rfl,rfl,rfl,by decide +kernel,rfl,by decide +kernel,by decide +kernel⟩
theorem RB  {k:Nat} {f:Addr}  (cdv:Value) (A:Around) (outer:List Env) (s:Shared) (H:Hp) (E:XK) (hr:Room k (A.deeper (PyProof.Rows.envOfC "_law_with" (AF Ej) s.heap.objs.size f cdv))) :
    RSs (Bb CX0 P w K mg base ["_law_tells", "_law_k", "_law_thing"] "_law_with" (AF Ej) f cdv A outer s H E).nox (AX Ej) (F5):=by
  have nd:=sc_Lwith.nd
  exact (AL (Aa (AO Aq (AO Aq (DX (AA 0) C2 (CK (AA 1))) (Ab (AC (AA 2) AG))) (DX (AA 0) (CK (AO Aq (AA 1) AE)) C2))))
abbrev Ek:Stmt:=top 27
theorem sc_Lread:Ac ["_law_making_here", "_law_claim", "_law_due", "_law_k", "_law_x", "_law_cases", "_law_left", "_law_worth_here"] ["_law_making_here", "_law_claim", "_law_due", "_law_k", "_law_x"] (AF Ek):=⟨rfl,rfl,rfl,by decide +kernel,rfl,by decide +kernel,by decide +kernel⟩
theorem RC {φ_Lwith:List D->M D} {k_Lwith:Nat} {φ_claim_reads:List D->M D} {k_claim_reads:Nat} {φ_Lall:List D->M D} {k_Lall:Nat} {φ_claim_told:List D->M D} {k_claim_told:Nat} {k:Nat} {f:Addr} (F_Lwith:Fn P w K mg base "_law_with" ["_law_tells", "_law_k", "_law_thing"] k_Lwith φ_Lwith) (hk_Lwith:k_Lwith <= k) (F_claim_reads:Fn P w K mg base "claim_reads" ["making", "claim", "reader"] k_claim_reads φ_claim_reads) (hk_claim_reads:k_claim_reads <= k) (F_Lall:Fn P w K mg base "_law_all" ["_law_cases"] k_Lall φ_Lall) (hk_Lall:k_Lall <= k) (F_claim_told:Fn P w K mg base "claim_told" ["making", "claim", "reader", "worth"] k_claim_told φ_claim_told) (hk_claim_told:k_claim_told <= k) (y_range:mg "range" = none) (y_len:mg "len" = none) (cdv:Value) (A:Around) (outer:List Env) (s:Shared) (H:Hp) (E:XK) (hr:Room k (A.deeper (PyProof.Rows.envOfC "_law_read" (AF Ek) s.heap.objs.size f cdv))) :
    RSs (Bb CX0 P w K mg base ["_law_making_here", "_law_claim", "_law_due", "_law_k", "_law_x", "_law_cases", "_law_left", "_law_worth_here"] "_law_read" (AF Ek) f cdv A outer s H E).nox (AX Ek) (Ew φ_Lwith φ_claim_reads φ_Lall φ_claim_told):=by
  have nd:=sc_Lread.nd
  exact (AJ (BW (Ae (CB hr) (AR Ag (AR Ag (AR Ag (AA 2) AE) AE) (AA 3)) (EI EJ AE)) (AJ (C1 none 5 (tgs:=["_law_worth_here", "_law_coming", "_law_tells"]) (ix:=[3]) (is:=[0,1,2]) (n:=3) nd ⟨rfl,by decide +kernel,by decide +kernel,⟨Or.inl rfl,trivial⟩,rfl,by decide +kernel⟩ rfl (BE (AA 2)) (fun _ _ _ _=>(Ad (AV (i:=0) (show List.Nodup (["_law_worth_here", "_law_coming", "_law_tells", "_law_k"]:List Str) from by decide +kernel) rfl (Or.inl rfl)) (Ad (AV (i:=1) (show List.Nodup (["_law_worth_here", "_law_coming", "_law_tells", "_law_k"]:List Str) from by decide +kernel) rfl (Or.inl rfl)) (Ad (AV (i:=2) (show List.Nodup (["_law_worth_here", "_law_coming", "_law_tells", "_law_k"]:List Str) from by decide +kernel) rfl (Or.inl rfl)) CL)))) (fun _ _ _ _=>Hd) (fun _ _ _ _=>(Ab (AC (AA 0) (AC (AA 1) (AC (Am (hkj:=hk_Lwith) F_Lwith hr (AC (AA 2) (AC (AA 3) (AC (EI EJ AE) AG)))) AG))))) (fun _ _ _ _ _ _ _ _ R i e q=>BF R i e q))
      (AL (Aa (Ab (AC (Am (hkj:=hk_claim_reads) F_claim_reads hr (AC (AA 0) (AC (AA 1) (AC (AA 3) AG)))) (AC (Am (hkj:=hk_Lall) F_Lall hr (AC (AA 5) AG)) AG)))))) Ar)
      (AJ (Af 6 nd (Ic AG))
      (AJ (Ds PassesOwn.never rfl (Hc y_range (AC (AR Ag (AA 0) AE) AG)) (DW 7 nd) (AJ (Cn 5 (tgs:=["_law_case"]) (ix:=[3,7]) (i:=0) (n:=1) nd ⟨rfl,by decide +kernel,by decide +kernel,⟨Or.inl rfl,Or.inl rfl,trivial⟩,rfl,by decide +kernel⟩ rfl (BE (AA 2)) (fun _ _ _ _=>AV (i:=0) (show List.Nodup (["_law_case", "_law_k", "_law_worth_here"]:List Str) from by decide +kernel) rfl (Or.inl rfl)) (fun _ _ _ _=>GO (Ae (CB hr) (AR Ag (AR Ag (AA 0) AE) (AA 1)) (AA 2))) (fun _ _ _ _=>(AA 0)) (fun _ _ _ _ _ _ _ _ R i e q=>BF R i e q))
      (AJ (BW (Ae (Nf hr) (Dt VZ (Am (hkj:=hk_claim_told) F_claim_told hr (AC (AA 0) (AC (AA 1) (AC (AA 3) (AC (AA 7) AG))))) Cq) (Dt (CB hr) (AA 5) (B2 AG))) (AL (Aa (Ab (AC Cq (AC (AA 2) AG))))) Ar)
      (AL (BW (Ae (Nf hr) (AA 5) (B2 AG)) (AL (D9 (DF PySem.F.slot_list_append PySem.F.type_list_append DM (AA 6) (AC (AA 7) AG)))) Ar)))))
      (AJ (BW (Ae (CB hr) (AA 6) (B2 AG)) (AL (Aa (Ab (AC (AA 1) (AC (AA 2) AG))))) Ar)
      (AJ (Af 7 nd (AR Ag (AA 6) (AO CS (AA 4) (CQ ID y_len Mi.DS (AC (AA 6) AG)))))
      (AJ (C1 (some _) 5 (tgs:=["_law_old", "_law_coming", "_law_tells"]) (ix:=[3,7]) (is:=[0,1,2]) (n:=3) nd ⟨rfl,by decide +kernel,by decide +kernel,⟨Or.inl rfl,Or.inl rfl,trivial⟩,rfl,by decide +kernel⟩ rfl (BE (AA 2)) (fun _ _ _ _=>(Ad (AV (i:=0) (show List.Nodup (["_law_old", "_law_coming", "_law_tells", "_law_k", "_law_worth_here"]:List Str) from by decide +kernel) rfl (Or.inl rfl)) (Ad (AV (i:=1) (show List.Nodup (["_law_old", "_law_coming", "_law_tells", "_law_k", "_law_worth_here"]:List Str) from by decide +kernel) rfl (Or.inl rfl)) (Ad (AV (i:=2) (show List.Nodup (["_law_old", "_law_coming", "_law_tells", "_law_k", "_law_worth_here"]:List Str) from by decide +kernel) rfl (Or.inl rfl)) CL)))) (fun _ _ _ _=>Er (Ae (CB hr) (AR Ag (AA 2) (AA 3)) (AA 4))) (fun _ _ _ _=>(Ab (AC (AA 0) (AC (AA 1) (AC (Am (hkj:=hk_Lwith) F_Lwith hr (AC (AA 2) (AC (AA 3) (AC (EI EJ AE) AG)))) AG))))) (fun _ _ _ _ _ _ _ _ R i e q=>BF R i e q))
      (AL (Aa (Ab (AC (Am (hkj:=hk_claim_told) F_claim_told hr (AC (AA 0) (AC (AA 1) (AC (AA 3) (AC (AA 7) AG))))) (AC (Am (hkj:=hk_Lall) F_Lall hr (AC (AA 5) AG)) AG)))))))))))
abbrev Ck:Stmt:=top 28
theorem sc_Lwritten:Ac ["_law_making_here", "_law_claim", "_law_due", "_law_x", "_law_few", "_law_worth_here", "_law_cases"] ["_law_making_here", "_law_claim", "_law_due", "_law_x"] (AF Ck):=⟨rfl,rfl,rfl,by decide +kernel,rfl,by decide +kernel,by decide +kernel⟩
theorem K0 {φ_claim_writes:List D->M D} {k_claim_writes:Nat} {φ_Lall:List D->M D} {k_Lall:Nat} {φ_claim_written:List D->M D} {k_claim_written:Nat} {k:Nat} {f:Addr} (F_claim_writes:Fn P w K mg base "claim_writes" ["making", "claim", "worth"] k_claim_writes φ_claim_writes) (hk_claim_writes:k_claim_writes <= k) (F_Lall:Fn P w K mg base "_law_all" ["_law_cases"] k_Lall φ_Lall) (hk_Lall:k_Lall <= k) (F_claim_written:Fn P w K mg base "claim_written" ["making", "claim"] k_claim_written φ_claim_written) (hk_claim_written:k_claim_written <= k) (y_len:mg "len" = none) (y_int:mg "int" = none) (cdv:Value) (A:Around) (outer:List Env) (s:Shared) (H:Hp) (E:XK) (hr:Room k (A.deeper (PyProof.Rows.envOfC "_law_written" (AF Ck) s.heap.objs.size f cdv))) :
    RSs (Bb CX0 P w K mg base ["_law_making_here", "_law_claim", "_law_due", "_law_x", "_law_few", "_law_worth_here", "_law_cases"] "_law_written" (AF Ck) f cdv A outer s H E).nox (AX Ck) (Cr φ_claim_writes φ_Lall φ_claim_written):=by
  have nd:=sc_Lwritten.nd
  exact (AJ (BW (Ae (CB hr) (AR Ag (AR Ag (AA 2) AE) AE) (EI EJ AE)) (AJ (Af 4 nd (AO Et AE (Au Mt y_int Mi.FE (AC (Dt UF (CQ ID y_len Mi.DS (AC (AR Ag (AA 0) AE) AG)) AE) AG))))
      (AJ (Af 5 nd (AR Ag (B2 (AC (AR Ag (AA 0) AE) (AC (AO Et (AR Ag (AA 0) AE) AE) (AC (AO CS (AO Aq (AO Hh AE (AR Ag (AA 0) AE)) AE) (AR Ag (AA 0) AE)) AG)))) (AO CS (AA 3) (AA 4))))
      (AJ (C1 none 6 (tgs:=["_law_old", "_law_coming", "_law_tells"]) (ix:=[5]) (is:=[0,1,2]) (n:=3) nd ⟨rfl,by decide +kernel,by decide +kernel,⟨Or.inl rfl,trivial⟩,rfl,by decide +kernel⟩ rfl (BE (AA 2)) (fun _ _ _ _=>(Ad (AV (i:=0) (show List.Nodup (["_law_old", "_law_coming", "_law_tells", "_law_worth_here"]:List Str) from by decide +kernel) rfl (Or.inl rfl)) (Ad (AV (i:=1) (show List.Nodup (["_law_old", "_law_coming", "_law_tells", "_law_worth_here"]:List Str) from by decide +kernel) rfl (Or.inl rfl)) (Ad (AV (i:=2) (show List.Nodup (["_law_old", "_law_coming", "_law_tells", "_law_worth_here"]:List Str) from by decide +kernel) rfl (Or.inl rfl)) CL)))) (fun _ _ _ _=>Hd) (fun _ _ _ _=>(Ab (AC (AA 0) (AC (AA 3) (AC (AA 2) AG))))) (fun _ _ _ _ _ _ _ _ R i e q=>BF R i e q))
      (AL (Aa (Ab (AC (Am (hkj:=hk_claim_writes) F_claim_writes hr (AC (AA 0) (AC (AA 1) (AC (AA 5) AG)))) (AC (Am (hkj:=hk_Lall) F_Lall hr (AC (AA 6) AG)) AG)))))))) Ar)
      (AJ (C1 (some _) 6 (tgs:=["_law_old", "_law_coming", "_law_tells"]) (ix:=[]) (is:=[0,1,2]) (n:=3) nd ⟨rfl,by decide +kernel,by decide +kernel,trivial,rfl,by decide +kernel⟩ rfl (BE (AA 2)) (fun _ _ _ _=>(Ad (AV (i:=0) (show List.Nodup (["_law_old", "_law_coming", "_law_tells"]:List Str) from by decide +kernel) rfl (Or.inl rfl)) (Ad (AV (i:=1) (show List.Nodup (["_law_old", "_law_coming", "_law_tells"]:List Str) from by decide +kernel) rfl (Or.inl rfl)) (Ad (AV (i:=2) (show List.Nodup (["_law_old", "_law_coming", "_law_tells"]:List Str) from by decide +kernel) rfl (Or.inl rfl)) CL)))) (fun _ _ _ _=>Er (Ae (CB hr) (AA 1) (EI EJ AE))) (fun _ _ _ _=>(Ab (AC (AA 0) (AC (EI EJ AE) (AC (AA 2) AG))))) (fun _ _ _ _ _ _ _ _ R i e q=>BF R i e q))
      (AL (Aa (Ab (AC (Am (hkj:=hk_claim_written) F_claim_written hr (AC (AA 0) (AC (AA 1) AG))) (AC (Am (hkj:=hk_Lall) F_Lall hr (AC (AA 6) AG)) AG)))))))
abbrev El:Stmt:=top 29
theorem sc_Ldeed:Ac ["_law_making_here", "_law_claim", "_law_due", "_law_x", "_law_readers"] ["_law_making_here", "_law_claim", "_law_due", "_law_x", "_law_readers"] (AF El):=⟨rfl,rfl,rfl,by decide +kernel,rfl,by decide +kernel,by decide +kernel⟩
theorem RD {φ_Lwritten:List D->M D} {k_Lwritten:Nat} {φ_Lread:List D->M D} {k_Lread:Nat} {k:Nat} {f:Addr} (F_Lwritten:Fn P w K mg base "_law_written" ["_law_making_here", "_law_claim", "_law_due", "_law_x"] k_Lwritten φ_Lwritten) (hk_Lwritten:k_Lwritten <= k) (F_Lread:Fn P w K mg base "_law_read" ["_law_making_here", "_law_claim", "_law_due", "_law_k", "_law_x"] k_Lread φ_Lread) (hk_Lread:k_Lread <= k) (cdv:Value) (A:Around) (outer:List Env) (s:Shared) (H:Hp) (E:XK) (hr:Room k (A.deeper (PyProof.Rows.envOfC "_law_deed" (AF El) s.heap.objs.size f cdv))) :
    RSs (Bb CX0 P w K mg base ["_law_making_here", "_law_claim", "_law_due", "_law_x", "_law_readers"] "_law_deed" (AF El) f cdv A outer s H E).nox (AX El) (Ex φ_Lwritten φ_Lread):=by
  have nd:=sc_Ldeed.nd
  exact (AJ (BW (RW.rt (SL (Ae (CB hr) (AO CS (AA 3) (AO Aq AE (AA 4))) AE) (Od (Ae (CB hr) (AO CS (AO CA (AA 3) AE) AE) AE)))) (AL (Aa (Am (hkj:=hk_Lwritten) F_Lwritten hr (AC (AA 0) (AC (AA 1) (AC (AA 2) (AC (AO CA (AA 3) AE) AG))))))) Ar)
      (AL (Aa (Am (hkj:=hk_Lread) F_Lread hr (AC (AA 0) (AC (AA 1) (AC (AA 2) (AC (AO Et (AO CS (AA 3) (AO Aq AE (AA 4))) AE) (AC (AO CA (AA 3) AE) AG)))))))))
abbrev Dr:Stmt:=top 30
theorem sc_Lalike:Ac ["_law_both"] ["_law_both"] (AF Dr):=⟨rfl,rfl,rfl,by decide +kernel,rfl,by decide +kernel,by decide +kernel⟩
theorem Ot  {k:Nat} {f:Addr}  (cdv:Value) (A:Around) (outer:List Env) (s:Shared) (H:Hp) (E:XK) (hr:Room k (A.deeper (PyProof.Rows.envOfC "_law_alike" (AF Dr) s.heap.objs.size f cdv))) :
    RSs (Bb CX0 P w K mg base ["_law_both"] "_law_alike" (AF Dr) f cdv A outer s H E).nox (AX Dr) (Dz):=by
  have nd:=sc_Lalike.nd
  exact (AL (Aa (Dt (CB hr) (AR Ag (AA 0) AE) (AR Ag (AA 0) AE))))
abbrev Jg:Stmt:=top 31
theorem sc_law:Ac ["_law_script", "_law_first", "_law_making_here", "_law_readers", "_law_claim", "_law_due", "_law_cell", "_law_x", "_law_some"] ["_law_script"] (AF Jg):=⟨rfl,rfl,rfl,by decide +kernel,rfl,by decide +kernel,by decide +kernel⟩
theorem VD {φ_Lcell_at:List D->M D} {k_Lcell_at:Nat} {φ_Lmaking:List D->M D} {k_Lmaking:Nat} {φ_claim_begun:List D->M D} {k_claim_begun:Nat} {φ_Lstream:List D->M D} {k_Lstream:Nat} {φ_Ldeed:List D->M D} {k_Ldeed:Nat} {φ_Lalike:List D->M D} {k_Lalike:Nat} {k:Nat} {f:Addr} (F_Lcell_at:Fn P w K mg base "_law_cell_at" ["_law_script", "_law_k"] k_Lcell_at φ_Lcell_at) (hk_Lcell_at:k_Lcell_at <= k) (F_Lmaking:Fn P w K mg base "_law_making" ["_law_x", "_law_kind"] k_Lmaking φ_Lmaking) (hk_Lmaking:k_Lmaking <= k) (F_claim_begun:Fn P w K mg base "claim_begun" ["making"] k_claim_begun φ_claim_begun) (hk_claim_begun:k_claim_begun <= k) (F_Lstream:Fn P w K mg base "_law_stream" ["_law_cell", "_law_many"] k_Lstream φ_Lstream) (hk_Lstream:k_Lstream <= k) (F_Ldeed:Fn P w K mg base "_law_deed" ["_law_making_here", "_law_claim", "_law_due", "_law_x", "_law_readers"] k_Ldeed φ_Ldeed) (hk_Ldeed:k_Ldeed <= k) (F_Lalike:Fn P w K mg base "_law_alike" ["_law_both"] k_Lalike φ_Lalike) (hk_Lalike:k_Lalike <= k) (y_int:mg "int" = none) (y_len:mg "len" = none) (y_tuple:mg "tuple" = none) (y_isinstance:mg "isinstance" = none) (y_enumerate:mg "enumerate" = none) (cdv:Value) (A:Around) (outer:List Env) (s:Shared) (H:Hp) (E:XK) (hr:Room k (A.deeper (PyProof.Rows.envOfC "law" (AF Jg) s.heap.objs.size f cdv))) :
    RSs (Bb CX0 P w K mg base ["_law_script", "_law_first", "_law_making_here", "_law_readers", "_law_claim", "_law_due", "_law_cell", "_law_x", "_law_some"] "law" (AF Jg) f cdv A outer s H E).nox (AX Jg) (J6 φ_Lcell_at φ_Lmaking φ_claim_begun φ_Lstream φ_Ldeed φ_Lalike):=by
  have nd:=sc_law.nd
  exact (AJ (Af 1 nd (Am (hkj:=hk_Lcell_at) F_Lcell_at hr (AC (AA 0) (AC AE AG))))
      (AJ (Af 2 nd (Am (hkj:=hk_Lmaking) F_Lmaking hr (AC (AA 1) (AC A5 AG))))
      (AJ (Af 2 nd (AO Aq (DX (AA 2) C2 (CK AE)) (Ab (AC (DX (AR Ag (AA 2) AE) C2 (CK (AO Aq AE (Au Mt y_int Mi.FE (AC (Dt (CB hr) (AO CS (AA 1) AE) AE) AG))))) AG))))
      (AJ (Af 3 nd (AO Et (CQ ID y_len Mi.DS (AC (AR Ag (AA 2) AE) AG)) AE))
      (AJ (Af 4 nd (Am (hkj:=hk_claim_begun) F_claim_begun hr (AC (AA 2) AG)))
      (AJ (Af 5 nd (Ab (AC (Ab (AC (AR Ag (AA 2) AE) (AC (EI EJ AE) (AC (AO K9 (Ab (AC (EI EJ AE) AG)) (AA 3)) AG)))) AG)))
      (AJ (Ds PassesOwn.never rfl (BE (AO Aq (B2 (AC AE AG)) (DX (AA 0) (CK AE) (CK (AO Et AE (AO Hh AE (Au Mt y_int Mi.FE (AC (Dt (CB hr) (AA 3) AE) AG)))))))) (DW 6 nd) (AJ (BW (RW.rt (SL (Ae (Nf hr) (AA 4) (AA 5)) (Od (Of (Oe (CQ Ub y_isinstance Mi.Fz (AC (AA 4) (AC (Q9 y_tuple Mi.BK) AG)))))))) (AL (Aa SM)) Ar)
      (AJ (Af 7 nd (AR Ag (Am (hkj:=hk_Lstream) F_Lstream hr (AC (AA 6) (AC AE AG))) AE))
      (AJ (Af 8 nd (Au De y_tuple Mi.BK (AC (Jq (some _) (tgs:=["_law_k", "_law_case"]) (ix:=[7]) (is:=[0,1]) (n:=2)  ⟨rfl,by decide +kernel,by decide +kernel,⟨Or.inl rfl,trivial⟩,rfl,by decide +kernel⟩ rfl (GP y_enumerate (AC (AA 5) AG)) (fun _ _ _ _=>(Ad (AV (i:=0) (show List.Nodup (["_law_k", "_law_case", "_law_x"]:List Str) from by decide +kernel) rfl (Or.inl rfl)) (Ad (AV (i:=1) (show List.Nodup (["_law_k", "_law_case", "_law_x"]:List Str) from by decide +kernel) rfl (Or.inl rfl)) CL))) (fun _ _ _ _=>Er (Ae UF (AO CS (AO CA (AA 2) (AO Aq AE (AA 0))) AE) AE)) (fun _ _ _ _=>(AA 1))) AG)))
      (AJ (BW (RW.rt (Ku (Ae (Nf hr) (AA 8) (Ab AG)) (MC (Of (Oe (Am (hkj:=hk_Lalike) F_Lalike hr (AC (Am (hkj:=hk_Ldeed) F_Ldeed hr (AC (AA 2) (AC (AA 8) (AC (AA 8) (AC (AA 7) (AC (AA 3) AG)))))) AG))))))) (AL (Aa SM)) Ar)
      (AL (Kv (Am (hkj:=hk_Ldeed) F_Ldeed hr (AC (AA 2) (AC (AA 4) (AC (AA 5) (AC (AA 7) (AC (AA 3) AG)))))) (Ib (is:=[4,5]) rfl (Ad (AV (i:=4) nd rfl (by first | exact Or.inl rfl | exact Or.inr rfl)) (Ad (AV (i:=5) nd rfl (by first | exact Or.inl rfl | exact Or.inr rfl)) CL))))))))))
      (AL (Aa (Dt (CB hr) (AA 4) (AA 5)))))))))))
end
end K12
namespace K12
open PySem L2 Mi
noncomputable def CG:List D->M D:=Ak .drop 2 2 (CF)
noncomputable def EC:List D->M D:=Ak .drop 6 2 (DN)
noncomputable def CN:List D->M D:=Ak .drop 2 1 (Bn)
noncomputable def Cg:List D->M D:=Ak .drop 5 2 (Ce)
noncomputable def f_with_thing:List D->M D:=Ak .drop 3 3 (A2)
noncomputable def f_case_begun:List D->M D:=Ak .drop 3 3 (Bf f_with_thing)
noncomputable def BB:List D->M D:=Ak .all 4 1 (A9 f_with_thing)
noncomputable def DO:List D->M D:=Ak .all 6 1 (Cd BB)
noncomputable def f_closed:List D->M D:=Ak .drop 1 1 (DL DO)
noncomputable def Gw:List D->M D:=Ak .drop 4 4 (Ev)
noncomputable def B6:List D->M D:=Ak .drop 4 3 (BX f_case_begun f_closed Gw)
noncomputable def DP:Nat->List D->M D
  | 0=>fun _=>BD
  | n + 1=>Ak .drop 4 1 (Cf (DP n))
noncomputable def E6:List D->M D:=Ak .drop 6 2 (Dy)
noncomputable def FY:List D->M D:=Ak .drop 4 1 (Gb (DP 6) E6)
noncomputable def A4:List D->M D:=Ak .drop 3 3 (Be f_with_thing)
noncomputable def f_cases_ended:List D->M D:=Ak .drop 4 3 (BP A4)
noncomputable def Bo:List D->M D:=Ak .drop 2 2 (BN f_cases_ended f_closed)
noncomputable def Cu:List D->M D:=Ak .drop 7 4 (Cr B6 FY Bo)
noncomputable def JE:List D->M D:=Ak .drop 3 3 (F5)
noncomputable def CM:List D->M D:=Ak .drop 4 3 (Bm f_case_begun f_closed Gw f_with_thing)
noncomputable def B7:List D->M D:=Ak .drop 5 4 (B3 f_cases_ended f_closed f_with_thing)
noncomputable def F9:List D->M D:=Ak .drop 8 5 (Ew JE CM FY B7)
noncomputable def E7:List D->M D:=Ak .drop 5 5 (Ex Cu F9)
noncomputable def E8:List D->M D:=Ak .drop 1 1 (Dz)
noncomputable def KJ:List D->M D:=Ak .drop 9 1 (J6 CG EC CN Cg E7 E8)
end K12
namespace K12
open PySem L2 Mi
theorem Ug {l:PySem.W.OpenLaw} {w:World} {K:PySem.W.Frag} {h:Heap} {mg:Str->Option Value} {fa:Addr} (hφ:∀ ns:List Int,ns.length <= 63->∃ μ',KJ [.scr ns] []=some (.bl true,μ')) (X:K.In h) (G:h.Ns mainGlobals mg) (hfa:mg "law" = some (.ref fa))
    (e_Lcell_at:∃ f fd,Df K "_law_cell_at" Cm f fd)
    (e_Lmaking:∃ f fd,Df K "_law_making" DD f fd)
    (e_claim_begun:∃ f fd,Df K "claim_begun" Bj f fd)
    (e_Lstream:∃ f fd,Df K "_law_stream" DB f fd)
    (e_with_thing:∃ f fd,Df K "with_thing" By f fd)
    (e_case_begun:∃ f fd,Df K "case_begun" B1 f fd)
    (e_moments_from:∃ f fd,Df K "moments_from" BU f fd)
    (e_reached:∃ f fd,Df K "reached" DA f fd)
    (e_closed:∃ f fd,Df K "closed" Do f fd)
    (e_beside:∃ f fd,Df K "beside" Dp f fd)
    (e_claim_writes:∃ f fd,Df K "claim_writes" BV f fd)
    (e_Lorders:∃ f fd,Df K "_law_orders" DC f fd)
    (e_Lmoved:∃ f fd,Df K "_law_moved" Dq f fd)
    (e_Lall:∃ f fd,Df K "_law_all" GN f fd)
    (e_case_ended:∃ f fd,Df K "case_ended" B0 f fd)
    (e_cases_ended:∃ f fd,Df K "cases_ended" Bk f fd)
    (e_claim_written:∃ f fd,Df K "claim_written" BM f fd)
    (e_Lwritten:∃ f fd,Df K "_law_written" Ck f fd)
    (e_Lwith:∃ f fd,Df K "_law_with" Ej f fd)
    (e_claim_reads:∃ f fd,Df K "claim_reads" Bi f fd)
    (e_claim_told:∃ f fd,Df K "claim_told" Bz f fd)
    (e_Lread:∃ f fd,Df K "_law_read" Ek f fd)
    (e_Ldeed:∃ f fd,Df K "_law_deed" El f fd)
    (e_Lalike:∃ f fd,Df K "_law_alike" Dr f fd)
    (e_law:∃ f fd,Df K "law" Jg f fd)
    (z_enumerate:PySem.W.nsIn K mainGlobals "enumerate" = some none)
    (z_int:PySem.W.nsIn K mainGlobals "int" = some none)
    (z_isinstance:PySem.W.nsIn K mainGlobals "isinstance" = some none)
    (z_len:PySem.W.nsIn K mainGlobals "len" = some none)
    (z_list:PySem.W.nsIn K mainGlobals "list" = some none)
    (z_range:PySem.W.nsIn K mainGlobals "range" = some none)
    (z_set:PySem.W.nsIn K mainGlobals "set" = some none)
    (z_sorted:PySem.W.nsIn K mainGlobals "sorted" = some none)
    (z_tuple:PySem.W.nsIn K mainGlobals "tuple" = some none)
    (g_HAD:Glo K mg "HAD" EM)
    (g_NONE:Glo K mg "NONE" Ba)
    (g_WAITS:Glo K mg "WAITS" CP) :
    ∃ fd:FuncData,(∀ (s:Shared) (v:Value),BindsTo s fd ⟨[v],[]⟩ [("_law_script",v)]) /\ ∀ base:Heap,K.In base->base.Ns mainGlobals mg->FnOk l.prog w K mg base CX0 11 fa fd ["_law_script"] (L4 K):=by
  have y_enumerate:=PySem.W.mg_none_of X G z_enumerate
  have y_int:=PySem.W.mg_none_of X G z_int
  have y_isinstance:=PySem.W.mg_none_of X G z_isinstance
  have y_len:=PySem.W.mg_none_of X G z_len
  have y_list:=PySem.W.mg_none_of X G z_list
  have y_range:=PySem.W.mg_none_of X G z_range
  have y_set:=PySem.W.mg_none_of X G z_set
  have y_sorted:=PySem.W.mg_none_of X G z_sorted
  have y_tuple:=PySem.W.mg_none_of X G z_tuple
  obtain ⟨fa_Lcell_at,fd_Lcell_at,d_Lcell_at⟩:=e_Lcell_at
  have CF:=PySem.W.mg_of X G d_Lcell_at.a
  have b_Lcell_at:=d_Lcell_at.F.binds (ps:=["_law_script", "_law_k"]) fun _ _ _ _ _ _ us hl=>match us,hl with | [_,_],_=>rfl
  obtain ⟨fa_Lmaking,fd_Lmaking,d_Lmaking⟩:=e_Lmaking
  have DN:=PySem.W.mg_of X G d_Lmaking.a
  have b_Lmaking:=d_Lmaking.F.binds (ps:=["_law_x", "_law_kind"]) fun _ _ _ _ _ _ us hl=>match us,hl with | [_,_],_=>rfl
  obtain ⟨fa_claim_begun,fd_claim_begun,d_claim_begun⟩:=e_claim_begun
  have Bn:=PySem.W.mg_of X G d_claim_begun.a
  have b_claim_begun:=d_claim_begun.F.binds (ps:=["making"]) fun _ _ _ _ _ _ us hl=>match us,hl with | [_],_=>rfl
  obtain ⟨fa_Lstream,fd_Lstream,d_Lstream⟩:=e_Lstream
  have Ce:=PySem.W.mg_of X G d_Lstream.a
  have b_Lstream:=d_Lstream.F.binds (ps:=["_law_cell", "_law_many"]) fun _ _ _ _ _ _ us hl=>match us,hl with | [_,_],_=>rfl
  obtain ⟨fa_with_thing,fd_with_thing,d_with_thing⟩:=e_with_thing
  have A2:=PySem.W.mg_of X G d_with_thing.a
  have b_with_thing:=d_with_thing.F.binds (ps:=["things", "place", "thing"]) fun _ _ _ _ _ _ us hl=>match us,hl with | [_,_,_],_=>rfl
  obtain ⟨fa_case_begun,fd_case_begun,d_case_begun⟩:=e_case_begun
  have Bf:=PySem.W.mg_of X G d_case_begun.a
  have b_case_begun:=d_case_begun.F.binds (ps:=["case", "hand", "worth"]) fun _ _ _ _ _ _ us hl=>match us,hl with | [_,_,_],_=>rfl
  obtain ⟨fa_moments_from,fd_moments_from,d_moments_from⟩:=e_moments_from
  have A9:=PySem.W.mg_of X G d_moments_from.a
  have b_moments_from:=d_moments_from.F.binds (ps:=["case"]) fun _ _ _ _ _ _ us hl=>match us,hl with | [_],_=>rfl
  obtain ⟨fa_reached,fd_reached,d_reached⟩:=e_reached
  have Cd:=PySem.W.mg_of X G d_reached.a
  have b_reached:=d_reached.F.binds (ps:=["cases"]) fun _ _ _ _ _ _ us hl=>match us,hl with | [_],_=>rfl
  obtain ⟨fa_closed,fd_closed,d_closed⟩:=e_closed
  have DL:=PySem.W.mg_of X G d_closed.a
  have b_closed:=d_closed.F.binds (ps:=["cases"]) fun _ _ _ _ _ _ us hl=>match us,hl with | [_],_=>rfl
  obtain ⟨fa_beside,fd_beside,d_beside⟩:=e_beside
  have Ev:=PySem.W.mg_of X G d_beside.a
  have b_beside:=d_beside.F.binds (ps:=["kind", "size", "worths", "coming"]) fun _ _ _ _ _ _ us hl=>match us,hl with | [_,_,_,_],_=>rfl
  obtain ⟨fa_claim_writes,fd_claim_writes,d_claim_writes⟩:=e_claim_writes
  have BX:=PySem.W.mg_of X G d_claim_writes.a
  have b_claim_writes:=d_claim_writes.F.binds (ps:=["making", "claim", "worth"]) fun _ _ _ _ _ _ us hl=>match us,hl with | [_,_,_],_=>rfl
  obtain ⟨fa_Lorders,fd_Lorders,d_Lorders⟩:=e_Lorders
  have Cf:=PySem.W.mg_of X G d_Lorders.a
  have b_Lorders:=d_Lorders.F.binds (ps:=["_law_things"]) fun _ _ _ _ _ _ us hl=>match us,hl with | [_],_=>rfl
  obtain ⟨fa_Lmoved,fd_Lmoved,d_Lmoved⟩:=e_Lmoved
  have Dy:=PySem.W.mg_of X G d_Lmoved.a
  have b_Lmoved:=d_Lmoved.F.binds (ps:=["_law_case", "_law_order"]) fun _ _ _ _ _ _ us hl=>match us,hl with | [_,_],_=>rfl
  obtain ⟨fa_Lall,fd_Lall,d_Lall⟩:=e_Lall
  have Gb:=PySem.W.mg_of X G d_Lall.a
  have b_Lall:=d_Lall.F.binds (ps:=["_law_cases"]) fun _ _ _ _ _ _ us hl=>match us,hl with | [_],_=>rfl
  obtain ⟨fa_case_ended,fd_case_ended,d_case_ended⟩:=e_case_ended
  have Be:=PySem.W.mg_of X G d_case_ended.a
  have b_case_ended:=d_case_ended.F.binds (ps:=["case", "hand", "worth"]) fun _ _ _ _ _ _ us hl=>match us,hl with | [_,_,_],_=>rfl
  obtain ⟨fa_cases_ended,fd_cases_ended,d_cases_ended⟩:=e_cases_ended
  have BP:=PySem.W.mg_of X G d_cases_ended.a
  have b_cases_ended:=d_cases_ended.F.binds (ps:=["cases", "hand", "worth"]) fun _ _ _ _ _ _ us hl=>match us,hl with | [_,_,_],_=>rfl
  obtain ⟨fa_claim_written,fd_claim_written,d_claim_written⟩:=e_claim_written
  have BN:=PySem.W.mg_of X G d_claim_written.a
  have b_claim_written:=d_claim_written.F.binds (ps:=["making", "claim"]) fun _ _ _ _ _ _ us hl=>match us,hl with | [_,_],_=>rfl
  obtain ⟨fa_Lwritten,fd_Lwritten,d_Lwritten⟩:=e_Lwritten
  have Cr:=PySem.W.mg_of X G d_Lwritten.a
  have b_Lwritten:=d_Lwritten.F.binds (ps:=["_law_making_here", "_law_claim", "_law_due", "_law_x"]) fun _ _ _ _ _ _ us hl=>match us,hl with | [_,_,_,_],_=>rfl
  obtain ⟨fa_Lwith,fd_Lwith,d_Lwith⟩:=e_Lwith
  have F5:=PySem.W.mg_of X G d_Lwith.a
  have b_Lwith:=d_Lwith.F.binds (ps:=["_law_tells", "_law_k", "_law_thing"]) fun _ _ _ _ _ _ us hl=>match us,hl with | [_,_,_],_=>rfl
  obtain ⟨fa_claim_reads,fd_claim_reads,d_claim_reads⟩:=e_claim_reads
  have Bm:=PySem.W.mg_of X G d_claim_reads.a
  have b_claim_reads:=d_claim_reads.F.binds (ps:=["making", "claim", "reader"]) fun _ _ _ _ _ _ us hl=>match us,hl with | [_,_,_],_=>rfl
  obtain ⟨fa_claim_told,fd_claim_told,d_claim_told⟩:=e_claim_told
  have B3:=PySem.W.mg_of X G d_claim_told.a
  have b_claim_told:=d_claim_told.F.binds (ps:=["making", "claim", "reader", "worth"]) fun _ _ _ _ _ _ us hl=>match us,hl with | [_,_,_,_],_=>rfl
  obtain ⟨fa_Lread,fd_Lread,d_Lread⟩:=e_Lread
  have Ew:=PySem.W.mg_of X G d_Lread.a
  have b_Lread:=d_Lread.F.binds (ps:=["_law_making_here", "_law_claim", "_law_due", "_law_k", "_law_x"]) fun _ _ _ _ _ _ us hl=>match us,hl with | [_,_,_,_,_],_=>rfl
  obtain ⟨fa_Ldeed,fd_Ldeed,d_Ldeed⟩:=e_Ldeed
  have Ex:=PySem.W.mg_of X G d_Ldeed.a
  have b_Ldeed:=d_Ldeed.F.binds (ps:=["_law_making_here", "_law_claim", "_law_due", "_law_x", "_law_readers"]) fun _ _ _ _ _ _ us hl=>match us,hl with | [_,_,_,_,_],_=>rfl
  obtain ⟨fa_Lalike,fd_Lalike,d_Lalike⟩:=e_Lalike
  have Dz:=PySem.W.mg_of X G d_Lalike.a
  have b_Lalike:=d_Lalike.F.binds (ps:=["_law_both"]) fun _ _ _ _ _ _ us hl=>match us,hl with | [_],_=>rfl
  obtain ⟨fa_law,fd_law,d_law⟩:=e_law
  have J6:=PySem.W.mg_of X G d_law.a
  have b_law:=d_law.F.binds (ps:=["_law_script"]) fun _ _ _ _ _ _ us hl=>match us,hl with | [_],_=>rfl
  have e:=hfa.symm.trans J6
  cases e
  refine ⟨fd_law,fun s v=>?_,fun base _ _=>?_⟩
  . obtain ⟨oc,od,kV,doc,pm,an,cdv,ct,osl,rfl,lk,hcd⟩:=d_law.F.ex
    exact .of_eq rfl
  have F_Lcell_at:Fn l.prog w K mg base "_law_cell_at" ["_law_script", "_law_k"] 1 CG:=An (k:=0) .drop d_Lcell_at.F sc_Lcell_at CF b_Lcell_at (K1 y_len)
  have F_Lmaking:Fn l.prog w K mg base "_law_making" ["_law_x", "_law_kind"] 1 EC:=An (k:=0) .drop d_Lmaking.F sc_Lmaking DN b_Lmaking (NY y_tuple)
  have F_claim_begun:Fn l.prog w K mg base "claim_begun" ["making"] 1 CN:=An (k:=0) .drop d_claim_begun.F sc_claim_begun Bn b_claim_begun (HP y_len g_NONE)
  have F_Lstream:Fn l.prog w K mg base "_law_stream" ["_law_cell", "_law_many"] 1 Cg:=An (k:=0) .drop d_Lstream.F sc_Lstream Ce b_Lstream (NW y_len y_range)
  have F_with_thing:Fn l.prog w K mg base "with_thing" ["things", "place", "thing"] 1 f_with_thing:=An (k:=0) .drop d_with_thing.F sc_with_thing A2 b_with_thing Ig
  have F_case_begun:Fn l.prog w K mg base "case_begun" ["case", "hand", "worth"] 2 f_case_begun:=An (k:=1) .drop d_case_begun.F sc_case_begun Bf b_case_begun (Ij F_with_thing (by decide) g_WAITS)
  have F_moments_from:Fn l.prog w K mg base "moments_from" ["case"] 2 BB:=An (k:=1) .all d_moments_from.F sc_moments_from A9 b_moments_from (GS F_with_thing (by decide) y_enumerate g_HAD g_WAITS)
  have F_reached:Fn l.prog w K mg base "reached" ["cases"] 3 DO:=An (k:=2) .all d_reached.F sc_reached Cd b_reached (NV F_moments_from (by decide) y_list)
  have F_closed:Fn l.prog w K mg base "closed" ["cases"] 4 f_closed:=An (k:=3) .drop d_closed.F sc_closed DL b_closed (Op F_reached (by decide) y_sorted y_tuple)
  have F_beside:Fn l.prog w K mg base "beside" ["kind", "size", "worths", "coming"] 1 Gw:=An (k:=0) .drop d_beside.F sc_beside Ev b_beside (Oq y_tuple y_range y_sorted y_set)
  have F_claim_writes:Fn l.prog w K mg base "claim_writes" ["making", "claim", "worth"] 5 B6:=An (k:=4) .drop d_claim_writes.F sc_claim_writes BX b_claim_writes (GT F_case_begun (by decide) F_closed (by decide) F_beside (by decide) y_tuple)
  have F_Lorders:∀ n:Nat,Fn l.prog w K mg base "_law_orders" ["_law_things"] (n + 1) (DP n):=fun n=>by
    induction n with
    | zero=>exact Pn d_Lorders.F Cf b_Lorders
    | succ n ih=>exact (An (k:=n + 1) .drop d_Lorders.F sc_Lorders Cf b_Lorders (NX ih (Nat.le_refl _))).mono (by omega)
  have F_Lmoved:Fn l.prog w K mg base "_law_moved" ["_law_case", "_law_order"] 1 E6:=An (k:=0) .drop d_Lmoved.F sc_Lmoved Dy b_Lmoved (Os y_list y_tuple)
  have F_Lall:Fn l.prog w K mg base "_law_all" ["_law_cases"] 8 FY:=An (k:=7) .drop d_Lall.F sc_Lall Gb b_Lall (Tj (F_Lorders 6) (by decide) F_Lmoved (by decide) y_int y_enumerate y_sorted y_set y_tuple)
  have F_case_ended:Fn l.prog w K mg base "case_ended" ["case", "hand", "worth"] 2 A4:=An (k:=1) .drop d_case_ended.F sc_case_ended Be b_case_ended (Ii F_with_thing (by decide) g_HAD g_NONE)
  have F_cases_ended:Fn l.prog w K mg base "cases_ended" ["cases", "hand", "worth"] 3 f_cases_ended:=An (k:=2) .drop d_cases_ended.F sc_cases_ended BP b_cases_ended (HQ F_case_ended (by decide))
  have F_claim_written:Fn l.prog w K mg base "claim_written" ["making", "claim"] 5 Bo:=An (k:=4) .drop d_claim_written.F sc_claim_written BN b_claim_written (Fw F_cases_ended (by decide) F_closed (by decide) g_NONE)
  have F_Lwritten:Fn l.prog w K mg base "_law_written" ["_law_making_here", "_law_claim", "_law_due", "_law_x"] 9 Cu:=An (k:=8) .drop d_Lwritten.F sc_Lwritten Cr b_Lwritten (K0 F_claim_writes (by decide) F_Lall (by decide) F_claim_written (by decide) y_len y_int)
  have F_Lwith:Fn l.prog w K mg base "_law_with" ["_law_tells", "_law_k", "_law_thing"] 1 JE:=An (k:=0) .drop d_Lwith.F sc_Lwith F5 b_Lwith RB
  have F_claim_reads:Fn l.prog w K mg base "claim_reads" ["making", "claim", "reader"] 5 CM:=An (k:=4) .drop d_claim_reads.F sc_claim_reads Bm b_claim_reads (HN F_case_begun (by decide) F_closed (by decide) F_beside (by decide) F_with_thing (by decide) g_NONE)
  have F_claim_told:Fn l.prog w K mg base "claim_told" ["making", "claim", "reader", "worth"] 5 B7:=An (k:=4) .drop d_claim_told.F sc_claim_told B3 b_claim_told (Ih F_cases_ended (by decide) F_closed (by decide) F_with_thing (by decide))
  have F_Lread:Fn l.prog w K mg base "_law_read" ["_law_making_here", "_law_claim", "_law_due", "_law_k", "_law_x"] 9 F9:=An (k:=8) .drop d_Lread.F sc_Lread Ew b_Lread (RC F_Lwith (by decide) F_claim_reads (by decide) F_Lall (by decide) F_claim_told (by decide) y_range y_len)
  have F_Ldeed:Fn l.prog w K mg base "_law_deed" ["_law_making_here", "_law_claim", "_law_due", "_law_x", "_law_readers"] 10 E7:=An (k:=9) .drop d_Ldeed.F sc_Ldeed Ex b_Ldeed (RD F_Lwritten (by decide) F_Lread (by decide))
  have F_Lalike:Fn l.prog w K mg base "_law_alike" ["_law_both"] 1 E8:=An (k:=0) .drop d_Lalike.F sc_Lalike Dz b_Lalike Ot
  exact TN (φ:=KJ) (Pl (k:=10) .drop d_law.F sc_law (VD F_Lcell_at (by decide) F_Lmaking (by decide) F_claim_begun (by decide) F_Lstream (by decide) F_Ldeed (by decide) F_Lalike (by decide) y_int y_len y_tuple y_isinstance y_enumerate)) hφ
end K12
namespace K16
open PySem L2 Mi
def Ba:D:=.int (-1)
def EM:D:=.int (-2)
def CP:D:=.int (-2)
def A2  : Sl->M (Fl × Sl):=
    (Ao (mOp AU (mOp AU (DZ (AB 0) Br (CT (AB 1))) (AH Al (AD (AB 2) AK))) (DZ (AB 0) (CT (mOp AU (AB 1) (mC (.int 1)))) Br)))
def Bf (φ_with_thing:List D->M D):Sl->M (Fl × Sl):=
    (AT (sIf (AS (mOp As (AB 1) (mC (.int 0)))) (Ao (AH Al (AD (mOp AQ (AB 0) (mC (.int 0))) (AD (AB 2) (AD (mOp AQ (AB 0) (mC (.int 2))) AK))))) Bh)
    (Ao (AH Al (AD (mOp AQ (AB 0) (mC (.int 0))) (AD (mOp AQ (AB 0) (mC (.int 1))) (AD (AH φ_with_thing (AD (mOp AQ (AB 0) (mC (.int 2))) (AD (mOp Cb (AB 1) (mC (.int 1))) (AD (mC CP) AK)))) AK))))))
def Be (φ_with_thing:List D->M D):Sl->M (Fl × Sl):=
    (AT (sIf (AS (mOp As (AB 1) (mC (.int 0)))) (Ao (mIf (AS (mOp As (mOp AQ (AB 0) (mC (.int 1))) (mC EM))) (AH Al (AD (mOp AQ (AB 0) (mC (.int 0))) (AD (mC Ba) (AD (mOp AQ (AB 0) (mC (.int 2))) AK)))) (mC .non))) Bh)
    (Ao (mIf (AS (mOp As (mOp AQ (mOp AQ (AB 0) (mC (.int 2))) (mOp Cb (AB 1) (mC (.int 1)))) (AB 2))) (AH Al (AD (mOp AQ (AB 0) (mC (.int 0))) (AD (mOp AQ (AB 0) (mC (.int 1))) (AD (AH φ_with_thing (AD (mOp AQ (AB 0) (mC (.int 2))) (AD (mOp Cb (AB 1) (mC (.int 1))) (AD (mC Ba) AK)))) AK)))) (mC .non))))
def BP (φ_case_ended:List D->M D):Sl->M (Fl × Sl):=
    (AT (Ah (BA 1 [1,2] (B4 (AB 0)) (AN 0) C3 (AH φ_case_ended (AD (AB 0) (AD (AB 1) (AD (AB 2) AK)))) Av) (AN 3))
    (Ao (BA 1 [] (B4 (AB 3)) (AN 0) (AS (mOp (Ju true) (AB 0) (mC .non))) (AB 0) Av)))
def DL (φ_reached:List D->M D):Sl->M (Fl × Sl):=
    (Ao (AH CU (AD (AH IW (AD (AH φ_reached (AD (AB 0) AK)) AK)) AK)))
def Cd (φ_moments_from:List D->M D):Sl->M (Fl × Sl):=
    (AT (Ah PY (AN 1))
    (AT (ES (B4 (AB 0)) (AN 2) (Em (AB 1) (AB 2) (mC .non)))
    (AT (Ah (AH Iw (AD (AB 1) AK)) (AN 3))
    (AT (FL Aj (Fm (AB 3)) (AT (Ah (EB Oy (AB 3)) (AN 2))
    (Ji 1000 (AH φ_moments_from (AD (AB 2) AK)) (Cz [4,5]) (sIf (AS (mOp (LV true) (AB 5) (AB 1))) (AT (Em (AB 1) (AB 5) (AH Al (AD (AB 4) (AD (AB 2) AK))))
    (Bl (Aw C8 (AB 3) (AD (AB 5) AK)))) Bh))))
    (Ao (AB 1))))))
def A9 (φ_with_thing:List D->M D):Sl->M (Fl × Sl):=
    (AT (Ah (AH Eu AK) (AN 1))
    (AT (sIf (AS (mOp Jw (mOp AQ (AB 0) (mC (.int 1))) (mC (.int 0)))) (Bl (Aw C8 (AB 1) (AD (AH Al (AD (mC (.int 0)) (AD (AH Al (AD (mOp AQ (AB 0) (mC (.int 1))) (AD (mC EM) (AD (mOp AQ (AB 0) (mC (.int 2))) AK)))) AK))) AK))) Bh)
    (AT (ES (EW (AD (mOp AQ (AB 0) (mC (.int 2))) AK)) (Cz [2,3]) (sIf (AS (mOp As (AB 3) (mC CP))) (Bl (Aw C8 (AB 1) (AD (AH Al (AD (mOp AU (AB 2) (mC (.int 1))) (AD (AH Al (AD (mOp AQ (AB 0) (mC (.int 0))) (AD (mOp AQ (AB 0) (mC (.int 1))) (AD (AH φ_with_thing (AD (mOp AQ (AB 0) (mC (.int 2))) (AD (AB 2) (AD (mOp AQ (AB 0) (mC (.int 0))) AK)))) AK)))) AK))) AK))) Bh))
    (Ao (AB 1)))))
end K16
namespace K16
open PySem L2 Mi
noncomputable def f_with_thing:List D->M D:=Ak .drop 3 3 (A2)
noncomputable def f_case_begun:List D->M D:=Ak .drop 3 3 (Bf f_with_thing)
noncomputable def BB:List D->M D:=Ak .all 4 1 (A9 f_with_thing)
noncomputable def DO:List D->M D:=Ak .all 6 1 (Cd BB)
noncomputable def f_closed:List D->M D:=Ak .drop 1 1 (DL DO)
noncomputable def A4:List D->M D:=Ak .drop 3 3 (Be f_with_thing)
noncomputable def f_cases_ended:List D->M D:=Ak .drop 4 3 (BP A4)
end K16
namespace K13
open PySem L2 Mi
def A2  : Sl->M (Fl × Sl):=
    (Ao (mOp AU (mOp AU (DZ (AB 0) Br (CT (AB 1))) (AH Al (AD (AB 2) AK))) (DZ (AB 0) (CT (mOp AU (AB 1) (mC (.int 1)))) Br)))
def CF  : Sl->M (Fl × Sl):=
    (AT (sIf (AS (mOp Jt (AB 1) (AH Dm (AD (AB 0) AK)))) (Ao (mOp AQ (AB 0) (AB 1))) Bh)
    (Ao (mC (.int 0))))
def Ce  : Sl->M (Fl × Sl):=
    (AT (Ah (AH Eu AK) (AN 2))
    (AT (Ah (mOp Ay (AB 0) (mC (.int 2))) (AN 3))
    (AT (FL Aj (FR (AS (mOp As (mOp A1 (AB 0) (mC (.int 2))) (mC (.int 0)))) (FR (AS (mOp Jv (AB 3) (mC (.int 0)))) (AS (mOp Jt (AH Dm (AD (AB 2) AK)) (AB 1))))) (AT (Bl (Aw C8 (AB 2) (AD (mOp A1 (AB 3) (mOp Fk (mC (.int 10)) (mC (.int 9)))) AK)))
    (Ah (mOp Ay (AB 3) (mOp Fk (mC (.int 10)) (mC (.int 9)))) (AN 3))))
    (AT (Ah (mOp A1 (mOp DI (mOp AU (mOp Ay (AB 0) (mC (.int 2))) (mC (.int 7919))) (mC (.int 48271))) (mC (.int 2147483647))) (AN 3))
    (AT (ES (Gc (AD (AB 1) AK)) (AN 4) (AT (Ah (mOp A1 (mOp DI (AB 3) (mOp AU (mOp AU (mOp Ay (AB 3) (mC (.int 1009))) (mC (.int 69621))) (AB 4))) (mC (.int 2147483647))) (AN 3))
    (AT (Bl (Aw C8 (AB 2) (AD (mOp A1 (mOp DI (AB 3) (mOp AU (mOp Ay (AB 3) (mC (.int 127))) (mC (.int 40009)))) (mC (.int 2147483629))) AK)))
    (Ah (mOp AU (AB 3) (mC (.int 1))) (AN 3)))))
    (Ao (DZ (AB 2) Br (CT (AB 1)))))))))
end K13
namespace K13
open PySem L2 Mi
noncomputable def CG:List D->M D:=Ak .drop 2 2 (CF)
noncomputable def Cg:List D->M D:=Ak .drop 5 2 (Ce)
noncomputable def f_with_thing:List D->M D:=Ak .drop 3 3 (A2)
end K13
namespace Mi
open PySem L2
section
variable {τ τ1 τ2:Sl} {μ μ1 μ2 μ3 μ4:Mh} {d x y z:D} {ds:List D} {ma mb mc me:Sl->M D} {tc tb:Sl->M Bool} {b:Bool} {m1 m2:Sl->M (Fl × Sl)} {g g':D->D->M D} {r:Fl × Sl}
theorem CO {i:Nat} (h:τ[i]? = some (some d)):AB i τ μ=some (d,μ):=by unfold AB; rw [h]
theorem Sc (h1:ma τ μ=some (x,μ1)) (h2:mb τ μ1=some (y,μ2)) (h3:g x y μ2=some (d,μ3)):mOp g ma mb τ μ=some (d,μ3):=by unfold mOp; rw [AM h1,AM h2,h3]
theorem E9 {as:Sl->M (List D)} (h1:ma τ μ=some (x,μ1)) (h2:as τ μ1=some (ds,μ2)):AD ma as τ μ=some (x :: ds,μ2):=by unfold AD; rw [AM h1,AM h2]; rfl
theorem Cc {f:List D->M D} {as:Sl->M (List D)} (h1:as τ μ=some (ds,μ1)) (h2:f ds μ1=some (d,μ2)):AH f as τ μ=some (d,μ2):=by unfold AH; rw [AM h1,h2]
theorem GB {f:D->List D->M D} {as:Sl->M (List D)} {u:Unit} (h1:ma τ μ=some (x,μ1)) (h0:Db x μ1=some (u,μ2)) (h2:as τ μ2=some (ds,μ3)) (h3:f x ds μ3=some (d,μ4)):Aw f ma as τ μ=some (d,μ4):=by unfold Aw; rw [AM h1,AM h0,AM h2,h3]
theorem BH (h:ma τ μ=some (.bl b,μ1)):AS ma τ μ=some (b,μ1):=by unfold AS; rw [AM h]; rfl
theorem Dd (h1:tc τ μ=some (true,μ1)) (h2:tb τ μ1=some (b,μ2)):FR tc tb τ μ=some (b,μ2):=by unfold FR; rw [AM h1,if_pos rfl,h2]
theorem GD (h1:tc τ μ=some (false,μ1)):FR tc tb τ μ=some (false,μ1):=by unfold FR; rw [AM h1]; rfl
theorem BI (h1:m1 τ μ=some ((.next,τ1),μ1)) (h2:m2 τ1 μ1=some (r,μ2)):AT m1 m2 τ μ=some (r,μ2):=by unfold AT; rw [AM h1]; exact h2
theorem GA (h1:m1 τ μ=some ((.rt d,τ1),μ1)):AT m1 m2 τ μ=some ((.rt d,τ1),μ1):=by unfold AT; rw [AM h1]; rfl
theorem GC (h1:ma τ μ=some (d,μ1)):Bl ma τ μ=some ((.next,τ),μ1):=by unfold Bl; rw [AM h1]; rfl
theorem FZ (h1:ma τ μ=some (d,μ1)):Ao ma τ μ=some ((.rt d,τ),μ1):=by unfold Ao; rw [AM h1]; rfl
theorem Gy (h1:tc τ μ=some (true,μ1)) (h2:m1 τ μ1=some (r,μ2)):sIf tc m1 m2 τ μ=some (r,μ2):=by unfold sIf; rw [AM h1,if_pos rfl,h2]
theorem Gz (h1:tc τ μ=some (false,μ1)) (h2:m2 τ μ1=some (r,μ2)):sIf tc m1 m2 τ μ=some (r,μ2):=by unfold sIf; rw [AM h1,if_neg (by decide),h2]
theorem Fa {bf:D->Sl->M Sl} (h1:ma τ μ=some (d,μ1)) (h2:bf d τ μ1=some (τ1,μ2)):Ah ma bf τ μ=some ((.next,τ1),μ2):=by unfold Ah; rw [AM h1,AM h2]; rfl
theorem LP {src:Sl->M (List D)} {bf:D->Sl->M Sl} (h1:src τ μ=some (ds,μ1)) (h2:Dj bf m1 ds τ μ1=some (r,μ2)):ES src bf m1 τ μ=some (r,μ2):=by unfold ES; rw [AM h1,h2]
theorem Gi {i j:Int} (h:0 < j):A1 (.int i) (.int j) μ=some (.int (i % j),μ):=by show (if 0 < j then some (D.int (i % j),μ) else none)=_; rw [if_pos h]
theorem EY {i j:Int} (h:0 < j) (h2:j < 1073741824):Ay (.int i) (.int j) μ=some (.int (i / j),μ):=by show (if 0 < j /\ j < 1073741824 then some (D.int (i / j),μ) else none)=_; rw [if_pos ⟨h,h2⟩]
theorem J7 {i j:Int} (h:(-(2 ^ 64) < i /\ i < 2 ^ 64) ∨ (-(2 ^ 64) < j /\ j < 2 ^ 64)):DI (.int i) (.int j) μ=some (.int (i * j),μ):=by show (if (-(2 ^ 64) < i /\ i < 2 ^ 64) ∨ (-(2 ^ 64) < j /\ j < 2 ^ 64) then some (D.int (i * j),μ) else none)=_; rw [if_pos h]
theorem Ma {n:Nat} {ds:List D} {i:Int} (h:μ[n]? = some (.lst ds)) (h2:atI ds i=some d):AQ (.ref n) (.int i) μ=some (d,μ):=by
  show bnd (BL (.ref n)) (fun ds=>ixD ds i) μ=_
  rw [AM (show BL (.ref n) μ=some (ds,μ) from by show (match μ[n]? with | some (.lst ds)=>some (ds,μ) | _=>none)=_; rw [h])]
  unfold ixD; rw [h2]; rfl
theorem Pd {ds:List D} {i:Int} (h2:atI ds i=some d):AQ (.tup ds) (.int i) μ=some (d,μ):=by
  show bnd (BL (.tup ds)) (fun ds=>ixD ds i) μ=_
  rw [AM (show BL (.tup ds) μ=some (ds,μ) from rfl)]
  unfold ixD; rw [h2]; rfl
theorem SU {ds:List D} {i:Int} (h2:atI ds i=some d):AQ (.lst ds) (.int i) μ=some (d,μ):=by
  show bnd (BL (.lst ds)) (fun ds=>ixD ds i) μ=_
  rw [AM (show BL (.lst ds) μ=some (ds,μ) from rfl)]
  unfold ixD; rw [h2]; rfl
theorem SS {n j:Nat} {k:Int} {ds:List D} (h:μ[n]? = some (.lst ds)) (h2:ixN ds.length k=some j):Q1 (.ref n) (.int k) d μ=some ((),μ.set n (.lst (ds.set j d))):=by
  show (match μ[n]? with | some (.lst ds)=>(ixN ds.length k).map fun j=>((),μ.set n (.lst (ds.set j d))) | _=>none)=_
  rw [h]; show (ixN ds.length k).map _=_; rw [h2]; rfl
end
end Mi
local macro_rules | `(tactic| wtm_at "own qleaf")=>`(tactic| first | rfl | assumption)
local macro_rules | `(tactic| wtm_at "own qev")=>`(tactic| first
  | (with_reducible apply Mi.ev_nil) | (with_reducible apply Mi.ev_nilA) | (with_reducible apply Mi.ev_c) | (with_reducible apply Mi.ev_noPart) | (with_reducible apply Mi.ev_retN)
  | ((with_reducible apply Mi.CO); first | rfl | assumption)
  | ((with_reducible apply Mi.GA); wtm_at "own qev")
  | ((with_reducible apply Mi.BI); (wtm_at "own qev"); (wtm_at "own qev"))
  | ((with_reducible apply Mi.Fa); (wtm_at "own qev"); (wtm_at "own qev"))
  | ((with_reducible apply Mi.ev_name); rfl)
  | ((with_reducible apply Mi.ev_sub); (wtm_at "own qev"); (wtm_at "own qev"); (wtm_at "own qev"))
  | ((with_reducible apply Mi.GC); wtm_at "own qev")
  | ((with_reducible apply Mi.FZ); wtm_at "own qev")
  | ((with_reducible apply Mi.Gy); (wtm_at "own qev"); (wtm_at "own qev"))
  | ((with_reducible apply Mi.Gz); (wtm_at "own qev"); (wtm_at "own qev"))
  | ((with_reducible apply Mi.Sc); (wtm_at "own qev"); (wtm_at "own qev"); (wtm_at "own qev"))
  | ((with_reducible apply Mi.ev_un); (wtm_at "own qev"); (wtm_at "own qev"))
  | ((with_reducible apply Mi.Cc); (wtm_at "own qev"); (wtm_at "own qev"))
  | ((with_reducible apply Mi.E9); (wtm_at "own qev"); (wtm_at "own qev"))
  | ((with_reducible apply Mi.GB); (wtm_at "own qev"); (wtm_at "own qev"); (wtm_at "own qev"); (wtm_at "own qev"))
  | ((with_reducible apply Mi.BH); wtm_at "own qev")
  | ((with_reducible apply Mi.ev_notT); wtm_at "own qev")
  | ((with_reducible apply Mi.ev_notF); wtm_at "own qev")
  | ((with_reducible apply Mi.Dd); (wtm_at "own qev"); (wtm_at "own qev"))
  | ((with_reducible apply Mi.GD); wtm_at "own qev")
  | ((with_reducible apply Mi.ev_orF); (wtm_at "own qev"); (wtm_at "own qev"))
  | ((with_reducible apply Mi.ev_orT); wtm_at "own qev")
  | ((with_reducible apply Mi.ev_andVT); (wtm_at "own qev"); (wtm_at "own qev"))
  | ((with_reducible apply Mi.ev_andVF); wtm_at "own qev")
  | ((with_reducible apply Mi.ev_orVF); (wtm_at "own qev"); (wtm_at "own qev"))
  | ((with_reducible apply Mi.ev_orVT); wtm_at "own qev")
  | ((with_reducible apply Mi.ev_notVT); wtm_at "own qev")
  | ((with_reducible apply Mi.ev_notVF); wtm_at "own qev")
  | ((with_reducible apply Mi.ev_chainT); (wtm_at "own qev"); (wtm_at "own qev"); (wtm_at "own qev"); (wtm_at "own qev"); (wtm_at "own qev"))
  | ((with_reducible apply Mi.ev_chainF); (wtm_at "own qev"); (wtm_at "own qev"); (wtm_at "own qev"))
  | ((with_reducible apply Mi.ev_part); wtm_at "own qev")
  | ((with_reducible apply Mi.ev_sl); (wtm_at "own qev"); (wtm_at "own qev"); (wtm_at "own qev"); (wtm_at "own qev"))
  | wtm_at "own qleaf")
local macro_rules | `(tactic| wtm_at "own qnums")=>`(tactic| first | assumption | decide | omega)
local macro_rules | `(tactic| wtm_at "own qleaf")=>`(tactic| first
  | ((with_reducible apply Mi.l_le); wtm_at "own qnums") | ((with_reducible apply Mi.l_leF); wtm_at "own qnums") | ((with_reducible apply Mi.l_lt); wtm_at "own qnums") | ((with_reducible apply Mi.l_ltF); wtm_at "own qnums") | ((with_reducible apply Mi.l_gt); wtm_at "own qnums") | ((with_reducible apply Mi.l_gtF); wtm_at "own qnums")
  | (with_reducible apply Mi.l_inst_ii) | (with_reducible apply Mi.l_inst_ib) | (with_reducible apply Mi.l_inst_ss) | (with_reducible apply Mi.l_inst_tt) | (with_reducible apply Mi.l_add) | (with_reducible apply Mi.l_sub) | ((with_reducible apply Mi.Gi); wtm_at "own qnums") | ((with_reducible apply Mi.EY); (wtm_at "own qnums"); (wtm_at "own qnums")) | ((with_reducible apply Mi.J7); first | (left; omega) | (right; omega))
  | ((with_reducible apply Mi.Pd); rfl) | ((with_reducible apply Mi.SU); rfl) | ((with_reducible apply Mi.Ma); (first | assumption | rfl); (rfl)) | ((with_reducible apply Mi.SS); (first | assumption | rfl); (rfl)))
set_option maxHeartbeats 4000000
namespace K13
open PySem L2 Mi Ht
def hdD (n:Str):D:=.tup [.str n,.int 0,.tup []]
theorem BJ {α:Type} {f:α->D} {k:Nat} (h:∀ a,Cl k (f a)):∀ xs:List α,ClL k (xs.map f)
  | []=>by unfold ClL; trivial
  | x :: xs=>by
    rw [List.map_cons]
    unfold ClL
    exact ⟨h x,BJ h xs⟩
theorem Bu (k:Nat) (i:Int):Cl k (.int i):=by unfold Cl; trivial
section
variable {μ μ1 μ2 μ3 μ4 μ':Mh} {τ τ1:Sl} {x0 d:D} {ds es:List D} {n:Nat}
theorem BT (h:ds.length <= sizeLine):Al ds μ=some (.tup ds,μ):=by
  unfold Al; rw [AM (show lim ds.length μ=some ((),μ) from by unfold lim; rw [if_pos h])]; rfl
theorem EA (h:ds.length <= sizeLine):Av ds μ=some (.lst ds,μ):=by
  unfold Av; rw [AM (show lim ds.length μ=some ((),μ) from by unfold lim; rw [if_pos h])]; rfl
theorem Pr {ma:Sl->M D} {l h:Sl->M (Option Int)} {a b:Option Int} (h1:ma τ μ=some (x0,μ1)) (h2:l τ μ1=some (a,μ2)) (h3:h τ μ2=some (b,μ3)) (h4:Js a b x0 μ3=some (d,μ4)):DZ ma l h τ μ=some (d,μ4):=by unfold DZ; rw [AM h1,AM h2,AM h3,h4]
theorem Iz (h:ds.length + es.length <= sizeLine):AU (.tup ds) (.tup es) μ=some (.tup (ds ++ es),μ):=by
  cases ds with
  | nil=>rfl
  | cons a as=>exact BT (by simp at h ⊢; omega)
theorem DV:sizeLine=16777216:=by decide
section
variable {ma mb mc:Sl->M D} {x y:D} {g:D->D->M D} {as:Sl->M (List D)} {tc tb:Sl->M Bool} {b:Bool} {m1 m2:Sl->M (Fl × Sl)} {r:Fl × Sl}
theorem po (h1:ma τ μ=some (x,μ)) (h2:mb τ μ=some (y,μ)) (h3:g x y μ=some (d,μ)):mOp g ma mb τ μ=some (d,μ):=Sc h1 h2 h3
theorem pc (h1:ma τ μ=some (x,μ)) (h2:as τ μ=some (ds,μ)):AD ma as τ μ=some (x :: ds,μ):=E9 h1 h2
theorem pd {f:List D->M D} (h1:as τ μ=some (ds,μ)) (h2:f ds μ=some (d,μ)):AH f as τ μ=some (d,μ):=Cc h1 h2
theorem p2 {l h:Sl->M (Option Int)} {a b:Option Int} (h1:ma τ μ=some (x,μ)) (h2:l τ μ=some (a,μ)) (h3:h τ μ=some (b,μ)) (h4:Js a b x μ=some (d,μ)):DZ ma l h τ μ=some (d,μ):=Pr h1 h2 h3 h4
theorem pq (h1:m1 τ μ=some ((.next,τ1),μ)) (h2:m2 τ1 μ=some (r,μ)):AT m1 m2 τ μ=some (r,μ):=BI h1 h2
theorem pa {bf:D->Sl->M Sl} (h1:ma τ μ=some (d,μ)) (h2:bf d τ μ=some (τ1,μ)):Ah ma bf τ μ=some ((.next,τ1),μ):=Fa h1 h2
theorem piT (h1:tc τ μ=some (true,μ)) (h2:m1 τ μ=some (r,μ)):sIf tc m1 m2 τ μ=some (r,μ):=Gy h1 h2
theorem piF (h1:tc τ μ=some (false,μ)) (h2:m2 τ μ=some (r,μ)):sIf tc m1 m2 τ μ=some (r,μ):=Gz h1 h2
theorem pr (h1:ma τ μ=some (d,μ)):Ao ma τ μ=some ((.rt d,τ),μ):=FZ h1
theorem peT (h1:tc τ μ=some (true,μ)) (h2:ma τ μ=some (d,μ)):mIf tc ma mb τ μ=some (d,μ):=by unfold mIf; rw [AM h1,if_pos rfl,h2]
theorem peF (h1:tc τ μ=some (false,μ)) (h2:mb τ μ=some (d,μ)):mIf tc ma mb τ μ=some (d,μ):=by unfold mIf; rw [AM h1,if_neg (by decide),h2]
end
theorem P6 {α:D} {j:Nat} (h:j <= ds.length):Cw ds none (some (j:Int))=ds.take j:=by
  unfold Cw
  rw [HT.Jh,HT.IZ,Nat.min_eq_left h]
  simp
theorem P8 {j:Nat} (h:j <= ds.length):Cw ds (some (j:Int)) none=ds.drop j:=by
  unfold Cw
  rw [HT.Jh,HT.IZ,Nat.min_eq_left h]
  exact List.take_of_length_le (by simp)
theorem FI {j:Nat} {x:D} (hj:j < ds.length) (hl:ds.length <= 1000) (hc:∀ k,ClL k ds) (hx:∀ k,Cl k x):f_with_thing [.tup ds,.int j,x] μ=some (.tup (ds.set j x),μ):=by
  have hz:=DV
  have hcs:∀ (k j:Nat) (ds:List D),ClL k ds->ClL k (ds.set j x):=by
    intro k j ds
    induction ds generalizing j with
    | nil=>intro h; exact h
    | cons a as ih=>
      intro h
      unfold ClL at h
      cases j with
      | zero=>show ClL k (x :: as); unfold ClL; exact ⟨hx k,h.2⟩
      | succ j=>show ClL k (a :: as.set j x); unfold ClL; exact ⟨h.1,ih j h.2⟩
  refine Ax (g:=[]) (τ2:=B8 3 [.tup ds,.int j,x]) ?_ rfl (by unfold Cl; exact hcs _ _ _ (hc _))
  rw [List.append_nil]
  refine pr (po (x:=.tup (ds.take j ++ [x])) (y:=.tup (ds.drop (j + 1))) (po (x:=.tup (ds.take j)) (y:=.tup [x]) (p2 (x:=.tup ds) (a:=none) (b:=some (j:Int)) rfl rfl rfl ?_) rfl (Iz (by simp; omega))) (p2 (x:=.tup ds) (a:=some ((j:Int) + 1)) (b:=none) rfl rfl rfl ?_) ?_)
  . show some (D.tup (Cw ds none (some (j:Int))),μ)=_
    rw [P6 (α:=x) (by omega)]
  . show some (D.tup (Cw ds (some ((j:Int) + 1)) none),μ)=_
    rw [show ((j:Int) + 1)=((j + 1:Nat):Int) by omega,P8 (by omega)]
  . rw [Iz (by simp; omega),List.append_assoc]
    rw [List.set_eq_take_append_cons_drop,if_pos hj]
    rfl
end
end K13
set_option maxHeartbeats 4000000
namespace K13
open PySem L2 Mi Ht
section
variable {μ μ1 μ2 μ3 μ4 μ':Mh} {τ τ1:Sl} {x0 d:D} {ds es:List D} {n:Nat}
theorem D3 {α:Type} {me:Sl->M D} {mc:Sl->M Bool} {τ0:Sl} {f F:α->D} {p:α->Bool}:∀ {xs:List α} {ys:List D},(∀ a ∈ xs,mc (τ0.set 0 (some (f a))) μ=some (p a,μ))->(∀ a ∈ xs,p a=true->me (τ0.set 0 (some (f a))) μ=some (F a,μ))->CY (AN 0) mc me τ0 (xs.map f) ys μ=some (ys ++ (xs.filter p).map F,μ)
  | [],ys,_,_=>by show some (ys,μ)=_; simp
  | z :: xs,ys,hc,h=>by
    show bnd (AN 0 (f z) τ0) _ μ=_
    rw [AM (show AN 0 (f z) τ0 μ=some (τ0.set 0 (some (f z)),μ) from rfl),AM (hc z (by simp))]
    cases q:p z with
    | true=>
      rw [if_pos rfl,AM (h z (by simp) q),D3 (fun w hw=>hc w (by simp [hw])) (fun w hw=>h w (by simp [hw]))]
      simp [q]
    | false=>
      rw [if_neg (by decide),D3 (fun w hw=>hc w (by simp [hw])) (fun w hw=>h w (by simp [hw]))]
      simp [q]
theorem ED {N:Nat} {ix:List Nat} {src:Sl->M (List D)} {bf:D->Sl->M Sl} {mc:Sl->M Bool} {me:Sl->M D} {fin:List D->M D} (h1:src τ μ=some (ds,μ)) (hl:ds.length <= sizeLine) (h2:CY bf mc me (CJ N ix τ) ds [] μ=some (es,μ)) (h3:fin es μ=some (d,μ')):BA N ix src bf mc me fin τ μ=some (d,μ'):=by
  unfold BA
  rw [AM h1,AM (show lim ds.length μ=some ((),μ) from by unfold lim; rw [if_pos hl]),AM h2,h3]
theorem D4 {α:Type} (xs:List α):xs.filter (fun _=>true)=xs:=by simp
theorem Ei {ma:Sl->M D} (h:ma τ μ=some (.tup ds,μ)):B4 ma τ μ=some (ds,μ):=by unfold B4; rw [AM h]; rfl
theorem D8 {ma:Sl->M D} (h:ma τ μ=some (.lst ds,μ)):B4 ma τ μ=some (ds,μ):=by unfold B4; rw [AM h]; rfl
theorem Ez {α:Type} (a:α):∀ k:Nat,(List.replicate k [a]).flatten=List.replicate k a
  | 0=>rfl
  | k + 1=>by rw [List.replicate_succ,List.flatten_cons,Ez a k]; rfl
variable {sf:Bool} {sz bg:Int} {ns:List Str}
theorem Ca {ds:List D} {r:Nat} {x:D} (h:ds[r]? = some x):atI ds (r:Int)=some x:=by
  have hr:r < ds.length:=(List.getElem?_eq_some_iff.mp h).1
  unfold atI ixN
  rw [if_pos (by omega),if_pos (by omega)]
  simpa using h
end
end K13
set_option maxHeartbeats 4000000
namespace K13
open PySem L2 Mi Ht
section
variable {μ μ1 μ2 μ3 μ4 μ':Mh} {τ τ1:Sl} {x0 d:D} {ds es:List D} {n:Nat}
variable {sf:Bool} {sz bg:Int} {ns:List Str}
theorem Dh {i j:Int}:As (.int i) (.int j) μ=some (.bl (i == j),μ):=rfl
end
end K13
set_option maxHeartbeats 4000000
namespace K13
open PySem L2 Mi Ht
section
variable {μ μ1 μ2 μ3 μ4 μ':Mh} {τ τ1:Sl} {x0 d:D} {ds es:List D} {n:Nat}
variable {sf:Bool} {sz bg:Int} {ns:List Str}
theorem Bx (h:μ[n]? = some (.lst ds)):Db (.ref n) μ=some ((),μ):=by
  unfold Db
  rw [AM (show Bv (.ref n) μ=some (ds,μ) from by unfold Bv; dsimp only; rw [h])]
  rfl
theorem Da (h:μ[n]? = some (.lst ds)) (hl:ds.length < sizeLine):C8 (.ref n) [d] μ=some (.non,μ.set n (.lst (ds ++ [d]))):=by
  show HI n _ μ=_
  unfold HI
  rw [h]
  show Option.map _ (if ds.length < sizeLine then some (D.non,ds ++ [d]) else none)=_
  rw [if_pos hl]
  rfl
theorem BZ {bf:D->Sl->M Sl} {m1:Sl->M (Fl × Sl)} {x:D} {τ2:Sl} {r:Fl × Sl} (h1:bf x τ μ=some (τ1,μ1)) (h2:m1 τ1 μ1=some ((.next,τ2),μ2)) (h3:Dj bf m1 ds τ2 μ2=some (r,μ3)):Dj bf m1 (x :: ds) τ μ=some (r,μ3):=by
  show bnd (bf x τ) _ μ=_
  rw [AM h1,AM h2]
  exact h3
end
end K13
set_option maxHeartbeats 4000000
namespace K13
open PySem L2 Mi Ht
section
variable {μ μ1 μ2 μ3 μ4 μ':Mh} {τ τ1:Sl} {x0 d:D} {ds:List D} {n:Nat}
variable {sf:Bool} {sz bg:Int} {ns:List Str}
end
end K13
set_option maxHeartbeats 4000000
namespace K13
open PySem L2 Mi Ht
section
variable {μ μ1 μ2 μ3 μ4 μ':Mh} {τ τ1:Sl} {x0 d a c:D} {ds:List D} {n:Nat}
variable {sf:Bool} {sz bg:Int} {ns:List Str}
theorem g1 {b:MO}:(μ ++ [b])[μ.length]? = some b:=by rw [List.getElem?_append_right (Nat.le_refl _)]; simp
theorem s1 {b c:MO}:(μ ++ [b]).set μ.length c=μ ++ [c]:=by rw [List.set_append_right _ _ (Nat.le_refl _)]; simp
end
end K13
set_option maxHeartbeats 4000000
namespace K13
open PySem L2 Mi Ht
section
variable {μ μ1 μ2 μ3 μ4 μ':Mh} {τ τ1:Sl} {x0 d a c:D} {ds:List D} {n:Nat}
variable {sf:Bool} {sz bg:Int} {ns:List Str}
end
end K13
set_option maxHeartbeats 4000000
namespace K13
open PySem L2 Mi Ht
end K13
set_option maxHeartbeats 4000000
namespace K13
open PySem L2 Mi Ht
end K13
set_option maxHeartbeats 4000000
namespace K13
open PySem L2 Mi Ht
section
variable {μ μ1 μ2 μ3 μ4 μ':Mh} {τ τ1:Sl} {x0 d:D} {ds es:List D} {n:Nat}
theorem ST:Fk (.int 10) (.int 9) μ=some (.int 1000000000,μ):=by
  show (if (0:Int) <= 9 /\ (9:Int) <= 1000000 /\ (10:Int).natAbs < 2 ^ 64 then some (D.int ((10:Int) ^ (9:Int).toNat),μ) else none)=_
  rw [if_pos (by decide)]; rfl
theorem UJ (h:μ[n]? = some (.lst ds)):Dm [.ref n] μ=some (.int ds.length,μ):=by
  unfold Dm
  simp only [h]
theorem Pq {mc:Sl->M Bool} {mb:Sl->M (Fl × Sl)} {r:Fl × Sl} {τ2:Sl} {k:Nat} (h1:mc τ μ=some (true,μ)) (h2:mb τ μ=some ((.next,τ2),μ2)) (h3:Fu mc mb k τ2 μ2=some (r,μ3)):Fu mc mb (k + 1) τ μ=some (r,μ3):=by
  unfold Fu
  rw [AM h1,if_pos rfl,AM h2]
  exact h3
theorem Gx {mc:Sl->M Bool} {mb:Sl->M (Fl × Sl)} {k:Nat} (h1:mc τ μ=some (false,μ)):Fu mc mb (k + 1) τ μ=some ((.next,τ),μ):=by
  unfold Fu
  rw [AM h1]
  rfl
noncomputable abbrev VB:Sl->M Bool:=(FR (AS (mOp As (mOp A1 (AB 0) (mC (.int 2))) (mC (.int 0)))) (FR (AS (mOp Jv (AB 3) (mC (.int 0)))) (AS (mOp Jt (AH Dm (AD (AB 2) AK)) (AB 1)))))
noncomputable abbrev VC:Sl->M (Fl × Sl):=(AT (Bl (Aw C8 (AB 2) (AD (mOp A1 (AB 3) (mOp Fk (mC (.int 10)) (mC (.int 9)))) AK)))
    (Ah (mOp Ay (AB 3) (mOp Fk (mC (.int 10)) (mC (.int 9)))) (AN 3)))
theorem QN {x:D} {S:Sl} {k:Nat} {me:Sl->M D} (h:S[k]? = some (some (.ref μ.length))) (hl:ds.length <= 1000) (he:me S (μ ++ [.lst ds])=some (x,μ ++ [.lst ds])):Bl (Aw C8 (AB k) (AD me AK)) S (μ ++ [.lst ds])=some ((.next,S),μ ++ [.lst (ds ++ [x])]):=by
  have hz:=DV
  refine GC (d:=.non) (GB (x:=.ref μ.length) (ds:=[x]) (μ1:=μ ++ [.lst ds]) (μ2:=μ ++ [.lst ds]) (μ3:=μ ++ [.lst ds]) (CO h) (Bx g1) (pc he rfl) ?_)
  rw [Da g1 (by omega),s1]
theorem NE {c:Int}:∃ (m:Int) (fs:List Int),fs.length <= 1 /\ (∀ x ∈ fs,0 <= x) /\ FL Aj VB VC [some (.int c),some (.int 1),some (.ref μ.length),some (.int (c / 2)),none] (μ ++ [.lst []])=some ((.next,[some (.int c),some (.int 1),some (.ref μ.length),some (.int m),none]),μ ++ [.lst (fs.map D.int)]):=by
  have hf:Aj=1048574 + 1 + 1:=rfl
  have ta:∀ (m:Int) (M:Mh),AS (mOp As (mOp A1 (AB 0) (mC (.int 2))) (mC (.int 0))) [some (.int c),some (.int 1),some (.ref μ.length),some (.int m),none] M=some (c % 2 == 0,M):=fun m M=>BH (po (x:=.int (c % 2)) (y:=.int 0) (po (x:=.int c) (y:=.int 2) rfl rfl (Gi (by decide))) rfl Dh)
  have tb:∀ (m:Int) (M:Mh),AS (mOp Jv (AB 3) (mC (.int 0))) [some (.int c),some (.int 1),some (.ref μ.length),some (.int m),none] M=some (decide (0 < m),M):=fun m M=>BH (po (x:=.int m) (y:=.int 0) rfl rfl rfl)
  have tc:∀ (m:Int) (fs:List D),AS (mOp Jt (AH Dm (AD (AB 2) AK)) (AB 1)) [some (.int c),some (.int 1),some (.ref μ.length),some (.int m),none] (μ ++ [.lst fs])=some (decide ((fs.length:Int) < 1),μ ++ [.lst fs]):=fun m fs=>BH (po (x:=.int fs.length) (y:=.int 1) (pd (ds:=[.ref μ.length]) rfl (UJ g1)) rfl rfl)
  show ∃ m fs,_ /\ _ /\ Fu VB VC Aj _ _=_
  rw [hf]
  by_cases h2:c % 2=0
  . have ta':∀ (m:Int) (M:Mh),AS (mOp As (mOp A1 (AB 0) (mC (.int 2))) (mC (.int 0))) [some (.int c),some (.int 1),some (.ref μ.length),some (.int m),none] M=some (true,M):=fun m M=>(ta m M).trans (by rw [h2]; rfl)
    by_cases h3:0 < c / 2
    . refine ⟨c / 2 / 1000000000,[c / 2 % 1000000000],by simp,fun x hx=>by rw [List.mem_singleton] at hx; subst hx; exact Int.emod_nonneg _ (by decide),?_⟩
      refine Pq (μ2:=μ ++ [.lst [.int (c / 2 % 1000000000)]]) (τ2:=[some (.int c),some (.int 1),some (.ref μ.length),some (.int (c / 2 / 1000000000)),none]) (Dd (ta' _ _) (Dd ((tb _ _).trans (by rw [decide_eq_true h3])) (tc _ _))) (BI (QN (ds:=[]) (x:=.int (c / 2 % 1000000000)) rfl (by simp) (po (x:=.int (c / 2)) (y:=.int 1000000000) rfl (po (x:=.int 10) (y:=.int 9) rfl rfl ST) (Gi (by decide)))) (pa (po (x:=.int (c / 2)) (y:=.int 1000000000) rfl (po (x:=.int 10) (y:=.int 9) rfl rfl ST) (EY (by decide) (by decide))) rfl)) ?_
      by_cases h4:0 < c / 2 / 1000000000
      . exact Gx (Dd (ta' _ _) (Dd ((tb _ _).trans (by rw [decide_eq_true h4])) (tc _ _)))
      . exact Gx (Dd (ta' _ _) (GD ((tb _ _).trans (by rw [decide_eq_false h4]))))
    . exact ⟨c / 2,[],by simp,by simp,Gx (Dd (ta' _ _) (GD ((tb _ _).trans (by rw [decide_eq_false h3]))))⟩
  . exact ⟨c / 2,[],by simp,by simp,Gx (GD ((ta _ _).trans (by rw [beq_eq_false_iff_ne.mpr h2])))⟩
theorem ON {c:Int}:∃ x:Int,0 <= x /\ Cg [.int c,.int 1] μ=some (.lst [.int x],μ):=by
  have hz:=DV
  obtain ⟨m,fs,h1,h2,wh⟩:=NE (μ:=μ) (c:=c)
  let s0:Int:=(c / 2 + 7919) * 48271 % 2147483647
  have q0:s0=(c / 2 + 7919) * 48271 % 2147483647:=rfl
  have p0:0 <= s0:=Int.emod_nonneg _ (by decide)
  have p1:s0 < 2147483647:=Int.emod_lt_of_pos _ (by decide)
  generalize s0=s0 at q0 p0 p1
  let s1':Int:=s0 * (s0 / 1009 + 69621 + 0) % 2147483647
  have q1:s1'=s0 * (s0 / 1009 + 69621 + 0) % 2147483647:=rfl
  have r0:0 <= s1':=Int.emod_nonneg _ (by decide)
  have r1:s1' < 2147483647:=Int.emod_lt_of_pos _ (by decide)
  generalize s1'=s1' at q1 r0 r1
  let x1:Int:=s1' * (s1' / 127 + 40009) % 2147483629
  have q2:x1=s1' * (s1' / 127 + 40009) % 2147483629:=rfl
  have x0:0 <= x1:=Int.emod_nonneg _ (by decide)
  generalize x1=x1 at q2 x0
  have hx:∃ x:Int,0 <= x /\ Cw ((fs ++ [x1]).map D.int) none (some 1)=[.int x]:=by
    cases fs with
    | nil=>exact ⟨x1,x0,rfl⟩
    | cons y ys=>
      have hl:ys.length=0:=by rw [List.length_cons] at h1; omega
      have:ys=[]:=List.length_eq_zero_iff.mp hl
      subst this
      exact ⟨y,h2 y (by simp),rfl⟩
  obtain ⟨x,hx0,hcut⟩:=hx
  refine ⟨x,hx0,Ax (g:=[.lst ((fs ++ [x1]).map D.int)]) (τ2:=[some (.int c),some (.int 1),some (.ref μ.length),some (.int (s1' + 1)),some (.int 0)]) ?_ rfl (by simp [Cl,ClL])⟩
  refine BI (μ1:=μ ++ [.lst []]) (τ1:=[some (.int c),some (.int 1),some (.ref μ.length),none,none]) (Fa (d:=.ref μ.length) (μ1:=μ ++ [.lst []]) (Cc (ds:=[]) (μ1:=μ) rfl ?_) rfl) ?_
  . unfold Eu
    rw [AM (show lim ([]:List D).length μ=some ((),μ) from by unfold lim; rw [if_pos (by simp)])]
  refine BI (τ1:=[some (.int c),some (.int 1),some (.ref μ.length),some (.int (c / 2)),none]) (pa (po (x:=.int c) (y:=.int 2) rfl rfl (EY (by decide) (by decide))) rfl) (BI wh ?_)
  refine BI (τ1:=[some (.int c),some (.int 1),some (.ref μ.length),some (.int s0),none]) (pa (d:=.int s0) (po (x:=.int ((c / 2 + 7919) * 48271)) (y:=.int 2147483647) (po (x:=.int (c / 2 + 7919)) (y:=.int 48271) (po (x:=.int (c / 2)) (y:=.int 7919) (po (x:=.int c) (y:=.int 2) rfl rfl (EY (by decide) (by decide))) rfl rfl) rfl (J7 (.inr (by decide)))) rfl ?_) rfl) ?_
  . rw [Gi (by decide),q0]
  have fr:Gc (AD (AB 1) AK) [some (.int c),some (.int 1),some (.ref μ.length),some (.int s0),none] (μ ++ [.lst (fs.map D.int)])=some ([.int 0],μ ++ [.lst (fs.map D.int)]):=by
    unfold Gc
    rw [AM (show AD (AB 1) AK [some (.int c),some (.int 1),some (.ref μ.length),some (.int s0),none] (μ ++ [.lst (fs.map D.int)])=some ([.int 1],μ ++ [.lst (fs.map D.int)]) from rfl)]
    unfold MF
    dsimp only
    rw [if_pos (by decide)]
    rfl
  refine BI (μ1:=μ ++ [.lst ((fs ++ [x1]).map D.int)]) (τ1:=[some (.int c),some (.int 1),some (.ref μ.length),some (.int (s1' + 1)),some (.int 0)]) (LP fr (BZ (τ1:=[some (.int c),some (.int 1),some (.ref μ.length),some (.int s0),some (.int 0)]) (μ1:=μ ++ [.lst (fs.map D.int)]) rfl ?_ rfl)) ?_
  . refine BI (μ1:=μ ++ [.lst (fs.map D.int)]) (τ1:=[some (.int c),some (.int 1),some (.ref μ.length),some (.int s1'),some (.int 0)]) (pa (d:=.int s1') (po (x:=.int (s0 * (s0 / 1009 + 69621 + 0))) (y:=.int 2147483647) (po (x:=.int s0) (y:=.int (s0 / 1009 + 69621 + 0)) rfl (po (x:=.int (s0 / 1009 + 69621)) (y:=.int 0) (po (x:=.int (s0 / 1009)) (y:=.int 69621) (po (x:=.int s0) (y:=.int 1009) rfl rfl (EY (by decide) (by decide))) rfl rfl) rfl rfl) (J7 (.inl ⟨by omega,by omega⟩))) rfl ?_) rfl) (BI (μ1:=μ ++ [.lst ((fs ++ [x1]).map D.int)]) (τ1:=[some (.int c),some (.int 1),some (.ref μ.length),some (.int s1'),some (.int 0)]) ?_ (pa (po (x:=.int s1') (y:=.int 1) rfl rfl rfl) rfl))
    . rw [Gi (by decide),q1]
    . rw [List.map_append]
      refine QN (ds:=fs.map D.int) (x:=.int x1) rfl (by rw [List.length_map]; omega) (po (x:=.int (s1' * (s1' / 127 + 40009))) (y:=.int 2147483629) (po (x:=.int s1') (y:=.int (s1' / 127 + 40009)) rfl (po (x:=.int (s1' / 127)) (y:=.int 40009) (po (x:=.int s1') (y:=.int 127) rfl rfl (EY (by decide) (by decide))) rfl rfl) (J7 (.inl ⟨by omega,by omega⟩))) rfl ?_)
      rw [Gi (by decide),q2]
  . refine FZ (Pr (x0:=.ref μ.length) (a:=none) (b:=some 1) (μ1:=μ ++ [.lst ((fs ++ [x1]).map D.int)]) (μ2:=μ ++ [.lst ((fs ++ [x1]).map D.int)]) (μ3:=μ ++ [.lst ((fs ++ [x1]).map D.int)]) rfl rfl rfl ?_)
    show bnd (Bv (.ref μ.length)) (fun ds=>Mi.ret (D.lst (Cw ds none (some 1)))) (μ ++ [MO.lst ((fs ++ [x1]).map D.int)])=_
    rw [AM (show Bv (.ref μ.length) (μ ++ [.lst ((fs ++ [x1]).map D.int)])=some ((fs ++ [x1]).map D.int,μ ++ [.lst ((fs ++ [x1]).map D.int)]) from by unfold Bv; dsimp only; rw [g1])]
    show some (D.lst (Cw ((fs ++ [x1]).map D.int) none (some 1)),_)=_
    rw [hcut]
end
end K13
set_option maxHeartbeats 4000000
namespace K13
open PySem L2 Mi Ht
section
variable {μ μ1 μ2 μ3 μ4 μ':Mh} {τ τ1:Sl} {x0 d:D} {ds es:List D} {n:Nat}
variable {sf:Bool} {sz bg:Int} {ns:List Str}
abbrev nL0:List Str:=["w", "r", "s", "t"]
abbrev nL1:List Str:=["writer", "a", "ab", "b"]
abbrev nL2:List Str:=["z", "zz", "zzzzzzzz", "begin"]
theorem U0 {x:Int}:∃ L:List Str,L.length=4 /\ (∀ n ∈ L,PyData.strOk n=true) /\ L.Nodup /\ ∀ M:Mh,AQ (.lst [.lst (nL0.map D.str),.lst (nL1.map D.str),.lst (nL2.map D.str)]) (.int (x % 3)) M=some (.lst (L.map D.str),M):=by
  have h0:0 <= x % 3:=Int.emod_nonneg _ (by decide)
  have h1:x % 3 < 3:=Int.emod_lt_of_pos _ (by decide)
  rcases (show x % 3=0 ∨ x % 3=1 ∨ x % 3=2 by omega) with h | h | h <;> rw [h]
  . exact ⟨nL0,rfl,by decide +kernel,by decide +kernel,fun M=>rfl⟩
  . exact ⟨nL1,rfl,by decide +kernel,by decide +kernel,fun M=>rfl⟩
  . exact ⟨nL2,rfl,by decide +kernel,by decide +kernel,fun M=>rfl⟩
end
end K13
namespace K11
open PySem L2 Mi K13
end K11
namespace K11
open PySem L2 Mi K13
end K11
set_option maxHeartbeats 4000000
namespace K11
open PySem L2 Mi Ht K13
section
variable {sf:Bool} {sz bg:Int} {ns:List Str}
end
section
variable {μ:Mh}
end
end K11
set_option maxHeartbeats 4000000
namespace K11
open PySem L2 Mi Ht K13
section
variable {μ μ1 μ2:Mh} {τ:Sl} {w c f:Int} {b n:Nat} {a0 b0 c0 d:D} {ds:List D}
variable {sf:Bool} {sz bg:Int} {ns:List Str}
end
end K11
set_option maxHeartbeats 4000000
namespace K11
open PySem L2 Mi Ht K13
section
variable {μ μ1 μ2:Mh} {τ:Sl} {w c f x:Int} {b n:Nat} {d:D} {ds:List D}
variable {sf:Bool} {sz bg:Int} {ns:List Str}
end
end K11
set_option maxHeartbeats 4000000
namespace K11
open PySem L2 Mi Ht K13
section
variable {μ μ1 μ2:Mh} {τ:Sl} {w c f x:Int} {b n:Nat} {d:D} {ds:List D}
variable {sf:Bool} {sz bg:Int} {ns:List Str} {ts:List (Option (List Int))}
end
end K11
set_option maxHeartbeats 4000000
namespace K11
open PySem L2 Mi Ht K13
section
variable {μ μ1 μ2:Mh} {τ τ1 τ2:Sl} {w c f x v:Int} {b n:Nat} {d:D} {ds:List D}
theorem Nr {bf:D->Sl->M Sl} {mb:Sl->M (Fl × Sl)} {y:D} {i k:Nat} {r:(Fl × Sl) × Mh} (hn:μ[n]? = some (.lst ds)) (hx:ds[i]? = some y) (h1:bf y τ μ=some (τ1,μ1)) (h2:mb τ1 μ1=some ((.next,τ2),μ2)) (h3:FX n bf mb k (i + 1) τ2 μ2=some r):FX n bf mb (k + 1) i τ μ=some r:=by
  unfold FX
  simp only [hn,hx]
  rw [AM h1,AM h2]
  exact h3
theorem Nt {bf:D->Sl->M Sl} {mb:Sl->M (Fl × Sl)} {i k:Nat} (hn:μ[n]? = some (.lst ds)) (hx:ds[i]? = none):FX n bf mb (k + 1) i τ μ=some ((.next,τ),μ):=by
  unfold FX
  simp only [hn,hx]
variable {sf:Bool} {sz bg:Int} {ns:List Str}
end
end K11
namespace Wb
open PySem Nk
def mvR (c:Cs) (i:Nat):Cs:=(c.1,c.2.1,c.2.2.set i c.1)
def rdF:Nat->List Int->List Nat
  | _,[]=>[]
  | k,t :: r=>if t = -2 then k :: rdF (k + 1) r else rdF (k + 1) r
def Fv (c:Cs):List Nat:=rdF 0 c.2.2
theorem MT {i:Nat}:∀ {ts:List Int} {k:Nat},i ∈ rdF k ts ↔ k <= i /\ ts[i - k]? = some (-2)
  | [],k=>by simp [rdF]
  | t :: r,k=>by
    have ih:=MT (i:=i) (ts:=r) (k:=k + 1)
    unfold rdF
    by_cases hk:i=k
    . subst hk
      split
      . rename_i h; subst h; simp
      . rename_i h
        rw [ih]
        constructor
        . intro z; omega
        . intro z; simp at z; exact absurd z h
    . have e:k <= i /\ (t :: r)[i - k]? = some (-2) ↔ k + 1 <= i /\ r[i - (k + 1)]? = some (-2):=by
        constructor
        . rintro ⟨a,b⟩
          have:i - k=(i - (k + 1)) + 1:=by omega
          rw [this] at b
          exact ⟨by omega,by simpa using b⟩
        . rintro ⟨a,b⟩
          have:i - k=(i - (k + 1)) + 1:=by omega
          rw [this]
          exact ⟨by omega,by simpa using b⟩
      rw [e,← ih]
      split
      . simp [hk]
      . rfl
theorem F3:∀ (ts:List Int) (k:Nat),(rdF k ts).length <= ts.length
  | [],k=>by simp [rdF]
  | t :: r,k=>by
    have:=F3 r (k + 1)
    unfold rdF
    split <;> simp <;> omega
def Dx (c:Cs):List (Nat × Cs):=(if 0 <= c.2.1 then [(0,(c.2.1,-2,c.2.2))] else []) ++ (Fv c).map fun i=>(i + 1,mvR c i)
def nxt (c:Cs):List Cs:=(Dx c).map (·.2)
def Dw (v:Int):List Int->List (List Int)
  | []=>[[]]
  | t :: r=>if t = -2 then (Dw v r).map (-2 :: ·) ++ (Dw v r).map (v :: ·) else (Dw v r).map (t :: ·)
def rch (c:Cs):List Cs:=(Dw c.1 c.2.2).map (fun t=>(c.1,c.2.1,t)) ++ if 0 <= c.2.1 then ((Dw c.1 c.2.2).flatMap (Dw c.2.1)).map (fun t=>(c.2.1,-2,t)) else []
theorem FO (v:Int):∀ ts,ts ∈ Dw v ts
  | []=>by simp [Dw]
  | t :: r=>by
    unfold Dw
    have:=FO v r
    split
    . rename_i e; subst e; simp [this]
    . simp [this]
theorem Dv {v:Int}:∀ {ts us:List Int} {i:Nat},us ∈ Dw v ts->us[i]? = some (-2)->us.set i v ∈ Dw v ts
  | [],us,i,h,e=>by simp [Dw] at h; subst h; simp at e
  | t :: r,us,i,h,e=>by
    unfold Dw at h ⊢
    split at h
    . rename_i ht
      rw [if_pos ht]
      rcases List.mem_append.mp h with h | h
      . obtain ⟨x,hx,rfl⟩:=List.mem_map.mp h
        cases i with
        | zero=>exact List.mem_append_right _ (List.mem_map.mpr ⟨x,hx,rfl⟩)
        | succ i=>exact List.mem_append_left _ (List.mem_map.mpr ⟨x.set i v,Dv hx (by simpa using e),rfl⟩)
      . obtain ⟨x,hx,rfl⟩:=List.mem_map.mp h
        cases i with
        | zero=>exact List.mem_append_right _ (List.mem_map.mpr ⟨x,hx,rfl⟩)
        | succ i=>exact List.mem_append_right _ (List.mem_map.mpr ⟨x.set i v,Dv hx (by simpa using e),rfl⟩)
    . rename_i ht
      rw [if_neg ht]
      obtain ⟨x,hx,rfl⟩:=List.mem_map.mp h
      cases i with
      | zero=>simp at e; exact absurd e ht
      | succ i=>exact List.mem_map.mpr ⟨x.set i v,Dv hx (by simpa using e),rfl⟩
theorem mem_rdrs {c:Cs} {i:Nat}:i ∈ Fv c ↔ c.2.2[i]? = some (-2):=by
  unfold Fv
  rw [MT]
  simp
theorem mem_nxt {c x:Cs}:x ∈ nxt c ↔ (0 <= c.2.1 /\ x=(c.2.1,-2,c.2.2)) ∨ ∃ i,c.2.2[i]? = some (-2) /\ x=mvR c i:=by
  unfold nxt Dx
  rw [List.map_append,List.mem_append,List.map_map]
  constructor
  . rintro (h | h)
    . split at h
      . rename_i h0; simp at h; exact .inl ⟨h0,h⟩
      . simp at h
    . obtain ⟨i,hi,rfl⟩:=List.mem_map.mp h
      exact .inr ⟨i,mem_rdrs.mp hi,rfl⟩
  . rintro (⟨h0,rfl⟩ | ⟨i,hi,rfl⟩)
    . left; rw [if_pos h0]; simp
    . right; exact List.mem_map.mpr ⟨i,mem_rdrs.mpr hi,rfl⟩
theorem DH (c:Cs):c ∈ rch c:=List.mem_append_left _ (List.mem_map.mpr ⟨_,FO _ _,rfl⟩)
theorem Ie {c x y:Cs} (h:x ∈ rch c) (hy:y ∈ nxt x):y ∈ rch c:=by
  unfold rch at h ⊢
  rcases List.mem_append.mp h with h | h
  . obtain ⟨ts,ht,rfl⟩:=List.mem_map.mp h
    rcases mem_nxt.mp hy with ⟨h0,rfl⟩ | ⟨i,hi,rfl⟩
    . refine List.mem_append_right _ ?_
      rw [if_pos h0]
      exact List.mem_map.mpr ⟨ts,List.mem_flatMap.mpr ⟨ts,ht,FO _ _⟩,rfl⟩
    . exact List.mem_append_left _ (List.mem_map.mpr ⟨_,Dv ht hi,rfl⟩)
  . split at h
    . rename_i h0
      obtain ⟨ts,ht,rfl⟩:=List.mem_map.mp h
      obtain ⟨us,hu,hv⟩:=List.mem_flatMap.mp ht
      rcases mem_nxt.mp hy with ⟨h1,rfl⟩ | ⟨i,hi,rfl⟩
      . exact absurd h1 (show ¬ (0:Int) <= -2 by decide)
      . refine List.mem_append_right _ ?_
        rw [if_pos h0]
        exact List.mem_map.mpr ⟨_,List.mem_flatMap.mpr ⟨us,hu,Dv hv hi⟩,rfl⟩
    . cases h
inductive Rch:Cs->Cs->Prop
  | refl (c:Cs):Rch c c
  | step {a b c:Cs}:Rch a b->c ∈ nxt b->Rch a c
theorem Rch.trans {a b c:Cs} (h:Rch a b) (g:Rch b c):Rch a c:=by
  induction g with
  | refl=>exact h
  | step _ s ih=>exact .step ih s
theorem Eo {v c:Int}:∀ {ts us:List Int} (pre:List Int),us ∈ Dw v ts->Rch (v,c,pre ++ ts) (v,c,pre ++ us)
  | [],us,pre,h=>by simp [Dw] at h; subst h; exact .refl _
  | t :: r,us,pre,h=>by
    unfold Dw at h
    have go:∀ (a:Int) {x:List Int},x ∈ Dw v r->Rch (v,c,pre ++ a :: r) (v,c,pre ++ a :: x):=fun a x hx=>by
      have:=Eo (c:=c) (pre ++ [a]) hx
      simpa using this
    split at h
    . rename_i ht
      subst ht
      rcases List.mem_append.mp h with h | h
      . obtain ⟨x,hx,rfl⟩:=List.mem_map.mp h
        exact go _ hx
      . obtain ⟨x,hx,rfl⟩:=List.mem_map.mp h
        refine Rch.trans (.step (.refl _) (mem_nxt.mpr (.inr ⟨pre.length,by simp,rfl⟩))) ?_
        have:mvR (v,c,pre ++ -2 :: r) pre.length=(v,c,pre ++ v :: r):=by simp [mvR]
        rw [this]
        exact go v hx
    . obtain ⟨x,hx,rfl⟩:=List.mem_map.mp h
      exact go _ hx
theorem rch_iff {c x:Cs}:x ∈ rch c ↔ Rch c x:=by
  constructor
  . intro h
    unfold rch at h
    rcases List.mem_append.mp h with h | h
    . obtain ⟨ts,ht,rfl⟩:=List.mem_map.mp h
      exact Eo [] ht
    . split at h
      . rename_i h0
        obtain ⟨ts,ht,rfl⟩:=List.mem_map.mp h
        obtain ⟨us,hu,hv⟩:=List.mem_flatMap.mp ht
        exact (Rch.step (Eo (c:=c.2.1) [] hu) (mem_nxt.mpr (.inl ⟨h0,rfl⟩))).trans (Eo [] hv)
      . cases h
  . intro h
    induction h with
    | refl=>exact DH _
    | step _ s ih=>exact Ie ih s
def clo (cs:List Cs):List Cs:=cs.flatMap rch
theorem mem_clo {cs:List Cs} {x:Cs}:x ∈ clo cs ↔ ∃ c ∈ cs,x ∈ rch c:=List.mem_flatMap
def vis (s:List Cs × List Cs) (c:Cs):List Cs × List Cs:=if c ∈ s.1 then s else (s.1 ++ [c],s.2 ++ [c])
def hop (s:List Cs × List Cs) (c:Cs):List Cs × List Cs:=(nxt c).foldl vis (s.1,s.2.dropLast)
structure Wk (cs:List Cs) (ways wait:List Cs):Prop where
  nd:ways.Nodup
  sub:∀ x ∈ wait,x ∈ ways
  don:∀ x ∈ ways,x ∈ wait ∨ ∀ y ∈ nxt x,y ∈ ways
  frm:∀ x ∈ ways,x ∈ clo cs
  all:∀ x ∈ cs,x ∈ ways
theorem Wk.done {cs ways:List Cs} (w:Wk cs ways []) {x:Cs}:x ∈ ways ↔ x ∈ clo cs:=by
  refine ⟨w.frm x,fun h=>?_⟩
  obtain ⟨c,hc,hx⟩:=mem_clo.mp h
  have:=rch_iff.mp hx
  induction this with
  | refl=>exact w.all _ hc
  | step g s ih=>
    rcases w.don _ (ih (mem_clo.mpr ⟨c,hc,rch_iff.mpr g⟩) (rch_iff.mpr g)) with z | z
    . cases z
    . exact z _ s
structure Wm (cs:List Cs) (c:Cs) (ys:List Cs) (s:List Cs × List Cs):Prop where
  nd:s.1.Nodup
  sub:∀ x ∈ s.2,x ∈ s.1
  don:∀ x ∈ s.1,x ∈ s.2 ∨ x=c ∨ ∀ y ∈ nxt x,y ∈ s.1
  ths:∀ y ∈ nxt c,y ∈ ys ∨ y ∈ s.1
  frm:∀ x ∈ s.1,x ∈ clo cs
  all:∀ x ∈ cs,x ∈ s.1
  me:c ∈ s.1
theorem Wm.vis {cs:List Cs} {c y:Cs} {ys:List Cs} {s:List Cs × List Cs} (w:Wm cs c (y :: ys) s) (hy:y ∈ nxt c):Wm cs c ys (vis s y):=by
  unfold Wb.vis
  split
  . rename_i h
    exact ⟨w.nd,w.sub,w.don,fun z hz=>(w.ths z hz).elim (fun q=>(List.mem_cons.mp q).elim (fun e=>.inr (e ▸ h)) .inl) .inr,w.frm,w.all,w.me⟩
  . rename_i h
    refine ⟨?_,?_,?_,?_,?_,fun x hx=>List.mem_append_left _ (w.all x hx),List.mem_append_left _ w.me⟩
    . refine List.nodup_append.mpr ⟨w.nd,by simp,fun a ha b hb e=>h (by simp at hb; rw [← hb,← e]; exact ha)⟩
    . intro x hx
      rcases List.mem_append.mp hx with z | z
      . exact List.mem_append_left _ (w.sub x z)
      . exact List.mem_append_right _ z
    . intro x hx
      rcases List.mem_append.mp hx with z | z
      . rcases w.don x z with q | q | q
        . exact .inl (List.mem_append_left _ q)
        . exact .inr (.inl q)
        . exact .inr (.inr fun u hu=>List.mem_append_left _ (q u hu))
      . exact .inl (List.mem_append_right _ z)
    . intro z hz
      rcases w.ths z hz with q | q
      . rcases List.mem_cons.mp q with e | q
        . exact .inr (List.mem_append_right _ (by rw [e]; simp))
        . exact .inl q
      . exact .inr (List.mem_append_left _ q)
    . intro x hx
      rcases List.mem_append.mp hx with z | z
      . exact w.frm x z
      . rw [List.mem_singleton] at z
        subst z
        obtain ⟨d,hd,hr⟩:=mem_clo.mp (w.frm c w.me)
        exact mem_clo.mpr ⟨d,hd,Ie hr hy⟩
theorem Wm.fold {cs:List Cs} {c:Cs}:∀ {ys:List Cs} {s:List Cs × List Cs},Wm cs c ys s->(∀ y ∈ ys,y ∈ nxt c)->Wm cs c [] (ys.foldl Wb.vis s)
  | [],_,w,_=>w
  | y :: ys,s,w,h=>show Wm cs c [] (ys.foldl Wb.vis (Wb.vis s y)) from Wm.fold (ys:=ys) (w.vis (h y List.mem_cons_self)) fun z hz=>h z (List.mem_cons_of_mem _ hz)
theorem Wk.hop {cs ways wait:List Cs} {c:Cs} (w:Wk cs ways (wait ++ [c])):Wk cs (hop (ways,wait ++ [c]) c).1 (hop (ways,wait ++ [c]) c).2:=by
  have m:Wm cs c (nxt c) (ways,(wait ++ [c]).dropLast):=by
    rw [List.dropLast_concat]
    refine ⟨w.nd,fun x hx=>w.sub x (List.mem_append_left _ hx),fun x hx=>?_,fun y hy=>.inl hy,w.frm,w.all,w.sub c (by simp)⟩
    rcases w.don x hx with q | q
    . rcases List.mem_append.mp q with q | q
      . exact .inl q
      . exact .inr (.inl (by simpa using q))
    . exact .inr (.inr q)
  have f:=m.fold fun _ h=>h
  refine ⟨f.nd,f.sub,fun x hx=>?_,f.frm,f.all⟩
  rcases f.don x hx with q | q | q
  . exact .inl q
  . subst q
    exact .inr fun y hy=>(f.ths y hy).elim (fun z=>by cases z) id
  . exact .inr q
theorem Lp (s:List Cs × List Cs) (c:Cs):(vis s c).1.length + s.2.length=s.1.length + (vis s c).2.length:=by
  unfold vis
  split
  . omega
  . simp; omega
theorem KF:∀ (ys:List Cs) (s:List Cs × List Cs),(ys.foldl vis s).1.length + s.2.length=s.1.length + (ys.foldl vis s).2.length
  | [],s=>rfl
  | y :: ys,s=>by
    have h1:=Lp s y
    have h2:=KF ys (vis s y)
    show ((ys.foldl vis (vis s y)).1).length + _=_ + ((ys.foldl vis (vis s y)).2).length
    omega
theorem Bw {α:Type} [DecidableEq α]:∀ {xs ys:List α},xs.Nodup->(∀ x ∈ xs,x ∈ ys)->xs.length <= ys.length
  | [],_,_,_=>Nat.zero_le _
  | x :: xs,ys,nd,h=>by
    obtain ⟨n1,n2⟩:=List.nodup_cons.mp nd
    have hx:=h x List.mem_cons_self
    have:=Bw (xs:=xs) (ys:=ys.erase x) n2 fun y hy=>(List.mem_erase_of_ne (fun e=>n1 (by rw [← e]; exact hy))).mpr (h y (List.mem_cons_of_mem _ hy))
    rw [List.length_erase_of_mem hx] at this
    have:=List.length_pos_of_mem hx
    simp
    omega
end Wb
set_option maxHeartbeats 4000000
namespace K16
open PySem L2 Mi Nk Wb
open K13 (BJ Bu BT EA po pc pd pq pa piT piF pr peT peF FI Ca DV Dh Bx Da BZ D8 Ei D3 ED D4)
section
variable {μ μ1 μ2 μ3 μ4 μ':Mh} {τ τ1 τ2:Sl} {x0 d:D} {ds es:List D} {n:Nat}
theorem Mn:f_with_thing=K13.f_with_thing:=rfl
def BS (p:Nat × Cs):D:=.tup [.int p.1,csD p.2]
theorem cl_cs (k:Nat) (c:Cs):Cl k (csD c):=by
  unfold csD Cl ClL
  refine ⟨Bu _ _,?_⟩
  unfold ClL
  refine ⟨Bu _ _,?_⟩
  unfold ClL
  exact ⟨by unfold Cl; exact BJ (Bu k) _,by unfold ClL; trivial⟩
theorem Mr (k:Nat) (p:Nat × Cs):Cl k (BS p):=by
  unfold BS Cl ClL
  refine ⟨Bu _ _,?_⟩
  unfold ClL
  exact ⟨cl_cs _ _,by unfold ClL; trivial⟩
theorem G9 {n ps:Nat} {mb:Sl->M (Fl × Sl)} {ds:List D} {μ g:Mh} {τ2:Sl} (e:mb (B8 n ds) μ=some ((.rt d,τ2),μ ++ g)) (hl:ds.length=ps) (hg:∀ o ∈ g,∀ k,ClO k o) (c:Cl (μ ++ g).length d):Ak .all n ps mb ds μ=some (d,μ ++ g):=
  KW (hw:=.all) e hl (.inr ⟨d,rfl⟩) ⟨⟨[],by show μ ++ g=μ ++ g ++ []; simp⟩,(by show μ.length <= (μ ++ g).length; simp),fun n o h=>by
    by_cases hn:n < μ.length
    . left
      have h':(μ ++ g)[n]? = some o:=h
      rw [List.getElem?_append_left hn] at h'
      exact h'
    . right
      have h':(μ ++ g)[n]? = some o:=h
      rw [List.getElem?_append_right (by omega)] at h'
      exact hg o (List.mem_of_getElem? h') _,.inl ⟨rfl,c⟩⟩
theorem Vc {i j:Int}:Jw (.int i) (.int j) μ=some (.bl (decide (j <= i)),μ):=rfl
theorem g1a {a:MO}:(μ ++ [a])[μ.length]? = some a:=by rw [List.getElem?_append_right (Nat.le_refl _)]; simp
theorem s1a {a b:MO}:(μ ++ [a]).set μ.length b=μ ++ [b]:=by rw [List.set_append_right _ _ (Nat.le_refl _)]; simp
theorem QN {x:D} {S:Sl} {k:Nat} {me:Sl->M D} (h:S[k]? = some (some (.ref μ.length))) (hl:ds.length <= 1000) (he:me S (μ ++ [.lst ds])=some (x,μ ++ [.lst ds])):Bl (Aw C8 (AB k) (AD me AK)) S (μ ++ [.lst ds])=some ((.next,S),μ ++ [.lst (ds ++ [x])]):=by
  have hz:=DV
  refine GC (d:=.non) (GB (μ1:=μ ++ [.lst ds]) (μ2:=μ ++ [.lst ds]) (μ3:=μ ++ [.lst ds]) (x:=.ref μ.length) (ds:=[x]) (CO h) (Bx g1a) (pc he rfl) ?_)
  rw [Da g1a (by omega),s1a]
noncomputable abbrev WD:Sl->M (Fl × Sl):=(sIf (AS (mOp As (AB 3) (mC CP))) (Bl (Aw C8 (AB 1) (AD (AH Al (AD (mOp AU (AB 2) (mC (.int 1))) (AD (AH Al (AD (mOp AQ (AB 0) (mC (.int 0))) (AD (mOp AQ (AB 0) (mC (.int 1))) (AD (AH f_with_thing (AD (mOp AQ (AB 0) (mC (.int 2))) (AD (AB 2) (AD (mOp AQ (AB 0) (mC (.int 0))) AK)))) AK)))) AK))) AK))) Bh)
theorem LB {c:Cs} (hc:c.2.2.length <= 100):∀ (rest:List Int) (k:Nat) (acc:List D) (o2 o3:Option D),k + rest.length=c.2.2.length->acc.length + rest.length <= 1000->∃ o2' o3':Option D,
    Dj (Cz [2,3]) WD (Cv k (rest.map D.int)) [some (csD c),some (.ref μ.length),o2,o3] (μ ++ [.lst acc])=some ((.next,[some (csD c),some (.ref μ.length),o2',o3']),μ ++ [.lst (acc ++ (rdF k rest).map fun i=>BS (i + 1,mvR c i))])
  | [],k,acc,o2,o3,_,_=>⟨o2,o3,by simp [rdF,Cv]; rfl⟩
  | t :: r,k,acc,o2,o3,hk,hl=>by
    have hz:=DV
    have ht:AS (mOp As (AB 3) (mC CP)) [some (csD c),some (.ref μ.length),some (.int k),some (.int t)] (μ ++ [.lst acc])=some (t == -2,μ ++ [.lst acc]):=BH (po (x:=.int t) (y:=.int (-2)) rfl rfl Dh)
    simp only [List.length_cons] at hk hl
    by_cases e:t = -2
    . obtain ⟨o2',o3',go⟩:=LB hc r (k + 1) (acc ++ [BS (k + 1,mvR c k)]) (some (.int k)) (some (.int t)) (by omega) (by simp; omega)
      refine ⟨o2',o3',?_⟩
      have er:rdF k (t :: r)=k :: rdF (k + 1) r:=by rw [rdF,if_pos e]
      rw [er]
      have ea:acc ++ List.map (fun i=>BS (i + 1,mvR c i)) (k :: rdF (k + 1) r)=acc ++ [BS (k + 1,mvR c k)] ++ (rdF (k + 1) r).map fun i=>BS (i + 1,mvR c i):=by simp
      rw [ea]
      refine BZ (τ1:=[some (csD c),some (.ref μ.length),some (.int k),some (.int t)]) (μ1:=μ ++ [.lst acc]) (x:=.tup [.int k,.int t]) rfl (Gy (by rw [ht,e]; rfl) (QN (μ:=μ) rfl (by omega) ?_)) go
      refine pd (ds:=[.int ((k:Int) + 1),csD (mvR c k)]) (pc (x:=.int ((k:Int) + 1)) (po (x:=.int k) (y:=.int 1) rfl rfl rfl) (pc (x:=csD (mvR c k)) (pd (ds:=[.int c.1,.int c.2.1,.tup ((c.2.2.set k c.1).map D.int)]) (pc (x:=.int c.1) rfl (pc (x:=.int c.2.1) rfl (pc (pd (ds:=[.tup (c.2.2.map D.int),.int k,.int c.1]) rfl ?_) rfl))) (BT (by simp; omega))) rfl)) (by
          have:=BT (μ:=μ ++ [.lst acc]) (ds:=[.int ((k:Int) + 1),csD (mvR c k)]) (by simp; omega)
          rw [this]
          unfold BS
          simp)
      rw [Mn,FI (by rw [List.length_map]; omega) (by rw [List.length_map]; omega) (fun k=>BJ (Bu k) _) (fun k=>Bu k _),List.map_set]
    . obtain ⟨o2',o3',go⟩:=LB hc r (k + 1) acc (some (.int k)) (some (.int t)) (by omega) (by omega)
      refine ⟨o2',o3',?_⟩
      have er:rdF k (t :: r)=rdF (k + 1) r:=by rw [rdF,if_neg e]
      rw [er]
      exact BZ (τ1:=[some (csD c),some (.ref μ.length),some (.int k),some (.int t)]) (μ1:=μ ++ [.lst acc]) (x:=.tup [.int k,.int t]) rfl (Gz (by rw [ht,beq_eq_false_iff_ne.mpr e]) rfl) go
theorem NB {c:Cs} (hc:c.2.2.length <= 100):BB [csD c] μ=some (.ref μ.length,μ ++ [.lst ((Dx c).map BS)]):=by
  have hz:=DV
  have i1:∀ S (M:Mh),S[0]? = some (some (csD c))->mOp AQ (AB 0) (mC (.int 1)) S M=some (.int c.2.1,M):=fun S M h=>po (x:=csD c) (y:=.int 1) (CO h) rfl rfl
  have fst:sIf (AS (mOp Jw (mOp AQ (AB 0) (mC (.int 1))) (mC (.int 0)))) (Bl (Aw C8 (AB 1) (AD (AH Al (AD (mC (.int 0)) (AD (AH Al (AD (mOp AQ (AB 0) (mC (.int 1))) (AD (mC EM) (AD (mOp AQ (AB 0) (mC (.int 2))) AK)))) AK))) AK))) Bh [some (csD c),some (.ref μ.length),none,none] (μ ++ [.lst []])=some ((.next,[some (csD c),some (.ref μ.length),none,none]),μ ++ [.lst ((if 0 <= c.2.1 then [(0,(c.2.1,-2,c.2.2))] else []).map BS)]):=by
    have t:AS (mOp Jw (mOp AQ (AB 0) (mC (.int 1))) (mC (.int 0))) [some (csD c),some (.ref μ.length),none,none] (μ ++ [.lst []])=some (decide (0 <= c.2.1),μ ++ [.lst []]):=BH (po (x:=.int c.2.1) (y:=.int 0) (i1 _ _ rfl) rfl Vc)
    by_cases h0:0 <= c.2.1
    . rw [if_pos h0]
      refine Gy (by rw [t,decide_eq_true h0]) (QN (μ:=μ) (ds:=[]) rfl (by simp) ?_)
      refine pd (ds:=[.int 0,csD (c.2.1,-2,c.2.2)]) (pc (x:=.int 0) rfl (pc (x:=csD (c.2.1,-2,c.2.2)) (pd (ds:=[.int c.2.1,.int (-2),.tup (c.2.2.map D.int)]) rfl (BT (by simp; omega))) rfl)) (BT (by simp; omega))
    . rw [if_neg h0]
      exact Gz (μ1:=μ ++ [.lst []]) (by rw [t,decide_eq_false h0]) rfl
  have hlen:((if 0 <= c.2.1 then [(0,(c.2.1,(-2:Int),c.2.2))] else []).map BS).length <= 1:=by split <;> simp
  obtain ⟨o2,o3,go⟩:=LB (μ:=μ) hc c.2.2 0 ((if 0 <= c.2.1 then [(0,(c.2.1,-2,c.2.2))] else []).map BS) none none (by omega) (by omega)
  have em:(if 0 <= c.2.1 then [(0,(c.2.1,(-2:Int),c.2.2))] else []).map BS ++ (rdF 0 c.2.2).map (fun i=>BS (i + 1,mvR c i))=(Dx c).map BS:=by
    unfold Dx Fv
    rw [List.map_append,List.map_map]
    rfl
  rw [em] at go
  refine G9 (τ2:=[some (csD c),some (.ref μ.length),o2,o3]) ?_ rfl (fun o ho k=>by rw [List.mem_singleton] at ho; subst ho; exact BJ (Mr k) _) (by unfold Cl; simp)
  refine BI (τ1:=[some (csD c),some (.ref μ.length),none,none]) (μ1:=μ ++ [.lst []]) ?_ (BI fst (BI (LP (ds:=Cv 0 (c.2.2.map D.int)) (μ1:=_) rfl go) (FZ (CO rfl))))
  refine Fa (d:=.ref μ.length) (μ1:=μ ++ [.lst []]) (Cc (ds:=[]) (μ1:=μ) rfl ?_) rfl
  unfold Eu
  rw [AM (show lim ([]:List D).length μ=some ((),μ) from by unfold lim; rw [if_pos (by simp)])]
end
end K16
set_option maxHeartbeats 4000000
namespace K16
open PySem L2 Mi Nk Wb
open K13 (BJ Bu BT EA po pc pd pq pa piT piF pr peT peF FI Ca DV Dh Bx Da BZ D8 Ei D3 ED D4)
section
variable {μ μ1 μ2 μ3 μ4 μ' g:Mh} {τ τ1 τ2:Sl} {x0 d:D} {ds es:List D} {n:Nat}
theorem gA {a b:MO}:(μ ++ (a :: b :: g))[μ.length]? = some a:=by rw [List.getElem?_append_right (Nat.le_refl _)]; simp
theorem gB {a b:MO}:(μ ++ (a :: b :: g))[μ.length + 1]? = some b:=by rw [List.getElem?_append_right (by omega)]; simp
theorem sA {a b c:MO}:(μ ++ (a :: b :: g)).set μ.length c=μ ++ (c :: b :: g):=by rw [List.set_append_right _ _ (Nat.le_refl _)]; simp
theorem sB {a b c:MO}:(μ ++ (a :: b :: g)).set (μ.length + 1) c=μ ++ (a :: c :: g):=by rw [List.set_append_right _ _ (by omega)]; simp
theorem Kd (c:Cs):HF (csD c)=some c:=by
  obtain ⟨a,b,ts⟩:=c
  have h:∀ ns:List Int,CV (ns.map D.int)=some ns:=fun ns=>by
    induction ns with
    | nil=>rfl
    | cons x r ih=>show (CV (r.map D.int)).map _=_; rw [ih]; rfl
  show (CV (ts.map D.int)).map _=_
  rw [h]
  rfl
theorem Mw {L:List (Cs × D)} (h:μ[n]? = some (.dC L)):JI (.ref n) μ=some ((n,L),μ):=by unfold JI; dsimp only; rw [h]
theorem My {L:List (Cs × D)} {c:Cs}:(L.any fun z=>decide (z.1=c))=decide (c ∈ L.map (·.1)):=by
  rw [Bool.eq_iff_iff,List.any_eq_true,decide_eq_true_eq,List.mem_map]
  constructor
  . rintro ⟨z,h1,h2⟩; exact ⟨z,h1,of_decide_eq_true h2⟩
  . rintro ⟨z,h1,h2⟩; exact ⟨z,h1,decide_eq_true h2⟩
theorem UK {L:List (Cs × D)} {c:Cs} (h:μ[n]? = some (.dC L)):LV true (csD c) (.ref n) μ=some (.bl (!decide (c ∈ L.map (·.1))),μ):=by
  unfold LV
  rw [AM (Mw h)]
  show (HF (csD c)).map _=_
  rw [Kd,← My]
  rfl
theorem Mm {mo mi mv:Sl->M D} {v:D} {c:Cs} {L:List (Cs × D)} (h1:mv τ μ=some (v,μ)) (h2:mo τ μ=some (.ref n,μ)) (h3:mi τ μ=some (csD c,μ)) (h:μ[n]? = some (.dC L)) (hl:L.length < sizeLine) (hn:c ∉ L.map (·.1)):Em mo mi mv τ μ=some ((.next,τ),μ.set n (.dC (L ++ [(c,v)]))):=by
  unfold Em
  rw [AM h1,AM h2,AM h3,AM (Mw h)]
  show (match HF (csD c) with | some c=>if L.length < sizeLine /\ (L.any fun z=>decide (z.1=c))=false then some ((Fl.next,τ),μ.set n (.dC (L ++ [(c,v)]))) else none | none=>none)=_
  rw [Kd]
  show (if L.length < sizeLine /\ (L.any fun z=>decide (z.1=c))=false then some ((Fl.next,τ),μ.set n (.dC (L ++ [(c,v)]))) else none)=_
  rw [if_pos ⟨hl,by rw [My,decide_eq_false hn]⟩]
abbrev wH (μ:Mh) (W:List (Cs × D)) (wait:List Cs) (g:Mh):Mh:=μ ++ (.dC W :: .lst (wait.map csD) :: g)
noncomputable abbrev TF:Sl->M (Fl × Sl):=(sIf (AS (mOp (LV true) (AB 5) (AB 1))) (AT (Em (AB 1) (AB 5) (AH Al (AD (AB 4) (AD (AB 2) AK))))
    (Bl (Aw C8 (AB 3) (AD (AB 5) AK)))) Bh)
theorem OL {o0:Option D} {c x:Cs} {h:Int} {W:List (Cs × D)} {wait:List Cs} (hW:W.length <= 1000) (hq:wait.length <= 1000) (hc:∀ k,ClL k (W.map (·.2))):∃ W',(W'.map (·.1))=(vis (W.map (·.1),wait) x).1 /\ (∀ k,ClL k (W'.map (·.2))) /\
    TF [o0,some (.ref μ.length),some (csD c),some (.ref (μ.length + 1)),some (.int h),some (csD x)] (wH μ W wait g)=some ((.next,[o0,some (.ref μ.length),some (csD c),some (.ref (μ.length + 1)),some (.int h),some (csD x)]),wH μ W' (vis (W.map (·.1),wait) x).2 g):=by
  have hz:=DV
  have t:AS (mOp (LV true) (AB 5) (AB 1)) [o0,some (.ref μ.length),some (csD c),some (.ref (μ.length + 1)),some (.int h),some (csD x)] (wH μ W wait g)=some (!decide (x ∈ W.map (·.1)),wH μ W wait g):=BH (po (x:=csD x) (y:=.ref μ.length) rfl rfl (UK gA))
  by_cases e:x ∈ W.map (·.1)
  . refine ⟨W,by unfold vis; rw [if_pos e],hc,?_⟩
    unfold vis
    rw [if_pos e]
    exact Gz (by rw [t,decide_eq_true e]; rfl) rfl
  . refine ⟨W ++ [(x,.tup [.int h,csD c])],by unfold vis; rw [if_neg e,List.map_append]; rfl,fun k=>?_,?_⟩
    . rw [List.map_append]
      have ap:∀ as:List D,ClL k as->ClL k (as ++ [D.tup [.int h,csD c]]):=fun as=>by
        induction as with
        | nil=>intro _; show ClL k [_]; unfold ClL; exact ⟨by unfold Cl ClL; exact ⟨Bu _ _,by unfold ClL; exact ⟨cl_cs _ _,by unfold ClL; trivial⟩⟩,by unfold ClL; trivial⟩
        | cons a as ih=>intro z; unfold ClL at z; show ClL k (a :: (as ++ _)); unfold ClL; exact ⟨z.1,ih z.2⟩
      exact ap _ (hc k)
    . unfold vis
      rw [if_neg e]
      refine Gy (by rw [t,decide_eq_false e]; rfl) (BI (μ1:=wH μ (W ++ [(x,.tup [.int h,csD c])]) wait g) ?_ (GC (d:=.non) (GB (μ1:=wH μ (W ++ [(x,.tup [.int h,csD c])]) wait g) (μ2:=wH μ (W ++ [(x,.tup [.int h,csD c])]) wait g) (μ3:=wH μ (W ++ [(x,.tup [.int h,csD c])]) wait g) (x:=.ref (μ.length + 1)) (ds:=[csD x]) rfl (Bx gB) rfl ?_)))
      . have:=Mm (τ:=[o0,some (.ref μ.length),some (csD c),some (.ref (μ.length + 1)),some (.int h),some (csD x)]) (μ:=wH μ W wait g) (n:=μ.length) (mo:=AB 1) (mi:=AB 5) (mv:=AH Al (AD (AB 4) (AD (AB 2) AK))) (v:=.tup [.int h,csD c]) (c:=x) (L:=W) (pd (ds:=[.int h,csD c]) rfl (BT (by simp; omega))) rfl rfl gA (by omega) e
        rw [sA] at this
        exact this
      . rw [Da gB (by rw [List.length_map]; omega),sB]
        show some (D.non,μ ++ (MO.dC (W ++ [(x,D.tup [D.int h,csD c])]) :: MO.lst (wait.map csD ++ [csD x]) :: g))=some (D.non,μ ++ (MO.dC (W ++ [(x,D.tup [D.int h,csD c])]) :: MO.lst ((wait ++ [x]).map csD) :: g))
        rw [List.map_append]
        rfl
theorem gL {W:List (Cs × D)} {wait:List Cs} {o:MO}:(wH μ W wait (g ++ [o]))[μ.length + 2 + g.length]? = some o:=by
  show (μ ++ (MO.dC W :: MO.lst (wait.map csD) :: (g ++ [o])))[μ.length + 2 + g.length]? = _
  rw [List.getElem?_append_right (by omega)]
  have:μ.length + 2 + g.length - μ.length=g.length + 1 + 1:=by omega
  rw [this]
  simp
theorem OM {o0:Option D} {c:Cs} {cs U:List Cs} (hU:∀ x ∈ clo cs,x ∈ U) (hN:U.length < 64):∀ (ps pre:List (Nat × Cs)) (k:Nat) (W:List (Cs × D)) (wait:List Cs) (o4 o5:Option D),ps.length < k->Wm cs c (ps.map (·.2)) (W.map (·.1),wait)->(∀ p ∈ ps,p.2 ∈ nxt c)->wait.length <= W.length->(∀ k,ClL k (W.map (·.2)))->
    ∃ (W':List (Cs × D)) (o4' o5':Option D),W'.map (·.1)=((ps.map (·.2)).foldl vis (W.map (·.1),wait)).1 /\ (∀ k,ClL k (W'.map (·.2))) /\
      FX (μ.length + 2 + g.length) (Cz [4,5]) TF k pre.length [o0,some (.ref μ.length),some (csD c),some (.ref (μ.length + 1)),o4,o5] (wH μ W wait (g ++ [.lst ((pre ++ ps).map BS)]))=some ((.next,[o0,some (.ref μ.length),some (csD c),some (.ref (μ.length + 1)),o4',o5']),wH μ W' ((ps.map (·.2)).foldl vis (W.map (·.1),wait)).2 (g ++ [.lst ((pre ++ ps).map BS)]))
  | [],pre,k + 1,W,wait,o4,o5,hk,w,hp,hl,hc=>⟨W,o4,o5,rfl,hc,K11.Nt gL (by simp)⟩
  | p :: ps,pre,k + 1,W,wait,o4,o5,hk,w,hp,hl,hc=>by
    have hlen:W.length <= 63:=by
      have:=Bw w.nd fun x hx=>hU x (w.frm x hx)
      simp at this
      omega
    obtain ⟨W1,e1,c1,st⟩:=OL (μ:=μ) (g:=g ++ [.lst ((pre ++ p :: ps).map BS)]) (o0:=o0) (c:=c) (x:=p.2) (h:=(p.1:Int)) (W:=W) (wait:=wait) (by omega) (by omega) hc
    have w1:=w.vis (hp p List.mem_cons_self)
    have hl1:(vis (W.map (·.1),wait) p.2).2.length <= W1.length:=by
      have:=Lp (W.map (·.1),wait) p.2
      have e2:=congrArg List.length e1
      simp at this e2
      omega
    obtain ⟨W',o4',o5',e',c',go⟩:=OM hU hN ps (pre ++ [p]) k W1 (vis (W.map (·.1),wait) p.2).2 (some (.int p.1)) (some (csD p.2)) (by simp at hk; omega) (by rw [e1]; exact w1) (fun q hq=>hp q (List.mem_cons_of_mem _ hq)) hl1 c1
    rw [e1] at e' go
    refine ⟨W',o4',o5',e',c',?_⟩
    have ea:pre ++ [p] ++ ps=pre ++ p :: ps:=by simp
    rw [ea] at go
    refine K11.Nr (τ1:=[o0,some (.ref μ.length),some (csD c),some (.ref (μ.length + 1)),some (.int p.1),some (csD p.2)]) (y:=BS p) gL (by simp) rfl st ?_
    simpa using go
  | _,_,0,_,_,_,_,hk,_,_,_,_=>absurd hk (by omega)
noncomputable abbrev whB:Sl->M (Fl × Sl):=(AT (Ah (EB Oy (AB 3)) (AN 2))
    (Ji 1000 (AH BB (AD (AB 2) AK)) (Cz [4,5]) TF))
theorem PZ (c:Cs):(Dx c).length <= c.2.2.length + 1:=by
  unfold Dx Fv
  have:=F3 c.2.2 0
  rw [List.length_append,List.length_map]
  split <;> simp <;> omega
theorem JT {S:Sl} {wait:List Cs} {W:List (Cs × D)} (h:S[3]? = some (some (.ref (μ.length + 1)))):Fm (AB 3) S (wH μ W wait g)=some (!wait.isEmpty,wH μ W wait g):=by
  unfold Fm
  rw [AM (CO h),AM (show BL (.ref (μ.length + 1)) (wH μ W wait g)=some (wait.map csD,wH μ W wait g) from by
    show (match (wH μ W wait g)[μ.length + 1]? with | some (.lst ds)=>some (ds,wH μ W wait g) | _=>none)=_
    rw [gB])]
  cases wait <;> rfl
theorem JQ {o0:Option D} {cs U:List Cs} (hU:∀ x ∈ clo cs,x ∈ U) (hN:U.length < 64) (hw:∀ x ∈ clo cs,x.2.2.length <= 100):∀ (k:Nat) (W:List (Cs × D)) (wait:List Cs) (g:Mh) (o2 o4 o5:Option D),U.length + wait.length < k + W.length->Wk cs (W.map (·.1)) wait->wait.length <= W.length->(∀ k,ClL k (W.map (·.2)))->(∀ o ∈ g,∀ k,ClO k o)->
    ∃ (W':List (Cs × D)) (g':Mh) (o2' o4' o5':Option D),Wk cs (W'.map (·.1)) [] /\ (∀ k,ClL k (W'.map (·.2))) /\ (∀ o ∈ g',∀ k,ClO k o) /\
      Fu (Fm (AB 3)) whB k [o0,some (.ref μ.length),o2,some (.ref (μ.length + 1)),o4,o5] (wH μ W wait g)=some ((.next,[o0,some (.ref μ.length),o2',some (.ref (μ.length + 1)),o4',o5']),wH μ W' [] g')
  | 0,W,wait,g,o2,o4,o5,hk,w,_,_,_=>by
    have:=Bw w.nd fun x hx=>hU x (w.frm x hx)
    simp at this
    omega
  | k + 1,W,wait,g,o2,o4,o5,hk,w,hl,hc,hg=>by
    rcases List.eq_nil_or_concat wait with rfl | ⟨q,c,rfl⟩
    . exact ⟨W,g,o2,o4,o5,w,hc,hg,K13.Gx (JT rfl)⟩
    . rw [List.concat_eq_append] at *
      have hlen:W.length <= 63:=by
        have:=Bw w.nd fun x hx=>hU x (w.frm x hx)
        simp at this
        omega
      have hcc:c ∈ clo cs:=w.frm c (w.sub c (by simp))
      have hcl:=hw c hcc
      have m:Wm cs c ((Dx c).map (·.2)) (W.map (·.1),q):=⟨w.nd,fun x hx=>w.sub x (List.mem_append_left _ hx),fun x hx=>by
        rcases w.don x hx with z | z
        . rcases List.mem_append.mp z with z | z
          . exact .inl z
          . exact .inr (.inl (by simpa using z))
        . exact .inr (.inr z),fun y hy=>.inl hy,w.frm,w.all,w.sub c (by simp)⟩
      have hm:=PZ c
      simp at hl hk
      obtain ⟨W1,o4',o5',e1,c1,go⟩:=OM (μ:=μ) (g:=g) (o0:=o0) (c:=c) hU hN (Dx c) [] 1000 W q o4 o5 (by omega) m (fun p hp=>List.mem_map.mpr ⟨p,hp,rfl⟩) (by omega) hc
      rw [List.nil_append] at go
      have hh:=w.hop
      have eh:(hop (W.map (·.1),q ++ [c]) c)=((Dx c).map (·.2)).foldl vis (W.map (·.1),q):=by
        unfold hop nxt
        rw [List.dropLast_concat]
      rw [eh] at hh
      have hle:=KF ((Dx c).map (·.2)) (W.map (·.1),q)
      have el:=congrArg List.length e1
      simp only [List.length_map] at hle el
      rw [← e1] at hh
      have hg1:∀ o ∈ g ++ [.lst ((Dx c).map BS)],∀ k,ClO k o:=fun o ho k=>by
        rcases List.mem_append.mp ho with z | z
        . exact hg o z k
        . rw [List.mem_singleton] at z; subst z; exact BJ (Mr k) _
      obtain ⟨W',g',o2',o4'',o5'',r1,r2,r3,r4⟩:=JQ (o0:=o0) hU hN hw k W1 _ (g ++ [.lst ((Dx c).map BS)]) (some (csD c)) o4' o5' (by omega) hh (by omega) c1 hg1
      refine ⟨W',g',o2',o4'',o5'',r1,r2,r3,K13.Pq (τ2:=[o0,some (.ref μ.length),some (csD c),some (.ref (μ.length + 1)),o4',o5']) (μ2:=wH μ W1 (((Dx c).map (·.2)).foldl vis (W.map (·.1),q)).2 (g ++ [.lst ((Dx c).map BS)])) ((JT rfl).trans (by simp)) ?_ r4⟩
      refine BI (τ1:=[o0,some (.ref μ.length),some (csD c),some (.ref (μ.length + 1)),o4,o5]) (μ1:=wH μ W q g) (Fa (d:=csD c) (μ1:=wH μ W q g) ?_ rfl) ?_
      . unfold EB
        rw [AM (show AB 3 [o0,some (.ref μ.length),o2,some (.ref (μ.length + 1)),o4,o5] (wH μ W (q ++ [c]) g)=some (.ref (μ.length + 1),wH μ W (q ++ [c]) g) from rfl),AM (Bx gB)]
        show HI (μ.length + 1) _ (wH μ W (q ++ [c]) g)=_
        unfold HI
        rw [gB]
        show Option.map _ (((q ++ [c]).map csD)[((q ++ [c]).map csD).length - 1]?.map fun d=>(d,((q ++ [c]).map csD).dropLast))=_
        have e0:((q ++ [c]).map csD)[((q ++ [c]).map csD).length - 1]? = some (csD c):=by simp
        have e2:((q ++ [c]).map csD).dropLast=q.map csD:=by simp
        rw [e0,e2]
        show some (csD c,(wH μ W (q ++ [c]) g).set (μ.length + 1) (.lst (q.map csD)))=_
        rw [sB]
      . unfold Ji
        have vm:=NB (μ:=wH μ W q g) (c:=c) hcl
        have el:(wH μ W q g).length=μ.length + 2 + g.length:=by
          show (μ ++ (MO.dC W :: MO.lst (q.map csD) :: g)).length=_
          rw [List.length_append]
          simp
          omega
        have ew:wH μ W q g ++ [.lst ((Dx c).map BS)]=wH μ W q (g ++ [.lst ((Dx c).map BS)]):=by
          show (μ ++ (MO.dC W :: MO.lst (q.map csD) :: g)) ++ _=μ ++ (MO.dC W :: MO.lst (q.map csD) :: (g ++ _))
          simp
        rw [el,ew] at vm
        rw [AM (Cc (ds:=[csD c]) (μ1:=wH μ W q g) rfl vm)]
        exact go
end
end K16
set_option maxHeartbeats 4000000
namespace K16
open PySem L2 Mi Nk Wb
open K13 (BJ Bu BT EA po pc pd pq pa piT piF pr peT peF FI Ca DV Dh Bx Da BZ D8 Ei D3 ED D4)
section
variable {μ μ1 μ2 μ3 μ4 μ' g:Mh} {τ τ1 τ2:Sl} {x0 d:D} {ds es:List D} {n:Nat}
def CD (cs:List Cs):List (Cs × D):=cs.map fun c=>(c,D.non)
theorem J3 (cs:List Cs):(CD cs).map (·.1)=cs:=by unfold CD; rw [List.map_map]; exact List.map_id cs
theorem PV (cs:List Cs) (k:Nat):ClL k ((CD cs).map (·.2)):=by unfold CD; rw [List.map_map]; exact BJ (fun a=>by show Cl k D.non; unfold Cl; trivial) cs
theorem Ml {o0 o3 o4 o5:Option D}:∀ (cs don:List Cs) (o2:Option D),(don ++ cs).Nodup->(don ++ cs).length <= 1000->∃ o2':Option D,
    Dj (AN 2) (Em (AB 1) (AB 2) (mC .non)) (cs.map csD) [o0,some (.ref μ.length),o2,o3,o4,o5] (μ ++ [.dC (CD don)])=some ((.next,[o0,some (.ref μ.length),o2',o3,o4,o5]),μ ++ [.dC (CD (don ++ cs))])
  | [],don,o2,_,_=>⟨o2,by simp; rfl⟩
  | c :: cs,don,o2,nd,hl=>by
    have hz:=DV
    obtain ⟨o2',go⟩:=Ml (o0:=o0) (o3:=o3) (o4:=o4) (o5:=o5) cs (don ++ [c]) (some (csD c)) (by simpa using nd) (by simpa using hl)
    refine ⟨o2',?_⟩
    have hn:c ∉ (CD don).map (·.1):=by
      rw [J3]
      intro h
      have:=(List.nodup_append.mp nd).2.2 c h c (by simp)
      exact this rfl
    have hlen:(CD don).length < sizeLine:=by unfold CD; rw [List.length_map]; simp at hl; omega
    refine BZ (τ1:=[o0,some (.ref μ.length),some (csD c),o3,o4,o5]) (μ1:=μ ++ [.dC (CD don)]) rfl ?_ (by simpa using go)
    have:=Mm (τ:=[o0,some (.ref μ.length),some (csD c),o3,o4,o5]) (μ:=μ ++ [.dC (CD don)]) (n:=μ.length) (mo:=AB 1) (mi:=AB 2) (mv:=mC .non) (v:=.non) (c:=c) (L:=CD don) rfl rfl rfl g1a hlen hn
    rw [s1a] at this
    have e:CD don ++ [(c,D.non)]=CD (don ++ [c]):=by unfold CD; simp
    rw [e] at this
    exact this
theorem NA {cs U:List Cs} (nd:cs.Nodup) (hU:∀ x ∈ clo cs,x ∈ U) (hN:U.length < 64) (hw:∀ x ∈ clo cs,x.2.2.length <= 100):∃ (W:List (Cs × D)) (g:Mh),Wk cs (W.map (·.1)) [] /\ DO [.lst (cs.map csD)] μ=some (.ref μ.length,wH μ W [] g):=by
  have hz:=DV
  have hlen:cs.length <= 63:=by
    have:=Bw nd fun x hx=>hU x (mem_clo.mpr ⟨x,hx,DH x⟩)
    omega
  obtain ⟨o2,fg⟩:=Ml (μ:=μ) (o0:=some (.lst (cs.map csD))) (o3:=none) (o4:=none) (o5:=none) cs [] none (by simpa using nd) (by simp; omega)
  have w0:Wk cs ((CD cs).map (·.1)) cs:=by
    rw [J3]
    exact ⟨nd,fun x h=>h,fun x h=>.inl h,fun x h=>mem_clo.mpr ⟨x,h,DH x⟩,fun x h=>h⟩
  have hnl:(CD cs).length=cs.length:=by unfold CD; simp
  obtain ⟨W,g,o2',o4',o5',r1,r2,r3,r4⟩:=JQ (μ:=μ) (o0:=some (.lst (cs.map csD))) hU hN hw Aj (CD cs) cs [] o2 none none (by rw [hnl]; unfold Aj; omega) w0 (by omega) (PV cs) (fun o h=>by cases h)
  refine ⟨W,g,r1,?_⟩
  refine G9 (g:=.dC W :: .lst [] :: g) (τ2:=[some (.lst (cs.map csD)),some (.ref μ.length),o2',some (.ref (μ.length + 1)),o4',o5']) ?_ rfl (fun o ho k=>?_) (by unfold Cl; simp)
  . refine BI (τ1:=[some (.lst (cs.map csD)),some (.ref μ.length),none,none,none,none]) (μ1:=μ ++ [.dC []]) rfl (BI (LP (ds:=cs.map csD) (μ1:=μ ++ [.dC []]) (D8 rfl) fg) (BI (τ1:=[some (.lst (cs.map csD)),some (.ref μ.length),o2,some (.ref (μ.length + 1)),none,none]) (μ1:=wH μ (CD cs) cs []) (Fa (d:=.ref (μ.length + 1)) (μ1:=wH μ (CD cs) cs []) ?_ rfl) (BI r4 (FZ (CO rfl)))))
    refine Cc (ds:=[.ref μ.length]) (μ1:=μ ++ [.dC (CD cs)]) rfl ?_
    show bnd (JI (.ref μ.length)) _ _=_
    rw [AM (Mw g1a)]
    show some (D.ref (μ ++ [MO.dC (CD cs)]).length,μ ++ [MO.dC (CD cs)] ++ [MO.lst ((CD cs).map fun y=>csD y.1)])=_
    have e:(CD cs).map (fun y=>csD y.1)=cs.map csD:=by unfold CD; rw [List.map_map]; rfl
    rw [e,List.append_assoc]
    simp
  . rcases List.mem_cons.mp ho with rfl | ho
    . exact r2 k
    . rcases List.mem_cons.mp ho with rfl | ho
      . show ClL k []; unfold ClL; trivial
      . exact r3 o ho k
theorem v_closedU {cs U:List Cs} (nd:cs.Nodup) (hU:∀ x ∈ clo cs,x ∈ U) (hN:U.length < 64) (hw:∀ x ∈ clo cs,x.2.2.length <= 100):∃ K:List Cs,K.Nodup /\ (∀ x,x ∈ K ↔ x ∈ clo cs) /\ K.Pairwise (fun x y=>cLt x y=true) /\ ∀ μ:Mh,f_closed [.lst (cs.map csD)] μ=some (.tup (K.map csD),μ):=by
  have key:∀ μ:Mh,∃ K:List Cs,K.Nodup /\ (∀ x,x ∈ K ↔ x ∈ clo cs) /\ K.Pairwise (fun x y=>cLt x y=true) /\ f_closed [.lst (cs.map csD)] μ=some (.tup (K.map csD),μ):=fun μ=>by
    have hz:=DV
    obtain ⟨W,g,w,e⟩:=NA (μ:=μ) nd hU hN hw
    have hl:W.length < 64:=by
      have:=Bw w.nd fun x hx=>hU x (w.frm x hx)
      simp at this
      omega
    refine ⟨Dk (W.map (·.1)),(Bc _).nodup_iff.mpr w.nd,fun x=>by rw [(Bc _).mem_iff]; exact w.done,F2 w.nd,?_⟩
    refine Ax (g:=.dC W :: .lst [] :: g) (τ2:=[some (.lst (cs.map csD))]) ?_ rfl (by unfold Cl; exact BJ (cl_cs _) _)
    refine FZ (Cc (ds:=[.lst ((Dk (W.map (·.1))).map csD)]) (μ1:=wH μ W [] g) (E9 (x:=.lst ((Dk (W.map (·.1))).map csD)) (μ1:=wH μ W [] g) (Cc (ds:=[.ref μ.length]) (μ1:=wH μ W [] g) (E9 (x:=.ref μ.length) (μ1:=wH μ W [] g) (Cc (ds:=[.lst (cs.map csD)]) (μ1:=μ) rfl e) rfl) ?_) rfl) rfl)
    show bnd (JI (.ref μ.length)) _ _=_
    rw [AM (Mw gA)]
    show (if W.length < 64 then some (D.lst ((Dk (W.map (·.1))).map csD),wH μ W [] g) else none)=_
    rw [if_pos hl]
  obtain ⟨K,k1,k2,k3,_⟩:=key []
  refine ⟨K,k1,k2,k3,fun μ=>?_⟩
  obtain ⟨K',k1',k2',k3',e⟩:=key μ
  have:K'=K:=Lr k3' k3 ((List.perm_ext_iff_of_nodup k1' k1).mpr fun x=>(k2' x).trans (k2 x).symm)
  rw [this] at e
  exact e
end
end K16
set_option maxHeartbeats 4000000
namespace Wb
open PySem Nk
def HB (v:Int) (c:Cs):Cs:=(c.1,v,c.2.2)
def HC (r:Nat) (c:Cs):Cs:=(c.1,c.2.1,c.2.2.set r (-2))
def FB (c:Cs):Option Cs:=if c.2.1 = -2 then some (c.1,-1,c.2.2) else none
def D2 (r:Nat) (v:Int) (c:Cs):Option Cs:=if c.2.2[r]? = some v then some (c.1,c.2.1,c.2.2.set r (-1)) else none
theorem nodup_map_on {α β:Type} {f:α->β}:∀ {xs:List α},(∀ a ∈ xs,∀ b ∈ xs,f a=f b->a=b)->xs.Nodup->(xs.map f).Nodup
  | [],_,_=>List.nodup_nil
  | x :: xs,h,nd=>by
    obtain ⟨n1,n2⟩:=List.nodup_cons.mp nd
    rw [List.map_cons]
    refine List.nodup_cons.mpr ⟨fun z=>?_,nodup_map_on (fun a ha b hb=>h a (List.mem_cons_of_mem _ ha) b (List.mem_cons_of_mem _ hb)) n2⟩
    obtain ⟨y,hy,e⟩:=List.mem_map.mp z
    have:=h y (List.mem_cons_of_mem _ hy) x List.mem_cons_self e
    exact n1 (this ▸ hy)
theorem nodup_fm_on {α β:Type} {f:α->Option β}:∀ {xs:List α},(∀ a ∈ xs,∀ b ∈ xs,∀ y,f a=some y->f b=some y->a=b)->xs.Nodup->(xs.filterMap f).Nodup
  | [],_,_=>List.nodup_nil
  | x :: xs,h,nd=>by
    obtain ⟨n1,n2⟩:=List.nodup_cons.mp nd
    have ih:=nodup_fm_on (fun a ha b hb=>h a (List.mem_cons_of_mem _ ha) b (List.mem_cons_of_mem _ hb)) n2
    rw [List.filterMap_cons]
    split
    . exact ih
    . rename_i y e
      refine List.nodup_cons.mpr ⟨fun z=>?_,ih⟩
      obtain ⟨w,hw,ew⟩:=List.mem_filterMap.mp z
      have:=h w (List.mem_cons_of_mem _ hw) x List.mem_cons_self y ew e
      exact n1 (this ▸ hw)
theorem IY {i:Nat} {a b v:Int}:∀ {xs ys:List Int},xs[i]? = some a->ys[i]? = some a->xs.set i v=ys.set i v->xs=ys
  | [],_,h,_,_=>by simp at h
  | _ :: _,[],_,h,_=>by simp at h
  | x :: xs,y :: ys,h1,h2,e=>by
    cases i with
    | zero=>
      simp at h1 h2 e
      rw [h1,h2,e]
    | succ i=>
      simp at h1 h2 e
      rw [e.1,IY (b:=b) h1 h2 e.2]
end Wb
set_option maxHeartbeats 4000000
namespace K16
open PySem L2 Mi Nk Wb
open K13 (BJ Bu BT EA po pc pd pq pa piT piF pr peT peF FI Ca DV Dh Bx Da BZ D8 Ei D3 ED D4 hdD Ez)
section
variable {μ μ1 μ2 μ3 μ4 μ' g:Mh} {τ τ1 τ2:Sl} {x0 d:D} {ds es:List D} {n:Nat} {sz bg:Int} {ns:List Str}
def clW (K:List Cs):D:=.tup (K.map csD)
def oC:Option Cs->D
  | some c=>csD c
  | none=>.non
theorem cl_clW (k:Nat) (K:List Cs):Cl k (clW K):=by unfold clW Cl; exact BJ (cl_cs k) K
theorem v_cbW {c:Cs} {v:Int}:f_case_begun [csD c,.int 0,.int v] μ=some (csD (HB v c),μ):=by
  have hz:=DV
  refine Ax (g:=[]) (τ2:=[some (csD c),some (.int 0),some (.int v)]) ?_ rfl (cl_cs _ _)
  rw [List.append_nil]
  exact GA (piT (BH (po (x:=.int 0) (y:=.int 0) rfl rfl Dh)) (pr (pd (ds:=[.int c.1,.int v,.tup (c.2.2.map D.int)]) rfl (BT (by simp; omega)))))
theorem with_ts {ts:List Int} {r:Nat} {v:Int} (h:r < ts.length) (hl:ts.length <= 1000):f_with_thing [.tup (ts.map D.int),.int r,.int v] μ=some (.tup ((ts.set r v).map D.int),μ):=by
  rw [Mn,FI (by rw [List.length_map]; exact h) (by rw [List.length_map]; exact hl) (fun k=>BJ (Bu k) _) (fun k=>Bu k _),List.map_set]
theorem v_cbR {c:Cs} {r:Nat} {v:Int} (h:r < c.2.2.length) (hl:c.2.2.length <= 1000):f_case_begun [csD c,.int ((r:Int) + 1),.int v] μ=some (csD (HC r c),μ):=by
  have hz:=DV
  refine Ax (g:=[]) (τ2:=[some (csD c),some (.int ((r:Int) + 1)),some (.int v)]) ?_ rfl (cl_cs _ _)
  rw [List.append_nil]
  refine pq (piF (BH ((po (x:=.int ((r:Int) + 1)) (y:=.int 0) rfl rfl Dh).trans (by rw [beq_eq_false_iff_ne.mpr (by omega)]))) rfl) (pr (pd (ds:=[.int c.1,.int c.2.1,.tup ((c.2.2.set r (-2)).map D.int)]) (pc (x:=.int c.1) rfl (pc (x:=.int c.2.1) rfl (pc (pd (ds:=[.tup (c.2.2.map D.int),.int r,.int (-2)]) (pc rfl (pc (po (x:=.int ((r:Int) + 1)) (y:=.int 1) rfl rfl ?_) rfl)) (with_ts h hl)) rfl))) (BT (by simp; omega))))
  show some (D.int ((r:Int) + 1 - 1),μ)=_
  rw [show (r:Int) + 1 - 1=r by omega]
theorem v_ceW {c:Cs} {v:Int}:A4 [csD c,.int 0,.int v] μ=some (oC (FB c),μ):=by
  have hz:=DV
  refine Ax (g:=[]) (τ2:=[some (csD c),some (.int 0),some (.int v)]) ?_ rfl (by cases FB c with | none=>unfold oC Cl; trivial | some c=>exact cl_cs _ _)
  rw [List.append_nil]
  have t:AS (mOp As (mOp AQ (AB 0) (mC (.int 1))) (mC EM)) [some (csD c),some (.int 0),some (.int v)] μ=some (c.2.1 == -2,μ):=BH (po (x:=.int c.2.1) (y:=.int (-2)) rfl rfl Dh)
  refine GA (piT (BH (po (x:=.int 0) (y:=.int 0) rfl rfl Dh)) (pr ?_))
  unfold FB
  by_cases e:c.2.1 = -2
  . rw [if_pos e]
    exact peT (t.trans (by rw [e]; rfl)) (pd (ds:=[.int c.1,.int (-1),.tup (c.2.2.map D.int)]) rfl (BT (by simp; omega)))
  . rw [if_neg e]
    exact peF (t.trans (by rw [beq_eq_false_iff_ne.mpr e])) rfl
theorem v_ceR {c:Cs} {r:Nat} {v:Int} (h:r < c.2.2.length) (hl:c.2.2.length <= 1000):A4 [csD c,.int ((r:Int) + 1),.int v] μ=some (oC (D2 r v c),μ):=by
  have hz:=DV
  refine Ax (g:=[]) (τ2:=[some (csD c),some (.int ((r:Int) + 1)),some (.int v)]) ?_ rfl (by cases D2 r v c with | none=>unfold oC Cl; trivial | some c=>exact cl_cs _ _)
  rw [List.append_nil]
  have er:mOp Cb (AB 1) (mC (.int 1)) [some (csD c),some (.int ((r:Int) + 1)),some (.int v)] μ=some (.int r,μ):=by
    refine po (x:=.int ((r:Int) + 1)) (y:=.int 1) rfl rfl ?_
    show some (D.int ((r:Int) + 1 - 1),μ)=_
    rw [show (r:Int) + 1 - 1=r by omega]
  have t:AS (mOp As (mOp AQ (mOp AQ (AB 0) (mC (.int 2))) (mOp Cb (AB 1) (mC (.int 1)))) (AB 2)) [some (csD c),some (.int ((r:Int) + 1)),some (.int v)] μ=some (c.2.2[r] == v,μ):=
    BH (po (x:=.int c.2.2[r]) (y:=.int v) (po (x:=.tup (c.2.2.map D.int)) (y:=.int r) rfl er (Pd (Ca (by simp [h])))) rfl Dh)
  refine pq (piF (BH ((po (x:=.int ((r:Int) + 1)) (y:=.int 0) rfl rfl Dh).trans (by rw [beq_eq_false_iff_ne.mpr (by omega)]))) rfl) (pr ?_)
  unfold D2
  by_cases e:c.2.2[r]? = some v
  . rw [if_pos e]
    have e':c.2.2[r]=v:=by rw [List.getElem?_eq_getElem h] at e; exact Option.some.inj e
    refine peT (t.trans (by rw [e']; simp)) (pd (ds:=[.int c.1,.int c.2.1,.tup ((c.2.2.set r (-1)).map D.int)]) (pc (x:=.int c.1) rfl (pc (x:=.int c.2.1) rfl (pc (pd (ds:=[.tup (c.2.2.map D.int),.int r,.int (-1)]) (pc rfl (pc er rfl)) (with_ts h hl)) rfl))) (BT (by simp; omega)))
  . rw [if_neg e]
    have e' : ¬ c.2.2[r]=v:=fun z=>e (by rw [List.getElem?_eq_getElem h,z])
    exact peF (t.trans (by rw [beq_eq_false_iff_ne.mpr e'])) rfl
theorem Sb {f:Cs->Option Cs}:∀ K:List Cs,((K.map fun c=>f c).filter fun o=>o.isSome).map oC=(K.filterMap f).map csD
  | []=>rfl
  | c :: K=>by
    have ih:=Sb (f:=f) K
    rw [List.map_cons,List.filterMap_cons]
    cases e:f c with
    | none=>rw [List.filter_cons_of_neg (by simp)]; exact ih
    | some y=>rw [List.filter_cons_of_pos (by simp),List.map_cons,ih]; rfl
theorem v_csEnd {K:List Cs} {h:Int} {v:Int} {f:Cs->Option Cs} (hl:K.length <= 1000) (he:∀ c ∈ K,∀ μ:Mh,A4 [csD c,.int h,.int v] μ=some (oC (f c),μ)):f_cases_ended [clW K,.int h,.int v] μ=some (.lst ((K.filterMap f).map csD),μ):=by
  have hz:=DV
  refine Ax (g:=[]) (τ2:=[some (clW K),some (.int h),some (.int v),some (.lst ((K.map fun c=>f c).map oC))]) ?_ rfl (by unfold Cl; exact BJ (cl_cs _) _)
  rw [List.append_nil]
  refine pq (pa (d:=.lst ((K.map fun c=>f c).map oC)) (ED (ds:=K.map csD) (es:=(K.map fun c=>f c).map oC) (Ei rfl) (by rw [List.length_map]; omega) ?_ (EA (by rw [List.length_map,List.length_map]; omega))) rfl) (pr (ED (ds:=(K.map fun c=>f c).map oC) (es:=(K.filterMap f).map csD) (D8 rfl) (by rw [List.length_map,List.length_map]; omega) ?_ (EA (by rw [List.length_map]; have:=List.length_filterMap_le f K; omega))))
  . have:=D3 (μ:=μ) (mc:=C3) (me:=AH A4 (AD (AB 0) (AD (AB 1) (AD (AB 2) AK)))) (τ0:=[none,some (.int h),some (.int v)]) (f:=csD) (F:=fun c=>oC (f c)) (p:=fun _=>true) (xs:=K) (ys:=[]) (fun _ _=>rfl) (fun c hc _=>pd (ds:=[csD c,.int h,.int v]) rfl (he c hc μ))
    rw [D4,List.nil_append] at this
    rw [List.map_map]
    exact this
  . have:=D3 (μ:=μ) (mc:=AS (mOp (Ju true) (AB 0) (mC .non))) (me:=AB 0) (τ0:=[none]) (f:=oC) (F:=oC) (p:=fun o=>o.isSome) (xs:=K.map fun c=>f c) (ys:=[]) (fun o _=>BH (po (x:=oC o) (y:=.non) rfl rfl (by cases o <;> rfl))) (fun o _ _=>rfl)
    rw [List.nil_append,Sb] at this
    exact this
end
end K16
namespace Wb
open Nk Hs
abbrev Th:=Option Nat
def stp (c:Cs):Th->Cs
  | none=>(c.2.1,-2,c.2.2)
  | some k=>mvR c k
def opn (c:Cs):List Th:=(if 0 <= c.2.1 then [none] else []) ++ (Fv c).map some
theorem mem_opn {c:Cs} {t:Th}:t ∈ opn c ↔ (t=none /\ 0 <= c.2.1) ∨ ∃ k,t=some k /\ c.2.2[k]? = some (-2):=by
  unfold opn
  rw [List.mem_append,List.mem_map]
  constructor
  . rintro (h | ⟨k,hk,rfl⟩)
    . split at h
      . rename_i hc
        exact .inl ⟨by simpa using h,hc⟩
      . cases h
    . exact .inr ⟨k,rfl,mem_rdrs.mp hk⟩
  . rintro (⟨rfl,hc⟩ | ⟨k,rfl,hk⟩)
    . left; rw [if_pos hc]; simp
    . exact .inr ⟨k,mem_rdrs.mpr hk,rfl⟩
theorem nxt_stp {c x:Cs}:x ∈ nxt c ↔ ∃ t ∈ opn c,x=stp c t:=by
  rw [mem_nxt]
  constructor
  . rintro (⟨h,rfl⟩ | ⟨i,h,rfl⟩)
    . exact ⟨none,mem_opn.mpr (.inl ⟨rfl,h⟩),rfl⟩
    . exact ⟨some i,mem_opn.mpr (.inr ⟨i,rfl,h⟩),rfl⟩
  . rintro ⟨t,ht,rfl⟩
    rcases mem_opn.mp ht with ⟨rfl,h⟩ | ⟨k,rfl,h⟩
    . exact .inl ⟨h,rfl⟩
    . exact .inr ⟨k,h,rfl⟩
def Pos0 (c:Cs):Prop:=0 <= c.1
theorem Rb {c:Cs} {t u:Th} (h0:Pos0 c) (ht:t ∈ opn c):u ∈ opn (stp c t) ↔ u ∈ opn c /\ u ≠ t:=by
  rw [mem_opn,mem_opn]
  rcases mem_opn.mp ht with ⟨rfl,hm⟩ | ⟨k,rfl,hk⟩
  . constructor
    . rintro (⟨rfl,h⟩ | ⟨j,rfl,h⟩)
      . exact absurd h (by show ¬ (0:Int) <= -2; decide)
      . exact ⟨.inr ⟨j,rfl,h⟩,by simp⟩
    . rintro ⟨⟨rfl,h⟩ | ⟨j,rfl,h⟩,hne⟩
      . exact absurd rfl hne
      . exact .inr ⟨j,rfl,h⟩
  . have hlt:k < c.2.2.length:=(List.getElem?_eq_some_iff.mp hk).1
    have e:∀ j,(stp c (some k)).2.2[j]? = if j=k then some c.1 else c.2.2[j]?:=fun j=>by
      show (c.2.2.set k c.1)[j]? = _
      rw [List.getElem?_set]
      by_cases z:k=j
      . subst z; simp [hlt]
      . rw [if_neg z,if_neg (Ne.symm z)]
    constructor
    . rintro (⟨rfl,h⟩ | ⟨j,rfl,h⟩)
      . exact ⟨.inl ⟨rfl,h⟩,by simp⟩
      . rw [e] at h
        split at h
        . exfalso
          have h0:(0:Int) <= c.1:=h0
          have:=Option.some.inj h
          omega
        . rename_i z
          exact ⟨.inr ⟨j,rfl,h⟩,fun q=>z (Option.some.inj q)⟩
    . rintro ⟨⟨rfl,h⟩ | ⟨j,rfl,h⟩,hne⟩
      . exact .inl ⟨rfl,h⟩
      . refine .inr ⟨j,rfl,?_⟩
        rw [e,if_neg fun z=>hne (by rw [z])]
        exact h
theorem Om {c x:Cs} (h:Rch c x):x=c ∨ ∃ y ∈ nxt c,Rch y x:=by
  induction h with
  | refl=>exact .inl rfl
  | step h1 s ih=>
    rcases ih with rfl | ⟨y,hy,hr⟩
    . exact .inr ⟨_,s,.refl _⟩
    . exact .inr ⟨y,hy,.step hr s⟩
def ord:Nat->List Th->List (List Th)
  | 0,_=>[]
  | n + 1,ts=>[] :: ts.flatMap fun t=>(ord n (ts.filter fun u=>decide (u ≠ t))).map (t :: ·)
theorem DK (c:Cs):(opn c).Nodup:=by
  unfold opn
  refine List.nodup_append.mpr ⟨by split <;> simp,?_,?_⟩
  . have:∀ (ts:List Int) (k:Nat),(rdF k ts).Nodup /\ ∀ i ∈ rdF k ts,k <= i:=fun ts=>by
      induction ts with
      | nil=>intro k; exact ⟨by unfold rdF; exact List.nodup_nil,fun i h=>by unfold rdF at h; cases h⟩
      | cons t ts ih=>
        intro k
        obtain ⟨h1,h2⟩:=ih (k + 1)
        unfold rdF
        split
        . exact ⟨List.nodup_cons.mpr ⟨fun z=>by have:=h2 k z; omega,h1⟩,fun i hi=>by
            rcases List.mem_cons.mp hi with rfl | hi
            . omega
            . have:=h2 i hi; omega⟩
        . exact ⟨h1,fun i hi=>by have:=h2 i hi; omega⟩
    refine List.Pairwise.map _ ?_ (this c.2.2 0).1
    intro a b h e
    exact h (Option.some.inj e)
  . intro a ha b hb e
    subst e
    split at ha
    . simp at ha
      subst ha
      simp at hb
    . cases ha
theorem Pos0.stp {c:Cs} {t:Th} (h:Pos0 c) (ht:t ∈ opn c):Pos0 (stp c t):=by
  rcases mem_opn.mp ht with ⟨rfl,hm⟩ | ⟨k,rfl,hk⟩
  . exact hm
  . exact h
theorem F4:∀ (n:Nat) {c x:Cs} (ts:List Th),Pos0 c->(∀ t,t ∈ ts ↔ t ∈ opn c)->ts.Nodup->ts.length < n->((∃ o ∈ ord n ts,o.foldl stp c=x) ↔ Rch c x)
  | 0,_,_,_,_,_,_,h=>absurd h (by omega)
  | n + 1,c,x,ts,h0,hm,nd,hl=>by
    have sub:∀ t ∈ ts,(∀ u,u ∈ (ts.filter fun u=>decide (u ≠ t)) ↔ u ∈ opn (stp c t)) /\ (ts.filter fun u=>decide (u ≠ t)).Nodup /\ (ts.filter fun u=>decide (u ≠ t)).length < n:=fun t ht=>by
      refine ⟨fun u=>?_,nd.sublist List.filter_sublist,?_⟩
      . rw [Rb h0 ((hm t).mp ht),List.mem_filter,hm u]
        simp
      . have:(ts.filter fun u=>decide (u ≠ t)).length < ts.length:=by
          refine List.length_filter_lt_length_iff_exists.mpr ⟨t,ht,by simp⟩
        omega
    constructor
    . rintro ⟨o,ho,rfl⟩
      unfold ord at ho
      rcases List.mem_cons.mp ho with rfl | ho
      . exact .refl _
      . obtain ⟨t,ht,h2⟩:=List.mem_flatMap.mp ho
        obtain ⟨o',ho',rfl⟩:=List.mem_map.mp h2
        obtain ⟨s1,s2,s3⟩:=sub t ht
        have:=(F4 n _ (h0.stp ((hm t).mp ht)) s1 s2 s3).mp ⟨o',ho',rfl⟩
        exact Rch.trans (.step (.refl c) (nxt_stp.mpr ⟨t,(hm t).mp ht,rfl⟩)) this
    . intro h
      rcases Om h with rfl | ⟨y,hy,hr⟩
      . exact ⟨[],by unfold ord; simp,rfl⟩
      . obtain ⟨t,ht,rfl⟩:=nxt_stp.mp hy
        have ht':=(hm t).mpr ht
        obtain ⟨s1,s2,s3⟩:=sub t ht'
        obtain ⟨o,ho,e⟩:=(F4 n _ (h0.stp ht) s1 s2 s3).mpr hr
        refine ⟨t :: o,?_,e⟩
        unfold ord
        exact List.mem_cons_of_mem _ (List.mem_flatMap.mpr ⟨t,ht',List.mem_map.mpr ⟨o,ho,rfl⟩⟩)
def fnd (cs:List Cs):List Cs:=cs.flatMap fun c=>(ord 6 (opn c)).map fun o=>o.foldl stp c
theorem Rm {cs:List Cs} {x:Cs} (h0:∀ c ∈ cs,Pos0 c /\ (opn c).length < 6):x ∈ fnd cs ↔ x ∈ clo cs:=by
  unfold fnd
  rw [List.mem_flatMap,mem_clo]
  constructor
  . rintro ⟨c,hc,h⟩
    obtain ⟨o,ho,e⟩:=List.mem_map.mp h
    exact ⟨c,hc,rch_iff.mpr ((F4 6 _ (h0 c hc).1 (fun _=>.rfl) (DK c) (h0 c hc).2).mp ⟨o,ho,e⟩)⟩
  . rintro ⟨c,hc,h⟩
    obtain ⟨o,ho,e⟩:=(F4 6 _ (h0 c hc).1 (fun _=>.rfl) (DK c) (h0 c hc).2).mpr (rch_iff.mp h)
    exact ⟨c,hc,List.mem_map.mpr ⟨o,ho,e⟩⟩
end Wb
namespace Mi
open PySem L2
def WP {α:Type} (m:M α) (μ:Mh) (Q:α->Mh->Prop):Prop:=∃ a μ',m μ=some (a,μ') /\ Q a μ'
section
variable {α β:Type} {m:M α} {f:α->M β} {μ μ':Mh} {Q Q':α->Mh->Prop} {R:β->Mh->Prop} {a:α}
theorem wp_of (h:m μ=some (a,μ')) (q:Q a μ'):WP m μ Q:=⟨a,μ',h,q⟩
theorem AY (h:WP m μ Q) (k:∀ a μ',Q a μ'->Q' a μ'):WP m μ Q':=by
  obtain ⟨a,μ',e,q⟩:=h
  exact ⟨a,μ',e,k a μ' q⟩
theorem AZ (h:WP m μ fun a μ1=>WP (f a) μ1 R):WP (bnd m f) μ R:=by
  obtain ⟨a,μ1,e,b,μ2,e2,q⟩:=h
  exact ⟨b,μ2,by rw [AM e]; exact e2,q⟩
theorem A7 (q:Q a μ):WP (ret a) μ Q:=⟨a,μ,rfl,q⟩
end
section
variable {τ τ1:Sl} {μ μ1:Mh} {d x y:D} {ds:List D} {ma mb:Sl->M D} {ra:Sl->M (List D)} {tc tb:Sl->M Bool} {m1 m2:Sl->M (Fl × Sl)} {g:D->D->M D} {QD:D->Mh->Prop} {QB:Bool->Mh->Prop} {QL:List D->Mh->Prop} {QS:Fl × Sl->Mh->Prop} {QO:Option Int->Mh->Prop} {i j:Int} {k n:Nat}
theorem IM {i:Nat} (h:τ[i]? = some (some d)) (q:QD d μ):WP (AB i τ) μ QD:=wp_of (CO h) q
theorem Ux (q:QD d μ):WP (mC d τ) μ QD:=⟨d,μ,rfl,q⟩
theorem JM (h:WP (ma τ) μ fun x μ1=>WP (mb τ) μ1 fun y μ2=>WP (g x y) μ2 QD):WP (mOp g ma mb τ) μ QD:=AZ (AY h fun _ _ z=>AZ z)
theorem Us {u:D->M D} (h:WP (ma τ) μ fun x μ1=>WP (u x) μ1 QD):WP (mUn u ma τ) μ QD:=AZ h
theorem Qk {f:List D->M D} (h:WP (ra τ) μ fun ds μ1=>WP (f ds) μ1 QD):WP (AH f ra τ) μ QD:=AZ h
theorem Qc (q:QL [] μ):WP (AK τ) μ QL:=⟨[],μ,rfl,q⟩
theorem OB (h:WP (ma τ) μ fun x μ1=>WP (ra τ) μ1 fun ds μ2=>QL (x :: ds) μ2):WP (AD ma ra τ) μ QL:=AZ (AY h fun _ _ z=>AZ (AY z fun _ _ z=>A7 z))
theorem So {l h:Sl->M (Option Int)} (z:WP (ma τ) μ fun x μ1=>WP (l τ) μ1 fun a μ2=>WP (h τ) μ2 fun b μ3=>WP (Js a b x) μ3 QD):WP (DZ ma l h τ) μ QD:=AZ (AY z fun _ _ z=>AZ (AY z fun _ _ z=>AZ z))
theorem M1 (q:QO none μ):WP (Br τ) μ QO:=⟨none,μ,rfl,q⟩
theorem Qb (h:WP (ma τ) μ fun d μ1=>∃ i,d=.int i /\ QO (some i) μ1):WP (CT ma τ) μ QO:=AZ (AY h fun _ _ ⟨i,e,q⟩=>by subst e; exact A7 q)
theorem Sy {mc:Sl->M Bool} (h:WP (mc τ) μ fun b μ1=>(b=true->WP (ma τ) μ1 QD) /\ (b=false->WP (mb τ) μ1 QD)):WP (mIf mc ma mb τ) μ QD:=AZ (AY h fun b _ z=>by cases b; exact z.2 rfl; exact z.1 rfl)
theorem Lj (h:WP (ma τ) μ fun d μ1=>∃ b,d=.bl b /\ QB b μ1):WP (AS ma τ) μ QB:=AZ (AY h fun _ _ ⟨b,e,q⟩=>by subst e; exact A7 q)
theorem Su (h:WP (tc τ) μ fun b μ1=>QB (!b) μ1):WP (Rn tc τ) μ QB:=AZ (AY h fun _ _ q=>A7 q)
def Uf (m:M Bool) (QB:Bool->Mh->Prop):Bool->Mh->Prop
  | true,μ=>WP m μ QB
  | false,μ=>QB false μ
def orK (m:M Bool) (QB:Bool->Mh->Prop):Bool->Mh->Prop
  | true,μ=>QB true μ
  | false,μ=>WP m μ QB
theorem S9 (h:WP (tc τ) μ (Uf (tb τ) QB)):WP (FR tc tb τ) μ QB:=AZ (AY h fun b _ z=>by cases b; exact A7 z; exact z)
theorem Ut (h:WP (tc τ) μ (orK (tb τ) QB)):WP (mOr tc tb τ) μ QB:=AZ (AY h fun b _ z=>by cases b; exact z; exact A7 z)
def Lv (m2:Sl->M (Fl × Sl)) (QS:Fl × Sl->Mh->Prop):Fl × Sl->Mh->Prop
  | (.next,τ1),μ1=>WP (m2 τ1) μ1 QS
  | r,μ1=>QS r μ1
theorem OH (h:WP (m2 τ1) μ1 QS):Lv m2 QS (.next,τ1) μ1:=h
theorem TD (h:QS (.rt d,τ1) μ1):Lv m2 QS (.rt d,τ1) μ1:=h
theorem Sr (h:WP (m1 τ) μ (Lv m2 QS)):WP (AT m1 m2 τ) μ QS:=AZ (AY h fun r _ z=>by
  obtain ⟨fl,τ1⟩:=r
  cases fl
  . exact z
  . exact A7 z
  . exact A7 z
  . exact A7 z)
theorem Qn {i:Nat} (h:WP (ma τ) μ fun d μ1=>QS (.next,τ.set i (some d)) μ1):WP (Ah ma (AN i) τ) μ QS:=AZ (AY h fun _ _ q=>AZ (A7 (A7 q)))
theorem Kk {bf:D->Sl->M Sl} (h:WP (ma τ) μ fun d μ1=>WP (bf d τ) μ1 fun τ1 μ2=>QS (.next,τ1) μ2):WP (Ah ma bf τ) μ QS:=AZ (AY h fun _ _ q=>AZ (AY q fun _ _ z=>A7 z))
theorem Ss (h:WP (ma τ) μ fun d μ1=>QS (.rt d,τ) μ1):WP (Ao ma τ) μ QS:=AZ (AY h fun _ _ q=>A7 q)
theorem Qj (h:WP (ma τ) μ fun _ μ1=>QS (.next,τ) μ1):WP (Bl ma τ) μ QS:=AZ (AY h fun _ _ q=>A7 q)
theorem Sv (q:QS (.next,τ) μ):WP (Bh τ) μ QS:=⟨_,μ,rfl,q⟩
def ifK (m1 m2:Sl->M (Fl × Sl)) (τ:Sl) (QS:Fl × Sl->Mh->Prop):Bool->Mh->Prop
  | true,μ=>WP (m1 τ) μ QS
  | false,μ=>WP (m2 τ) μ QS
theorem DU (h:WP (m1 τ) μ QS):ifK m1 m2 τ QS true μ:=h
theorem CI (h:WP (m2 τ) μ QS):ifK m1 m2 τ QS false μ:=h
theorem Uu (h:WP (tc τ) μ (ifK m1 m2 τ QS)):WP (sIf tc m1 m2 τ) μ QS:=AZ (AY h fun b _ z=>by cases b; exact z; exact z)
theorem S6 {src:Sl->M (List D)} {bf:D->Sl->M Sl} (h:WP (src τ) μ fun ds μ1=>WP (Dj bf m1 ds τ) μ1 QS):WP (ES src bf m1 τ) μ QS:=AZ h
def MV (I:Sl->Mh->Prop) (QS:Fl × Sl->Mh->Prop):Fl × Sl->Mh->Prop
  | (.next,τ),μ=>I τ μ
  | (.cont,τ),μ=>I τ μ
  | (.brk,τ),μ=>QS (.next,τ) μ
  | (.rt d,τ),μ=>QS (.rt d,τ) μ
theorem Cj {I:Sl->Mh->Prop} (h:I τ μ):MV I QS (.next,τ) μ:=h
theorem EO {bf:D->Sl->M Sl} (I:List D->Sl->Mh->Prop) (step:∀ x xs τ μ,I (x :: xs) τ μ->WP (bf x τ) μ fun τ1 μ1=>WP (m1 τ1) μ1 (MV (I xs) QS)) (fin:∀ τ μ,I [] τ μ->QS (.next,τ) μ):∀ {ds:List D} {τ:Sl} {μ:Mh},I ds τ μ->WP (Dj bf m1 ds τ) μ QS
  | [],τ,μ,h=>A7 (fin τ μ h)
  | x :: xs,τ,μ,h=>AZ (AY (step x xs τ μ h) fun τ1 μ1 z=>AZ (AY z fun r μ2 z=>by
      obtain ⟨fl,τ2⟩:=r
      cases fl
      . exact EO I step fin z
      . exact A7 z
      . exact EO I step fin z
      . exact A7 z))
theorem OE {QT:Sl->Mh->Prop} {i:Nat} (q:QT (τ.set i (some d)) μ):WP (AN i d τ) μ QT:=⟨_,μ,rfl,q⟩
theorem GG {QT:Sl->Mh->Prop} {i j:Nat} (q:QT ((τ.set i (some x)).set j (some y)) μ):WP (Cz [i,j] (.tup [x,y]) τ) μ QT:=⟨_,μ,rfl,q⟩
theorem OD {QT:Sl->Mh->Prop} {i j k:Nat} (q:QT (((τ.set i (some x)).set j (some y)).set k (some d)) μ):WP (Cz [i,j,k] (.tup [x,y,d]) τ) μ QT:=⟨_,μ,rfl,q⟩
theorem Ql {N:Nat} {ix:List Nat} {src:Sl->M (List D)} {bf:D->Sl->M Sl} {fin:List D->M D} (h:WP (src τ) μ fun ds μ1=>ds.length <= sizeLine /\ WP (CY bf tc ma (CJ N ix τ) ds []) μ1 fun es μ2=>WP (fin es) μ2 QD):WP (BA N ix src bf tc ma fin τ) μ QD:=AZ (AY h fun ds μ1 z=>AZ (wp_of (EX z.1 μ1) (AZ z.2)))
theorem IQ {bf:D->Sl->M Sl} {τ0:Sl} (I:List D->List D->Mh->Prop) (step:∀ x xs ys μ,I (x :: xs) ys μ->WP (bf x τ0) μ fun τ1 μ1=>WP (tc τ1) μ1 fun c μ2=>(c=true->WP (ma τ1) μ2 fun y μ3=>I xs (ys ++ [y]) μ3) /\ (c=false->I xs ys μ2)) (fin:∀ ys μ,I [] ys μ->QL ys μ):∀ {ds ys:List D} {μ:Mh},I ds ys μ->WP (CY bf tc ma τ0 ds ys) μ QL
  | [],ys,μ,h=>A7 (fin ys μ h)
  | x :: xs,ys,μ,h=>AZ (AY (step x xs ys μ h) fun τ1 μ1 z=>AZ (AY z fun c μ2 z=>by
      cases c
      . exact IQ I step fin (z.2 rfl)
      . exact AZ (AY (z.1 rfl) fun y μ3 z=>IQ I step fin z)))
theorem QX (q:QB true μ):WP (C3 τ) μ QB:=⟨true,μ,rfl,q⟩
theorem Lm (q:QD (.int (i + j)) μ):WP (AU (.int i) (.int j)) μ QD:=⟨_,μ,rfl,q⟩
theorem Sk (q:QD (.int (i - j)) μ):WP (Cb (.int i) (.int j)) μ QD:=⟨_,μ,rfl,q⟩
theorem N9 (h:0 < j) (q:QD (.int (i % j)) μ):WP (A1 (.int i) (.int j)) μ QD:=wp_of (Gi h) q
theorem Lk (h:0 < j) (h2:j < 1073741824) (q:QD (.int (i / j)) μ):WP (Ay (.int i) (.int j)) μ QD:=wp_of (EY h h2) q
theorem N7 (h:(-(2 ^ 64) < i /\ i < 2 ^ 64) ∨ (-(2 ^ 64) < j /\ j < 2 ^ 64)) (q:QD (.int (i * j)) μ):WP (DI (.int i) (.int j)) μ QD:=wp_of (J7 h) q
theorem Uv (q:QD (.bl (decide (j < i))) μ):WP (Jv (.int i) (.int j)) μ QD:=⟨_,μ,rfl,q⟩
theorem Uw (q:QD (.bl (decide (j <= i))) μ):WP (Jw (.int i) (.int j)) μ QD:=⟨_,μ,rfl,q⟩
theorem S8 (q:QD (.bl (i == j)) μ):WP (As (.int i) (.int j)) μ QD:=⟨_,μ,rfl,q⟩
theorem Sx {a b:Bool} (q:QD (.bl (!(a == b))) μ):WP (Fx (.bl a) (.bl b)) μ QD:=by
  refine wp_of ?_ q
  cases a <;> cases b <;> rfl
theorem S5 (q:QD (.bl (isN d)) μ):WP (Ju false d .non) μ QD:=by cases d <;> exact ⟨_,μ,rfl,q⟩
theorem Qh {b:Bool} (q:QD (.int (if b then 1 else 0)) μ):WP (LK [.bl b]) μ QD:=⟨_,μ,rfl,q⟩
theorem Qd (h:ds.length <= sizeLine) (q:QD (.tup ds) μ):WP (Al ds) μ QD:=by
  refine wp_of (a:=.tup ds) (μ':=μ) ?_ q
  unfold Al; rw [AM (EX h _)]; rfl
theorem BQ (h:ds.length <= sizeLine) (q:QD (.lst ds) μ):WP (Av ds) μ QD:=by
  refine wp_of (a:=.lst ds) (μ':=μ) ?_ q
  unfold Av; rw [AM (EX h _)]; rfl
theorem Qe (h:ds.length <= sizeLine) (q:QD (.ref μ.length) (μ ++ [.lst ds])):WP (Eu ds) μ QD:=by
  refine wp_of (a:=.ref μ.length) (μ':=μ ++ [.lst ds]) ?_ q
  unfold Eu; rw [AM (EX h _)]
theorem Ci (h2:atI ds i=some d) (q:QD d μ):WP (AQ (.tup ds) (.int i)) μ QD:=wp_of (Pd h2) q
theorem OA (h2:atI ds i=some d) (q:QD d μ):WP (AQ (.lst ds) (.int i)) μ QD:=wp_of (SU h2) q
theorem Sn (h:WP (ma τ) μ fun d μ1=>WP (Mx d) μ1 QL):WP (B4 ma τ) μ QL:=AZ h
theorem QY (q:QL ds μ):WP (Mx (.tup ds)) μ QL:=⟨_,μ,rfl,q⟩
theorem QZ (q:QL ds μ):WP (Mx (.lst ds)) μ QL:=⟨_,μ,rfl,q⟩
theorem Qa (h:WP (ra τ) μ fun ds μ1=>∃ j:Nat,ds=[.int j] /\ j < 1000000 /\ QL ((List.range j).map fun (i:Nat)=>.int (i:Int)) μ1):WP (Gc ra τ) μ QL:=AZ (AY h fun ds μ1 ⟨j,e,hj,q⟩=>by
  subst e
  refine wp_of (a:=Jm 0 j) (μ':=μ1) ?_ ?_
  . have hj2 : -(2 ^ 62) <= (j:Int) /\ (j:Int) < 2 ^ 62:=⟨by omega,by omega⟩
    unfold MF
    simp only []
    rw [if_pos hj2]
  . have e:Jm 0 (j:Int)=(List.range j).map fun (i:Nat)=>.int (i:Int):=by
      unfold Jm
      rw [show ((j:Int) - 0).toNat=j by omega]
      congr 1
      funext i
      rw [Int.zero_add]
    rw [e]
    exact q)
theorem QW (q:QD (.tup ds) μ):WP (CU [.lst ds]) μ QD:=⟨_,μ,rfl,q⟩
theorem QV (h:μ[n]? = some (.lst ds)) (q:QD (.tup ds) μ):WP (CU [.ref n]) μ QD:=by
  refine wp_of (a:=.tup ds) (μ':=μ) ?_ q
  show bnd (Bv (.ref n)) (fun ds=>ret (D.tup ds)) μ=_
  rw [AM (show Bv (.ref n) μ=some (ds,μ) from by show (match μ[n]? with | some (.lst ds)=>some (ds,μ) | _=>none)=_; rw [h])]
  rfl
theorem Qf (q:QD (.int ds.length) μ):WP (Dm [.tup ds]) μ QD:=⟨_,μ,rfl,q⟩
theorem Qo {gs:Mh} {i:Nat} (ht:τ[i]? = some (some (.ref gs.length))) (hs:ds.length < sizeLine) (h:WP (ra τ) (gs ++ [.lst ds]) fun es μ1=>∃ gs' y,es=[y] /\ μ1=gs' ++ [.lst ds] /\ gs'.length=gs.length /\ QD .non (gs' ++ [.lst (ds ++ [y])])):WP (Aw C8 (AB i) ra τ) (gs ++ [.lst ds]) QD:=by
  unfold Aw
  refine AZ (wp_of (CO ht) ?_)
  have hg:Db (.ref gs.length) (gs ++ [.lst ds])=some ((),gs ++ [.lst ds]):=by
    unfold Db
    rw [AM (show Bv (.ref gs.length) (gs ++ [.lst ds])=some (ds,gs ++ [.lst ds]) from by show (match (gs ++ [MO.lst ds])[gs.length]? with | some (.lst ds')=>some (ds',gs ++ [MO.lst ds]) | _=>none)=some (ds,gs ++ [MO.lst ds]); rw [List.getElem?_append_right (Nat.le_refl _)]; simp)]
    rfl
  refine AZ (wp_of hg (AZ (AY h ?_)))
  rintro es μ1 ⟨gs',y,rfl,rfl,hl,q⟩
  refine wp_of (a:=.non) (μ':=gs' ++ [.lst (ds ++ [y])]) ?_ q
  show HI gs.length (fun ds=>if ds.length < sizeLine then some (.non,ds ++ [y]) else none) (gs' ++ [.lst ds])=_
  unfold HI
  rw [← hl,List.getElem?_append_right (Nat.le_refl _)]
  simp [hs]
theorem BR {N ps:Nat} {mb:Sl->M (Fl × Sl)} {ds:List D} {QD:D->Mh->Prop} (hl:ds.length=ps) (h:WP (mb (B8 N ds)) μ fun r μ2=>∃ d τ2 gs,r=(.rt d,τ2) /\ μ2=μ ++ gs /\ Cl μ.length d /\ QD d μ):WP (Ak .drop N ps mb ds) μ QD:=by
  obtain ⟨r,μ2,e,d,τ2,gs,rfl,rfl,c,q⟩:=h
  exact wp_of (Ax e hl c) q
end
end Mi
namespace Mi
open PySem L2
mutual
def Pz:D->Prop
  | .non=>True
  | .int _=>True
  | .str x=>PyData.strOk x=true
  | .tup ds=>PzL ds
  | .lst ds=>PzL ds
  | _=>False
def PzL:List D->Prop
  | []=>True
  | d :: ds=>Pz d /\ PzL ds
end
mutual
def dpt:D->Nat
  | .tup ds=>CW ds + 1
  | .lst ds=>CW ds + 1
  | _=>0
def CW:List D->Nat
  | []=>0
  | d :: ds=>max (dpt d) (CW ds)
end
mutual
def toZ:D->PyData
  | .int i=>.int i
  | .str x=>.str x
  | .tup ds=>.tuple (C0 ds)
  | .lst ds=>.list (C0 ds)
  | _=>.none
def C0:List D->List PyData
  | []=>[]
  | d :: ds=>toZ d :: C0 ds
end
mutual
theorem Kq (μ:Mh):∀ {d:D},Pz d->toP μ d=some (toZ d)
  | .non,_=>rfl
  | .int _,_=>rfl
  | .str _,_=>rfl
  | .tup ds,h=>by unfold Pz at h; unfold toP toZ; rw [IT μ h]; rfl
  | .lst ds,h=>by unfold Pz at h; unfold toP toZ; rw [IT μ h]; rfl
  | .bl _,h | .ty _,h | .scr _,h | .ref _,h=>by unfold Pz at h; exact h.elim
theorem IT (μ:Mh):∀ {ds:List D},PzL ds->ER μ ds=some (C0 ds)
  | [],_=>by unfold ER C0; rfl
  | d :: ds,h=>by
    unfold PzL at h
    unfold ER C0
    rw [Kq μ h.1,IT μ h.2]; rfl
end
mutual
theorem IS:∀ {d:D},Pz d->PyData.canLay0 (toZ d)=true /\ PyData.depth (toZ d)=dpt d
  | .non,_=>⟨rfl,rfl⟩
  | .int _,_=>⟨rfl,rfl⟩
  | .str _,h=>by unfold Pz at h; exact ⟨h,rfl⟩
  | .tup ds,h=>by
    unfold Pz at h
    obtain ⟨h1,h2⟩:=GH h
    unfold toZ dpt
    exact ⟨h1,by show PyData.depthAll (C0 ds) + 1=_; rw [h2]⟩
  | .lst ds,h=>by
    unfold Pz at h
    obtain ⟨h1,h2⟩:=GH h
    unfold toZ dpt
    exact ⟨h1,by show PyData.depthAll (C0 ds) + 1=_; rw [h2]⟩
  | .bl _,h | .ty _,h | .scr _,h | .ref _,h=>by unfold Pz at h; exact h.elim
theorem GH:∀ {ds:List D},PzL ds->PyData.canLayAll0 (C0 ds)=true /\ PyData.depthAll (C0 ds)=CW ds
  | [],_=>by unfold C0 CW; exact ⟨rfl,rfl⟩
  | d :: ds,h=>by
    unfold PzL at h
    obtain ⟨h1,h2⟩:=IS h.1
    obtain ⟨h3,h4⟩:=GH h.2
    unfold C0 CW
    refine ⟨?_,?_⟩
    . show (PyData.canLay0 (toZ d) && PyData.canLayAll0 (C0 ds))=true
      rw [h1,h3]; rfl
    . show max (PyData.depth (toZ d)) (PyData.depthAll (C0 ds))=_
      rw [h2,h4]
end
mutual
theorem eqZ:∀ {a b:D},Pz a->Pz b->(PyData.eqv (toZ a) (toZ b)=true ↔ a=b)
  | .non,b,_,hb=>by
    cases b <;> first | exact ⟨fun _=>rfl,fun _=>rfl⟩ | (unfold Pz at hb; exact hb.elim) | (unfold toZ; exact ⟨fun z=>(by cases z),fun z=>(by cases z)⟩)
  | .int i,b,_,hb=>by
    cases b with
    | int j=>exact ⟨fun z=>by have:(i == j)=true:=z; rw [beq_iff_eq.mp this],fun z=>by cases z; show (i == i)=true; simp⟩
    | _=>first | (unfold Pz at hb; exact hb.elim) | (unfold toZ; exact ⟨fun z=>(by cases z),fun z=>(by cases z)⟩)
  | .str i,b,_,hb=>by
    cases b with
    | str j=>exact ⟨fun z=>by have:(i == j)=true:=z; rw [beq_iff_eq.mp this],fun z=>by cases z; show (i == i)=true; simp⟩
    | _=>first | (unfold Pz at hb; exact hb.elim) | (unfold toZ; exact ⟨fun z=>(by cases z),fun z=>(by cases z)⟩)
  | .tup xs,b,ha,hb=>by
    cases b with
    | tup ys=>
      unfold Pz at ha hb
      unfold toZ
      have:=UX ha hb
      exact ⟨fun z=>by rw [this.mp z],fun z=>by cases z; exact this.mpr rfl⟩
    | _=>first | (unfold Pz at hb; exact hb.elim) | (unfold toZ; exact ⟨fun z=>(by cases z),fun z=>(by cases z)⟩)
  | .lst xs,b,ha,hb=>by
    cases b with
    | lst ys=>
      unfold Pz at ha hb
      unfold toZ
      have:=UX ha hb
      exact ⟨fun z=>by rw [this.mp z],fun z=>by cases z; exact this.mpr rfl⟩
    | _=>first | (unfold Pz at hb; exact hb.elim) | (unfold toZ; exact ⟨fun z=>(by cases z),fun z=>(by cases z)⟩)
  | .bl _,_,h,_ | .ty _,_,h,_ | .scr _,_,h,_ | .ref _,_,h,_=>by unfold Pz at h; exact h.elim
theorem UX:∀ {as bs:List D},PzL as->PzL bs->(PyData.eqvAll (C0 as) (C0 bs)=true ↔ as=bs)
  | [],[],_,_=>by unfold C0; exact ⟨fun _=>rfl,fun _=>rfl⟩
  | [],_ :: _,_,_=>by unfold C0; exact ⟨fun z=>(by cases z),fun z=>(by cases z)⟩
  | _ :: _,[],_,_=>by unfold C0; exact ⟨fun z=>(by cases z),fun z=>(by cases z)⟩
  | a :: as,b :: bs,ha,hb=>by
    unfold PzL at ha hb
    unfold C0
    have h1:=eqZ ha.1 hb.1
    have h2:=UX ha.2 hb.2
    show (PyData.eqv (toZ a) (toZ b) && PyData.eqvAll (C0 as) (C0 bs))=true ↔ _
    rw [Bool.and_eq_true,h1,h2]
    exact ⟨fun ⟨x,y⟩=>by rw [x,y],fun z=>by cases z; exact ⟨rfl,rfl⟩⟩
end
section
variable {μ:Mh} {a b:D} {QD:D->Mh->Prop}
theorem Pv {neg:Bool} (ha:Pz a) (hb:Pz b) (da:dpt a <= 64) (db:dpt b <= 64):∃ e:Bool,(e=true ↔ a=b) /\ Ep neg a b μ=some (.bl (if neg then !e else e),μ):=by
  refine ⟨PyData.eqv (toZ a) (toZ b),eqZ ha hb,?_⟩
  obtain ⟨a1,a2⟩:=IS ha
  obtain ⟨b1,b2⟩:=IS hb
  have s1:SeqAt.shaped (toZ a)=true:=by
    show (PyData.canLay0 (toZ a) && decide (PyData.depth (toZ a) <= 64))=true
    rw [a1,decide_eq_true (by omega)]; rfl
  have s2:SeqAt.shaped (toZ b)=true:=by
    show (PyData.canLay0 (toZ b) && decide (PyData.depth (toZ b) <= 64))=true
    rw [b1,decide_eq_true (by omega)]; rfl
  have e1:HK μ a=some (toZ a):=by
    cases a with
    | ref n=>unfold Pz at ha; exact ha.elim
    | _=>exact Kq μ ha
  have e2:HK μ b=some (toZ b):=by
    cases b with
    | ref n=>unfold Pz at hb; exact hb.elim
    | _=>exact Kq μ hb
  unfold Ep
  rw [e1,e2]
  exact if_pos ⟨s1,s2⟩
theorem FH (ha:Pz a) (hb:Pz b) (da:dpt a <= 64) (db:dpt b <= 64) (q:∀ e:Bool,(e=true ↔ a=b)->QD (.bl e) μ):WP (As a b) μ QD:=by
  obtain ⟨e,h1,h2⟩:=Pv (μ:=μ) (neg:=false) ha hb da db
  exact wp_of h2 (q e h1)
theorem IN (ha:Pz a) (hb:Pz b) (da:dpt a <= 64) (db:dpt b <= 64) (q:∀ e:Bool,(e=true ↔ a=b)->QD (.bl (!e)) μ):WP (Fx a b) μ QD:=by
  obtain ⟨e,h1,h2⟩:=Pv (μ:=μ) (neg:=true) ha hb da db
  exact wp_of h2 (q e h1)
end
theorem Ik:∀ xs:List Int,PzL (xs.map D.int)
  | []=>by unfold List.map PzL; trivial
  | x :: xs=>by unfold List.map PzL; exact ⟨by unfold Pz; trivial,Ik xs⟩
theorem G1:∀ xs:List Int,CW (xs.map D.int)=0
  | []=>by unfold List.map CW; rfl
  | x :: xs=>by unfold List.map CW; rw [G1 xs]; rfl
theorem FM {α:Type} {f:α->D}:∀ {xs:List α},(∀ a ∈ xs,Pz (f a))->PzL (xs.map f)
  | [],_=>by unfold List.map PzL; trivial
  | x :: xs,h=>by unfold List.map PzL; exact ⟨h x List.mem_cons_self,FM fun a ha=>h a (List.mem_cons_of_mem _ ha)⟩
theorem EF {α:Type} {f:α->D} {k:Nat}:∀ {xs:List α},(∀ a ∈ xs,dpt (f a) <= k)->CW (xs.map f) <= k
  | [],_=>by unfold List.map CW; omega
  | x :: xs,h=>by
    unfold List.map CW
    have:=h x List.mem_cons_self
    have:=EF fun a ha=>h a (List.mem_cons_of_mem x ha)
    omega
theorem Jr (c:Nk.Cs):Pz (csD c):=by
  unfold csD Pz PzL
  refine ⟨by unfold Pz; trivial,?_⟩
  unfold PzL
  refine ⟨by unfold Pz; trivial,?_⟩
  unfold PzL
  exact ⟨by unfold Pz; exact Ik _,by unfold PzL; trivial⟩
theorem G3 (c:Nk.Cs):dpt (csD c) <= 2:=by
  have e:CW (c.2.2.map D.int)=0:=G1 _
  have:dpt (csD c)=max 0 (max 0 (max (CW (c.2.2.map D.int) + 1) 0)) + 1:=rfl
  rw [this,e]
  decide
end Mi
namespace Mi
section
variable {b:Bool} {i:Int} {a c:D}
theorem OG {P:Bool->Prop} (h:P b):∃ b',D.bl b=D.bl b' /\ P b':=⟨b,rfl,h⟩
theorem Qr {P:Int->Prop} (h:P i):∃ i',D.int i=D.int i' /\ P i':=⟨i,rfl,h⟩
theorem Qp {n:Nat} {P:Nat->Prop} (e:i=n) (hn:n < 1000000) (h:P n):∃ j:Nat,[D.int i]=[D.int j] /\ j < 1000000 /\ P j:=⟨n,by rw [e],hn,h⟩
end
end Mi
local macro_rules | `(tactic| wtm_at "own qwn")=>`(tactic| first | assumption | decide | omega | exact Nat.le_of_ble_eq_true rfl)
local macro_rules | `(tactic| wtm_at "own qws")=>`(tactic| first
  | (with_reducible apply Mi.Sr) | (with_reducible apply Mi.OH) | (with_reducible apply Mi.Qn) | (with_reducible apply Mi.Ss) | (with_reducible apply Mi.TD) | (with_reducible apply Mi.Qj) | (with_reducible apply Mi.Sv) | (with_reducible apply Mi.Uu) | (with_reducible apply Mi.DU) | (with_reducible apply Mi.CI) | (with_reducible apply Mi.JM) | (with_reducible apply Mi.Ux) | ((with_reducible apply Mi.IM); rfl) | (with_reducible apply Mi.OB) | (with_reducible apply Mi.Qc) | (with_reducible apply Mi.Qk) | (with_reducible apply Mi.Us)
  | (with_reducible apply Mi.Lj) | (with_reducible apply Mi.OG) | (with_reducible apply Mi.Su) | (with_reducible apply Mi.S9) | (with_reducible apply Mi.Ut) | (with_reducible apply Mi.S6) | (with_reducible apply Mi.Ql) | (with_reducible apply Mi.Sn) | (with_reducible apply Mi.QY) | (with_reducible apply Mi.QZ) | (with_reducible apply Mi.Qa) | (with_reducible apply Mi.So) | (with_reducible apply Mi.M1) | (with_reducible apply Mi.Qb) | (with_reducible apply Mi.Qr)
  | (with_reducible apply Mi.Lm) | (with_reducible apply Mi.wq_add) | (with_reducible apply Mi.Sk) | (with_reducible apply Mi.wq_lt) | (with_reducible apply Mi.Uv) | (with_reducible apply Mi.Uw) | (with_reducible apply Mi.S8) | (with_reducible apply Mi.wq_neI) | (with_reducible apply Mi.S5) | (with_reducible apply Mi.wq_isT) | (with_reducible apply Mi.Qh) | (with_reducible apply Mi.Sx) | (with_reducible apply Mi.wq_tupT) | (with_reducible apply Mi.QW) | (with_reducible apply Mi.Qf) | (with_reducible apply Mi.QX) | (with_reducible apply Mi.OE)
  | ((with_reducible apply Mi.N9); (wtm_at "own qwn")) | ((with_reducible apply Mi.Lk); (wtm_at "own qwn"); (wtm_at "own qwn")) | ((with_reducible apply Mi.Qd); (wtm_at "own qwn")) | ((with_reducible apply Mi.BQ); (wtm_at "own qwn")) | ((with_reducible apply Mi.Qe); (wtm_at "own qwn")) | ((with_reducible apply Mi.Ci); rfl) | ((with_reducible apply Mi.OA); rfl))
local macro_rules | `(tactic| wtm_at "own qwr")=>`(tactic| repeat wtm_at "own qws")
namespace Mi
open PySem L2
section
variable {τ τ1:Sl} {μ μ1:Mh} {d x y:D} {ds:List D} {ma mb:Sl->M D} {ra:Sl->M (List D)} {tc tb:Sl->M Bool} {m1 m2:Sl->M (Fl × Sl)} {QD:D->Mh->Prop} {QL:List D->Mh->Prop} {QS:Fl × Sl->Mh->Prop}
theorem A8 {α:Type} (f:α->D) (p:α->Bool) (F:α->D) {bf:D->Sl->M Sl} {τ0:Sl} {xs:List α} (h:∀ a ∈ xs,WP (bf (f a) τ0) μ fun τ1 μ1=>μ1=μ /\ WP (tc τ1) μ fun c μ2=>c=p a /\ μ2=μ /\ (p a=true->WP (ma τ1) μ fun y μ3=>y=F a /\ μ3=μ)) (q:QL ((xs.filter p).map F) μ):WP (CY bf tc ma τ0 (xs.map f) []) μ QL:=by
  refine IQ (I:=fun rest ys μ'=>∃ a b,a ++ b=xs /\ rest=b.map f /\ ys=(a.filter p).map F /\ μ'=μ) (fun z zs ys μ' hI=>?_) (fun ys μ' hI=>?_) ⟨[],xs,rfl,rfl,rfl,rfl⟩
  . obtain ⟨a,b,hab,hr,rfl,rfl⟩:=hI
    cases b with
    | nil=>cases hr
    | cons w b=>
      rw [List.map_cons] at hr
      obtain ⟨e1,e2⟩:=List.cons.inj hr
      subst e1
      have hw:w ∈ xs:=by rw [← hab]; simp
      refine AY (h w hw) fun τ1 μ1 ⟨e,z⟩=>?_
      subst e
      refine AY z fun c μ2 ⟨e3,e4,z2⟩=>?_
      subst e3 e4
      refine ⟨fun hc=>AY (z2 hc) fun y μ3 ⟨e5,e6⟩=>?_,fun hc=>?_⟩
      . subst e5 e6
        exact ⟨a ++ [w],b,by rw [← hab]; simp,e2,by rw [List.filter_append,List.map_append,List.filter_cons_of_pos hc]; rfl,rfl⟩
      . exact ⟨a ++ [w],b,by rw [← hab]; simp,e2,by rw [List.filter_append,List.map_append,List.filter_cons_of_neg (by rw [hc]; exact Bool.false_ne_true)]; simp,rfl⟩
  . obtain ⟨a,b,hab,hr,rfl,rfl⟩:=hI
    cases b with
    | cons w b=>cases hr
    | nil=>
      rw [List.append_nil] at hab
      subst hab
      exact q
theorem S7 {x y:Str} (h1:PyData.strOk x=true) (h2:PyData.strOk y=true) (q:QD (.bl (x == y)) μ):WP (As (.str x) (.str y)) μ QD:=by
  refine FH (by unfold Pz; exact h1) (by unfold Pz; exact h2) (by show 0 <= 64; omega) (by show 0 <= 64; omega) fun e he=>?_
  have:e=(x == y):=by
    rw [Bool.eq_iff_iff,he,beq_iff_eq]
    exact ⟨fun z=>by cases z; rfl,fun z=>by rw [z]⟩
  rw [this]
  exact q
end
end Mi
set_option maxHeartbeats 1000000
namespace K12
open PySem L2 Mi Ht Nk Hs Wb
def thD:Th->D
  | none=>.str "w"
  | some k=>.int (k:Int)
def oD (o:List Th):D:=.lst (o.map thD)
theorem UD:PyData.strOk ("w" : Str)=true:=by decide +kernel
theorem MI (t:Th):Pz (thD t):=by
  cases t with
  | none=>unfold thD Pz; exact UD
  | some k=>unfold thD Pz; trivial
theorem P3 (t:Th):dpt (thD t)=0:=by cases t <;> rfl
theorem TW {t u:Th} (h:thD t=thD u):t=u:=by
  cases t <;> cases u
  . rfl
  . cases h
  . cases h
  . unfold thD at h
    have:=D.int.inj h
    congr 1
    omega
theorem Vm (k:Nat) (o:List Th):ClL k (o.map thD):=by
  induction o with
  | nil=>unfold List.map ClL; trivial
  | cons t o ih=>unfold List.map ClL; exact ⟨by cases t <;> (unfold thD Cl; trivial),ih⟩
theorem Vn (k:Nat) (os:List (List Th)):ClL k (os.map oD):=by
  induction os with
  | nil=>unfold List.map ClL; trivial
  | cons o os ih=>unfold List.map ClL; exact ⟨by unfold oD Cl; exact Vm k o,ih⟩
theorem Es:∀ (n:Nat) (ts:List Th),ts.length <= 5->ts.Nodup->(ord n ts).length <= 10 ^ ts.length
  | 0,ts,_,_=>by unfold ord; simp
  | n + 1,ts,h,nd=>by
    unfold ord
    rw [List.length_cons,List.length_flatMap]
    have hb:∀ t ∈ ts,((ord n (ts.filter fun u=>decide (u ≠ t))).map (t :: ·)).length <= 10 ^ (ts.length - 1):=fun t ht=>by
      rw [List.length_map]
      have hl:(ts.filter fun u=>decide (u ≠ t)).length < ts.length:=List.length_filter_lt_length_iff_exists.mpr ⟨t,ht,by simp⟩
      refine Nat.le_trans (Es n _ (by omega) (nd.sublist List.filter_sublist)) (Nat.pow_le_pow_right (by decide) (by omega))
    have hs:∀ (l:List Th) (f:Th->Nat) (B:Nat),(∀ t ∈ l,f t <= B)->(l.map f).sum <= l.length * B:=fun l f B=>by
      induction l with
      | nil=>intro _; simp
      | cons t l ih=>
        intro hh
        rw [List.map_cons,List.sum_cons,List.length_cons,Nat.add_mul,Nat.one_mul]
        have h1:=hh t List.mem_cons_self
        have h2:=ih fun u hu=>hh u (List.mem_cons_of_mem _ hu)
        omega
    have:=hs ts _ _ hb
    cases e:ts.length with
    | zero=>rw [e] at this; simp at this ⊢; have:ts=[]:=List.eq_nil_of_length_eq_zero e; subst this; simp
    | succ m=>
      rw [e,Nat.add_sub_cancel] at this
      rw [Nat.pow_succ]
      have hp:1 <= 10 ^ m:=Nat.one_le_pow _ _ (by decide)
      have hm:m + 1 <= 5:=by omega
      have:(m + 1) * 10 ^ m <= 5 * 10 ^ m:=Nat.mul_le_mul_right _ hm
      omega
theorem Im:∀ (n:Nat) (ts:List Th) {o:List Th},o ∈ ord n ts->o.length <= ts.length /\ ∀ t ∈ o,t ∈ ts
  | 0,_,_,h=>by unfold ord at h; cases h
  | n + 1,ts,o,h=>by
    unfold ord at h
    rcases List.mem_cons.mp h with rfl | h
    . exact ⟨Nat.zero_le _,fun t ht=>by cases ht⟩
    . obtain ⟨t,ht,h2⟩:=List.mem_flatMap.mp h
      obtain ⟨o',ho',rfl⟩:=List.mem_map.mp h2
      obtain ⟨h3,h4⟩:=Im n _ ho'
      have hlt:(ts.filter fun u=>decide (u ≠ t)).length < ts.length:=List.length_filter_lt_length_iff_exists.mpr ⟨t,ht,by simp⟩
      refine ⟨by rw [List.length_cons]; omega,fun u hu=>?_⟩
      rcases List.mem_cons.mp hu with rfl | hu
      . exact ht
      . exact (List.mem_filter.mp (h4 u hu)).1
theorem F1 {μ:Mh} {QD:D->Mh->Prop} {as bs:List D} (h:as.length + bs.length <= 1000000) (q:QD (.lst (as ++ bs)) μ):WP (AU (.lst as) (.lst bs)) μ QD:=by
  refine wp_of (a:=.lst (as ++ bs)) (μ':=μ) ?_ q
  show Av (as ++ bs) μ=_
  unfold Av
  rw [AM (EX (by rw [List.length_append,sizeLine_eq]; omega) _)]
  rfl
section
variable {μ:Mh} {QD:D->Mh->Prop}
theorem HV:∀ (n:Nat) (ts:List Th) {μ:Mh} {QD:D->Mh->Prop},ts.length < n->ts.length <= 4->ts.Nodup->QD (.lst ((ord n ts).map oD)) μ->WP (DP n [.lst (ts.map thD)]) μ QD
  | 0,_,_,_,h,_,_,_=>absurd h (by omega)
  | n + 1,ts,μ,QD,h,h4,nd,q=>by
    unfold DP
    refine BR rfl ?_
    unfold Cf
    wtm_at "own qwr"
    refine EO (I:=fun rest τ μ'=>∃ a b o2 o3,a ++ b=ts /\ rest=List.map thD b /\ μ=μ' /\ τ=[some (.lst (ts.map thD)),some (.lst (([] :: a.flatMap fun t=>(ord n (ts.filter fun u=>decide (u ≠ t))).map (t :: ·)).map oD)),o2,o3]) ?_ ?_ ⟨[],ts,none,none,rfl,rfl,rfl,rfl⟩
    . rintro y ys τ μ' ⟨a,b,o2,o3,hab,hr,rfl,rfl⟩
      cases b with
      | nil=>cases hr
      | cons t b=>
        rw [List.map_cons] at hr
        obtain ⟨e3,e4⟩:=List.cons.inj hr
        subst e3
        have ht:t ∈ ts:=by rw [← hab]; simp
        have hlt:(ts.filter fun u=>decide (u ≠ t)).length < ts.length:=List.length_filter_lt_length_iff_exists.mpr ⟨t,ht,by simp⟩
        wtm_at "own qwr"
        refine ⟨by rw [List.length_map,sizeLine_eq]; omega,?_⟩
        refine A8 _ (fun u=>decide (u ≠ t)) thD (fun u hu=>?_) ?_
        . wtm_at "own qwr"
          refine ⟨rfl,?_⟩
          wtm_at "own qwr"
          refine IN (MI u) (MI t) (by rw [P3]; decide) (by rw [P3]; decide) fun e he=>?_
          wtm_at "own qwr"
          refine ⟨?_,rfl,fun _=>?_⟩
          . have:e=decide (u=t):=by
              rw [Bool.eq_iff_iff,he,decide_eq_true_iff]
              exact ⟨TW,fun z=>by rw [z]⟩
            rw [this]
            by_cases z:u=t <;> simp [z]
          . wtm_at "own qwr"
            exact ⟨rfl,rfl⟩
        . refine BQ (by rw [List.length_map,sizeLine_eq]; omega) ?_
          wtm_at "own qwr"
          refine HV n (ts.filter fun u=>decide (u ≠ t)) (by omega) (by omega) (nd.sublist List.filter_sublist) ?_
          wtm_at "own qwr"
          have ol:=Es n (ts.filter fun u=>decide (u ≠ t)) (by omega) (nd.sublist List.filter_sublist)
          have p4:10 ^ (ts.filter fun u=>decide (u ≠ t)).length <= 10 ^ 4:=Nat.pow_le_pow_right (by decide) (by omega)
          refine ⟨by rw [List.length_map,sizeLine_eq]; omega,?_⟩
          refine A8 _ (fun _=>true) (fun o=>oD (t :: o)) (fun o ho=>?_) ?_
          . wtm_at "own qwr"
            refine ⟨rfl,?_⟩
            wtm_at "own qwr"
            refine ⟨rfl,rfl,fun _=>?_⟩
            wtm_at "own qwr"
            have ol:=(Im n _ ho).1
            exact F1 (by rw [List.length_map]; simp; omega) ⟨rfl,rfl⟩
          . rw [List.filter_eq_self.mpr fun _ _=>rfl]
            refine BQ (by rw [List.length_map,sizeLine_eq]; omega) ?_
            have hfl:(a.flatMap fun t=>(ord n (ts.filter fun u=>decide (u ≠ t))).map (t :: ·)).length <= 40000:=by
              have hs:∀ l:List Th,(∀ u ∈ l,u ∈ ts)->(l.flatMap fun t=>(ord n (ts.filter fun u=>decide (u ≠ t))).map (t :: ·)).length <= l.length * 10000:=fun l=>by
                induction l with
                | nil=>intro _; simp
                | cons u l ih=>
                  intro hh
                  rw [List.flatMap_cons,List.length_append,List.length_map,List.length_cons,Nat.add_mul,Nat.one_mul]
                  have h1:=ih fun v hv=>hh v (List.mem_cons_of_mem _ hv)
                  have hlt2:(ts.filter fun v=>decide (v ≠ u)).length < ts.length:=List.length_filter_lt_length_iff_exists.mpr ⟨u,hh u List.mem_cons_self,by simp⟩
                  have h2:=Es n (ts.filter fun v=>decide (v ≠ u)) (by omega) (nd.sublist List.filter_sublist)
                  have h3:10 ^ (ts.filter fun v=>decide (v ≠ u)).length <= 10 ^ 4:=Nat.pow_le_pow_right (by decide) (by omega)
                  omega
              have:=hs a fun u hu=>by rw [← hab]; simp [hu]
              have hal:a.length <= 4:=by have:=congrArg List.length hab; simp at this; omega
              omega
            refine F1 (by rw [List.length_map,List.length_map,List.length_cons]; omega) ?_
            wtm_at "own qwr"
            refine Cj ⟨a ++ [t],b,some (thD t),some (.lst ((ts.filter fun u=>decide (u ≠ t)).map thD)),by rw [← hab]; simp,e4,rfl,?_⟩
            have e5:∀ (X:List (List Th)),(([] :: X).map oD) ++ (ord n (ts.filter fun u=>decide (u ≠ t))).map (fun o=>oD (t :: o))=(([]:List Th) :: (X ++ (ord n (ts.filter fun u=>decide (u ≠ t))).map (t :: ·))).map oD:=fun X=>by
              rw [List.map_cons,List.map_cons,List.map_append,List.map_map]
              rfl
            rw [e5,List.flatMap_append]
            simp only [List.flatMap_cons,List.flatMap_nil,List.append_nil]
            rfl
    . rintro τ μ' ⟨a,b,o2,o3,hab,hr,rfl,rfl⟩
      cases b with
      | cons t b=>cases hr
      | nil=>
        rw [List.append_nil] at hab
        subst hab
        wtm_at "own qwr"
        exact ⟨_,_,[],rfl,by simp,by unfold Cl; exact Vn _ _,q⟩
theorem Qm {τ:Sl} {mo mi:Sl->M D} {d:D} {QT:Sl->Mh->Prop} (h:WP (mo τ) μ fun x μ1=>WP (mi τ) μ1 fun y μ2=>∃ n k ds j,x=.ref n /\ y=.int k /\ μ2[n]? = some (.lst ds) /\ ixN ds.length k=some j /\ QT τ (μ2.set n (.lst (ds.set j d)))):WP (SH mo mi d τ) μ QT:=by
  unfold SH
  refine AZ (AY h fun x μ1 h=>AZ (AY h fun y μ2 ⟨n,k,ds,j,e1,e2,e3,e4,q⟩=>?_))
  subst e1 e2
  exact AZ (wp_of (SS e3 e4) (A7 q))
theorem N8 {c:Cs} {o:List Th} (ho:∀ k,some k ∈ o->k < c.2.2.length) (hl:c.2.2.length <= 100) (hol:o.length <= 100) (q:QD (csD (o.foldl stp c)) μ):WP (E6 [csD c,oD o]) μ QD:=by
  unfold E6
  refine BR rfl ?_
  unfold Dy
  wtm_at "own qws"
  (with_reducible apply Kk)
  wtm_at "own qwr"
  refine wp_of (a:=[some (csD c),some (oD o),some (.int c.1),some (.int c.2.1),some (.tup (c.2.2.map D.int)),none]) (μ':=μ) rfl ?_
  wtm_at "own qwr"
  refine wp_of (a:=.ref μ.length) (μ':=μ ++ [.lst (c.2.2.map D.int)]) ?_ ?_
  . show Eu (c.2.2.map D.int) μ=_
    unfold Eu
    rw [AM (EX (by rw [List.length_map,sizeLine_eq]; omega) _)]
  wtm_at "own qwr"
  refine wp_of (a:=o.map thD) (μ':=μ ++ [.lst (c.2.2.map D.int)]) rfl ?_
  refine EO (I:=fun rest τ μ'=>∃ a b o5,a ++ b=o /\ rest=List.map thD b /\ μ'=μ ++ [.lst ((a.foldl stp c).2.2.map D.int)] /\ τ=[some (csD c),some (oD o),some (.int (a.foldl stp c).1),some (.int (a.foldl stp c).2.1),some (.ref μ.length),o5] /\ (a.foldl stp c).2.2.length=c.2.2.length) ?_ ?_ ⟨[],o,none,rfl,rfl,rfl,rfl,rfl⟩
  . rintro y ys τ μ' ⟨a,b,o5,hab,hr,rfl,rfl,hlen⟩
    cases b with
    | nil=>cases hr
    | cons t b=>
      rw [List.map_cons] at hr
      obtain ⟨e3,e4⟩:=List.cons.inj hr
      subst e3
      have hf:(a ++ [t]).foldl stp c=stp (a.foldl stp c) t:=by rw [List.foldl_append]; rfl
      wtm_at "own qwr"
      cases t with
      | none=>
        refine FH (MI none) (by unfold Pz; exact UD) (by show 0 <= 64; decide) (by show 0 <= 64; decide) fun e he=>?_
        have:e=true:=he.mpr rfl
        subst this
        wtm_at "own qwr"
        refine wp_of (a:=.int (-2)) (μ':=_) rfl ?_
        wtm_at "own qwr"
        refine Cj ⟨a ++ [none],b,_,by rw [← hab]; simp,e4,by rw [hf]; rfl,by rw [hf]; rfl,by rw [hf]; exact hlen⟩
      | some k=>
        refine FH (MI (some k)) (by unfold Pz; exact UD) (by show 0 <= 64; decide) (by show 0 <= 64; decide) fun e he=>?_
        have:e=false:=by
          cases e with
          | false=>rfl
          | true=>exact absurd (he.mp rfl) (by unfold thD; intro z; cases z)
        subst this
        wtm_at "own qwr"
        (with_reducible apply Kk)
        wtm_at "own qwr"
        (with_reducible apply Qm)
        wtm_at "own qwr"
        have hk:k < (a.foldl stp c).2.2.length:=by rw [hlen]; exact ho k (by rw [← hab]; simp)
        refine ⟨μ.length,(k:Int),(a.foldl stp c).2.2.map D.int,k,rfl,rfl,by rw [List.getElem?_append_right (Nat.le_refl _)]; simp,?_,?_⟩
        . unfold ixN
          rw [List.length_map,if_pos (by omega),if_pos (by omega)]
          simp
        . refine Cj ⟨a ++ [some k],b,_,by rw [← hab]; simp,e4,?_,by rw [hf]; rfl,by rw [hf]; show ((a.foldl stp c).2.2.set k _).length=_; rw [List.length_set]; exact hlen⟩
          rw [hf,List.set_append_right _ _ (Nat.le_refl _),Nat.sub_self]
          show μ ++ [MO.lst (((a.foldl stp c).2.2.map D.int).set k (.int (a.foldl stp c).1))]=μ ++ [MO.lst (((a.foldl stp c).2.2.set k (a.foldl stp c).1).map D.int)]
          rw [List.map_set]
  . rintro τ μ' ⟨a,b,o5,hab,hr,rfl,rfl,hlen⟩
    cases b with
    | cons t b=>cases hr
    | nil=>
      rw [List.append_nil] at hab
      subst hab
      wtm_at "own qwr"
      refine QV (n:=μ.length) (ds:=(a.foldl stp c).2.2.map D.int) (by rw [List.getElem?_append_right (Nat.le_refl _)]; simp) ?_
      wtm_at "own qwr"
      exact ⟨_,_,[_],rfl,rfl,K16.cl_cs _ _,q⟩
end
end K12
set_option maxHeartbeats 1000000
namespace Mi
open PySem L2
theorem Fb {α:Type} {f:α->D}:∀ (k:Nat) (xs:List α),Cv k (xs.map f)=(xs.zipIdx k).map fun p=>D.tup [.int (p.2:Int),f p.1]
  | _,[]=>rfl
  | k,x :: xs=>by
    rw [List.map_cons]
    unfold Cv
    rw [Fb (k + 1) xs,List.zipIdx_cons,List.map_cons]
theorem JP {τ:Sl} {μ:Mh} {ra:Sl->M (List D)} {QL:List D->Mh->Prop} (h:WP (ra τ) μ fun as μ1=>∃ ds,as=[.tup ds] /\ QL (Cv 0 ds) μ1):WP (EW ra τ) μ QL:=by
  unfold EW
  refine AZ (AY h fun as μ1 ⟨ds,e,q⟩=>?_)
  subst e
  exact AZ (wp_of (a:=ds) (μ':=μ1) rfl (A7 q))
end Mi
namespace K12
open PySem L2 Mi Ht Nk Hs Wb
section
variable {μ:Mh} {QD:D->Mh->Prop}
theorem Nw:f_closed=K16.f_closed:=rfl
theorem Kz:∀ (k:Nat) (ts:List Int),((ts.zipIdx k).filter fun p=>p.1 == (-2:Int)).map (·.2)=rdF k ts
  | _,[]=>rfl
  | k,t :: ts=>by
    rw [List.zipIdx_cons]
    unfold rdF
    by_cases h:t = -2
    . rw [List.filter_cons_of_pos (by simp [h]),List.map_cons,if_pos h,Kz (k + 1) ts]
    . rw [List.filter_cons_of_neg (by simp [h]),if_neg h,Kz (k + 1) ts]
structure Cok (c:Cs):Prop where
  pos:Pos0 c
  len:c.2.2.length <= 3
theorem Cok.opn {c:Cs} (h:Cok c):(opn c).length <= 4:=by
  unfold Wb.opn
  rw [List.length_append,List.length_map]
  have:=F3 c.2.2 0
  have:=h.len
  unfold Fv
  split <;> simp <;> omega
theorem TV (c:Cs):(opn c).map thD=(if 0 <= c.2.1 then [D.str "w"] else []) ++ (Fv c).map fun (k:Nat)=>D.int (k:Int):=by
  unfold Wb.opn
  rw [List.map_append,List.map_map]
  congr 1
  split <;> rfl
theorem Rz {c:Cs} (h:Cok c):(fnd [c]).length <= 10000:=by
  unfold fnd
  rw [List.flatMap_cons,List.flatMap_nil,List.append_nil,List.length_map]
  have h1:=Es 6 (opn c) (by have:=h.opn; omega) (DK c)
  have h2:10 ^ (opn c).length <= 10 ^ 4:=Nat.pow_le_pow_right (by decide) h.opn
  omega
theorem KG:∀ {cs:List Cs},(∀ c ∈ cs,Cok c)->(fnd cs).length <= 10000 * cs.length
  | [],_=>by unfold fnd; simp
  | c :: cs,h=>by
    have e:fnd (c :: cs)=fnd [c] ++ fnd cs:=by unfold fnd; simp
    rw [e,List.length_append,List.length_cons]
    have h1:=Rz (h c List.mem_cons_self)
    have h2:=KG fun x hx=>h x (List.mem_cons_of_mem c hx)
    omega
structure Cl1 (cs K:List Cs):Prop where
  nd:K.Nodup
  mem:∀ x,x ∈ K ↔ x ∈ clo cs
  up:K.Pairwise fun x y=>cLt x y=true
theorem Cl1.eq {cs K K':List Cs} (a:Cl1 cs K) (b:Cl1 cs K'):K=K':=Lr a.up b.up ((List.perm_ext_iff_of_nodup a.nd b.nd).mpr fun x=>(a.mem x).trans (b.mem x).symm)
theorem M7 {cs U:List Cs} (nd:cs.Nodup) (hU:∀ x ∈ clo cs,x ∈ U) (hN:U.length < 64) (hw:∀ x ∈ clo cs,x.2.2.length <= 100) (q:∀ K,Cl1 cs K->QD (.tup (K.map csD)) μ):WP (f_closed [.lst (cs.map csD)]) μ QD:=by
  obtain ⟨K,k1,k2,k3,k4⟩:=K16.v_closedU nd hU hN hw
  rw [Nw]
  exact wp_of (k4 μ) (q K ⟨k1,k2,k3⟩)
theorem TB {cs U:List Cs} (hl:cs.length <= 64) (hc:∀ c ∈ cs,Cok c) (hU:∀ x ∈ clo cs,x ∈ U) (hN:U.length < 64) (q:∀ K,Cl1 cs K->QD (.tup (K.map csD)) μ):WP (FY [.lst (cs.map csD)]) μ QD:=by
  unfold FY
  refine BR rfl ?_
  unfold Gb
  wtm_at "own qwr"
  refine EO (I:=fun rest τ μ'=>∃ a b gs o2 o3,a ++ b=cs /\ rest=List.map csD b /\ μ'=μ ++ gs /\ τ=[some (.lst (cs.map csD)),some (.lst ((fnd a).map csD)),o2,o3]) ?_ ?_ ⟨[],cs,[],none,none,rfl,rfl,by simp,rfl⟩
  . rintro y ys τ μ' ⟨a,b,gs,o2,o3,hab,hr,rfl,rfl⟩
    cases b with
    | nil=>cases hr
    | cons c b=>
      rw [List.map_cons] at hr
      obtain ⟨e3,e4⟩:=List.cons.inj hr
      subst e3
      have hm:c ∈ cs:=by rw [← hab]; simp
      have ok:=hc c hm
      have hcl:=ok.len
      wtm_at "own qwr"
      refine Ci (d:=.int c.2.1) rfl ?_
      wtm_at "own qwr"
      refine wp_of (a:=.ref (μ ++ gs).length) (μ':=(μ ++ gs) ++ [.lst (if 0 <= c.2.1 then [D.str "w"] else [])]) ?_ ?_
      . show (if ([D.str "w"]:List D) ≠ [] /\ ([D.str "w"]:List D).length <= 1000 /\ 0 <= (if decide (0 <= c.2.1)=true then (1:Int) else 0) /\ (if decide (0 <= c.2.1)=true then (1:Int) else 0) <= 1000 then some (D.ref (μ ++ gs).length,(μ ++ gs) ++ [MO.lst (List.replicate (if decide (0 <= c.2.1)=true then (1:Int) else 0).toNat [D.str "w"]).flatten]) else none)=_
        by_cases h0:0 <= c.2.1
        . simp [h0]
        . simp [h0]
      wtm_at "own qwr"
      (with_reducible apply JP)
      wtm_at "own qwr"
      refine Ci (d:=.tup (c.2.2.map D.int)) rfl ?_
      wtm_at "own qwr"
      refine ⟨_,rfl,by rw [EE,List.length_map,sizeLine_eq]; omega,?_⟩
      rw [Fb]
      refine A8 _ (fun p=>p.1 == (-2:Int)) (fun p=>D.int (p.2:Int)) (fun p hp=>?_) ?_
      . (with_reducible apply GG)
        refine ⟨rfl,?_⟩
        wtm_at "own qwr"
        refine wp_of (a:=.int (-2)) (μ':=_) rfl ?_
        wtm_at "own qwr"
        refine ⟨rfl,rfl,fun _=>?_⟩
        wtm_at "own qwr"
        exact ⟨rfl,rfl⟩
      . have er:(((c.2.2.zipIdx 0).filter fun p=>p.1 == (-2:Int)).map fun p=>D.int (p.2:Int))=(Fv c).map fun (k:Nat)=>D.int (k:Int):=by
          unfold Fv
          rw [← Kz 0 c.2.2,List.map_map]
          rfl
        rw [er]
        have hrl:(Fv c).length <= 3:=by unfold Fv; have:=F3 c.2.2 0; omega
        refine BQ (by rw [List.length_map,sizeLine_eq]; omega) ?_
        refine wp_of (a:=.lst ((opn c).map thD)) (μ':=(μ ++ gs) ++ [.lst (if 0 <= c.2.1 then [D.str "w"] else [])]) ?_ ?_
        . unfold K3 QQ
          dsimp only
          rw [List.getElem?_append_right (Nat.le_refl _),Nat.sub_self]
          show Av ((if 0 <= c.2.1 then [D.str "w"] else []) ++ _) _=_
          rw [← TV]
          unfold Av
          rw [AM (EX (by rw [List.length_map,sizeLine_eq]; have:=ok.opn; omega) _)]
          rfl
        wtm_at "own qwr"
        refine HV 6 (opn c) (by have:=ok.opn; omega) ok.opn (DK c) ?_
        wtm_at "own qwr"
        have ol:=Es 6 (opn c) (by have:=ok.opn; omega) (DK c)
        have p4:10 ^ (opn c).length <= 10 ^ 4:=Nat.pow_le_pow_right (by decide) ok.opn
        refine ⟨by rw [List.length_map,sizeLine_eq]; omega,?_⟩
        refine A8 _ (fun _=>true) (fun o=>csD (o.foldl stp c)) (fun o ho=>?_) ?_
        . wtm_at "own qwr"
          refine ⟨rfl,?_⟩
          wtm_at "own qwr"
          refine ⟨rfl,rfl,fun _=>?_⟩
          wtm_at "own qwr"
          obtain ⟨l1,l2⟩:=Im 6 _ ho
          refine N8 (fun k hk=>?_) (by omega) (by have:=ok.opn; omega) ⟨rfl,rfl⟩
          rcases mem_opn.mp (l2 _ hk) with ⟨z,_⟩ | ⟨j,z,hj⟩
          . cases z
          . cases z; exact (List.getElem?_eq_some_iff.mp hj).1
        . rw [List.filter_eq_self.mpr fun _ _=>rfl]
          refine BQ (by rw [List.length_map,sizeLine_eq]; omega) ?_
          have fl:=KG (cs:=a) fun x hx=>hc x (by rw [← hab]; simp [hx])
          have al:a.length < cs.length:=by rw [← hab]; simp
          refine F1 (by rw [List.length_map,List.length_map]; omega) ?_
          wtm_at "own qwr"
          refine Cj ⟨a ++ [c],b,gs ++ [.lst (if 0 <= c.2.1 then [D.str "w"] else [])],some (csD c),some (.lst ((opn c).map thD)),by rw [← hab]; simp,e4,by rw [List.append_assoc],?_⟩
          have ef:(fnd a).map csD ++ (ord 6 (opn c)).map (fun o=>csD (o.foldl stp c))=(fnd (a ++ [c])).map csD:=by
            unfold fnd
            rw [List.flatMap_append,List.map_append,List.flatMap_cons,List.flatMap_nil,List.append_nil,List.map_map]
            rfl
          rw [ef]
          rfl
  . rintro τ μ' ⟨a,b,gs,o2,o3,hab,hr,rfl,rfl⟩
    cases b with
    | cons t b=>cases hr
    | nil=>
      rw [List.append_nil] at hab
      subst hab
      have hmem:∀ x,x ∈ fnd a ↔ x ∈ clo a:=fun x=>Rm fun c h=>⟨(hc c h).pos,by have:=(hc c h).opn; omega⟩
      have nl:(Az (fnd a)).length < 64:=by
        have:=Bw (CC (fnd a)).1 (ys:=U) fun x hx=>hU x ((hmem x).mp (((CC (fnd a)).2 x).mp hx))
        omega
      wtm_at "own qwr"
      refine wp_of (a:=.lst ((Dk (Az (fnd a))).map csD)) (μ':=μ ++ gs) ?_ ?_
      . unfold FK
        rw [AM (show BL (.lst ((fnd a).map csD)) (μ ++ gs)=some ((fnd a).map csD,μ ++ gs) from rfl),IJ]
        exact if_pos nl
      wtm_at "own qwr"
      exact ⟨_,_,gs,rfl,rfl,by unfold Cl; exact clL_mapcs _ _,q _ ⟨(Bc _).nodup_iff.mpr (CC _).1,fun x=>by rw [(Bc _).mem_iff,(CC _).2 x]; exact hmem x,F2 (CC _).1⟩⟩
where clL_mapcs (k:Nat):∀ cs:List Cs,ClL k (cs.map csD)
  | []=>by unfold List.map ClL; trivial
  | c :: cs=>by unfold List.map ClL; exact ⟨K16.cl_cs k c,clL_mapcs k cs⟩
end
end K12
set_option maxHeartbeats 1000000
namespace Wb
open Nk Hs
def tlU (ws:List Int):List Bool->List (List Int)
  | []=>[[]]
  | b :: is=>(if b then [(-1:Int)] else -2 :: ws).flatMap fun v=>(tlU ws is).map (v :: ·)
theorem mem_tlU {ws:List Int} {b:Bool} {is:List Bool} {t:List Int}:t ∈ tlU ws (b :: is) ↔ ∃ v r,t=v :: r /\ (if b then v = -1 else v = -2 ∨ v ∈ ws) /\ r ∈ tlU ws is:=by
  show t ∈ ((if b then [(-1:Int)] else -2 :: ws).flatMap fun v=>(tlU ws is).map (v :: ·)) ↔ _
  rw [List.mem_flatMap]
  constructor
  . rintro ⟨v,hv,h⟩
    obtain ⟨r,hr,rfl⟩:=List.mem_map.mp h
    refine ⟨v,r,rfl,?_,hr⟩
    cases b <;> simpa using hv
  . rintro ⟨v,r,rfl,hv,hr⟩
    refine ⟨v,?_,List.mem_map.mpr ⟨r,hr,rfl⟩⟩
    cases b <;> simpa using hv
theorem GI {ws:List Int}:∀ {is:List Bool} {t:List Int},t ∈ tlU ws is->t.length=is.length
  | [],t,h=>by
    have:t=[]:=by simpa [tlU] using h
    subst this
    rfl
  | b :: is,t,h=>by
    obtain ⟨v,r,rfl,_,hr⟩:=mem_tlU.mp h
    simp [GI hr]
theorem Kr {ws:List Int}:∀ {is:List Bool} {t:List Int} {r:Nat} {b:Bool},t ∈ tlU ws is->is[r]? = some b->∃ v,t[r]? = some v /\ (if b then v = -1 else v = -2 ∨ v ∈ ws)
  | [],_,_,_,_,e=>by simp at e
  | b0 :: is,t,r,b,h,e=>by
    obtain ⟨v,t',rfl,hv,ht⟩:=mem_tlU.mp h
    cases r with
    | zero=>simp at e; subst e; exact ⟨v,rfl,hv⟩
    | succ r=>simpa using Kr (r:=r) ht (by simpa using e)
theorem IU {ws:List Int}:∀ {is:List Bool} {t:List Int} {r:Nat} {b:Bool} {v:Int},t ∈ tlU ws is->(if b then v = -1 else v = -2 ∨ v ∈ ws)->t.set r v ∈ tlU ws (is.set r b)
  | [],t,r,b,v,h,_=>by
    have:t=[]:=by simpa [tlU] using h
    subst this
    exact h
  | b0 :: is,t,r,b,v,h,hv=>by
    obtain ⟨u,t',rfl,hu,ht⟩:=mem_tlU.mp h
    cases r with
    | zero=>exact mem_tlU.mpr ⟨v,t',rfl,hv,ht⟩
    | succ r=>exact mem_tlU.mpr ⟨u,t'.set r v,rfl,hu,IU ht hv⟩
theorem Lu (ws:List Int):∀ is:List Bool,(tlU ws is).length <= (1 + ws.length) ^ is.length
  | []=>by simp [tlU]
  | b :: is=>by
    have h:(tlU ws (b :: is)).length=(if b then [(-1:Int)] else -2 :: ws).length * (tlU ws is).length:=by
      show ((if b then [(-1:Int)] else -2 :: ws).flatMap fun v=>(tlU ws is).map (v :: ·)).length=_
      generalize (if b then [(-1:Int)] else -2 :: ws)=l
      induction l with
      | nil=>simp
      | cons x l ih=>rw [List.flatMap_cons,List.length_append,ih,List.length_map,List.length_cons,Nat.add_mul,Nat.one_mul,Nat.add_comm]
    rw [h,List.length_cons,Nat.pow_succ,Nat.mul_comm]
    refine Nat.mul_le_mul (Lu ws is) ?_
    cases b <;> simp <;> omega
def Uc (ws:List Int) (is:List Bool) (a:Int):Option Int->List Cs
  | none=>(tlU ws is).map fun t=>(a,-1,t)
  | some b=>(tlU ws is).map (fun t=>(a,b,t)) ++ (tlU ws is).map fun t=>(b,-2,t)
theorem mem_Uc {ws:List Int} {is:List Bool} {a:Int} {m:Option Int} {c:Cs}:c ∈ Uc ws is a m ↔ c.2.2 ∈ tlU ws is /\ (match m with | none=>c.1=a /\ c.2.1 = -1 | some b=>(c.1=a /\ c.2.1=b) ∨ (c.1=b /\ c.2.1 = -2)):=by
  cases m with
  | none=>
    show c ∈ (tlU ws is).map (fun t=>(a,-1,t)) ↔ _
    rw [List.mem_map]
    constructor
    . rintro ⟨t,ht,rfl⟩; exact ⟨ht,rfl,rfl⟩
    . rintro ⟨ht,h1,h2⟩; exact ⟨c.2.2,ht,by rw [← h1,← h2]⟩
  | some b=>
    show c ∈ (tlU ws is).map (fun t=>(a,b,t)) ++ (tlU ws is).map (fun t=>(b,-2,t)) ↔ _
    rw [List.mem_append,List.mem_map,List.mem_map]
    constructor
    . rintro (⟨t,ht,rfl⟩ | ⟨t,ht,rfl⟩)
      . exact ⟨ht,.inl ⟨rfl,rfl⟩⟩
      . exact ⟨ht,.inr ⟨rfl,rfl⟩⟩
    . rintro ⟨ht,⟨h1,h2⟩ | ⟨h1,h2⟩⟩
      . exact .inl ⟨c.2.2,ht,by rw [← h1,← h2]⟩
      . exact .inr ⟨c.2.2,ht,by rw [← h1,← h2]⟩
theorem Uj (ws:List Int) (is:List Bool) (a:Int) (m:Option Int):(Uc ws is a m).length <= 2 * (1 + ws.length) ^ is.length:=by
  have:=Lu ws is
  cases m with
  | none=>unfold Uc; rw [List.length_map]; omega
  | some b=>unfold Uc; rw [List.length_append,List.length_map,List.length_map]; omega
structure Shp (ws:List Int) (is:List Bool) (a:Int) (m:Option Int):Prop where
  pos:∀ w ∈ ws,0 <= w
  ha:a ∈ ws
  hm:∀ b,m=some b->b ∈ ws
  len:is.length <= 3
  few:2 * (1 + ws.length) ^ is.length < 64
section
variable {ws:List Int} {is:List Bool} {a:Int} {m:Option Int}
theorem Kg (S:Shp ws is a m) {c:Cs} (h:c ∈ Uc ws is a m):c.1 ∈ ws:=by
  obtain ⟨_,h⟩:=mem_Uc.mp h
  cases m with
  | none=>rw [h.1]; exact S.ha
  | some b=>
    rcases h with ⟨h,_⟩ | ⟨h,_⟩
    . rw [h]; exact S.ha
    . rw [h]; exact S.hm b rfl
theorem Ui (S:Shp ws is a m) {c x:Cs} (h:c ∈ Uc ws is a m) (hx:x ∈ nxt c):x ∈ Uc ws is a m:=by
  have hw:=Kg S h
  obtain ⟨ht,hc⟩:=mem_Uc.mp h
  rcases mem_nxt.mp hx with ⟨h0,rfl⟩ | ⟨i,hi,rfl⟩
  . refine mem_Uc.mpr ⟨ht,?_⟩
    cases m with
    | none=>exact absurd (by rw [hc.2] at h0; exact h0) (show ¬ (0:Int) <= -1 by decide)
    | some b=>
      rcases hc with ⟨_,h2⟩ | ⟨_,h2⟩
      . exact .inr ⟨h2,rfl⟩
      . exact absurd (by rw [h2] at h0; exact h0) (show ¬ (0:Int) <= -2 by decide)
  . refine mem_Uc.mpr ⟨?_,hc⟩
    show c.2.2.set i c.1 ∈ tlU ws is
    have hlt:i < c.2.2.length:=(List.getElem?_eq_some_iff.mp hi).1
    have hlt2:i < is.length:=by rw [← GI ht]; exact hlt
    have hb:is[i]? = some is[i]:=by simp [hlt2]
    obtain ⟨v,hv,hv2⟩:=Kr ht hb
    rw [hi] at hv
    cases hv
    have hf:is[i]=false:=by
      cases e:is[i] with
      | false=>rfl
      | true=>rw [e] at hv2; have h2:(-2:Int) = -1:=hv2; omega
    have:=IU (r:=i) (b:=is[i]) (v:=c.1) ht (by rw [hf]; exact .inr hw)
    have e:is.set i is[i]=is:=by simp
    rw [e] at this
    exact this
theorem Uh (S:Shp ws is a m) {c x:Cs} (r:Rch c x) (h:c ∈ Uc ws is a m):x ∈ Uc ws is a m:=by
  induction r with
  | refl=>exact h
  | step _ s ih=>exact Ui S ih s
theorem QR (S:Shp ws is a m) {cs:List Cs} (h:∀ c ∈ cs,c ∈ Uc ws is a m) {x:Cs} (hx:x ∈ clo cs):x ∈ Uc ws is a m:=by
  obtain ⟨c,hc,hr⟩:=mem_clo.mp hx
  exact Uh S (rch_iff.mp hr) (h c hc)
end
end Wb
namespace K12
open PySem L2 Mi Ht Nk Hs Wb
structure Fit (cs U:List Cs):Prop where
  nd:cs.Nodup
  ok:∀ c ∈ cs,Cok c
  sub:∀ x ∈ clo cs,x ∈ U
  few:U.length < 64
  len:∀ x ∈ U,x.2.2.length <= 3
theorem UW {ws:List Int} {is:List Bool} {a:Int} {m:Option Int} (S:Shp ws is a m) {cs:List Cs} (nd:cs.Nodup) (h:∀ c ∈ cs,c ∈ Uc ws is a m):Fit cs (Uc ws is a m) where
  nd:=nd
  ok:=fun c hc=>⟨S.pos _ (Kg S (h c hc)),by rw [GI (mem_Uc.mp (h c hc)).1]; exact S.len⟩
  sub:=fun x hx=>QR S h hx
  few:=Nat.lt_of_le_of_lt (Uj ws is a m) S.few
  len:=fun x hx=>by rw [GI (mem_Uc.mp hx).1]; exact S.len
section
variable {μ:Mh} {QD:D->Mh->Prop} {cs U:List Cs}
theorem Fit.many (F:Fit cs U):cs.length <= 64:=by
  have:=Bw F.nd fun x hx=>F.sub x (mem_clo.mpr ⟨x,hx,DH x⟩)
  have:=F.few
  omega
theorem DT (F:Fit cs U) (q:∀ K,Cl1 cs K->QD (.tup (K.map csD)) μ):WP (f_closed [.lst (cs.map csD)]) μ QD:=M7 F.nd F.sub F.few (fun x hx=>by have:=F.len x (F.sub x hx); omega) q
theorem F0 (F:Fit cs U) (q:∀ K,Cl1 cs K->QD (.tup (K.map csD)) μ):WP (FY [.lst (cs.map csD)]) μ QD:=TB F.many F.ok F.sub F.few q
end
end K12
namespace K41
open PySem L2 Mi
end K41
namespace K41
open PySem L2 Mi
end K41
set_option maxHeartbeats 1000000
namespace K41
open PySem L2 Mi Ht Nk Hs
section
variable {μ:Mh} {QD:D->Mh->Prop}
end
end K41
set_option maxHeartbeats 1000000
namespace K41
open PySem L2 Mi Ht Nk Hs
section
variable {μ:Mh} {QD:D->Mh->Prop}
end
end K41
set_option maxHeartbeats 1000000
namespace K41
open PySem L2 Mi Ht Nk Hs
section
variable {μ:Mh} {QD:D->Mh->Prop}
end
end K41
set_option maxHeartbeats 1000000
namespace K41
open PySem L2 Mi Ht Nk Hs
section
variable {μ:Mh} {QD:D->Mh->Prop} {n k:Nat}
end
end K41
set_option maxHeartbeats 1000000
namespace K41
open PySem L2 Mi Ht Nk Hs
section
variable {μ:Mh} {QD:D->Mh->Prop} {n k:Nat}
end
end K41
set_option maxHeartbeats 1000000
namespace K41
open PySem L2 Mi Ht Nk Hs
section
variable {μ:Mh} {QD:D->Mh->Prop} {n k:Nat}
end
end K41
set_option maxHeartbeats 1000000
namespace Mi
open PySem L2
theorem TC {bf:D->Sl->M Sl} {m1:Sl->M (Fl × Sl)} {QS:Fl × Sl->Mh->Prop} {m:Nat} {τ:Sl} {μ:Mh} (I:Nat->Sl->Mh->Prop) (step:∀ (j:Nat) τ μ,j < m->I j τ μ->WP (bf (.int (j:Int)) τ) μ fun τ1 μ1=>WP (m1 τ1) μ1 (MV (I (j + 1)) QS)) (last:∀ τ μ,I m τ μ->QS (.next,τ) μ) (h:I 0 τ μ):WP (Dj bf m1 ((List.range m).map fun (i:Nat)=>D.int (i:Int)) τ) μ QS:=by
  refine EO (I:=fun rest τ μ=>∃ j,j <= m /\ rest=(List.range' j (m - j)).map (fun (i:Nat)=>D.int (i:Int)) /\ I j τ μ) ?_ ?_ ⟨0,Nat.zero_le _,by rw [Nat.sub_zero,← List.range_eq_range'],h⟩
  . rintro x xs τ μ ⟨j,hj,hr,hI⟩
    have hlt:j < m:=by
      rcases Nat.lt_or_ge j m with z | z
      . exact z
      . rw [show m - j=0 by omega] at hr; cases hr
    rw [show m - j=(m - (j + 1)) + 1 by omega,List.range'_succ,List.map_cons] at hr
    obtain ⟨e3,e4⟩:=List.cons.inj hr
    subst e3
    refine AY (step j τ μ hlt hI) fun τ1 μ1 z=>AY z fun r μ2 z2=>?_
    obtain ⟨fl,τ2⟩:=r
    cases fl
    . exact ⟨j + 1,hlt,e4,z2⟩
    . exact z2
    . exact ⟨j + 1,hlt,e4,z2⟩
    . exact z2
  . rintro τ μ ⟨j,hj,hr,hI⟩
    have hj':j=m:=by
      have:=congrArg List.length hr
      simp at this
      omega
    subst hj'
    exact last τ μ hI
end Mi
namespace K41
open PySem L2 Mi Ht Nk Hs
section
variable {QD:D->Mh->Prop}
end
end K41
set_option maxHeartbeats 1000000
namespace K12
open PySem L2 Mi Ht Nk Hs Wb
structure St (ws:List Int) (is:List Bool) (a:Int) (m:Option Int) (cs:List Cs):Prop where
  S:Shp ws is a m
  nd:cs.Nodup
  sub:∀ c ∈ cs,c ∈ Uc ws is a m
section
variable {ws:List Int} {is:List Bool} {a b v:Int} {m:Option Int} {cs:List Cs} {r:Nat}
theorem St.fit (h:St ws is a m cs):Fit cs (Uc ws is a m):=UW h.S h.nd h.sub
theorem St.many (h:St ws is a m cs):cs.length <= 64:=h.fit.many
theorem St.tl (h:St ws is a m cs) {c:Cs} (hc:c ∈ cs):c.2.2 ∈ tlU ws is:=(mem_Uc.mp (h.sub c hc)).1
theorem St.len (h:St ws is a m cs) {c:Cs} (hc:c ∈ cs):c.2.2.length=is.length:=GI (h.tl hc)
theorem St.clo (h:St ws is a m cs) {K:List Cs} (k:Cl1 cs K):St ws is a m K:=⟨h.S,k.nd,fun c hc=>QR h.S h.sub ((k.mem c).mp hc)⟩
theorem St.part (h:St ws is a m cs) {p:List Cs} (s:p.Sublist cs):St ws is a m p:=⟨h.S,h.nd.sublist s,fun c hc=>h.sub c (s.subset hc)⟩
theorem St.wb (h:St ws is a none cs) (hv:v ∈ ws):St ws is a (some v) (cs.map (HB v)):=by
  refine ⟨⟨h.S.pos,h.S.ha,fun b e=>by cases e; exact hv,h.S.len,h.S.few⟩,Wb.nodup_map_on (fun x hx y hy z=>?_) h.nd,fun c hc=>?_⟩
  . have e1:=(mem_Uc.mp (h.sub x hx)).2.2
    have e2:=(mem_Uc.mp (h.sub y hy)).2.2
    obtain ⟨a1,a2,a3⟩:=x
    obtain ⟨b1,b2,b3⟩:=y
    simp only [HB,Prod.mk.injEq] at z e1 e2 ⊢
    exact ⟨z.1,e1.trans e2.symm,z.2.2⟩
  . obtain ⟨x,hx,rfl⟩:=List.mem_map.mp hc
    obtain ⟨h1,h2,_⟩:=mem_Uc.mp (h.sub x hx)
    exact mem_Uc.mpr ⟨h1,.inl ⟨h2,rfl⟩⟩
theorem Fc {c y:Cs} (h:FB c=some y):c.2.1 = -2 /\ y=(c.1,-1,c.2.2):=by
  unfold FB at h
  split at h
  . exact ⟨by assumption,(Option.some.inj h).symm⟩
  . cases h
theorem Fd {c y:Cs} (h:D2 r v c=some y):c.2.2[r]? = some v /\ y=(c.1,c.2.1,c.2.2.set r (-1)):=by
  unfold D2 at h
  split at h
  . exact ⟨by assumption,(Option.some.inj h).symm⟩
  . cases h
theorem St.we (h:St ws is a (some b) cs):St ws is b none (cs.filterMap FB):=by
  refine ⟨⟨h.S.pos,h.S.hm b rfl,(fun _ e=>nomatch e),h.S.len,h.S.few⟩,Wb.nodup_fm_on (fun x hx y hy z e1 e2=>?_) h.nd,fun c hc=>?_⟩
  . obtain ⟨q1,r1⟩:=Fc e1
    obtain ⟨q2,r2⟩:=Fc e2
    have z:=r1.symm.trans r2
    obtain ⟨a1,a2,a3⟩:=x
    obtain ⟨b1,b2,b3⟩:=y
    simp only [Prod.mk.injEq] at z q1 q2 ⊢
    exact ⟨z.1,q1.trans q2.symm,z.2.2⟩
  . obtain ⟨x,hx,e⟩:=List.mem_filterMap.mp hc
    obtain ⟨q1,rfl⟩:=Fc e
    obtain ⟨h1,h2⟩:=mem_Uc.mp (h.sub x hx)
    refine mem_Uc.mpr ⟨h1,?_,rfl⟩
    have hb:=h.S.pos b (h.S.hm b rfl)
    rcases h2 with ⟨_,z⟩ | ⟨z,_⟩
    . omega
    . exact z
theorem St.get (h:St ws is a m cs) {c:Cs} (hc:c ∈ cs) {o:Bool} (ho:is[r]? = some o):∃ v,c.2.2[r]? = some v /\ (if o then v = -1 else v = -2 ∨ v ∈ ws):=Kr (h.tl hc) ho
theorem St.rb (h:St ws is a m cs) (ho:is[r]? = some true):St ws (is.set r false) a m (cs.map (HC r)):=by
  refine ⟨⟨h.S.pos,h.S.ha,h.S.hm,by rw [List.length_set]; exact h.S.len,by rw [List.length_set]; exact h.S.few⟩,Wb.nodup_map_on (fun x hx y hy z=>?_) h.nd,fun c hc=>?_⟩
  . obtain ⟨v1,e1,f1⟩:=h.get hx ho
    obtain ⟨v2,e2,f2⟩:=h.get hy ho
    have f1:v1 = -1:=f1
    have f2:v2 = -1:=f2
    subst f1 f2
    obtain ⟨a1,a2,a3⟩:=x
    obtain ⟨b1,b2,b3⟩:=y
    simp only [HC,Prod.mk.injEq] at z e1 e2 ⊢
    exact ⟨z.1,z.2.1,IY (b:=0) e1 e2 z.2.2⟩
  . obtain ⟨x,hx,rfl⟩:=List.mem_map.mp hc
    obtain ⟨h1,h2⟩:=mem_Uc.mp (h.sub x hx)
    exact mem_Uc.mpr ⟨IU h1 (.inl rfl),h2⟩
theorem St.re (h:St ws is a m cs):St ws (is.set r true) a m (cs.filterMap (D2 r v)):=by
  refine ⟨⟨h.S.pos,h.S.ha,h.S.hm,by rw [List.length_set]; exact h.S.len,by rw [List.length_set]; exact h.S.few⟩,Wb.nodup_fm_on (fun x hx y hy z e1 e2=>?_) h.nd,fun c hc=>?_⟩
  . obtain ⟨q1,r1⟩:=Fd e1
    obtain ⟨q2,r2⟩:=Fd e2
    have z:=r1.symm.trans r2
    obtain ⟨a1,a2,a3⟩:=x
    obtain ⟨b1,b2,b3⟩:=y
    simp only [Prod.mk.injEq] at z q1 q2 ⊢
    exact ⟨z.1,z.2.1,IY (b:=0) q1 q2 z.2.2⟩
  . obtain ⟨x,hx,e⟩:=List.mem_filterMap.mp hc
    obtain ⟨q1,rfl⟩:=Fd e
    obtain ⟨h1,h2⟩:=mem_Uc.mp (h.sub x hx)
    exact mem_Uc.mpr ⟨IU (b:=true) h1 rfl,h2⟩
end
theorem Jy:PyData.strOk ("whole" : Str)=true:=by decide +kernel
theorem JL {μ:Mh} {QD:D->Mh->Prop} (q:QD (.bl true) μ):WP (As (.str "whole") (.str "whole")) μ QD:=S7 Jy Jy (by rw [beq_self_eq_true]; exact q)
abbrev mwD (sz bg:Int) (hs:List D):D:=.tup [.str "whole",.int sz,.int bg,.tup [],.tup hs]
abbrev clD (cs:List Cs):D:=.tup (cs.map csD)
theorem Se:f_case_begun=K16.f_case_begun:=rfl
theorem Ps:f_cases_ended=K16.f_cases_ended:=rfl
theorem Sd:JE=K16.f_with_thing:=rfl
theorem G7 (k:Nat) (cs:List Cs):Cl k (clD cs):=K16.cl_clW k cs
section
variable {μ:Mh} {QD:D->Mh->Prop} {sz bg v:Int} {hs:List D} {cs U:List Cs} {r:Nat}
theorem M0 (F:Fit (cs.map (HB v)) U) (q:∀ K,Cl1 (cs.map (HB v)) K->QD (clD K) μ):WP (B6 [mwD sz bg hs,clD cs,.int v]) μ QD:=by
  have hl:=F.many
  rw [List.length_map] at hl
  unfold B6
  refine BR rfl ?_
  unfold BX
  wtm_at "own qwr"
  refine JL ?_
  wtm_at "own qwr"
  refine ⟨by rw [List.length_map,sizeLine_eq]; omega,?_⟩
  refine A8 _ (fun _=>true) (fun c=>csD (HB v c)) (fun c hc=>?_) ?_
  . wtm_at "own qwr"
    refine ⟨rfl,?_⟩
    wtm_at "own qwr"
    refine ⟨rfl,rfl,fun _=>?_⟩
    wtm_at "own qwr"
    rw [Se]
    exact wp_of K16.v_cbW ⟨rfl,rfl⟩
  . rw [List.filter_eq_self.mpr fun _ _=>rfl]
    refine BQ (by rw [List.length_map,sizeLine_eq]; omega) ?_
    wtm_at "own qwr"
    rw [show (cs.map fun c=>csD (HB v c))=(cs.map (HB v)).map csD by rw [List.map_map]; rfl]
    refine DT F fun K k=>?_
    exact ⟨_,_,[],rfl,by simp,G7 _ _,q K k⟩
theorem Ki (hl:cs.length <= 64) (F:Fit (cs.filterMap FB) U) (q:∀ K,Cl1 (cs.filterMap FB) K->QD (clD K) μ):WP (Bo [mwD sz bg hs,clD cs]) μ QD:=by
  unfold Bo
  refine BR rfl ?_
  unfold BN
  wtm_at "own qwr"
  refine JL ?_
  wtm_at "own qwr"
  rw [Ps]
  refine wp_of (K16.v_csEnd (K:=cs) (h:=0) (v:=-1) (f:=FB) (by omega) fun c _ μ=>K16.v_ceW) ?_
  wtm_at "own qwr"
  refine DT F fun K k=>?_
  exact ⟨_,_,[],rfl,by simp,G7 _ _,q K k⟩
theorem N5 (hr:∀ c ∈ cs,r < c.2.2.length) (h3:∀ c ∈ cs,c.2.2.length <= 3) (F:Fit (cs.map (HC r)) U) (q:∀ K,Cl1 (cs.map (HC r)) K->QD (clD K) μ):WP (CM [mwD sz bg hs,clD cs,.int r]) μ QD:=by
  have hl:=F.many
  rw [List.length_map] at hl
  unfold CM
  refine BR rfl ?_
  unfold Bm
  wtm_at "own qwr"
  refine JL ?_
  wtm_at "own qwr"
  refine ⟨by rw [List.length_map,sizeLine_eq]; omega,?_⟩
  refine A8 _ (fun _=>true) (fun c=>csD (HC r c)) (fun c hc=>?_) ?_
  . wtm_at "own qwr"
    refine ⟨rfl,?_⟩
    wtm_at "own qwr"
    refine ⟨rfl,rfl,fun _=>?_⟩
    wtm_at "own qwr"
    rw [Se]
    exact wp_of (K16.v_cbR (hr c hc) (by have:=h3 c hc; omega)) ⟨rfl,rfl⟩
  . rw [List.filter_eq_self.mpr fun _ _=>rfl]
    refine BQ (by rw [List.length_map,sizeLine_eq]; omega) ?_
    wtm_at "own qwr"
    rw [show (cs.map fun c=>csD (HC r c))=(cs.map (HC r)).map csD by rw [List.map_map]; rfl]
    refine DT F fun K k=>?_
    exact ⟨_,_,[],rfl,by simp,G7 _ _,q K k⟩
def Eh (cs:List Cs) (r:Nat) (v:Int):List Cs:=cs.filterMap (D2 r v)
theorem Li (hl:cs.length <= 64) (hr:∀ c ∈ cs,r < c.2.2.length) (h3:∀ c ∈ cs,c.2.2.length <= 3) (F:Fit (Eh cs r v) U) (q0:Eh cs r v=[]->QD .non μ) (q:Eh cs r v ≠ []->∀ K,Cl1 (Eh cs r v) K->QD (clD K) μ):WP (B7 [mwD sz bg hs,clD cs,.int r,.int v]) μ QD:=by
  unfold B7
  refine BR rfl ?_
  unfold B3
  wtm_at "own qwr"
  refine JL ?_
  wtm_at "own qwr"
  rw [Ps]
  refine wp_of (K16.v_csEnd (K:=cs) (h:=(r:Int) + 1) (v:=v) (f:=D2 r v) (by omega) fun c hc μ=>K16.v_ceR (hr c hc) (by have:=h3 c hc; omega)) ?_
  wtm_at "own qwr"
  (with_reducible apply Sy)
  refine wp_of (a:=!(Eh cs r v).isEmpty) (μ':=μ) ?_ ⟨fun h=>?_,fun h=>?_⟩
  . unfold Eh Fm
    rw [AM (CO (d:=.lst ((cs.filterMap (D2 r v)).map csD)) rfl)]
    rw [AM (show BL (.lst ((cs.filterMap (D2 r v)).map csD)) μ=some _ from rfl)]
    cases cs.filterMap (D2 r v) <;> rfl
  . wtm_at "own qwr"
    refine DT F fun K k=>?_
    exact ⟨_,_,[],rfl,by simp,G7 _ _,q (by intro z; rw [z] at h; simp at h) K k⟩
  . wtm_at "own qwr"
    exact ⟨_,_,[],rfl,by simp,by unfold Cl; trivial,q0 (by simpa using h)⟩
end
end K12
set_option maxHeartbeats 1000000
namespace K12
open PySem L2 Mi Ht Nk Hs Wb
theorem SB {p K:List Cs} (k:Cl1 p K) {x:Cs} (h:x ∈ clo K):x ∈ K:=by
  obtain ⟨c,hc,hr⟩:=mem_clo.mp h
  obtain ⟨d,hd,hr2⟩:=mem_clo.mp ((k.mem c).mp hc)
  exact (k.mem x).mpr (mem_clo.mpr ⟨d,hd,rch_iff.mpr ((rch_iff.mp hr2).trans (rch_iff.mp hr))⟩)
def Whl (cs:List Cs):Prop:=(∀ x ∈ clo cs,x ∈ cs) /\ cs ≠ []
theorem IR {p K:List Cs} (k:Cl1 p K) (h:p ≠ []):Whl K:=by
  refine ⟨fun x hx=>SB k hx,fun z=>?_⟩
  cases p with
  | nil=>exact h rfl
  | cons c p=>
    have:=(k.mem c).mpr (mem_clo.mpr ⟨c,List.mem_cons_self,DH c⟩)
    rw [z] at this
    cases this
theorem Ca {ds:List D} {r:Nat} {x:D} (h:ds[r]? = some x):atI ds (r:Int)=some x:=by
  have hr:=(List.getElem?_eq_some_iff.mp h).1
  unfold atI ixN
  rw [if_pos (by omega),if_pos (by omega)]
  exact h
theorem SZ {cs:List Cs} {c:Cs} (h:cs.head? = some c):atI (cs.map csD) 0=some (csD c):=by
  cases cs with
  | nil=>cases h
  | cons d cs=>cases h; exact K12.Ca (r:=0) rfl
theorem Gr {cs:List Cs} {c:Cs} (h:cs.head? = some c):c ∈ cs:=List.mem_of_head? h
theorem JD {f:Cs->Option Cs} {p:Cs->Bool} {G:Cs->Cs}:∀ {cs:List Cs},(∀ c ∈ cs,f c=if p c then some (G c) else none)->(cs.filter p).map (fun c=>csD (G c))=(cs.filterMap f).map csD
  | [],_=>rfl
  | c :: cs,h=>by
    have ih:=JD (cs:=cs) fun x hx=>h x (List.mem_cons_of_mem _ hx)
    have hc:=h c List.mem_cons_self
    by_cases z:p c=true
    . rw [if_pos z] at hc
      rw [List.filter_cons_of_pos z,List.map_cons,ih,List.filterMap_cons,hc]
      rfl
    . rw [if_neg z] at hc
      rw [List.filter_cons_of_neg z,ih,List.filterMap_cons,hc]
def Eg (sz bg:Int) (n:Nat):List Int:=[bg,sz - 1,(3 * bg + 1) % sz].take (if 3 < n then 2 else 3)
theorem Uq (sz bg x:Int) (n:Nat):∃ w ∈ Eg sz bg n,atI [D.int bg,D.int (sz - 1),D.int ((3 * bg + 1) % sz)] (x % (3 - if decide ((3:Int) < (n:Int))=true then (1:Int) else 0))=some (.int w):=by
  by_cases h:3 < n
  . have e:decide ((3:Int) < (n:Int))=true:=decide_eq_true (by omega)
    have e2:Eg sz bg n=[bg,sz - 1]:=by unfold Eg; rw [if_pos h]; rfl
    rw [e,e2,if_pos rfl]
    have h1:x % (3 - 1)=0 ∨ x % (3 - 1)=1:=by omega
    rcases h1 with z | z <;> rw [z]
    . exact ⟨bg,by simp,rfl⟩
    . exact ⟨sz - 1,by simp,rfl⟩
  . have e:decide ((3:Int) < (n:Int))=false:=decide_eq_false (by omega)
    have e2:Eg sz bg n=[bg,sz - 1,(3 * bg + 1) % sz]:=by unfold Eg; rw [if_neg h]; rfl
    rw [e,e2,if_neg Bool.false_ne_true]
    have h1:x % (3 - 0)=0 ∨ x % (3 - 0)=1 ∨ x % (3 - 0)=2:=by omega
    rcases h1 with z | z | z <;> rw [z]
    . exact ⟨bg,by simp,rfl⟩
    . exact ⟨sz - 1,by simp,rfl⟩
    . exact ⟨(3 * bg + 1) % sz,by simp,rfl⟩
theorem IP {τ:Sl} {μ:Mh} {QT:Sl->Mh->Prop} {i j k:Nat} {c:Cs} (q:QT (((τ.set i (some (.int c.1))).set j (some (.int c.2.1))).set k (some (.tup (c.2.2.map D.int)))) μ):WP (Cz [i,j,k] (csD c) τ) μ QT:=OD q
theorem Ec (k:Nat) (K:List Cs):Cl k (.tup [clD K,clD K]):=by
  unfold Cl ClL
  refine ⟨G7 k K,?_⟩
  unfold ClL
  exact ⟨G7 k K,by unfold ClL; trivial⟩
section
variable {μ:Mh} {QD:D->Mh->Prop} {sz bg v x:Int} {hs:List D} {cs U:List Cs} {r:Nat} {ws:List Int} {is:List Bool} {a:Int} {m:Option Int}
theorem Sj (st:St ws is a m cs) {c:Cs} (hc:c ∈ cs):(c.2.1 == (-1:Int))=m.isNone:=by
  have h:=(mem_Uc.mp (st.sub c hc)).2
  cases m with
  | none=>rw [h.2]; rfl
  | some b=>
    have hb:=st.S.pos b (st.S.hm b rfl)
    refine beq_eq_false_iff_ne.mpr ?_
    rcases h with ⟨_,h⟩ | ⟨_,h⟩ <;> rw [h] <;> omega
theorem JN (st:St ws is a m cs) {c0:Cs} (h0:cs.head? = some c0) (ew:ws=Eg sz bg hs.length) (hsz:0 < sz) (q:∀ K a' m',St ws is a' m' K->(Whl cs->Whl K)->QD (.tup [clD K,clD K]) μ):WP (Cu [mwD sz bg hs,clD cs,clD cs,.int x]) μ QD:=by
  have hl:=st.many
  have hm:=Sj st (Gr h0)
  unfold Cu
  refine BR rfl ?_
  unfold Cr
  wtm_at "own qwr"
  refine Ci (SZ h0) ?_
  wtm_at "own qwr"
  refine Ci (d:=.int c0.2.1) rfl ?_
  wtm_at "own qwr"
  refine wp_of (a:=.int (-1)) (μ':=_) rfl ?_
  wtm_at "own qwr"
  rw [hm]
  cases m with
  | none=>
    refine DU ?_
    wtm_at "own qwr"
    refine N7 (by omega) ?_
    wtm_at "own qwr"
    obtain ⟨w,hw,e⟩:=Uq sz bg x hs.length
    refine OA e ?_
    wtm_at "own qwr"
    refine ⟨by rw [List.length_map,sizeLine_eq]; omega,?_⟩
    rw [← ew] at hw
    have st2:=st.wb hw
    refine A8 _ (fun _=>true) (fun c=>csD (HB w c)) (fun c hc=>?_) ?_
    . refine IP ?_
      refine ⟨rfl,?_⟩
      wtm_at "own qwr"
      refine ⟨rfl,rfl,fun _=>?_⟩
      wtm_at "own qwr"
      exact ⟨rfl,rfl⟩
    . rw [List.filter_eq_self.mpr fun _ _=>rfl]
      refine BQ (by rw [List.length_map,sizeLine_eq]; omega) ?_
      wtm_at "own qwr"
      refine M0 st2.fit fun K k=>?_
      wtm_at "own qwr"
      rw [show (cs.map fun c=>csD (HB w c))=(cs.map (HB w)).map csD by rw [List.map_map]; rfl]
      refine F0 st2.fit fun K' k'=>?_
      have:=k.eq k'
      subst this
      wtm_at "own qwr"
      refine ⟨_,_,[],rfl,by simp,Ec _ _,q K a (some w) (st2.clo k) fun w=>IR k fun z=>?_⟩
      have z:=List.map_eq_nil_iff.mp z
      exact w.2 z
  | some b=>
    refine CI ?_
    wtm_at "own qwr"
    refine ⟨by rw [List.length_map,sizeLine_eq]; omega,?_⟩
    have st2:=st.we
    refine A8 _ (fun c=>c.2.1 == (-2:Int)) (fun c=>csD (c.1,-1,c.2.2)) (fun c hc=>?_) ?_
    . refine IP ?_
      refine ⟨rfl,?_⟩
      wtm_at "own qwr"
      refine wp_of (a:=.int (-2)) (μ':=_) rfl ?_
      wtm_at "own qwr"
      refine ⟨rfl,rfl,fun _=>?_⟩
      wtm_at "own qwr"
      refine wp_of (a:=.int (-1)) (μ':=_) rfl ?_
      wtm_at "own qwr"
      exact ⟨rfl,rfl⟩
    . rw [JD (f:=FB) fun c _=>by unfold FB; by_cases z:c.2.1 = -2 <;> simp [z]]
      have fl:=List.length_filterMap_le FB cs
      refine BQ (by rw [List.length_map,sizeLine_eq]; omega) ?_
      wtm_at "own qwr"
      refine Ki hl st2.fit fun K k=>?_
      wtm_at "own qwr"
      refine F0 st2.fit fun K' k'=>?_
      have:=k.eq k'
      subst this
      wtm_at "own qwr"
      refine ⟨_,_,[],rfl,by simp,Ec _ _,q K b none (st2.clo k) fun w=>IR k fun z=>?_⟩
      have hb:=st.S.pos b (st.S.hm b rfl)
      have hc0:=mem_Uc.mp (st.sub c0 (Gr h0))
      have key:∀ t ∈ cs,t.2.1 = -2->False:=fun t ht e=>by
        have:(t.1,-1,t.2.2) ∈ cs.filterMap FB:=List.mem_filterMap.mpr ⟨t,ht,by unfold FB; rw [if_pos e]⟩
        rw [z] at this
        cases this
      rcases hc0.2 with ⟨_,e⟩ | ⟨_,e⟩
      . have hx:(c0.2.1,-2,c0.2.2) ∈ cs:=w.1 _ (mem_clo.mpr ⟨c0,Gr h0,Ie (DH c0) (mem_nxt.mpr (.inl ⟨by rw [e]; exact hb,rfl⟩))⟩)
        exact key _ hx rfl
      . exact key _ (Gr h0) e
end
end K12
set_option maxHeartbeats 1000000
namespace K12
open PySem L2 Mi Ht Nk Hs Wb
theorem R7 {μ:Mh} {n:Nat} {ds:List D} {neg:Bool} {b:D} (h:μ[n]? = some (.lst ds)):Ep neg (.ref n) b μ=Ep neg (.lst ds) b μ:=by
  have:HK μ (.ref n)=HK μ (.lst ds):=by
    unfold HK
    dsimp only
    rw [h]
    unfold toP
    rfl
  unfold Ep
  rw [this]
theorem JO {μ:Mh} {QD:D->Mh->Prop} {ds:List D} (hp:PzL ds) (hd:CW ds <= 60) (q:QD (.bl ds.isEmpty) μ):WP (As (.lst ds) (.lst [])) μ QD:=by
  refine FH (by unfold Pz; exact hp) (by unfold Pz PzL; trivial) (by unfold dpt; omega) (by unfold dpt CW; omega) fun e he=>?_
  have:e=ds.isEmpty:=by
    rw [Bool.eq_iff_iff,he,List.isEmpty_iff]
    exact ⟨fun z=>by cases z; rfl,fun z=>by rw [z]⟩
  rw [this]
  exact q
theorem N6 {μ:Mh} {QD:D->Mh->Prop} {ds:List D} (hp:PzL ds) (hd:CW ds <= 60) (q:QD (.bl (!ds.isEmpty)) μ):WP (Fx (.lst ds) (.lst [])) μ QD:=by
  refine IN (by unfold Pz; exact hp) (by unfold Pz PzL; trivial) (by unfold dpt; omega) (by unfold dpt CW; omega) fun e he=>?_
  have:e=ds.isEmpty:=by
    rw [Bool.eq_iff_iff,he,List.isEmpty_iff]
    exact ⟨fun z=>by cases z; rfl,fun z=>by rw [z]⟩
  rw [this]
  exact q
theorem M6 {μ:Mh} {QD:D->Mh->Prop} {ds:List D} {n:Nat} (h:μ[n]? = some (.lst ds)) (hp:PzL ds) (hd:CW ds <= 60) (q:QD (.bl ds.isEmpty) μ):WP (As (.ref n) (.lst [])) μ QD:=by
  obtain ⟨a,μ',e,z⟩:=JO (μ:=μ) (QD:=QD) hp hd q
  exact ⟨a,μ',(R7 h).trans e,z⟩
theorem Qg {μ:Mh} {QD:D->Mh->Prop} {ds:List D} {n:Nat} (h:μ[n]? = some (.lst ds)) (q:QD (.int ds.length) μ):WP (Dm [.ref n]) μ QD:=by
  refine wp_of (a:=.int ds.length) (μ':=μ) ?_ q
  unfold Dm
  dsimp only
  rw [h]
theorem Rq {vs:List Int} (h:vs ≠ []) (i:Int):∃ w ∈ vs,atI (vs.map D.int) (i % (vs.length:Int))=some (.int w):=by
  have hl:0 < vs.length:=List.length_pos_iff.mpr h
  have h1:=Int.emod_nonneg i (show (vs.length:Int) ≠ 0 by omega)
  have h2:=Int.emod_lt_of_pos i (show (0:Int) < vs.length by omega)
  obtain ⟨k,hk⟩:=Int.eq_ofNat_of_zero_le h1
  have hlt:k < vs.length:=by omega
  refine ⟨vs[k],List.getElem_mem hlt,?_⟩
  rw [hk]
  exact Ca (by simp [hlt])
section
variable {μ:Mh} {QD:D->Mh->Prop} {sz bg v x:Int} {hs:List D} {cs U:List Cs} {r:Nat} {ws:List Int} {is:List Bool} {a:Int} {m:Option Int}
theorem N4 (hl:cs.length <= 64) (hr:∀ c ∈ cs,r < c.2.2.length) (h3:∀ c ∈ cs,c.2.2.length <= 3) (F:Fit (Eh cs r v) U) (q:∀ d,isN d=(Eh cs r v).isEmpty->QD d μ):WP (B7 [mwD sz bg hs,clD cs,.int r,.int v]) μ QD:=
  Li hl hr h3 F (fun e=>q _ (by rw [e]; rfl)) fun e K _=>q _ (by cases z:Eh cs r v with | nil=>exact absurd z e | cons y l=>rfl)
theorem P5:(cs.filter fun c=>c.2.2[r]? == some v).isEmpty=(Eh cs r v).isEmpty:=by
  have:=congrArg List.length (JD (cs:=cs) (f:=D2 r v) (p:=fun c=>c.2.2[r]? == some v) (G:=fun c=>(c.1,c.2.1,c.2.2.set r (-1))) fun c _=>by unfold D2; by_cases z:c.2.2[r]? = some v <;> simp [z])
  rw [List.length_map,List.length_map] at this
  rw [Bool.eq_iff_iff,List.isEmpty_iff_length_eq_zero,List.isEmpty_iff_length_eq_zero]
  show _ ↔ (cs.filterMap (D2 r v)).length=0
  omega
theorem OR:(cs.filter fun c=>c.2.2[r]? == some v).map (fun c=>csD (c.1,c.2.1,c.2.2.set r (-1)))=(Eh cs r v).map csD:=JD (f:=D2 r v) (p:=fun c=>c.2.2[r]? == some v) (G:=fun c=>(c.1,c.2.1,c.2.2.set r (-1))) fun c _=>by unfold D2; by_cases z:c.2.2[r]? = some v <;> simp [z]
theorem M4 (st:St ws is a m cs) {c0:Cs} (h0:cs.head? = some c0) {o:Bool} (ho:is[r]? = some o) {N:Nat} (hz:sz=N) (hN:N <= 100) (q:∀ K is',St ws is' a m K->is'.length=is.length->(Whl cs->Whl K)->QD (.tup [clD K,clD K]) μ):WP (F9 [mwD sz bg hs,clD cs,clD cs,.int r,.int x]) μ QD:=by
  have hl:=st.many
  have hrl:r < is.length:=(List.getElem?_eq_some_iff.mp ho).1
  have hr:∀ c ∈ cs,r < c.2.2.length:=fun c hc=>by rw [st.len hc]; exact hrl
  have h3:∀ c ∈ cs,c.2.2.length <= 3:=fun c hc=>by rw [st.len hc]; exact st.S.len
  obtain ⟨v0,e0,f0⟩:=st.get (Gr h0) ho
  unfold F9
  refine BR rfl ?_
  unfold Ew
  wtm_at "own qwr"
  refine Ci (SZ h0) ?_
  wtm_at "own qwr"
  refine Ci (d:=.tup (c0.2.2.map D.int)) rfl ?_
  wtm_at "own qwr"
  refine Ci (d:=.int v0) (Ca (by rw [List.getElem?_map,e0]; rfl)) ?_
  wtm_at "own qwr"
  refine wp_of (a:=.int (-1)) (μ':=_) rfl ?_
  wtm_at "own qwr"
  cases o with
  | true=>
    have f0:v0 = -1:=f0
    subst f0
    refine DU ?_
    wtm_at "own qwr"
    refine ⟨by rw [List.length_map,sizeLine_eq]; omega,?_⟩
    have st2:=st.rb ho
    refine A8 _ (fun _=>true) (fun c=>csD (HC r c)) (fun c hc=>?_) ?_
    . refine IP ?_
      refine ⟨rfl,?_⟩
      wtm_at "own qwr"
      refine ⟨rfl,rfl,fun _=>?_⟩
      wtm_at "own qwr"
      refine wp_of (a:=.int (-2)) (μ':=_) rfl ?_
      wtm_at "own qwr"
      rw [Sd]
      refine wp_of (K16.with_ts (hr c hc) (by have:=h3 c hc; omega)) ?_
      wtm_at "own qwr"
      exact ⟨rfl,rfl⟩
    . rw [List.filter_eq_self.mpr fun _ _=>rfl]
      refine BQ (by rw [List.length_map,sizeLine_eq]; omega) ?_
      wtm_at "own qwr"
      refine N5 hr h3 st2.fit fun K k=>?_
      wtm_at "own qwr"
      rw [show (cs.map fun c=>csD (HC r c))=(cs.map (HC r)).map csD by rw [List.map_map]; rfl]
      refine F0 st2.fit fun K' k'=>?_
      have:=k.eq k'
      subst this
      wtm_at "own qwr"
      refine ⟨_,_,[],rfl,by simp,Ec _ _,q K _ (st2.clo k) (by rw [List.length_set]) fun w=>IR k fun z=>?_⟩
      exact w.2 (List.map_eq_nil_iff.mp z)
  | false=>
    have f0:v0 = -2 ∨ v0 ∈ ws:=f0
    have f1:(v0 == (-1:Int))=false:=by
      refine beq_eq_false_iff_ne.mpr ?_
      rcases f0 with z | z
      . omega
      . have:=st.S.pos _ z; omega
    rw [f1]
    refine CI ?_
    wtm_at "own qwr"
    refine Qp hz (by omega) ?_
    refine TC (I:=fun j τ μ'=>∃ (vs:List Int) (o5 o7:Option D),vs.length <= j /\ (∀ w ∈ vs,Eh cs r w ≠ []) /\ μ'=μ ++ [.lst (vs.map D.int)] /\ τ=[some (mwD sz bg hs),some (clD cs),some (clD cs),some (.int r),some (.int x),o5,some (.ref μ.length),o7]) ?_ ?_ ⟨[],none,none,Nat.le_refl _,(fun w hw=>nomatch hw),rfl,rfl⟩
    . rintro j τ μ' hj ⟨vs,o5,o7,vl,vok,rfl,rfl⟩
      wtm_at "own qwr"
      refine ⟨by rw [List.length_map,sizeLine_eq]; omega,?_⟩
      refine A8 _ (fun c=>c.2.2[r]? == some (j:Int)) csD (fun c hc=>?_) ?_
      . wtm_at "own qwr"
        refine ⟨rfl,?_⟩
        wtm_at "own qwr"
        refine Ci (d:=.tup (c.2.2.map D.int)) rfl ?_
        wtm_at "own qwr"
        refine Ci (d:=.int (c.2.2[r]'(hr c hc))) (Ca (by simp [hr c hc])) ?_
        wtm_at "own qwr"
        refine ⟨?_,rfl,fun _=>?_⟩
        . rw [List.getElem?_eq_getElem (hr c hc)]; rfl
        . wtm_at "own qwr"
          exact ⟨rfl,rfl⟩
      . have fl:=List.length_filter_le (fun c:Cs=>c.2.2[r]? == some (j:Int)) cs
        refine BQ (by rw [List.length_map,sizeLine_eq]; omega) ?_
        have st2:=st.re (r:=r) (v:=(j:Int))
        have ct:=P5 (cs:=cs) (r:=r) (v:=(j:Int))
        generalize (cs.filter fun c:Cs=>c.2.2[r]? == some (j:Int))=cut at fl ct ⊢
        have pc:PzL (cut.map csD):=FM fun c _=>Jr c
        have dc:CW (cut.map csD) <= 60:=Nat.le_trans (EF (k:=2) fun c _=>G3 c) (by decide)
        have ec:(cut.map csD).isEmpty=(Eh cs r (j:Int)).isEmpty:=by rw [← ct]; cases cut <;> rfl
        wtm_at "own qwr"
        refine N4 hl hr h3 st2.fit fun d hd=>?_
        wtm_at "own qwr"
        refine JO pc dc ?_
        wtm_at "own qwr"
        rw [ec,hd,beq_self_eq_true]
        refine CI ?_
        wtm_at "own qwr"
        refine N6 pc dc ?_
        wtm_at "own qwr"
        rw [ec]
        cases et:Eh cs r (j:Int) with
        | nil=>
          refine CI ?_
          wtm_at "own qwr"
          exact Cj ⟨vs,_,_,Nat.le_succ_of_le vl,vok,rfl,rfl⟩
        | cons y l=>
          refine DU ?_
          wtm_at "own qwr"
          refine Qo (gs:=μ) rfl (by rw [List.length_map,sizeLine_eq]; omega) ?_
          wtm_at "own qwr"
          refine ⟨μ,.int (j:Int),rfl,rfl,rfl,Cj ⟨vs ++ [(j:Int)],some (.lst (cut.map csD)),some (.int (j:Int)),by simp; omega,fun w hw=>?_,by simp,rfl⟩⟩
          rcases List.mem_append.mp hw with hw | hw
          . exact vok w hw
          . cases List.mem_singleton.mp hw
            rw [et]
            exact List.cons_ne_nil _ _
    . rintro τ μ' ⟨vs,o5,o7,vl,vok,rfl,rfl⟩
      have hb:(μ ++ [MO.lst (vs.map D.int)])[μ.length]? = some (.lst (vs.map D.int)):=by rw [List.getElem?_append_right (Nat.le_refl _)]; simp
      wtm_at "own qwr"
      refine M6 hb (Ik vs) (by rw [G1]; decide) ?_
      wtm_at "own qwr"
      cases vs with
      | nil=>
        refine DU ?_
        wtm_at "own qwr"
        exact ⟨_,_,_,rfl,rfl,Ec _ _,q cs is st rfl id⟩
      | cons v1 vs=>
        refine CI ?_
        wtm_at "own qwr"
        refine Qg hb ?_
        rw [List.length_map]
        refine N9 (by simp) ?_
        obtain ⟨w,hw,ew⟩:=Rq (List.cons_ne_nil v1 vs) x
        refine wp_of (Ma hb ew) ?_
        wtm_at "own qwr"
        refine ⟨by rw [List.length_map,sizeLine_eq]; omega,?_⟩
        have st2:=st.re (r:=r) (v:=w)
        refine A8 _ (fun c=>c.2.2[r]? == some w) (fun c=>csD (c.1,c.2.1,c.2.2.set r (-1))) (fun c hc=>?_) ?_
        . refine IP ?_
          refine ⟨rfl,?_⟩
          wtm_at "own qwr"
          refine Ci (d:=.int (c.2.2[r]'(hr c hc))) (Ca (by simp [hr c hc])) ?_
          wtm_at "own qwr"
          refine ⟨?_,rfl,fun _=>?_⟩
          . rw [List.getElem?_eq_getElem (hr c hc)]; rfl
          . wtm_at "own qwr"
            refine wp_of (a:=.int (-1)) (μ':=_) rfl ?_
            wtm_at "own qwr"
            rw [Sd]
            refine wp_of (K16.with_ts (hr c hc) (by have:=h3 c hc; omega)) ?_
            wtm_at "own qwr"
            exact ⟨rfl,rfl⟩
        . rw [OR]
          have fl:=List.length_filterMap_le (D2 r w) cs
          refine BQ (by rw [List.length_map,sizeLine_eq]; exact Nat.le_trans fl (by omega)) ?_
          wtm_at "own qwr"
          have hne:=vok w hw
          refine Li hl hr h3 st2.fit (fun z=>absurd z hne) fun _ K k=>?_
          wtm_at "own qwr"
          refine F0 st2.fit fun K' k'=>?_
          have:=k.eq k'
          subst this
          wtm_at "own qwr"
          exact ⟨_,_,_,rfl,rfl,Ec _ _,q K _ (st2.clo k) (by rw [List.length_set]) fun _=>IR k hne⟩
end
end K12
set_option maxHeartbeats 4000000
namespace K13
open PySem L2 Mi Ht
section
variable {μ μ1 μ2 μ3 μ4 μ':Mh} {τ τ1:Sl} {x0 d:D} {ds es:List D} {n:Nat}
variable {sf:Bool} {sz bg:Int} {ns:List Str}
end
end K13
set_option maxHeartbeats 4000000
namespace K13
open PySem L2 Mi Ht
section
variable {μ μ1 μ2 μ3 μ4 μ':Mh} {τ τ1:Sl} {x0 d:D} {ds:List D} {n:Nat}
variable {sf:Bool} {sz bg:Int} {ns:List Str}
theorem TH {cs:List Int} (h:cs.length <= 63):∃ c:Int,CG [.scr cs,.int 0] μ=some (.int c,μ):=by
  have tl:∀ S:Sl,S=[some (.scr cs),some (.int 0)]->AS (mOp Jt (AB 1) (AH Dm (AD (AB 0) AK))) S μ=some (decide ((0:Int) < cs.length),μ):=fun S hS=>by
    subst hS
    refine BH (po (x:=.int 0) (y:=.int cs.length) rfl (pd (ds:=[.scr cs]) rfl ?_) rfl)
    show some (D.int (((cs.map D.int).length:Nat):Int),μ)=_
    rw [List.length_map]
  cases cs with
  | nil=>
    refine ⟨0,Ax (g:=[]) (τ2:=[some (.scr []),some (.int 0)]) ?_ rfl (Bu _ _)⟩
    rw [List.append_nil]
    exact pq (piF (tl _ rfl) rfl) (pr rfl)
  | cons c cs=>
    refine ⟨c,Ax (g:=[]) (τ2:=[some (.scr (c :: cs)),some (.int 0)]) ?_ rfl (Bu _ _)⟩
    rw [List.append_nil]
    refine GA (piT ((tl _ rfl).trans ?_) (pr (po (x:=.scr (c :: cs)) (y:=.int 0) rfl rfl ?_)))
    . rw [decide_eq_true (by simp)]
    . show bnd (BL (.scr (c :: cs))) (fun ds=>ixD ds 0) μ=_
      rw [AM (show BL (.scr (c :: cs)) μ=some ((c :: cs).map D.int,μ) from rfl)]
      unfold ixD
      rw [show atI ((c :: cs).map D.int) 0=some (.int c) from Ca (r:=0) rfl]
      rfl
end
end K13
set_option maxHeartbeats 1000000
namespace Mi
theorem Qq {m:M Bool} {QB:Bool->Mh->Prop} {μ:Mh} (h:QB true μ):orK m QB true μ:=h
theorem Ln {m:M Bool} {QB:Bool->Mh->Prop} {μ:Mh} (h:WP m μ QB):orK m QB false μ:=h
theorem OI {m:M Bool} {QB:Bool->Mh->Prop} {μ:Mh} (h:WP m μ QB):Uf m QB true μ:=h
theorem OJ {m:M Bool} {QB:Bool->Mh->Prop} {μ:Mh} (h:QB false μ):Uf m QB false μ:=h
end Mi
namespace K12
open PySem L2 Mi Ht Nk Hs Wb
section
variable {μ:Mh} {QD:D->Mh->Prop} {sz bg v x:Int} {hs:List D} {cs U:List Cs} {r:Nat} {ws:List Int} {is:List Bool} {a:Int} {m:Option Int}
theorem Ll (st:St ws is a m cs) {c0:Cs} (h0:cs.head? = some c0) (ew:ws=Eg sz bg hs.length) (hsz:0 < sz) (hs10:sz <= 100) {n:Nat} (hn:is.length=n) (n3:n <= 3) (q:∀ K is' a' m',St ws is' a' m' K->is'.length=n->(Whl cs->Whl K)->QD (.tup [clD K,clD K]) μ):WP (E7 [mwD sz bg hs,clD cs,clD cs,.int x,.int (n:Int)]) μ QD:=by
  unfold E7
  refine BR rfl ?_
  unfold Ex
  have W:∀ y:Int,WP (Cu [mwD sz bg hs,clD cs,clD cs,.int y]) μ fun d μ1=>(fun r μ2=>∃ d τ2 gs,r=(Fl.rt d,τ2) /\ μ2=μ ++ gs /\ Cl μ.length d /\ QD d μ) (.rt d,B8 5 [mwD sz bg hs,clD cs,clD cs,.int x,.int (n:Int)]) μ1:=fun y=>
    JN st h0 ew hsz fun K a' m' s w=>⟨_,_,[],rfl,by simp,Ec _ _,q K is a' m' s hn w⟩
  wtm_at "own qwr"
  cases e:(x % (1 + (n:Int)) == 0) with
  | true=>
    refine Qq (DU ?_)
    wtm_at "own qwr"
    exact W _
  | false=>
    refine Ln ?_
    wtm_at "own qwr"
    cases e2:(x / 4 % 4 == (0:Int)) with
    | true=>
      refine DU ?_
      wtm_at "own qwr"
      exact W _
    | false=>
      refine CI ?_
      wtm_at "own qwr"
      have e1:=beq_eq_false_iff_ne.mp e
      have g1:=Int.emod_nonneg x (show (1 + (n:Int)) ≠ 0 by omega)
      have g2:=Int.emod_lt_of_pos x (show (0:Int) < 1 + (n:Int) by omega)
      obtain ⟨r,hr⟩:=Int.eq_ofNat_of_zero_le (show 0 <= x % (1 + (n:Int)) - 1 by omega)
      rw [hr]
      have hlt:r < is.length:=by omega
      refine M4 st h0 (o:=is[r]) (by simp [hlt]) (N:=sz.toNat) (by omega) (by omega) fun K is' s hl w=>?_
      exact ⟨_,_,[],rfl,by simp,Ec _ _,q K is' a m s (by omega) w⟩
theorem OF {K:List Cs} (q:QD (.bl true) μ):WP (E8 [.tup [clD K,clD K]]) μ QD:=by
  unfold E8
  refine BR rfl ?_
  unfold Dz
  wtm_at "own qwr"
  have pc:PzL (K.map csD):=FM fun c _=>Jr c
  have dc:CW (K.map csD) <= 60:=Nat.le_trans (EF (k:=2) fun c _=>G3 c) (by decide)
  refine FH (by unfold Pz; exact pc) (by unfold Pz; exact pc) (by unfold dpt; omega) (by unfold dpt; omega) fun e he=>?_
  have:e=true:=he.mpr rfl
  subst this
  exact ⟨_,_,[],rfl,by simp,by unfold Cl; trivial,q⟩
theorem R6:CG=K13.CG:=rfl
theorem Nv:Cg=K13.Cg:=rfl
theorem Vp (k:Nat) (ns:List Str):ClL k (ns.map K13.hdD):=K13.BJ (fun n=>by simp [K13.hdD,Cl,ClL]) ns
theorem Vo (k:Nat) (ns:List Str):Cl k (mwD sz bg (ns.map K13.hdD)):=by
  have:=Vp k ns
  simp [mwD,Cl,ClL,this]
theorem M3 (q:∀ sz bg (ns:List Str),2 <= sz->sz <= 10->0 <= bg->bg < sz->2 <= ns.length->ns.length <= 4->QD (mwD sz bg (ns.map K13.hdD)) μ):WP (EC [.int x,.str "whole"]) μ QD:=by
  unfold EC
  refine BR rfl ?_
  unfold DN
  have s0:2 <= 2 + x / 4 % 9:=by omega
  have s1:2 + x / 4 % 9 <= 10:=by omega
  wtm_at "own qwr"
  obtain ⟨L,l4,_,_,lix⟩:=K13.U0 (x:=x / 36)
  refine wp_of (lix μ) ?_
  wtm_at "own qwr"
  let j:Nat:=(1 + (1 + x / 108 % 3)).toNat
  have qj:(j:Int)=1 + (1 + x / 108 % 3):=by show (((1 + (1 + x / 108 % 3)).toNat:Nat):Int)=_; omega
  generalize j=j at qj
  refine wp_of (a:=.lst ((L.take j).map D.str)) (μ':=μ) ?_ ?_
  . show some (D.lst (Cw (L.map D.str) none (some (1 + (1 + x / 108 % 3)))),μ)=_
    rw [← qj,K13.P6 (α:=.non) (by rw [List.length_map]; omega),List.map_take]
  wtm_at "own qwr"
  have lj:(L.take j).length=j:=by rw [List.length_take]; omega
  refine ⟨by rw [List.length_map,sizeLine_eq]; omega,?_⟩
  refine A8 _ (fun _=>true) K13.hdD (fun t _=>?_) ?_
  . wtm_at "own qwr"
    refine ⟨rfl,?_⟩
    wtm_at "own qwr"
    refine ⟨rfl,rfl,fun _=>?_⟩
    wtm_at "own qwr"
    exact ⟨rfl,rfl⟩
  . rw [List.filter_eq_self.mpr fun _ _=>rfl]
    refine BQ (by rw [List.length_map,sizeLine_eq]; omega) ?_
    generalize 2 + x / 4 % 9=s at s0 s1
    wtm_at "own qwr"
    exact ⟨_,_,[],rfl,by simp,Vo _ _,q s _ (L.take j) s0 s1 (Int.emod_nonneg _ (by omega)) (Int.emod_lt_of_pos _ (by omega)) (by omega) (by omega)⟩
theorem OC {k:Nat} (hk:hs.length=k + 1) (k1:1 <= k) (k2:k <= 3) (q:QD (clD [(bg,-1,List.replicate k (-1))]) μ):WP (CN [mwD sz bg hs]) μ QD:=by
  unfold CN
  refine BR rfl ?_
  unfold Bn
  wtm_at "own qwr"
  refine JL ?_
  wtm_at "own qwr"
  refine wp_of (a:=.tup ((List.replicate k (-1:Int)).map D.int)) (μ':=μ) ?_ ?_
  . rw [hk]
    show (if [D.int (-1)] ≠ [] /\ [D.int (-1)].length <= 1000 /\ 1 <= (((k + 1:Nat):Int) - 1) /\ (((k + 1:Nat):Int) - 1) <= 1000 then some (D.tup (List.replicate (((k + 1:Nat):Int) - 1).toNat [D.int (-1)]).flatten,μ) else none)=_
    rw [if_pos ⟨by simp,by simp,by omega,by omega⟩,K13.Ez,List.map_replicate,show (((k + 1:Nat):Int) - 1).toNat=k by omega]
  . wtm_at "own qwr"
    exact ⟨_,_,[],rfl,by simp,G7 _ [(bg,-1,List.replicate k (-1))],q⟩
end
end K12
set_option maxHeartbeats 1000000
namespace K12
open PySem L2 Mi Ht Nk Hs Wb
section
variable {μ:Mh} {QD:D->Mh->Prop} {sz bg v x:Int} {hs:List D} {cs U:List Cs} {r:Nat} {ws:List Int} {is:List Bool} {a:Int} {m:Option Int}
theorem Si {n:Nat} (h2:2 <= sz) (hb:0 <= bg):∀ w ∈ Eg sz bg n,0 <= w:=fun w hw=>by
  have:=List.mem_of_mem_take hw
  simp at this
  rcases this with z | z | z
  . omega
  . omega
  . rw [z]; exact Int.emod_nonneg _ (by omega)
theorem Ur {n:Nat}:bg ∈ Eg sz bg n:=by
  unfold Eg
  split <;> simp
theorem Ls (ws:List Int):∀ k:Nat,List.replicate k (-1) ∈ tlU ws (List.replicate k true)
  | 0=>by simp [tlU]
  | k + 1=>by
    rw [List.replicate_succ,List.replicate_succ]
    exact mem_tlU.mpr ⟨-1,_,rfl,rfl,Ls ws k⟩
theorem OW {n k:Nat} (h2:2 <= sz) (hb:0 <= bg) (hn:n=k + 1) (k3:k <= 3):St (Eg sz bg n) (List.replicate k true) bg none [(bg,-1,List.replicate k (-1))]:=by
  refine ⟨⟨Si h2 hb,Ur,(fun _ e=>nomatch e),by rw [List.length_replicate]; exact k3,?_⟩,by simp,fun c hc=>?_⟩
  . rw [List.length_replicate]
    unfold Eg
    rw [List.length_take]
    by_cases h:3 < n
    . rw [if_pos h,show k=3 by omega]; exact Nat.le_of_ble_eq_true rfl
    . rw [if_neg h]
      have:(4:Nat) ^ k <= 4 ^ 2:=Nat.pow_le_pow_right (by decide) (by omega)
      show 2 * 4 ^ k < 64
      omega
  . cases List.mem_singleton.mp hc
    exact mem_Uc.mpr ⟨Ls _ _,rfl,rfl⟩
theorem M8 {k:Nat}:Whl [(bg,-1,List.replicate k (-1))]:=by
  refine ⟨fun x hx=>?_,by simp⟩
  obtain ⟨c,hc,hr⟩:=mem_clo.mp hx
  cases List.mem_singleton.mp hc
  have:=rch_iff.mp hr
  clear hr hx hc
  generalize e:((bg,-1,List.replicate k (-1)):Cs)=c at this ⊢
  induction this with
  | refl=>exact List.mem_singleton.mpr rfl
  | step _ s ih=>
    have h1:=List.mem_singleton.mp ih
    rw [h1,← e] at s
    rcases mem_nxt.mp s with ⟨z,_⟩ | ⟨i,z,_⟩
    . exact absurd z (show ¬ (0:Int) <= -1 by decide)
    . have z:(List.replicate k (-1:Int))[i]? = some (-2):=z
      have:=List.mem_of_getElem? z
      have:=List.eq_of_mem_replicate this
      omega
theorem Qi {ds:List D} (q:QD (.bl true) μ):WP (Me [.tup ds,.ty "tuple"]) μ QD:=wp_of rfl q
theorem M2 {K:List Cs} (q:QD (.bl false) μ):WP (Fx (clD K) (clD K)) μ QD:=by
  have pc:PzL (K.map csD):=FM fun c _=>Jr c
  have dc:CW (K.map csD) <= 60:=Nat.le_trans (EF (k:=2) fun c _=>G3 c) (by decide)
  refine IN (by unfold Pz; exact pc) (by unfold Pz; exact pc) (by unfold dpt; omega) (by unfold dpt; omega) fun e he=>?_
  have:e=true:=he.mpr rfl
  subst this
  exact q
theorem M5 {K:List Cs} (q:QD (.bl true) μ):WP (As (clD K) (clD K)) μ QD:=by
  have pc:PzL (K.map csD):=FM fun c _=>Jr c
  have dc:CW (K.map csD) <= 60:=Nat.le_trans (EF (k:=2) fun c _=>G3 c) (by decide)
  refine FH (by unfold Pz; exact pc) (by unfold Pz; exact pc) (by unfold dpt; omega) (by unfold dpt; omega) fun e he=>?_
  have:e=true:=he.mpr rfl
  subst this
  exact q
theorem Kj {K:List Cs} (q:QD (.bl (!K.isEmpty)) μ):WP (Fx (clD K) (.tup [])) μ QD:=by
  have pc:PzL (K.map csD):=FM fun c _=>Jr c
  have dc:CW (K.map csD) <= 60:=Nat.le_trans (EF (k:=2) fun c _=>G3 c) (by decide)
  refine IN (by unfold Pz; exact pc) (by unfold Pz PzL; trivial) (by unfold dpt; omega) (by unfold dpt CW; omega) fun e he=>?_
  have:e=K.isEmpty:=by
    rw [Bool.eq_iff_iff,he,List.isEmpty_iff]
    refine ⟨fun z=>?_,fun z=>by rw [z]; rfl⟩
    cases K with
    | nil=>rfl
    | cons c K=>cases z
  rw [this]
  exact q
theorem OK (w:Whl cs):∃ c0,cs.head? = some c0:=by
  cases cs with
  | nil=>exact absurd rfl w.2
  | cons c cs=>exact ⟨c,rfl⟩
theorem QF (sc:List Int) (lo hi:Option Int):∃ es:List Int,Cw (sc.map D.int) lo hi=es.map D.int /\ es.length <= sc.length:=by
  unfold Cw
  refine ⟨(sc.drop (HT.sIx (sc.map D.int).length 0 lo)).take (HT.sIx (sc.map D.int).length (sc.map D.int).length hi - HT.sIx (sc.map D.int).length 0 lo),by rw [List.map_take,List.map_drop],?_⟩
  rw [List.length_take,List.length_drop]
  omega
theorem Vk {ds:List D} (k:Nat):Cw ds none (some (k:Int))=ds.take k:=by
  unfold Cw
  rw [HT.IZ]
  show (ds.drop 0).take (min k ds.length - 0)=_
  rw [List.drop_zero,Nat.sub_zero]
  by_cases h:k <= ds.length
  . rw [Nat.min_eq_left h]
  . rw [Nat.min_eq_right (by omega),List.take_length,List.take_of_length_le (by omega)]
theorem Sz {sc:List Int} (h63:sc.length <= 63):WP (KJ [.scr sc]) [] fun d _=>d=.bl true:=by
  unfold KJ
  refine BR rfl ?_
  unfold J6
  wtm_at "own qwr"
  obtain ⟨x,ex⟩:=K13.TH (μ:=[]) h63
  rw [R6]
  refine wp_of ex ?_
  wtm_at "own qwr"
  refine M3 fun sz bg ns s2 s10 b0 b1 n2 n4=>?_
  wtm_at "own qwr"
  refine wp_of (a:=.tup [.str "whole",.int sz,.int bg,.tup []]) (μ':=[]) rfl ?_
  wtm_at "own qwr"
  let j:Nat:=(3 + if (x % 4 == (3:Int))=true then (1:Int) else 0).toNat
  have qj:(j:Int)=3 + if (x % 4 == (3:Int))=true then (1:Int) else 0:=by
    show (((3 + if (x % 4 == (3:Int))=true then (1:Int) else 0).toNat:Nat):Int)=_
    split <;> omega
  have j3:3 <= j:=by
    have:(3:Int) <= j:=by rw [qj]; split <;> omega
    omega
  generalize j=j at qj j3
  refine wp_of (a:=.tup ((ns.map K13.hdD).take j)) (μ':=[]) ?_ ?_
  . show some (D.tup (Cw (ns.map K13.hdD) none (some (3 + if (x % 4 == (3:Int))=true then (1:Int) else 0))),_)=_
    rw [← qj]
    rw [Vk]
  wtm_at "own qwr"
  rw [← List.map_take]
  have tl:(ns.take j).length=min j ns.length:=List.length_take
  generalize ns.take j=ns at tl
  obtain ⟨k,hk⟩:∃ k,ns.length=k + 1:=⟨ns.length - 1,by omega⟩
  refine wp_of (a:=mwD sz bg (ns.map K13.hdD)) (μ':=[]) ?_ ?_
  . exact K13.Iz (by rw [sizeLine_eq]; exact Nat.le_of_ble_eq_true rfl)
  wtm_at "own qwr"
  rw [List.length_map,hk,show (((k + 1:Nat):Int) - 1)=(k:Int) by omega]
  have hk':(ns.map K13.hdD).length=k + 1:=by rw [List.length_map]; exact hk
  refine OC hk' (by omega) (by omega) ?_
  wtm_at "own qwr"
  refine wp_of (a:=.int (-1)) (μ':=[]) rfl ?_
  wtm_at "own qwr"
  refine wp_of (a:=.int (-1)) (μ':=[]) rfl ?_
  wtm_at "own qwr"
  refine wp_of (a:=.tup ((List.replicate k (-1:Int)).map D.int)) (μ':=[]) ?_ ?_
  . show (if [D.int (-1)] ≠ [] /\ [D.int (-1)].length <= 1000 /\ 1 <= (k:Int) /\ (k:Int) <= 1000 then some (D.tup (List.replicate (k:Int).toNat [D.int (-1)]).flatten,([]:Mh)) else none)=_
    rw [if_pos ⟨by simp,by simp,by omega,by omega⟩,K13.Ez,List.map_replicate,show (k:Int).toNat=k by omega]
  wtm_at "own qwr"
  refine N7 (by omega) ?_
  wtm_at "own qwr"
  obtain ⟨es,hes,esl⟩:=QF sc (some 1) (some (13 - 5 * if ((k:Int) == 3)=true then (1:Int) else 0))
  refine wp_of (a:=.lst (es.map D.int)) (μ':=[]) ?_ ?_
  . rw [← hes]; rfl
  refine F1 (by rw [List.length_map]; show 1 + _ <= _; omega) ?_
  wtm_at "own qwr"
  have hcat:[D.int 0] ++ es.map D.int=((0:Int) :: es).map D.int:=rfl
  rw [hcat]
  have s0:=OW (sz:=sz) (bg:=bg) (n:=(ns.map K13.hdD).length) (k:=k) s2 b0 hk' (by omega)
  refine EO (I:=fun rest τ μ'=>∃ (es':List Int) (is:List Bool) (a:Int) (m:Option Int) (cs:List Cs) (o6 o7 o8:Option D),rest=es'.map D.int /\ St (Eg sz bg (ns.map K13.hdD).length) is a m cs /\ is.length=k /\ Whl cs /\ ([]:Mh)=μ' /\ τ=[some (.scr sc),some (.int x),some (mwD sz bg (ns.map K13.hdD)),some (.int (k:Int)),some (clD cs),some (clD cs),o6,o7,o8]) ?_ ?_ ⟨0 :: es,List.replicate k true,bg,none,[(bg,-1,List.replicate k (-1))],none,none,none,rfl,s0,List.length_replicate,M8,rfl,rfl⟩
  . rintro y ys τ μ' ⟨es',is,a,m,cs,o6,o7,o8,hr,st,il,w,rfl,rfl⟩
    cases es' with
    | nil=>cases hr
    | cons e es'=>
      rw [List.map_cons] at hr
      obtain ⟨e3,e4⟩:=List.cons.inj hr
      subst e3
      obtain ⟨c0,h0⟩:=OK w
      wtm_at "own qwr"
      refine M2 ?_
      wtm_at "own qwr"
      refine Ln ?_
      wtm_at "own qwr"
      refine Qi ?_
      wtm_at "own qwr"
      refine CI ?_
      wtm_at "own qwr"
      obtain ⟨z,_,ez⟩:=K13.ON (μ:=[]) (c:=e)
      rw [Nv]
      refine wp_of ez ?_
      wtm_at "own qwr"
      (with_reducible apply JP)
      wtm_at "own qwr"
      refine ⟨_,rfl,by rw [EE,List.length_map,sizeLine_eq]; have:=st.many; omega,?_⟩
      rw [Fb]
      refine A8 _ (fun p=>decide (0 < z / (7 + (p.2:Int)) % 3)) (fun p=>csD p.1) (fun p hp=>?_) ?_
      . have hp2:p.2 < cs.length:=by
          have:=List.snd_lt_of_mem_zipIdx hp
          omega
        have sm:=st.many
        have f2:7 + (p.2:Int) < 1073741824:=by omega
        have f1:0 < 7 + (p.2:Int):=by omega
        (with_reducible apply GG)
        refine ⟨rfl,?_⟩
        (with_reducible apply Lj)
        (with_reducible apply JM)
        (with_reducible apply JM)
        (with_reducible apply JM)
        (with_reducible apply IM)
        rfl
        (with_reducible apply JM)
        (with_reducible apply Ux)
        (with_reducible apply IM)
        rfl
        (with_reducible apply Lm)
        refine Lk f1 f2 ?_
        clear f1 f2
        wtm_at "own qwr"
        refine ⟨rfl,rfl,fun _=>?_⟩
        wtm_at "own qwr"
        exact ⟨rfl,rfl⟩
      . have ep:((cs.zipIdx 0).filter fun p=>decide (0 < z / (7 + (p.2:Int)) % 3)).map (fun p=>csD p.1)=(((cs.zipIdx 0).filter fun p=>decide (0 < z / (7 + (p.2:Int)) % 3)).map (·.1)).map csD:=by rw [List.map_map]; rfl
        rw [ep]
        have sub:(((cs.zipIdx 0).filter fun p=>decide (0 < z / (7 + (p.2:Int)) % 3)).map (·.1)).Sublist cs:=by
          have:=(List.filter_sublist (l:=cs.zipIdx 0) (p:=fun p=>decide (0 < z / (7 + (p.2:Int)) % 3))).map (·.1)
          rwa [List.zipIdx_map_fst] at this
        generalize ((cs.zipIdx 0).filter fun p=>decide (0 < z / (7 + (p.2:Int)) % 3)).map (·.1)=pt at sub
        have st2:=st.part sub
        have ptl:=st2.many
        refine BQ (by rw [List.length_map,sizeLine_eq]; omega) ?_
        wtm_at "own qwr"
        refine Kj ?_
        wtm_at "own qwr"
        have last:WP ((Ah (AH E7 (AD (AB 2) (AD (AB 4) (AD (AB 5) (AD (AB 7) (AD (AB 3) AK)))))) (Cz [4,5])) [some (.scr sc),some (.int x),some (mwD sz bg (ns.map K13.hdD)),some (.int (k:Int)),some (clD cs),some (clD cs),some (.int e),some (.int z),some (clD pt)]) [] (MV (fun τ μ'=>∃ (es':List Int) (is:List Bool) (a:Int) (m:Option Int) (cs:List Cs) (o6 o7 o8:Option D),ys=es'.map D.int /\ St (Eg sz bg (ns.map K13.hdD).length) is a m cs /\ is.length=k /\ Whl cs /\ ([]:Mh)=μ' /\ τ=[some (.scr sc),some (.int x),some (mwD sz bg (ns.map K13.hdD)),some (.int (k:Int)),some (clD cs),some (clD cs),o6,o7,o8])
            (Lv (Ao (mOp As (AB 4) (AB 5))) fun r μ2=>∃ d τ2 gs,r=(Fl.rt d,τ2) /\ μ2=[] ++ gs /\ Cl (List.length ([]:Mh)) d /\ d=D.bl true)):=by
          (with_reducible apply Kk)
          wtm_at "own qwr"
          refine Ll st h0 rfl (by omega) (by omega) il (by omega) fun K is' a' m' s hl w'=>?_
          (with_reducible apply GG)
          exact Cj ⟨es',is',a',m',K,_,_,_,e4,s,hl,w' w,rfl,rfl⟩
        cases pt with
        | nil=>
          refine OJ (CI ?_)
          wtm_at "own qwr"
          exact last
        | cons c1 pt=>
          refine OI ?_
          wtm_at "own qwr"
          refine Ll st2 rfl rfl (by omega) (by omega) il (by omega) fun K is' a' m' s hl w'=>?_
          wtm_at "own qwr"
          refine OF ?_
          wtm_at "own qwr"
          refine CI ?_
          wtm_at "own qwr"
          exact last
  . rintro τ μ' ⟨es',is,a,m,cs,o6,o7,o8,hr,st,il,w,rfl,rfl⟩
    wtm_at "own qwr"
    refine M5 ?_
    exact ⟨_,_,[],rfl,rfl,by unfold Cl; trivial,rfl⟩
theorem WF (sc:List Int) (h:sc.length <= 63):∃ μ',KJ [.scr sc] []=some (.bl true,μ'):=by
  obtain ⟨a,μ',e,rfl⟩:=Sz h
  exact ⟨μ',e⟩
end
end K12
open PySem PySem.W PyProof.Rows
local macro_rules | `(tactic| wtm_at "own qdf")=>`(tactic| (refine' Mi.Vi ?qa ?ql ?qc ?qk; (case qa=>k_is); (case ql=>k_is); (case qc=>k_is); (case qk=>k_is)))
local macro_rules | `(tactic| wtm_at "own qtl")=>`(tactic| (refine' Mi.tl_mk ?pl ?pe; (case pl=>k_is); (case pe=>rfl)))
set_option maxRecDepth 100000 in
set_option maxHeartbeats 0 in
theorem PySem.Challenge.cw_strongboxes_k12_claims_of_whole_boxes_holds : PySem.Challenge.rw_strongboxes_k12_claims_of_whole_boxes.Holds := by
  w_on; o_law; k_head; (case hw=>w_witness2)
  k_fill
  refine Mi.Uy (k:=11) (l:=PySem.Challenge.rw_strongboxes_k12_claims_of_whole_boxes) rfl rfl (by decide) (fun w h Y=>PySem.W.kIn_of Y) ?F
  case F=>
    intro w mg fa h KX G hmg
    refine' K12.Ug K12.WF KX G hmg ?e_Lcell_at ?e_Lmaking ?e_claim_begun ?e_Lstream ?e_with_thing ?e_case_begun ?e_moments_from ?e_reached ?e_closed ?e_beside ?e_claim_writes ?e_Lorders ?e_Lmoved ?e_Lall ?e_case_ended ?e_cases_ended ?e_claim_written ?e_Lwritten ?e_Lwith ?e_claim_reads ?e_claim_told ?e_Lread ?e_Ldeed ?e_Lalike ?e_law ?z_enumerate ?z_int ?z_isinstance ?z_len ?z_list ?z_range ?z_set ?z_sorted ?z_tuple ?g_HAD ?g_NONE ?g_WAITS
    (case e_Lcell_at=>wtm_at "own qdf")
    (case e_Lmaking=>wtm_at "own qdf")
    (case e_claim_begun=>wtm_at "own qdf")
    (case e_Lstream=>wtm_at "own qdf")
    (case e_with_thing=>wtm_at "own qdf")
    (case e_case_begun=>wtm_at "own qdf")
    (case e_moments_from=>wtm_at "own qdf")
    (case e_reached=>wtm_at "own qdf")
    (case e_closed=>wtm_at "own qdf")
    (case e_beside=>wtm_at "own qdf")
    (case e_claim_writes=>wtm_at "own qdf")
    (case e_Lorders=>wtm_at "own qdf")
    (case e_Lmoved=>wtm_at "own qdf")
    (case e_Lall=>wtm_at "own qdf")
    (case e_case_ended=>wtm_at "own qdf")
    (case e_cases_ended=>wtm_at "own qdf")
    (case e_claim_written=>wtm_at "own qdf")
    (case e_Lwritten=>wtm_at "own qdf")
    (case e_Lwith=>wtm_at "own qdf")
    (case e_claim_reads=>wtm_at "own qdf")
    (case e_claim_told=>wtm_at "own qdf")
    (case e_Lread=>wtm_at "own qdf")
    (case e_Ldeed=>wtm_at "own qdf")
    (case e_Lalike=>wtm_at "own qdf")
    (case e_law=>wtm_at "own qdf")
    (case z_enumerate=>k_is)
    (case z_int=>k_is)
    (case z_isinstance=>k_is)
    (case z_len=>k_is)
    (case z_list=>k_is)
    (case z_range=>k_is)
    (case z_set=>k_is)
    (case z_sorted=>k_is)
    (case z_tuple=>k_is)
    (case g_HAD=>refine' Mi.JC KX G ?qa; (case qa=>k_is))
    (case g_NONE=>refine' Mi.JC KX G ?qa; (case qa=>k_is))
    (case g_WAITS=>refine' Mi.JC KX G ?qa; (case qa=>k_is))
