import PyProof.Rows.All
import Wide.All
import OpenK.AllK
import Wide.FinOn
import PyProof.EqAt
import PyProof.EqKinds
import PyProof.TupleCall
import Lean
import PySem.Challenge.RW_strongboxes_k11_claims_of_weak_boxes
set_option Elab.async false
set_option linter.all false
set_option maxRecDepth 100000
set_option maxHeartbeats 4000000
def PySem.W.Fast.tw7014607789037024519:Nat:=0
def PySem.W.Fast.tw2735642848118255616:Nat:=0
def PySem.W.Fast.tw18360023974816994082:Nat:=0
def PySem.W.Fast.tw11516051107751237174:Nat:=0
def PySem.W.Fast.tw10707612584036841055:Nat:=0
def PySem.W.Fast.tw13172746021897868765:Nat:=0
def PySem.W.Fast.tw6559269600971359222:Nat:=0
def PySem.W.Fast.tw2701434104990401640:Nat:=0
def PySem.W.Fast.tw16754423421252350150:Nat:=0
def PySem.W.Fast.tw16527338465082564910:Nat:=0
def PySem.W.Fast.tw1211287797481786968:Nat:=0
def PySem.W.Fast.tw4640048168457571773:Nat:=0
def PySem.W.Fast.tw1814243869100389364:Nat:=0
def PySem.W.Fast.tw5565100485281686432:Nat:=0
def PySem.W.Fast.tw3700494373642221061:Nat:=0
def PySem.W.Fast.tw8384629530756998202:Nat:=0
def PySem.W.Fast.tw8197299998058799726:Nat:=0
def PySem.W.Fast.tw11517593764763408866:Nat:=0
def PySem.W.Fast.tw1151470170655504892:Nat:=0
def PySem.W.Fast.tw295525102524563303:Nat:=0
def PySem.W.Fast.tw1388248194459053434:Nat:=0
def PySem.W.Fast.tw5374925601644546933:Nat:=0
def PySem.W.Fast.tw5364643721969664304:Nat:=0
def PySem.W.Fast.tw4306038309030120559:Nat:=0
def PySem.W.Fast.tw18255107757481021674:Nat:=0
def PySem.W.Fast.tw16313778759677838891:Nat:=0
def PySem.W.Fast.tw4904283892787068346:Nat:=0
def PySem.W.Fast.tw3427788212632504277:Nat:=0
def PySem.W.Fast.tw7369120798304964288:Nat:=0
def PySem.W.Fast.tw4090661037093968508:Nat:=0
def PySem.W.Fast.tw16847173988780927429:Nat:=0
def PySem.W.Fast.tw8540209326864499932:Nat:=0
def PySem.W.Fast.tw10092703155484660742:Nat:=0
def PySem.W.Fast.tw17203232316331219365:Nat:=0
def PySem.W.Fast.tw6106394155376516334:Nat:=0
def PySem.W.Fast.tw18038452853071455728:Nat:=0
def PySem.W.Fast.tw3409191017092955282:Nat:=0
def PySem.W.Fast.tw90600583241798001:Nat:=0
def PySem.W.Fast.tw3318715559354105557:Nat:=0
def PySem.W.Fast.tw1099823342891900890:Nat:=0
def PySem.W.Fast.tw10292133066969421495:Nat:=0
def PySem.W.Fast.tw4322584396642408226:Nat:=0
def PySem.W.Fast.tw4322155703877505548:Nat:=0
def PySem.W.Fast.tw15823604582676969646:Nat:=0
def PySem.W.Fast.tw5612228499532838322:Nat:=0
def PySem.W.Fast.tw7298763838329061188:Nat:=0
def PySem.W.Fast.tw14601299307576225580:Nat:=0
def PySem.W.Fast.tw4156523405187057947:Nat:=0
def PySem.W.Fast.tw2429989028345737227:Nat:=0
def PySem.W.Fast.tw4468823967960966506:Nat:=0
def PySem.W.Fast.tw5888850157299277492:Nat:=0
def PySem.W.Fast.tw11559427940580435603:Nat:=0
def PySem.W.Fast.tw5760249137101052387:Nat:=0
def PySem.W.Fast.tw7843544134195765529:Nat:=0
def PySem.W.Fast.tw7491657996915393234:Nat:=0
def PySem.W.Fast.tw10223579528939574139:Nat:=0
def PySem.W.Fast.tw1550760529823321665:Nat:=0
def PySem.W.Fast.tw17771825763973349535:Nat:=0
def PySem.W.Fast.tw9537407970817499110:Nat:=0
def PySem.W.Fast.tw9679095923566648691:Nat:=0
def PySem.W.Fast.tw17506405848379188721:Nat:=0
def PySem.W.Fast.tw3217803343190812652:Nat:=0
def PySem.W.Fast.tw10757502828509862376:Nat:=0
def PySem.W.Fast.tw9426878579328137616:Nat:=0
def PySem.W.Fast.tw397948925232245546:Nat:=0
def PySem.W.Fast.tw1055229419370863642:Nat:=0
def PySem.W.Fast.tw5702616404153934124:Nat:=0
def PySem.W.Fast.tw4488780908807118843:Nat:=0
def PySem.W.Fast.tw9405514438742097247:Nat:=0
def PySem.W.Fast.tw4549161622426817549:Nat:=0
def PySem.W.Fast.tw5762261093996893071:Nat:=0
def PySem.W.Fast.tw11066739614802977060:Nat:=0
def PySem.W.Fast.tw8201644315910825827:Nat:=0
def PySem.W.Fast.tw12348395348277639329:Nat:=0
def PySem.W.Fast.tw6768163874601618207:Nat:=0
def PySem.W.Fast.tw9655862214597203081:Nat:=0
def PySem.W.Fast.tw1506075144394810426:Nat:=0
def PySem.W.Fast.tw15427869374975356242:Nat:=0
def PySem.W.Fast.tw12177052747392279572:Nat:=0
def PySem.W.Fast.tw4953232691160026362:Nat:=0
def PySem.W.Fast.tw13279394291458952244:Nat:=0
def PySem.W.Fast.tw15185458764916440348:Nat:=0
def PySem.W.Fast.tw2949039340175549679:Nat:=0
def PySem.W.Fast.tw13048990101023772787:Nat:=0
def PySem.W.Fast.tw1115346760660228972:Nat:=0
def PySem.W.Fast.tw1101841078324539600:Nat:=0
def PySem.W.Fast.tw8626658837915172603:Nat:=0
def PySem.W.Fast.tw15296169448255103999:Nat:=0
def PySem.W.Fast.tw17508478883043931256:Nat:=0
def PySem.W.Fast.tw10776179558644519687:Nat:=0
def PySem.W.Fast.tw13350832269496885254:Nat:=0
def PySem.W.Fast.tw6001347615032973659:Nat:=0
def PySem.W.Fast.tw4517334184222055632:Nat:=0
def PySem.W.Fast.tw1446371442516347507:Nat:=0
def PySem.W.Fast.tw12947295909245019154:Nat:=0
def PySem.W.Fast.tw11108244286399091964:Nat:=0
def PySem.W.Fast.tw10860170120404445970:Nat:=0
def PySem.W.Fast.tw8729789470194881395:Nat:=0
def PySem.W.Fast.tw809756978024400970:Nat:=0
def PySem.W.Fast.tw6752304768842640757:Nat:=0
def PySem.W.Fast.tw590100096394255975:Nat:=0
def PySem.W.Fast.tw4794046461027666441:Nat:=0
def PySem.W.Fast.tw318567478317261769:Nat:=0
def PySem.W.Fast.tw2767101914792955805:Nat:=0
def PySem.W.Fast.tw18057184633011043017:Nat:=0
def PySem.W.Fast.tw16973890112277561432:Nat:=0
def PySem.W.Fast.tw13255176034179962086:Nat:=0
def PySem.W.Fast.tw12915503601794250161:Nat:=0
def PySem.W.Fast.tw12520171800122169016:Nat:=0
def PySem.W.Fast.tw12395514083965041171:Nat:=0
def PySem.W.Fast.tw10554653859324956657:Nat:=0
def PySem.W.Fast.tw10177035232066087879:Nat:=0
def PySem.W.Fast.tw13291455098048118108:Nat:=0
def PySem.W.Fast.tw4990722719207250685:Nat:=0
def PySem.W.Fast.tw12577885018829688298:Nat:=0
def PySem.W.Fast.tw7017881016380284635:Nat:=0
def PySem.W.Fast.tw353544135230173742:Nat:=0
def PySem.W.Fast.tw15223430978879765993:Nat:=0
def PySem.W.Fast.tw9129823438276807593:Nat:=0
def PySem.W.Fast.tw5546284145820709090:Nat:=0
namespace L2
open PySem PySem.Spec PyProof.Rows
abbrev Key:=Sum Int Str
def F9:Key->Value->Bool
  | .inl k,v=>Value.isInt k v
  | .inr x,v=>Value.isStrOf x v
def Rg (w:World):Key->Int
  | .inl k=>hashInt k
  | .inr x=>hashStr w x
theorem Az:∀ {k:Key} {v:Value},F9 k v=true->(∃ i t,k=Sum.inl i /\ v=Value.int i t) ∨ (∃ x t,k=Sum.inr x /\ v=Value.str x t)
  | .inl i,v,h=>by
    obtain ⟨t,e⟩:=Value.isInt_shape (k:=i) (v:=v) h
    exact .inl ⟨i,t,rfl,e⟩
  | .inr x,v,h=>by
    obtain ⟨t,e⟩:=Value.isStrOf_shape (x:=x) (v:=v) h
    exact .inr ⟨x,t,rfl,e⟩
theorem Kg (i:Int) (t:Tok):F9 (.inl i) (.int i t)=true:=by simp [F9,Value.isInt]
theorem Kf (x:Str) (t:Tok):F9 (.inr x) (.str x t)=true:=by simp [F9,Value.isStrOf]
theorem Pj (a b:Int):decide ((Sum.inl a:Key)=Sum.inl b)=(a == b):=by
  by_cases e:a=b
  . subst e; simp
  . have h : ¬ (Sum.inl a:Key)=Sum.inl b:=fun q=>e (Sum.inl.inj q)
    rw [decide_eq_false h]
    exact (beq_eq_false_iff_ne.mpr e).symm
theorem Pg (a b:Str):decide ((Sum.inr a:Key)=Sum.inr b)=decide (a=b):=by
  by_cases e:a=b
  . subst e; simp
  . have h : ¬ (Sum.inr a:Key)=Sum.inr b:=fun q=>e (Sum.inr.inj q)
    rw [decide_eq_false h,decide_eq_false e]
theorem Pi (a:Int) (b:Str):decide ((Sum.inl a:Key)=Sum.inr b)=false:=decide_eq_false (fun q=>nomatch q)
theorem Ph (a:Str) (b:Int):decide ((Sum.inr a:Key)=Sum.inl b)=false:=decide_eq_false (fun q=>nomatch q)
def BA (prog:Program) (w:World):PySem.KeyKind prog w Key where
  is:=F9
  hash:=Rg w
  inj:=fun v a b ha hb=>by
    rcases Az ha with ⟨i,t,rfl,rfl⟩ | ⟨x,t,rfl,rfl⟩
    . rcases Az hb with ⟨j,u,rfl,e⟩ | ⟨y,u,rfl,e⟩
      . injection e with e1 _; rw [e1]
      . exact nomatch e
    . rcases Az hb with ⟨j,u,rfl,e⟩ | ⟨y,u,rfl,e⟩
      . exact nomatch e
      . injection e with e1 _; rw [e1]
  byValue:=fun k v h=>by
    rcases Az h with ⟨i,t,rfl,rfl⟩ | ⟨x,t,rfl,rfl⟩ <;> rfl
  pyHash:=fun hv h=>by
    rcases Az hv with ⟨i,t,rfl,rfl⟩ | ⟨x,t,rfl,rfl⟩
    . exact wpAny_pyHash_int h
    . exact wpAny_pyHash_str h
  eqBool:=fun hu hv h=>by
    rcases Az hu with ⟨i,t,rfl,rfl⟩ | ⟨x,t,rfl,rfl⟩
    . rcases Az hv with ⟨j,u,rfl,rfl⟩ | ⟨y,u,rfl,rfl⟩
      . rw [Pj] at h; exact wpAny_eqBool_int h
      . rw [Pi] at h; exact SeqAt.EqAt.int_str i t y u _ _ _ _ h
    . rcases Az hv with ⟨j,u,rfl,rfl⟩ | ⟨y,u,rfl,rfl⟩
      . rw [Ph] at h; exact SeqAt.EqAt.str_int x t j u _ _ _ _ h
      . rw [Pg] at h; exact wpAny_eqBool_str h
  «strs»:=fun k x t v h=>by
    rcases Az h with ⟨i,u,rfl,e⟩ | ⟨y,u,rfl,e⟩
    . exact nomatch e
    . injection e with e1 _
      subst e1
      cases v <;> rfl
theorem HS (prog:Program) (w:World) (i:Int) (t:Tok):(BA prog w).is (.inl i) (.int i t)=true:=Kg i t
theorem HR (prog:Program) (w:World) (x:Str) (t:Tok):(BA prog w).is (.inr x) (.str x t)=true:=Kf x t
end L2
namespace L2
open PySem PySem.Spec PyProof.Rows
inductive V where
  | non | bl (b:Bool) | int (i:Int) | str (x:Str) | byt (b:Array UInt8) | flt (b:UInt64) | ref (a:Addr) | ty (n:String)
  deriving DecidableEq
def RelV:V->Value->Prop
  | .non,u=>u=Value.none
  | .bl b,u=>u=Value.bool b
  | .int i,u=>∃ t,u=Value.int i t
  | .str x,u=>∃ t,u=Value.str x t
  | .byt b,u=>∃ t,u=Value.bytes b t
  | .flt b,u=>∃ t,u=Value.float b t
  | .ref a,u=>u=Value.ref a
  | .ty n,u=>u=Value.type n
abbrev Vals:List V->List Value->Prop:=Paired RelV
theorem Vals.length {xs:List V} {us:List Value} (r:Vals xs us):xs.length=us.length:=Paired.length r
theorem Vals.get:∀ {xs:List V} {us:List Value} {i:Nat} {x:V},Vals xs us->xs[i]? = some x->∃ u,us[i]? = some u /\ RelV x u
  | _,_,_,_,.nil,e=>by simp at e
  | _,_,0,_,.cons r _,e=>by simp at e; subst e; exact ⟨_,rfl,r⟩
  | _,_,i + 1,x,.cons _ t,e=>by
    obtain ⟨u,h1,h2⟩:=Vals.get (i:=i) (x:=x) t (by simpa using e)
    exact ⟨u,by simpa using h1,h2⟩
theorem Vals.set {x:V} {u:Value} (r:RelV x u):∀ {xs:List V} {us:List Value} (i:Nat),Vals xs us->Vals (xs.set i x) (us.set i u)
  | _,_,_,.nil=>.nil
  | _,_,0,.cons _ t=>.cons r t
  | _,_,i + 1,.cons q t=>.cons q (Vals.set r i t)
theorem Vals.append:∀ {xs ys:List V} {us ws:List Value},Vals xs us->Vals ys ws->Vals (xs ++ ys) (us ++ ws)
  | _,_,_,_,.nil,s=>s
  | _,_,_,_,.cons r t,s=>.cons r (Vals.append t s)
theorem Vals.take:∀ {xs:List V} {us:List Value} (n:Nat),Vals xs us->Vals (xs.take n) (us.take n)
  | _,_,0,_=>.nil
  | _,_,_ + 1,.nil=>.nil
  | _,_,n + 1,.cons r t=>.cons r (Vals.take n t)
theorem Vals.drop:∀ {xs:List V} {us:List Value} (n:Nat),Vals xs us->Vals (xs.drop n) (us.drop n)
  | _,_,0,r=>r
  | _,_,_ + 1,.nil=>.nil
  | _,_,n + 1,.cons _ t=>Vals.drop n t
def RelO:Option V->Option Value->Prop
  | some v,some u=>RelV v u
  | none,none=>True
  | _,_=>False
def KV {κ:Type}:List (κ × V)->List (κ × Value)->Prop:=Paired fun (p:κ × V) (q:κ × Value)=>p.1=q.1 /\ RelV p.2 q.2
def kV:Key->V
  | .inl i=>.int i
  | .inr x=>.str x
inductive HO where
  | lst (xs:List V)
  | tup (xs:List V)
  | dK (kvs:List (Key × V)) | dT (kvs:List (List Key × V))
  | set (S:Int->Bool) (n:Nat)
  | ins (C dx:Addr) (fs:List (Str × V))
  | own (x:Addr)
  | xd (fs:List (Str × V))
  | met (f x:Addr)
  | rng (lo hi:Int)
  | frz (o:Obj) (u:HO)
  | tbl (ps:Array Value)
  | ext (φ:Heap->Prop)
abbrev Hp:=Addr->Option HO
def upd (H:Hp) (a:Addr) (o:HO):Hp:=fun b=>if b=a then some o else H b
theorem A5 {H:Hp} {a:Addr} {o:HO}:upd H a o a=some o:=by unfold upd; rw [if_pos rfl]
theorem Ag {H:Hp} {a b:Addr} {o:HO} (h:b ≠ a):upd H a o b=H b:=by unfold upd; rw [if_neg h]
theorem Qs {H:Hp} {a b:Addr} {o u:HO} (h:H a=some o) (h':H b=some u) (d:o ≠ u):a ≠ b:=by
  intro e; subst e; rw [h] at h'; exact d (Option.some.inj h')
theorem Bb {H:Hp} {a b:Addr} {o:HO} (h:H a=some o) (h':H b=none):a ≠ b:=by
  intro e; subst e; rw [h] at h'; cases h'
section
variable (P:Program) (w:World)
def ObjOk (H:Hp) (h:Heap) (a:Addr):HO->Prop
  | .lst xs=>xs.length <= sizeLine /\ ∃ (its:List Value) (n:Nat),Vals xs its /\ h.get? a=some { cls:=.type "list",data:=.seq its.toArray n }
  | .tup xs=>xs.length <= sizeLine /\ ∃ its:List Value,Vals xs its /\ IsTup h a its.toArray
  | .dK kvs=>kvs.length <= sizeLine /\ (a == sysModules)=false /\ ∃ vs,KV kvs vs /\ h.DictOf (BA P w) a vs
  | .dT kvs=>kvs.length <= sizeLine /\ (a == sysModules)=false /\ ∃ xs:List (List Key × Addr × Value),
      Paired (fun (p:List Key × V) (q:List Key × Addr × Value)=>p.1=q.1 /\ H q.2.1=some (.tup (p.1.map kV)) /\ RelV p.2 q.2.2) kvs xs /\
      ∃ o es ep,h.get? a=some o /\ o.ExactDict /\ o.data=.dict es ep /\ es.toList=xs.map (entryOfKey (tupleKind (BA P w))) /\ (xs.map (·.1)).Nodup
  | .set S n=>h.SetOf (intKind P w) a S n
  | .ins C dx fs=>H dx=some (.own a) /\ fs.length <= 1000 /\ dx ≠ a /\ h.get? a=some (PySem.W.instObj C dx) /\
      ∃ mA,h.Ns1 dx mA /\ (∀ f,RelO (fs.lookup f) (mA f)) /\ PySem.Within mA (fs.map (·.1))
  | .own _=>∃ o,h.get? a=some o
  | .xd fs=>∃ mA,h.Ns1 a mA /\ ∀ f,RelO (fs.lookup f) (mA f)
  | .rng lo hi=>∃ t u v,h.get? a=some { cls:=.type "range",data:=.fields #[.int lo t,.int hi u,.int 1 v] }
  | .frz o u=>h.get? a=some o /\ ObjOk H h a u
  | .tbl ps=>h.get? a=some { cls:=.none,data:=.fields ps }
  | .met f x=>h.get? a=some (PySem.W.methodObj (.ref f) (.ref x))
  | .ext φ=>φ h /\ (∃ o,h.get? a=some o) /\ ∀ h1 h2:Heap,φ h1->(∀ o,h1.get? a=some o->h2.get? a=some o)->φ h2
def HOk (H:Hp) (h:Heap):Prop:=∀ a o,H a=some o->ObjOk P w H h a o
end
section
variable {P:Program} {w:World} {H H':Hp} {h h':Heap} {a:Addr} {o:HO}
theorem ObjOk.lt (x:ObjOk P w H h a o):a < h.objs.size:=by
  cases o with
  | lst xs=>obtain ⟨_,_,_,_,e⟩:=x; exact Heap.lt_size e
  | tup xs=>obtain ⟨_,_,_,p⟩:=x; exact p.lt
  | dK kvs=>obtain ⟨_,_,_,_,o,_,_,e,_⟩:=x; exact Heap.lt_size e
  | dT kvs=>obtain ⟨_,_,_,_,o,_,_,e,_⟩:=x; exact Heap.lt_size e
  | set S n=>obtain ⟨o,_,_,_,e,_⟩:=x; exact Heap.lt_size e
  | ins C dx fs=>obtain ⟨_,_,_,e,_⟩:=x; exact Heap.lt_size e
  | own y=>obtain ⟨_,e⟩:=x; exact Heap.lt_size e
  | xd fs=>obtain ⟨_,⟨_,_,_,e,_⟩,_⟩:=x; exact Heap.lt_size e
  | rng lo hi=>obtain ⟨_,_,_,e⟩:=x; exact Heap.lt_size e
  | frz ob u=>obtain ⟨e,_⟩:=x; exact Heap.lt_size e
  | tbl ps=>exact Heap.lt_size (show h.get? a=some _ from x)
  | met f y=>exact Heap.lt_size (show h.get? a=some _ from x)
  | ext φ=>obtain ⟨_,⟨_,e⟩,_⟩:=x; exact Heap.lt_size e
theorem Paired.mapP {α β:Type} {F G:α->β->Prop}:∀ {l₁:List α} {l₂:List β},Paired F l₁ l₂->(∀ a b,F a b->G a b)->Paired G l₁ l₂
  | _,_,.nil,_=>.nil
  | _,_,.cons r t,f=>.cons (f _ _ r) (Paired.mapP t f)
theorem ObjOk.stay (x:ObjOk P w H h a o) (k:∀ b u,(b=a ∨ H b=some (.own a))->h.get? b=some u->h'.get? b=some u)
    (ho:∀ b,H b=some (.own a)->H' b=some (.own a)) (ht:∀ b xs,H b=some (.tup xs)->H' b=some (.tup xs)):ObjOk P w H' h' a o:=by
  induction o with
  | lst xs=>obtain ⟨z,its,n,r,e⟩:=x; exact ⟨z,its,n,r,k _ _ (.inl rfl) e⟩
  | tup xs=>obtain ⟨z,its,r,ob,e,c⟩:=x; exact ⟨z,its,r,ob,k _ _ (.inl rfl) e,c⟩
  | dK kvs=>obtain ⟨z,y,vs,r,ob,es,ep,e,c⟩:=x; exact ⟨z,y,vs,r,ob,es,ep,k _ _ (.inl rfl) e,c⟩
  | dT kvs=>
    obtain ⟨z,y,xs,r,ob,es,ep,e,c⟩:=x
    exact ⟨z,y,xs,Paired.mapP r fun p q z=>⟨z.1,ht _ _ z.2.1,z.2.2⟩,ob,es,ep,k _ _ (.inl rfl) e,c⟩
  | set S n=>obtain ⟨ob,es,ep,t,e,c⟩:=x; exact ⟨ob,es,ep,t,k _ _ (.inl rfl) e,c⟩
  | ins C dx fs=>
    obtain ⟨d,z,ne,e,mA,⟨od,es,ep,e2,c⟩,r⟩:=x
    exact ⟨ho _ d,z,ne,k _ _ (.inl rfl) e,mA,⟨od,es,ep,k _ _ (.inr d) e2,c⟩,r⟩
  | own y=>obtain ⟨ob,e⟩:=x; exact ⟨ob,k _ _ (.inl rfl) e⟩
  | xd fs=>obtain ⟨mA,⟨od,es,ep,e,c⟩,r⟩:=x; exact ⟨mA,⟨od,es,ep,k _ _ (.inl rfl) e,c⟩,r⟩
  | rng lo hi=>obtain ⟨t,u,v,e⟩:=x; exact ⟨t,u,v,k _ _ (.inl rfl) e⟩
  | frz ob u ih=>obtain ⟨e,q⟩:=x; exact ⟨k _ _ (.inl rfl) e,ih q⟩
  | tbl ps=>
    have e:h.get? a=some { cls:=.none,data:=.fields ps }:=x
    show h'.get? a=some { cls:=.none,data:=.fields ps }
    exact k a _ (.inl rfl) e
  | met f y=>
    have e:h.get? a=some (PySem.W.methodObj (.ref f) (.ref y)):=x
    show h'.get? a=some (PySem.W.methodObj (.ref f) (.ref y))
    exact k a _ (.inl rfl) e
  | ext φ=>obtain ⟨p,⟨o,e⟩,st⟩:=x; exact ⟨st _ _ p fun o q=>k _ _ (.inl rfl) q,⟨o,k _ _ (.inl rfl) e⟩,st⟩
theorem HOk.lt (x:HOk P w H h) (e:H a=some o):a < h.objs.size:=(x a o e).lt
theorem HOk.fresh (x:HOk P w H h) (e:h.objs.size <= a):H a=none:=by
  cases q:H a with
  | none=>rfl
  | some u=>exact absurd (Nat.lt_of_lt_of_le (x.lt q) e) (Nat.lt_irrefl _)
theorem HOk.kept (x:HOk P w H h) (k:∀ b u,h.get? b=some u->h'.get? b=some u):HOk P w H h':=fun a o e=>
  (x a o e).stay (fun b u _ q=>k b u q) (fun _ q=>q) fun _ _ q=>q
theorem HOk.laid (x:HOk P w H h) (k:∀ b u,h.get? b=some u->h'.get? b=some u) (hp:h.objs.size <= a) (new:ObjOk P w (upd H a o) h' a o):HOk P w (upd H a o) h':=fun b u e=>by
  have hn:=x.fresh hp
  by_cases hb:b=a
  . subst hb; rw [A5] at e; cases e; exact new
  . rw [Ag hb] at e
    exact (x b u e).stay (fun c v _ q=>k c v q) (fun c q=>by rw [Ag (Bb q hn)]; exact q) fun c xs q=>by rw [Ag (Bb q hn)]; exact q
end
def Rd (H:Hp) (a:Addr) (u:HO):Prop:=H a=some u ∨ ∃ o,H a=some (.frz o u)
theorem Rd.ok {P:Program} {w:World} {H:Hp} {h:Heap} {a:Addr} {u:HO} (r:Rd H a u) (x:HOk P w H h):ObjOk P w H h a u:=by
  rcases r with r | ⟨o,r⟩
  . exact x a u r
  . obtain ⟨_,q⟩:=x a _ r
    exact q
def Mut:Option HO->Prop
  | some (.lst _)=>True
  | some (.dK _)=>True
  | some (.dT _)=>True
  | some (.set _ _)=>True
  | some (.ins _ _ _)=>True
  | some (.ext _)=>True
  | _=>False
section
variable {P:Program} {w:World} {H:Hp} {h h':Heap} {x e:Addr} {o':HO}
theorem HOk.write (ok:HOk P w H h) (mu:Mut (H x)) (he:e=x ∨ H e=some (.own x)) (k:∀ b u,b ≠ e->h.get? b=some u->h'.get? b=some u) (heo:∃ u,h'.get? e=some u)
    (new:ObjOk P w (upd H x o') h' x o'):HOk P w (upd H x o') h':=fun b u q=>by
  have nown:∀ c y,H c=some (.own y)->c ≠ x:=fun c y r z=>by subst z; rw [r] at mu; exact mu
  have ntup:∀ c xs,H c=some (.tup xs)->c ≠ x:=fun c xs r z=>by subst z; rw [r] at mu; exact mu
  by_cases hb:b=x
  . subst hb; rw [A5] at q; cases q; exact new
  . rw [Ag hb] at q
    by_cases hbe:b=e
    . have q':H b=some (.own x):=by
        rcases he with z | z
        . exact absurd (hbe.trans z) hb
        . rw [hbe]; exact z
      rw [q] at q'; cases q'
      obtain ⟨v,hv⟩:=heo
      exact ⟨v,by rw [hbe]; exact hv⟩
    . refine (ok b u q).stay (fun c v hc r=>k c v ?_ r) (fun c r=>by rw [Ag (nown c b r)]; exact r) fun c xs r=>by rw [Ag (ntup c xs r)]; exact r
      rcases hc with rfl | hc
      . exact hbe
      . rintro rfl
        rcases he with z | z
        . exact nown c b hc z
        . rw [hc] at z; cases z; exact hb rfl
end
structure Un (fs ex:List Addr) (H H':Hp) (h h':Heap):Prop where
  keep:∀ b o,h.get? b=some o->H b=none->b ∉ fs->b ∉ ex->h'.get? b=some o
  slot:∀ b o,h.get? b=some o->H b=none->b ∈ fs->b ∉ ex->∃ sl,h'.get? b=some { o with slots:=sl }
  free:∀ b o,h.get? b=some o->H b=none->b ∉ ex->H' b=none
  there:∀ b o,h.get? b=some o->b ∉ ex->∃ o',h'.get? b=some o'
  tups:∀ b xs,H b=some (.tup xs)->H' b=some (.tup xs)
  frzs:∀ b o u,H b=some (.frz o u)->H' b=some (.frz o u)
  tbls:∀ b ps,H b=some (.tbl ps)->∃ more,H' b=some (.tbl (ps ++ more))
section
variable {fs fs' ex ex':List Addr} {H H1 H2:Hp} {h h1 h2 h':Heap} {a x e:Addr} {o:HO}
theorem Un.any (u:Un fs ex H H1 h h1) {b:Addr} {ob:Obj} (q:h.get? b=some ob) (n:H b=none) (hx:b ∉ ex):∃ sl,h1.get? b=some { ob with slots:=sl }:=by
  by_cases hb:b ∈ fs
  . exact u.slot b ob q n hb hx
  . exact ⟨ob.slots,u.keep b ob q n hb hx⟩
theorem Un.kept (k:∀ b u,h.get? b=some u->h'.get? b=some u):Un fs ex H H h h':=
  ⟨fun b ob q _ _ _=>k b ob q,fun b ob q _ _ _=>⟨ob.slots,k b ob q⟩,fun _ _ _ n _=>n,fun b ob q _=>⟨ob,k b ob q⟩,fun _ _ q=>q,fun _ _ _ q=>q,fun _ ps q=>⟨#[],by rw [q]; simp⟩⟩
theorem Un.refl:Un fs ex H H h h:=Un.kept fun _ _ q=>q
theorem Un.laid (k:∀ b u,h.get? b=some u->h'.get? b=some u) (hp:h.objs.size <= a) (hn:H a=none):Un fs ex H (upd H a o) h h' where
  keep:=fun b u q _ _ _=>k b u q
  slot:=fun b u q _ _ _=>⟨u.slots,k b u q⟩
  free:=fun b u q n _=>by rw [Ag (Nat.ne_of_lt (Nat.lt_of_lt_of_le (Heap.lt_size q) hp))]; exact n
  there:=fun b u q _=>⟨u,k b u q⟩
  tups:=fun b xs q=>by rw [Ag (Bb q hn)]; exact q
  frzs:=fun b u xs q=>by rw [Ag (Bb q hn)]; exact q
  tbls:=fun b ps q=>⟨#[],by rw [Ag (Bb q hn),q]; simp⟩
theorem Un.write (mu:Mut (H x)) (he:e=x ∨ H e=some (.own x)) (k:∀ b u,b ≠ e->h.get? b=some u->h'.get? b=some u) (heo:∃ u,h'.get? e=some u):Un fs ex H (upd H x o) h h':=by
  have hx:∀ b,H b=none->b ≠ x:=fun b n z=>by subst z; rw [n] at mu; exact mu
  have hb:∀ b,H b=none->b ≠ e:=fun b n z=>by
    subst z
    rcases he with r | r
    . exact hx b n r
    . rw [n] at r; cases r
  have hm:∀ b u,H b=some u->¬ Mut (some u)->b ≠ x:=fun b u q nm z=>by subst z; rw [q] at mu; exact nm mu
  refine ⟨fun b u q n _ _=>k b u (hb b n) q,fun b u q n _ _=>⟨u.slots,k b u (hb b n) q⟩,fun b u q n _=>by rw [Ag (hx b n)]; exact n,fun b u q _=>?_,
    fun b xs q=>by rw [Ag (hm b _ q fun z=>z)]; exact q,fun b u xs q=>by rw [Ag (hm b _ q fun z=>z)]; exact q,fun b ps q=>⟨#[],by rw [Ag (hm b _ q fun z=>z),q]; simp⟩⟩
  by_cases hbe:b=e
  . subst hbe; exact heo
  . exact ⟨u,k b u hbe q⟩
end
def trk (h:Heap) (H:Hp):List Addr:=(List.range h.objs.size).filter fun a=>(H a).isSome
def Gr (h:Heap) (H:Hp):Heap:=PySem.W.hideAll h (trk h H)
theorem Kj (h:Heap) (H:Hp):(Gr h H).objs.size=h.objs.size:=PySem.W.hideAll_size _ _
theorem ML {h:Heap} {H:Hp} {b:Addr} {o:Obj} (e:h.get? b=some o) (n:H b=none):(Gr h H).get? b=some o:=
  PySem.W.hideAll_get _ e fun hm=>by
    have q:(H b).isSome=true:=(List.mem_filter.mp hm).2
    rw [n] at q; simp at q
theorem Nr {h:Heap} {H:Hp} {b:Addr} {o:Obj} (e:(Gr h H).get? b=some o):h.get? b=some o /\ H b=none:=by
  have e':h.get? b=some o:=PySem.W.of_hideAll (trk h H) e
  refine ⟨e',?_⟩
  cases q:H b with
  | none=>rfl
  | some x=>
    have hm:b ∈ trk h H:=List.mem_filter.mpr ⟨List.mem_range.mpr (Heap.lt_size e'),by simp [q]⟩
    have z:(Gr h H).get? b=none:=PySem.W.hideAll_none (trk h H) hm
    rw [z] at e; cases e
end L2
namespace L2
open PySem PySem.Spec PyProof.Rows
structure Mod (K:PySem.W.Frag) (mg:Str->Option Value) (base:Heap):Prop where
  kin:K.In base
  glob:base.Ns mainGlobals mg
  blt:∃ mb,base.Ns builtinsNs mb /\ ∀ x:Str,x ≠ "__name__" -> mb x=bootBuiltins x
  nolimit:base.NoLimit
structure Cx where
  prog:Program
  w:World
  K:PySem.W.Frag
  mg:Str->Option Value
  base:Heap
  A:Around
  N:List Str
  s₀:Shared
  H₀:Hp
  env:Env
  outer:List Env
  stack:List Env
  ex:List Addr
  fn:Str->Bool
  calm:Bool
  pn:List (Addr × Obj)
  xe:Value->Shared->Prop
def frs (l:List Env):List Addr:=l.filterMap (·.frame)
abbrev Cx.fs (X:Cx):List Addr:=frs X.outer
def Vis (sc:Scope) (x:Str):Prop:=sc.names.lookup x=some .local ∨ sc.names.lookup x=some .cell ∨ sc.names.lookup x=some .free
def Loc (sc:Scope) (x:Str):Prop:=sc.names.lookup x=some .local ∨ sc.names.lookup x=some .cell
def Rk (env:Env) (h:Heap) (m:Str->Option Value) (x:Str) (u:Value):Prop:=
  (env.kindOf x=some .local /\ m x=some u) ∨ ((env.kindOf x=some .cell ∨ env.kindOf x=some .free) /\ ∃ c,env.cells.lookup x=some c /\ h.IsCell c (some u))
structure Cx.Ok (X:Cx):Prop where
  mod:Mod X.K X.mg X.base
  kind:X.env.scope.kind=.function
  glob:X.env.globals=mainGlobals
  blt:X.env.builtins=builtinsNs
  above:X.s₀.heap.objs.size <= X.env.locals
  inj:∀ x y c,X.env.cells.lookup x=some c->X.env.cells.lookup y=some c->x=y
  has:∀ x,(X.env.kindOf x=some .cell ∨ X.env.kindOf x=some .free)->∃ c,X.env.cells.lookup x=some c
  cab:∀ x c,X.fn x=true->X.env.cells.lookup x=some c->X.s₀.heap.objs.size <= c
  hd:X.calm=true->X.A.handled=none
  frames:X.A.frames=some X.stack
  stk:X.stack=X.outer ∨ (X.stack=X.env :: X.outer /\ X.env.frame=some X.env.locals)
  exf:∀ b ∈ X.ex,b ≠ X.env.locals /\ ∀ x c,X.env.cells.lookup x=some c->c ≠ b
  bs:∀ b o,X.base.get? b=some o->X.s₀.heap.get? b=some o /\ X.H₀ b=none
  bsz:X.base.objs.size <= X.s₀.heap.objs.size
  noex:∀ b o,X.base.get? b=some o->b ∉ X.ex
  exfs:∀ b ∈ X.ex,b ∉ X.fs
  funs:X.s₀.heap.FunFrames X.base X.outer
  frf:∀ b ∈ X.fs,X.H₀ b=none
structure Inv (X:Cx) (pins:List (Addr × Obj)) (σ:List (Option V)) (H:Hp) (s:Shared):Prop where
  ok:X.Ok
  os:s.os=X.s₀.os
  bare:AllBare s.gens
  base:Un X.fs X.ex X.H₀ H X.s₀.heap s.heap
  loc:∃ m,s.heap.Ns X.env.locals m /\ ∀ (i:Nat) (x:Str) (v:V),X.N[i]? = some x->σ[i]? = some (some v)->Vis X.env.scope x->∃ u,RelV v u /\ Rk X.env s.heap m x u
  cell:∀ x c,X.env.cells.lookup x=some c->∃ v,s.heap.IsCell c v
  free:H X.env.locals=none
  freeC:∀ x c,X.env.cells.lookup x=some c->H c=none
  pin:∀ p ∈ X.pn ++ pins,s.heap.get? p.1=some p.2 /\ H p.1=none /\ p.1 ≠ X.env.locals /\ p.1 ∉ X.fs /\ ∀ v,p.2.data ≠ .cell v
  hok:HOk X.prog X.w H s.heap
  len:σ.length=X.N.length
section
variable {X:Cx} {pins:List (Addr × Obj)} {σ:List (Option V)} {H H':Hp} {s:Shared} {h':Heap}
theorem Cx.Ok.nofr (ok:X.Ok) {b:Addr} {o:Obj} (e:X.base.get? b=some o):b ∉ X.fs:=fun hb=>by
  have:=(ok.funs.mem hb).1
  rw [e] at this; cases this
theorem Inv.bs (I:Inv X pins σ H s):∀ b o,X.base.get? b=some o->s.heap.get? b=some o /\ H b=none:=fun b o e=>
  ⟨I.base.keep b o (I.ok.bs b o e).1 (I.ok.bs b o e).2 (I.ok.nofr e) (I.ok.noex b o e),I.base.free b o (I.ok.bs b o e).1 (I.ok.bs b o e).2 (I.ok.noex b o e)⟩
theorem Inv.bk (I:Inv X pins σ H s):∀ b o,X.base.get? b=some o->s.heap.get? b=some o:=fun b o e=>(I.bs b o e).1
theorem Inv.mod (I:Inv X pins σ H s):Mod X.K X.mg X.base:=I.ok.mod
theorem Inv.kIn (I:Inv X pins σ H s):X.K.In s.heap:=I.ok.mod.kin.keeps I.bk
theorem Inv.fr (I:Inv X pins σ H s):∃ m,Fr X.base X.env.locals s.heap m:=
  let ⟨m,hn,_⟩:=I.loc
  ⟨m,hn,I.bk,Nat.le_trans I.ok.bsz I.ok.above⟩
theorem Inv.lt (I:Inv X pins σ H s):X.env.locals < s.heap.objs.size:=let ⟨_,hn,_⟩:=I.loc; hn.lt
theorem Inv.sz (I:Inv X pins σ H s):X.s₀.heap.objs.size <= s.heap.objs.size:=Nat.le_trans I.ok.above (Nat.le_of_lt I.lt)
theorem Inv.nofs (I:Inv X pins σ H s) {a:Addr} (h:s.heap.objs.size <= a):a ∉ X.fs:=fun hb=>by
  obtain ⟨_,o,ho,_⟩:=I.ok.funs.mem hb
  exact absurd (Nat.lt_of_lt_of_le (Heap.lt_size ho) (Nat.le_trans I.sz h)) (Nat.lt_irrefl _)
theorem Inv.cne (I:Inv X pins σ H s):∀ x c,X.env.cells.lookup x=some c->c ≠ X.env.locals:=fun x c e z=>by
  obtain ⟨v,o,ho,hd⟩:=I.cell x c e
  obtain ⟨m,⟨o',es,ep,ho',hd',_⟩,_⟩:=I.loc
  rw [z,ho'] at ho; cases ho; rw [hd'] at hd; cases hd
theorem Inv.funs (I:Inv X pins σ H s):s.heap.FunFrames X.base X.outer:=by
  have all:∀ (l:List Env),(∀ b ∈ frs l,b ∈ X.fs)->X.s₀.heap.FunFrames X.base l->s.heap.FunFrames X.base l:=by
    intro l
    induction l with
    | nil=>intro _ _; trivial
    | cons env r ih=>
      intro hs hl
      obtain ⟨hk,⟨L,o,hf,hn,ho,hd⟩,hr⟩:=hl
      have hL:L ∈ X.fs:=hs L (by unfold frs; rw [List.filterMap_cons,hf]; exact List.mem_cons_self)
      obtain ⟨sl,e⟩:=I.base.slot L o ho (I.ok.frf L hL) hL fun z=>I.ok.exfs L z hL
      exact ⟨hk,⟨L,_,hf,hn,e,hd⟩,ih (fun b hb=>hs b (by unfold frs; rw [List.filterMap_cons,hf]; exact List.mem_cons_of_mem _ hb)) hr⟩
  exact all X.outer (fun _ hb=>hb) I.ok.funs
theorem Inv.stack (I:Inv X pins σ H s):s.heap.FunFrames X.base X.stack:=by
  rcases I.ok.stk with e | ⟨e,hf⟩
  . rw [e]; exact I.funs
  . rw [e]
    obtain ⟨m,hn,_⟩:=I.loc
    refine .cons (by rw [I.ok.kind]; decide) hf hn ?_ I.funs
    exact Heap.get?_none_of_le (Nat.le_trans I.ok.bsz I.ok.above)
theorem Inv.stkSub (I:Inv X pins σ H s):∀ b ∈ frs X.stack,b ∈ X.env.locals :: X.fs:=fun b hb=>by
  rcases I.ok.stk with e | ⟨e,hf⟩
  . rw [e] at hb; exact List.mem_cons_of_mem _ hb
  . rw [e] at hb
    unfold frs at hb
    rw [List.filterMap_cons,hf] at hb
    exact hb
theorem Inv.stkFree (I:Inv X pins σ H s):∀ b ∈ frs X.stack,H b=none:=fun b hb=>by
  rcases List.mem_cons.mp (I.stkSub b hb) with e | hb
  . rw [e]; exact I.free
  . obtain ⟨_,o,ho,_⟩:=I.ok.funs.mem hb
    exact I.base.free b o ho (I.ok.frf b hb) fun z=>I.ok.exfs b z hb
theorem Inv.step {g':Array GenState} {t':Nat} {d':Drawn} {ch:List Addr} (I:Inv X pins σ H s)
    (hch:∀ b ∈ ch,(b ∈ X.ex ∨ X.s₀.heap.objs.size <= b) /\ b ≠ X.env.locals /\ (∀ x c,X.env.cells.lookup x=some c->c ≠ b) /\ ∀ p ∈ X.pn ++ pins,p.1 ≠ b)
    (keep:∀ b o,b ≠ X.env.locals->b ∉ X.fs->b ∉ ch->s.heap.get? b=some o->H b=none->h'.get? b=some o)
    (slot:∀ b o,b ≠ X.env.locals->b ∈ X.fs->b ∉ ch->s.heap.get? b=some o->H b=none->∃ sl,h'.get? b=some { o with slots:=sl }) (free:∀ b o,b ∉ ch->s.heap.get? b=some o->H b=none->H' b=none)
    (there:∀ b o,b ∉ ch->s.heap.get? b=some o->∃ o',h'.get? b=some o')
    (tups:∀ b xs,H b=some (.tup xs)->H' b=some (.tup xs)) (frzs:∀ b o u,H b=some (.frz o u)->H' b=some (.frz o u)) (tbls:∀ b ps,H b=some (.tbl ps)->∃ more,H' b=some (.tbl (ps ++ more)))
    (ns:∀ m,s.heap.Ns X.env.locals m->h'.Ns X.env.locals m) (hok:HOk X.prog X.w H' h') (hg:AllBare g') :
    Inv X pins σ H' { s with heap:=h',gens:=g',drawn:=d',toks:=t' }:=by
  have neL:∀ b o,X.s₀.heap.get? b=some o->b ≠ X.env.locals:=fun b o e=>Nat.ne_of_lt (Nat.lt_of_lt_of_le (Heap.lt_size e) I.ok.above)
  have neC:∀ b o,X.s₀.heap.get? b=some o->b ∉ X.ex->b ∉ ch:=fun b o e hx hb=>by
    rcases (hch b hb).1 with z | z
    . exact hx z
    . exact absurd (Nat.lt_of_lt_of_le (Heap.lt_size e) z) (Nat.lt_irrefl _)
  have cellK:∀ x c,X.env.cells.lookup x=some c->∀ v,s.heap.IsCell c v->h'.IsCell c v:=fun x c e v ⟨o,ho,hd⟩=>by
    have nch:c ∉ ch:=fun z=>(hch c z).2.2.1 x c e rfl
    by_cases hc:c ∈ X.fs
    . obtain ⟨sl,q⟩:=slot c o (I.cne x c e) hc nch ho (I.freeC x c e)
      exact ⟨_,q,hd⟩
    . exact ⟨o,keep c o (I.cne x c e) hc nch ho (I.freeC x c e),hd⟩
  refine ⟨I.ok,I.os,hg,⟨fun b o e n hb hx=>?_,fun b o e n hb hx=>?_,fun b o e n hx=>?_,fun b o e hx=>?_,fun b xs e=>tups b xs (I.base.tups b xs e),fun b o xs e=>frzs b o xs (I.base.frzs b o xs e),fun b ps e=>?_⟩,?_,fun x c e=>?_,?_,fun x c e=>?_,fun p hp=>?_,hok,I.len⟩
  . exact keep b o (neL b o e) hb (neC b o e hx) (I.base.keep b o e n hb hx) (I.base.free b o e n hx)
  . obtain ⟨sl,e1⟩:=I.base.slot b o e n hb hx
    obtain ⟨sl',e2⟩:=slot b _ (neL b o e) hb (neC b o e hx) e1 (I.base.free b o e n hx)
    exact ⟨sl',e2⟩
  . obtain ⟨o',e1⟩:=I.base.there b o e hx
    exact free b o' (neC b o e hx) e1 (I.base.free b o e n hx)
  . obtain ⟨o',e1⟩:=I.base.there b o e hx
    exact there b o' (neC b o e hx) e1
  . obtain ⟨m1,e1⟩:=I.base.tbls b ps e
    obtain ⟨m2,e2⟩:=tbls b _ e1
    exact ⟨m1 ++ m2,by rw [e2,Array.append_assoc]⟩
  . obtain ⟨m,hn,hl⟩:=I.loc
    refine ⟨m,ns m hn,fun i x v e1 e2 e3=>?_⟩
    obtain ⟨u,r,l⟩:=hl i x v e1 e2 e3
    refine ⟨u,r,?_⟩
    rcases l with l | ⟨k,c,e,z⟩
    . exact .inl l
    . exact .inr ⟨k,c,e,cellK x c e _ z⟩
  . obtain ⟨v,z⟩:=I.cell x c e
    exact ⟨v,cellK x c e v z⟩
  . obtain ⟨m,⟨o,_,_,ho,_⟩,_⟩:=I.loc
    exact free _ o (fun z=>(hch _ z).2.1 rfl) ho I.free
  . obtain ⟨v,o,ho,hd⟩:=I.cell x c e
    exact free c o (fun z=>(hch c z).2.2.1 x c e rfl) ho (I.freeC x c e)
  . obtain ⟨e,n,ne,nf,d⟩:=I.pin p hp
    have nch:p.1 ∉ ch:=fun z=>(hch p.1 z).2.2.2 p hp rfl
    exact ⟨keep p.1 p.2 ne nf nch e n,free p.1 p.2 nch e n,ne,nf,d⟩
theorem Inv.un {t':Nat} (I:Inv X pins σ H s) (u:Un X.fs [] H H' s.heap h') (hok:HOk X.prog X.w H' h'):Inv X pins σ H' { s with heap:=h',toks:=t' }:=by
  obtain ⟨m,⟨o,es,ep,ho,r⟩,_⟩:=id I.loc
  obtain ⟨sl,hL⟩:=u.any ho I.free (by simp)
  exact I.step (g':=s.gens) (d':=s.drawn) (ch:=[]) (fun _ z=>nomatch z) (fun b o _ hb _ e n=>u.keep b o e n hb (by simp)) (fun b o _ hb _ e n=>u.slot b o e n hb (by simp)) (fun b o _ e n=>u.free b o e n (by simp)) (fun b o _ e=>u.there b o e (by simp)) u.tups u.frzs u.tbls (fun m' hm=>by
    obtain ⟨o',es',ep',ho',r'⟩:=hm
    rw [ho] at ho'; cases ho'
    exact ⟨_,es',ep',hL,r'⟩) hok I.bare
theorem Inv.call {g':Array GenState} {t':Nat} {d':Drawn} {ch:List Addr} (I:Inv X pins σ H s) (u:Un (frs X.stack) ch H H' s.heap h') (hok:HOk X.prog X.w H' h') (hg:AllBare g')
    (hch:∀ b ∈ ch,(b ∈ X.ex ∨ X.s₀.heap.objs.size <= b) /\ b ≠ X.env.locals /\ (∀ x c,X.env.cells.lookup x=some c->c ≠ b) /\ ∀ p ∈ X.pn ++ pins,p.1 ≠ b) :
    Inv X pins σ H' { s with heap:=h',gens:=g',drawn:=d',toks:=t' }:=by
  obtain ⟨m,⟨o,es,ep,ho,r⟩,_⟩:=id I.loc
  obtain ⟨sl,hL⟩:=u.any ho I.free fun z=>(hch _ z).2.1 rfl
  exact I.step (ch:=ch) hch (fun b o hL hb hc e n=>u.keep b o e n (fun z=>(List.mem_cons.mp (I.stkSub b z)).elim hL hb) hc) (fun b o _ _ hc e n=>u.any e n hc) (fun b o hc e n=>u.free b o e n hc) (fun b o hc e=>u.there b o e hc) u.tups u.frzs u.tbls (fun m' hm=>by
    obtain ⟨o',es',ep',ho',r'⟩:=hm
    rw [ho] at ho'; cases ho'
    exact ⟨_,es',ep',hL,r'⟩) hok hg
theorem Inv.turned {t':Nat} {it:Addr} (I:Inv X pins σ H s) (k:∀ b o,b ≠ it->s.heap.get? b=some o->h'.get? b=some o) (hn:H it=none) (hL:it ≠ X.env.locals)
    (h1:it ∈ X.ex ∨ X.s₀.heap.objs.size <= it) (h2:∀ x c,X.env.cells.lookup x=some c->c ≠ it) (h3:∀ p ∈ X.pn ++ pins,p.1 ≠ it):Inv X pins σ H { s with heap:=h',toks:=t' }:=by
  have nit:∀ b u,H b=some u->b ≠ it:=fun b u e z=>by rw [z,hn] at e; cases e
  refine I.step (g':=s.gens) (d':=s.drawn) (ch:=[it]) (fun b hb=>?_) (fun b o _ _ hc e _=>k b o (fun z=>hc (by simp [z])) e) (fun b o _ _ hc e _=>⟨o.slots,k b o (fun z=>hc (by simp [z])) e⟩) (fun _ _ _ _ n=>n)
    (fun b o hc e=>⟨o,k b o (fun z=>hc (by simp [z])) e⟩) (fun _ _ e=>e) (fun _ _ _ e=>e) (fun b ps e=>⟨#[],by rw [e]; simp⟩) (fun m hm=>?_) (fun b u e=>?_) I.bare
  . have e:b=it:=by simpa using hb
    subst e
    exact ⟨h1,hL,h2,h3⟩
  . obtain ⟨o,es,ep,ho,r⟩:=hm
    exact ⟨o,es,ep,k _ o (Ne.symm hL) ho,r⟩
  . refine (I.hok b u e).stay (fun c v hc q=>k c v ?_ q) (fun _ q=>q) fun _ _ q=>q
    rcases hc with z | z
    . rw [z]; exact nit b u e
    . exact nit c _ z
theorem Inv.tok (I:Inv X pins σ H s) (t:Nat):Inv X pins σ H { s with toks:=t }:=I.un (h':=s.heap) (t':=t) Un.refl I.hok
theorem Inv.kept {t':Nat} (I:Inv X pins σ H s) (k:∀ b u,s.heap.get? b=some u->h'.get? b=some u):Inv X pins σ H { s with heap:=h',toks:=t' }:=I.un (Un.kept k) (I.hok.kept k)
theorem Inv.laid {a:Addr} {o:HO} {t':Nat} (I:Inv X pins σ H s) (k:∀ b u,s.heap.get? b=some u->h'.get? b=some u) (hp:s.heap.objs.size <= a) (new:ObjOk X.prog X.w (upd H a o) h' a o) :
    Inv X pins σ (upd H a o) { s with heap:=h',toks:=t' }:=I.un (Un.laid k hp (I.hok.fresh hp)) (I.hok.laid k hp new)
theorem Inv.write {x e:Addr} {o:HO} {t':Nat} (I:Inv X pins σ H s) (mu:Mut (H x)) (he:e=x ∨ H e=some (.own x)) (k:∀ b u,b ≠ e->s.heap.get? b=some u->h'.get? b=some u) (heo:∃ u,h'.get? e=some u)
    (new:ObjOk X.prog X.w (upd H x o) h' x o):Inv X pins σ (upd H x o) { s with heap:=h',toks:=t' }:=I.un (Un.write mu he k heo) (I.hok.write mu he k heo new)
theorem Inv.weak {σ':List (Option V)} (I:Inv X pins σ H s) (hl:σ'.length=σ.length) (w:∀ (i:Nat) v,σ'[i]? = some (some v)->σ[i]? = some (some v)):Inv X pins σ' H s:=
  ⟨I.ok,I.os,I.bare,I.base,let ⟨m,hn,hl'⟩:=I.loc; ⟨m,hn,fun i x v e1 e2 e3=>hl' i x v e1 (w i v e2) e3⟩,I.cell,I.free,I.freeC,I.pin,I.hok,hl.trans I.len⟩
theorem Inv.pins_of {pins':List (Addr × Obj)} (I:Inv X pins σ H s) (h:∀ p ∈ pins',s.heap.get? p.1=some p.2 /\ H p.1=none /\ p.1 ≠ X.env.locals /\ p.1 ∉ X.fs /\ ∀ v,p.2.data ≠ .cell v):Inv X pins' σ H s:=
  ⟨I.ok,I.os,I.bare,I.base,I.loc,I.cell,I.free,I.freeC,fun p hp=>(List.mem_append.mp hp).elim (fun z=>I.pin p (List.mem_append_left _ z)) (h p),I.hok,I.len⟩
theorem HQ {N:List Str} (hN:N.Nodup) {i j:Nat} {x:Str} (a:N[i]? = some x) (b:N[j]? = some x):i=j:=by
  obtain ⟨h1,e1⟩:=List.getElem?_eq_some_iff.mp a
  obtain ⟨h2,e2⟩:=List.getElem?_eq_some_iff.mp b
  exact (List.getElem_inj hN).mp (e1.trans e2.symm)
theorem F1 {M:Model} {A:Around} {E:Value->Shared->Prop} {i:Nat} {x:Str} {v:V} {u:Value} {Q:Unit->Shared->Prop} (I:Inv X pins σ H s) (hN:X.N.Nodup) (hi:X.N[i]? = some x) (hx:Loc X.env.scope x) (r:RelV v u)
    (h:∀ s',Inv X pins (σ.set i (some v)) H s'->(∃ a,Heap.SameBut a s.heap s'.heap /\ (a=X.env.locals ∨ X.env.cells.lookup x=some a))->Q () s') (hf:X.fn x=true ∨ X.env.scope.names.lookup x=some .local:=by first | exact .inl rfl | exact .inr rfl | assumption):wpAny M A (storeName X.env x u) Q E s:=by
  obtain ⟨m,hn,hl⟩:=id I.loc
  have hcls:(X.env.scope.kind == .class || (X.env.scope.kind == .module && X.env.locals != X.env.globals))=false:=by rw [I.ok.kind]; rfl
  have hiσ:i < σ.length:=by rw [I.len]; exact (List.getElem?_eq_some_iff.mp hi).1
  have cne:=I.cne
  have tracked:∀ {a:Addr} {h':Heap},(∃ o,s.heap.get? a=some o /\ H a=none)->Heap.SameBut a s.heap h'->HOk X.prog X.w H h':=fun {a h'} ha hs b ob e=>by
    obtain ⟨_,_,hfree⟩:=ha
    refine (I.hok b ob e).stay (fun c w' hc q=>(hs.2 c ?_).trans q) (fun _ q=>q) fun _ _ q=>q
    rintro rfl
    rcases hc with rfl | hc
    . rw [hfree] at e; cases e
    . rw [hfree] at hc; cases hc
  rcases hx with hk | hk
  . refine wpAny_storeName_local hk hn (fun h' hn' hs=>?_) hcls
    obtain ⟨oL,_,_,hoL,_⟩:=id hn
    refine h _ ⟨I.ok,I.os,I.bare,⟨fun b o e n hb hx=>?_,fun b o e n hb hx=>?_,I.base.free,fun b o e hx=>?_,I.base.tups,I.base.frzs,I.base.tbls⟩,⟨_,hn',fun j y v' e1 e2 e3=>?_⟩,fun y c e=>?_,I.free,I.freeC,fun p hp=>?_,tracked ⟨oL,hoL,I.free⟩ hs,by simpa using I.len⟩ ⟨_,hs,.inl rfl⟩
    . exact (hs.2 b (Nat.ne_of_lt (Nat.lt_of_lt_of_le (Heap.lt_size e) I.ok.above))).trans (I.base.keep b o e n hb hx)
    . obtain ⟨sl,e1⟩:=I.base.slot b o e n hb hx
      exact ⟨sl,(hs.2 b (Nat.ne_of_lt (Nat.lt_of_lt_of_le (Heap.lt_size e) I.ok.above))).trans e1⟩
    . obtain ⟨o',e1⟩:=I.base.there b o e hx
      exact ⟨o',(hs.2 b (Nat.ne_of_lt (Nat.lt_of_lt_of_le (Heap.lt_size e) I.ok.above))).trans e1⟩
    . by_cases hj:j=i
      . subst hj
        rw [hi] at e1; cases e1
        rw [List.getElem?_set_self hiσ] at e2
        cases e2
        exact ⟨u,r,.inl ⟨hk,by simp⟩⟩
      . rw [List.getElem?_set_ne (Ne.symm hj)] at e2
        obtain ⟨u',r',q⟩:=hl j y v' e1 e2 e3
        refine ⟨u',r',?_⟩
        rcases q with ⟨k,e⟩ | ⟨k,c,e,z⟩
        . refine .inl ⟨k,?_⟩
          have:y ≠ x:=fun e=>hj (HQ hN e1 (e ▸ hi))
          simp [this,e]
        . exact .inr ⟨k,c,e,z.sameBut hs (cne y c e)⟩
    . obtain ⟨w',z⟩:=I.cell y c e
      exact ⟨w',z.sameBut hs (cne y c e)⟩
    . obtain ⟨e,n,ne,nf,d⟩:=I.pin p hp
      exact ⟨(hs.2 p.1 ne).trans e,n,ne,nf,d⟩
  . have hfn:X.fn x=true:=by
      rcases hf with z | z
      . exact z
      . rw [z] at hk; cases hk
    obtain ⟨c,hc⟩:=I.ok.has x (.inl hk)
    obtain ⟨w',z⟩:=I.cell x c hc
    refine wpAny_storeName_cell I.ok.kind hk hc z (fun h' hc' hs=>?_)
    obtain ⟨oc,hoc,hocd⟩:=id z
    refine h { s with heap:=h' } ⟨I.ok,I.os,I.bare,⟨fun b o e n hb hx=>?_,fun b o e n hb hx=>?_,I.base.free,fun b o e hx=>?_,I.base.tups,I.base.frzs,I.base.tbls⟩,⟨m,hn.sameBut hs (Ne.symm (cne x c hc)),fun j y v' e1 e2 e3=>?_⟩,fun y c' e=>?_,I.free,I.freeC,fun p hp=>?_,tracked ⟨oc,hoc,I.freeC x c hc⟩ hs,by simpa using I.len⟩ ⟨c,hs,.inr hc⟩
    . exact (hs.2 b (Nat.ne_of_lt (Nat.lt_of_lt_of_le (Heap.lt_size e) (I.ok.cab x c hfn hc)))).trans (I.base.keep b o e n hb hx)
    . obtain ⟨sl,e1⟩:=I.base.slot b o e n hb hx
      exact ⟨sl,(hs.2 b (Nat.ne_of_lt (Nat.lt_of_lt_of_le (Heap.lt_size e) (I.ok.cab x c hfn hc)))).trans e1⟩
    . obtain ⟨o',e1⟩:=I.base.there b o e hx
      exact ⟨o',(hs.2 b (Nat.ne_of_lt (Nat.lt_of_lt_of_le (Heap.lt_size e) (I.ok.cab x c hfn hc)))).trans e1⟩
    . by_cases hj:j=i
      . subst hj
        rw [hi] at e1; cases e1
        rw [List.getElem?_set_self hiσ] at e2
        cases e2
        exact ⟨u,r,.inr ⟨.inl hk,c,hc,hc'⟩⟩
      . rw [List.getElem?_set_ne (Ne.symm hj)] at e2
        obtain ⟨u',r',q⟩:=hl j y v' e1 e2 e3
        refine ⟨u',r',?_⟩
        rcases q with q | ⟨k,c',e,z'⟩
        . exact .inl q
        . refine .inr ⟨k,c',e,z'.sameBut hs ?_⟩
          rintro rfl
          exact hj (HQ hN e1 (I.ok.inj _ _ _ e hc ▸ hi))
    . by_cases hcc:c'=c
      . subst hcc; exact ⟨_,hc'⟩
      . obtain ⟨w2,z2⟩:=I.cell y c' e
        exact ⟨w2,z2.sameBut hs hcc⟩
    . obtain ⟨e,n,ne,nf,d⟩:=I.pin p hp
      refine ⟨(hs.2 p.1 ?_).trans e,n,ne,nf,d⟩
      intro q
      rw [q,hoc] at e
      have q':oc=p.2:=Option.some.inj e
      exact d w' (by rw [← q']; exact hocd)
theorem G9 {M:Model} {A:Around} {E:Value->Shared->Prop} {i:Nat} {x:Str} {v:V} {u:Value} {Q:Unit->Shared->Prop} (I:Inv X pins σ H s) (hN:X.N.Nodup) (hi:X.N[i]? = some x) (hx:Loc X.env.scope x) (r:RelV v u)
    (h:∀ s',Inv X pins (σ.set i (some v)) H s'->Q () s') (hf:X.fn x=true ∨ X.env.scope.names.lookup x=some .local:=by first | exact .inl rfl | exact .inr rfl | assumption):wpAny M A (storeName X.env x u) Q E s:=
  F1 I hN hi hx r (fun s' I' _=>h s' I') hf
theorem Inv.call' {s':Shared} {ch:List Addr} (I:Inv X pins σ H s) (ho:s'.os=s.os) (u:Un (frs X.stack) ch H H' s.heap s'.heap) (hok:HOk X.prog X.w H' s'.heap) (hg:AllBare s'.gens)
    (hch:∀ b ∈ ch,(b ∈ X.ex ∨ X.s₀.heap.objs.size <= b) /\ b ≠ X.env.locals /\ (∀ x c,X.env.cells.lookup x=some c->c ≠ b) /\ ∀ p ∈ X.pn ++ pins,p.1 ≠ b):Inv X pins σ H' s':=by
  obtain ⟨h',g',d',t',o'⟩:=s'
  have e:o'=s.os:=ho
  subst e
  exact I.call (g':=g') (t':=t') (d':=d') u hok hg hch
end
abbrev XK:=Value->Option Addr->Hp->Prop
abbrev St:=List (Option V)
abbrev VK:=V->Hp->Prop
abbrev TE:=St->Hp->VK->Prop
abbrev TT:=St->Hp->(Bool->Hp->Prop)->Prop
abbrev TA:=St->Hp->(List V->Hp->Prop)->Prop
structure Iw where
  nx:St->Hp->Prop
  rt:VK
  bk:St->Hp->Prop:=fun _ _=>False
  ct:St->Hp->Prop:=fun _ _=>False
abbrev TS:=Iw->St->Hp->Prop
def EP (X:Cx) (pins:List (Addr × Obj)) (σ:St) (Q:VK) (u:Value) (s':Shared):Prop:=∃ v H',Inv X pins σ H' s' /\ RelV v u /\ Q v H'
def TP (X:Cx) (pins:List (Addr × Obj)) (σ:St) (Q:Bool->Hp->Prop) (b:Bool) (s':Shared):Prop:=∃ H',Inv X pins σ H' s' /\ Q b H'
def AP (X:Cx) (pins:List (Addr × Obj)) (σ:St) (Q:List V->Hp->Prop) (us:List Value) (s':Shared):Prop:=∃ vs H',Inv X pins σ H' s' /\ Vals vs us /\ Q vs H'
def SP (X:Cx) (pins:List (Addr × Obj)) (D:Iw) (f:Flow) (s':Shared):Prop:=
  match f with
  | .next=>∃ σ' H',Inv X pins σ' H' s' /\ D.nx σ' H'
  | .brk=>∃ σ' H',Inv X pins σ' H' s' /\ D.bk σ' H'
  | .cont=>∃ σ' H',Inv X pins σ' H' s' /\ D.ct σ' H'
  | .ret u=>∃ v σ' H',Inv X pins σ' H' s' /\ RelV v u /\ D.rt v H'
def PE (X:Cx) (e:Expr) (t:TE):Prop:=
  ∀ (pins:List (Addr × Obj)) (s:Shared) (σ:St) (H:Hp) (Q:VK),Inv X pins σ H s->t σ H Q->wpAny (model X.prog X.w) X.A (eval e X.env) (EP X pins σ Q) X.xe s
def PT (X:Cx) (e:Expr) (t:TT):Prop:=
  ∀ (pins:List (Addr × Obj)) (s:Shared) (σ:St) (H:Hp) (Q:Bool->Hp->Prop),Inv X pins σ H s->t σ H Q->wpAny (model X.prog X.w) X.A (isTrue e X.env (eval e X.env)) (TP X pins σ Q) X.xe s
def PW (X:Cx) (e:Expr) (t:TT):Prop:=
  ∀ (whole:Sem Value) (pins:List (Addr × Obj)) (s:Shared) (σ:St) (H:Hp) (Q:Bool->Hp->Prop),Inv X pins σ H s->t σ H Q->wpAny (model X.prog X.w) X.A (isTrue e X.env whole) (TP X pins σ Q) X.xe s
theorem PW.pt {X:Cx} {e:Expr} {t:TT} (h:PW X e t):PT X e t:=h _
def PA (X:Cx) (es:List Expr) (t:TA):Prop:=
  ∀ (pos:Pos) (pins:List (Addr × Obj)) (s:Shared) (σ:St) (H:Hp) (Q:List V->Hp->Prop),Inv X pins σ H s->t σ H Q->wpAny (model X.prog X.w) X.A (spliced (backTo pos (starEach es X.env))) (AP X pins σ Q) X.xe s
def PS (X:Cx) (st:Stmt) (t:TS):Prop:=
  ∀ (pins:List (Addr × Obj)) (s:Shared) (σ:St) (H:Hp) (D:Iw),Inv X pins σ H s->t D σ H->wpAny (model X.prog X.w) X.A (exec st X.env) (SP X pins D) X.xe s
def PSs (X:Cx) (st:List Stmt) (t:TS):Prop:=
  ∀ (pins:List (Addr × Obj)) (s:Shared) (σ:St) (H:Hp) (D:Iw),Inv X pins σ H s->t D σ H->wpAny (model X.prog X.w) X.A (execs st X.env) (SP X pins D) X.xe s
theorem thn {α:Type} {t:Sem α} {Q Q':α->Shared->Prop} {M:Model} {A:Around} {E:Value->Shared->Prop} {s:Shared} (h:wpAny M A t Q E s) (hQ:∀ a s,Q a s->Q' a s):wpAny M A t Q' E s:=wpAny_mono h hQ fun _ _ x=>x
end L2
namespace L2
open PySem PySem.Spec PyProof.Rows
section
variable {X:Cx}
def Q9 (i:Nat):TE:=fun σ H Q=>∃ v,σ[i]? = some (some v) /\ Q v H
def tC (v:V):TE:=fun _ H Q=>Q v H
theorem PC {i:Nat} {x:Str} {pos:Pos} (hN:X.N[i]? = some x) (hv:Vis X.env.scope x) (hd:(x == ("__debug__" : Str))=false:=by decide) (hcd:(x == ("__classdict__" : Str))=false:=by decide):PE X (.Name x pos) (Q9 i):=by
  intro pins s σ H Q I h
  obtain ⟨v,e,h⟩:=h
  obtain ⟨m,hn,hl⟩:=I.loc
  obtain ⟨u,r,l⟩:=hl i x v hN e hv
  have fin:EP X pins σ Q u s:=⟨v,H,I,r,h⟩
  rcases l with ⟨hk,hm⟩ | ⟨hk,c,hc,hcell⟩
  . exact wpAny_Name (wpAny_loadName_local I.ok.kind hk hn hm fin) hd
  . rcases hk with hk | hk
    . exact wpAny_Name (wpAny_loadName_cell I.ok.kind hk hc hcell fin) hd
    . exact wpAny_Name (wpAny_loadName_free I.ok.kind hk hc hcell fin hcd) hd
theorem PJ {i j pos}:PE X (.Constant (.int i) j pos) (tC (.int i)):=fun _ _ _ H _ I h=>wpAny_Constant_int ⟨.int i,H,I.tok _,⟨_,rfl⟩,h⟩
theorem Qj {b j pos}:PE X (.Constant (.bool b) j pos) (tC (.bl b)):=fun _ _ _ H _ I h=>Constant_bool ⟨.bl b,H,I,rfl,h⟩
theorem PH {j pos}:PE X (.Constant .none j pos) (tC .non):=fun _ _ _ H _ I h=>Constant_none ⟨.non,H,I,rfl,h⟩
theorem Lj {x j pos}:PE X (.Constant (.str x) j pos) (tC (.str x)):=fun _ _ _ H _ I h=>Calls.Constant_str ⟨.str x,H,I.tok _,⟨_,rfl⟩,h⟩
def Gl (X:Cx) (x:Str):Prop:=X.env.kindOf x=some .globalImplicit
theorem Jc {E:Value->Shared->Prop} {pins:List (Addr × Obj)} {s:Shared} {σ:St} {H:Hp} {x:Str} {u:Value} {pos:Pos} {Q:Value->Shared->Prop} (I:Inv X pins σ H s) (hg:Gl X x) (hm:X.mg x=some u) (h:Q u s)
    (hd:(x == ("__debug__" : Str))=false:=by decide):wpAny (model X.prog X.w) X.A (eval (.Name x pos) X.env) Q E s:=
  Calls.Name_function_global I.ok.kind hg (Calls.loadGlobal_global (by rw [I.ok.glob]; exact I.mod.glob.keeps I.bk) hm h) hd
theorem FO {E:Value->Shared->Prop} {pins:List (Addr × Obj)} {s:Shared} {σ:St} {H:Hp} {x:Str} {u:Value} {pos:Pos} {Q:Value->Shared->Prop} (I:Inv X pins σ H s) (hg:Gl X x) (hm:X.mg x=none) (hv:bootBuiltins x=some u) (h:Q u s)
    (hn:x ≠ "__name__" := by decide) (hd:(x == ("__debug__" : Str))=false:=by decide):wpAny (model X.prog X.w) X.A (eval (.Name x pos) X.env) Q E s:=by
  obtain ⟨mb,h1,h2⟩:=I.mod.blt
  exact Calls.Name_function_global I.ok.kind hg (Calls.loadGlobal_builtin (by rw [I.ok.glob]; exact I.mod.glob.keeps I.bk) hm (by rw [I.ok.blt]; exact h1.keeps I.bk) ((h2 x hn).trans hv) h) hd
theorem Nd {x:Str} {v:V} {u:Value} {pos:Pos} (hg:Gl X x) (hm:X.mg x=some u) (r:RelV v u) (hd:(x == ("__debug__" : Str))=false:=by decide):PE X (.Name x pos) (tC v):=
  fun _ _ _ H _ I h=>Jc I hg hm ⟨v,H,I,r,h⟩ hd
theorem Nk {x:Str} {v:V} {u:Value} {pos:Pos} (hg:Gl X x) (hm:X.mg x=none) (hv:bootBuiltins x=some u) (r:RelV v u) (hn:x ≠ "__name__" := by decide) (hd:(x == ("__debug__" : Str))=false:=by decide):PE X (.Name x pos) (tC v):=
  fun _ _ _ H _ I h=>FO I hg hm hv ⟨v,H,I,r,h⟩ hn hd
variable {a b:Expr} {ta tb:TE} {pos:Pos}
def tB (t:TE):TT:=fun σ H Q=>t σ H fun x H1=>∃ c,x=.bl c /\ Q c H1
theorem O4 {e:Expr} {t:TE} (h:PE X e t) (he:∀ whole,isTrue e X.env whole=(do let v ← whole; standAt e.pos; holding [v] (truthy v)):=by intro _; rfl):PT X e (tB t):=by
  intro pins s σ H Q I hw
  refine isTrue_plain (thn (h pins s σ H _ I hw) fun v s1 ⟨x,H1,I1,r1,q1⟩=>?_) (he _)
  obtain ⟨d,rfl,q⟩:=q1
  cases r1
  exact wpAny_truthy_bool ⟨H1,I1,q⟩
variable {tA tB':TT} {rest:List Expr}
def RM (t u:TT):TT:=fun σ H Q=>t σ H fun c H1=>if c=true then u σ H1 Q else Q false H1
def tOr (t u:TT):TT:=fun σ H Q=>t σ H fun c H1=>if c=true then Q true H1 else u σ H1 Q
def RF (t:TT):TT:=fun σ H Q=>t σ H fun c H1=>Q (!c) H1
theorem NR (ha:PT X a tA):PW X (.BoolOp .And [a] pos) tA:=by
  intro wh pins s σ H Q I h
  refine isTrue_and (thn (ha pins s σ H Q I h) fun c s1 e=>?_)
  cases c with
  | true=>exact isTrue_and_nil e
  | false=>exact e
theorem O1 (ha:PT X a tA):PW X (.BoolOp .Or [a] pos) tA:=by
  intro wh pins s σ H Q I h
  refine isTrue_or (thn (ha pins s σ H Q I h) fun c s1 e=>?_)
  cases c with
  | false=>exact isTrue_or_nil e
  | true=>exact e
theorem O2 (ha:PT X a tA) (hb:PW X (.BoolOp .And (b :: rest) pos) tB'):PW X (.BoolOp .And (a :: b :: rest) pos) (RM tA tB'):=by
  intro wh pins s σ H Q I h
  refine isTrue_and (thn (ha pins s σ H _ I h) fun c s1 ⟨H1,I1,q1⟩=>?_)
  cases c with
  | true=>exact hb wh pins s1 σ H1 Q I1 q1
  | false=>exact ⟨H1,I1,q1⟩
theorem Qb (ha:PT X a tA) (hb:PW X (.BoolOp .Or (b :: rest) pos) tB'):PW X (.BoolOp .Or (a :: b :: rest) pos) (tOr tA tB'):=by
  intro wh pins s σ H Q I h
  refine isTrue_or (thn (ha pins s σ H _ I h) fun c s1 ⟨H1,I1,q1⟩=>?_)
  cases c with
  | true=>exact ⟨H1,I1,q1⟩
  | false=>exact hb wh pins s1 σ H1 Q I1 q1
theorem O5 (ha:PT X a tA):PT X (.UnaryOp .Not a pos) (RF tA):=by
  intro pins s σ H Q I h
  exact isTrue_not (ha pins s σ H (fun c H1=>Q (!c) H1) I h)
def QP (ta tb:TE):TE:=fun σ H Q=>ta σ H fun x H1=>∃ c,x=.bl c /\ if c=true then tb σ H1 Q else Q (.bl false) H1
theorem PF {op} {t:TE} (h:PE X a t):PE X (.BoolOp op [a] pos) t:=fun pins s σ H Q I hw=>BoolOp_one (h pins s σ H Q I hw)
theorem PK (ha:PE X a ta) (hb:PE X (.BoolOp .And (b :: rest) pos) tb):PE X (.BoolOp .And (a :: b :: rest) pos) (QP ta tb):=by
  intro pins s σ H Q I h
  refine BoolOp_and (thn (ha pins s σ H _ I h) fun v s1 ⟨x,H1,I1,r1,q1⟩=>?_)
  obtain ⟨c,rfl,q1⟩:=q1
  cases r1
  refine wpAny_truthy_bool ?_
  cases c with
  | true=>exact hb pins s1 σ H1 Q I1 q1
  | false=>exact ⟨.bl false,H1,I1,rfl,q1⟩
def tIf (t:TT) (ta tb:TE):TE:=fun σ H Q=>t σ H fun c H1=>if c=true then ta σ H1 Q else tb σ H1 Q
theorem Lm {c:Expr} (hc:PT X c tA) (ha:PE X a ta) (hb:PE X b tb):PE X (.IfExp c a b pos) (tIf tA ta tb):=by
  intro pins s σ H Q I h
  refine wpAny_IfExp (thn (hc pins s σ H _ I h) fun d s1 ⟨H1,I1,q1⟩=>?_)
  cases d with
  | true=>exact ha pins s1 σ H1 Q I1 q1
  | false=>exact hb pins s1 σ H1 Q I1 q1
end
end L2
namespace L2
open PySem PySem.Spec PyProof.Rows
def SqL (K:PySem.W.Frag) (H:Hp) (a:Addr) (xs:List V):Prop:=
  Rd H a (.lst xs) ∨
    ∃ (o:Obj) (its:Array Value) (n:Nat),K.lookup a=some o /\ o.cls=.type "list" /\ o.dict=none /\ o.data=.seq its n /\ its.size <= sizeLine /\ Vals xs its.toList
def SqT (K:PySem.W.Frag) (H:Hp) (a:Addr) (xs:List V):Prop:=
  Rd H a (.tup xs) ∨
    ∃ (o:Obj) (its:Array Value) (n:Nat),K.lookup a=some o /\ o.cls=.type "tuple" /\ o.data=.seq its n /\ its.size <= sizeLine /\ Vals xs its.toList
def Rj:Value->Option V
  | .none=>some .non
  | .bool b=>some (.bl b)
  | .int i _=>some (.int i)
  | .str x _=>some (.str x)
  | .bytes b _=>some (.byt b)
  | .float b _=>some (.flt b)
  | .ref a=>some (.ref a)
  | .type n=>some (.ty n)
  | _=>none
theorem RelV.abs {x:V} {u:Value} (r:RelV x u):Rj u=some x:=by
  cases x with
  | non=>cases r; rfl
  | bl _=>cases r; rfl
  | int _=>obtain ⟨t,rfl⟩:=r; rfl
  | str _=>obtain ⟨t,rfl⟩:=r; rfl
  | byt _=>obtain ⟨t,rfl⟩:=r; rfl
  | flt _=>obtain ⟨t,rfl⟩:=r; rfl
  | ref _=>cases r; rfl
  | ty _=>cases r; rfl
theorem RelV.inj {x y:V} {u:Value} (r:RelV x u) (q:RelV y u):x=y:=Option.some.inj (r.abs.symm.trans q.abs)
theorem Vals.inj:∀ {xs ys:List V} {us:List Value},Vals xs us->Vals ys us->xs=ys
  | _,_,_,.nil,.nil=>rfl
  | _,_,_,.cons r t,.cons r' t'=>by rw [r.inj r',Vals.inj t t']
section
variable {X:Cx} {pins:List (Addr × Obj)} {σ:St} {H:Hp} {s:Shared} {a:Addr} {xs ys:List V}
theorem SqL.of {K:PySem.W.Frag} (h:H a=some (.lst xs)):SqL K H a xs:=.inl (.inl h)
theorem SqT.of {K:PySem.W.Frag} (h:H a=some (.tup xs)):SqT K H a xs:=.inl (.inl h)
theorem Inv.list (I:Inv X pins σ H s) (h:SqL X.K H a xs):∃ its:List Value,Vals xs its /\ PlainL s.heap a its.toArray /\ xs.length <= sizeLine:=by
  rcases h with h | ⟨o,its,n,hk,hc,hd,hs,hz,r⟩
  . obtain ⟨z,its,n,r,e⟩:=h.ok I.hok
    exact ⟨its,r,⟨_,n,e,rfl,rfl,rfl⟩,z⟩
  . refine ⟨its.toList,r,⟨o,n,I.kIn a o hk,hc,hd,by simpa using hs⟩,?_⟩
    have e:=r.length
    simp only [Array.length_toList] at e
    omega
theorem Inv.tuple (I:Inv X pins σ H s) (h:SqT X.K H a xs):∃ its:List Value,Vals xs its /\ IsTup s.heap a its.toArray /\ xs.length <= sizeLine:=by
  rcases h with h | ⟨o,its,n,hk,hc,hs,hz,r⟩
  . obtain ⟨z,its,r,p⟩:=h.ok I.hok
    exact ⟨its,r,p,z⟩
  . refine ⟨its.toList,r,⟨o,I.kIn a o hk,hc,n,by simpa using hs⟩,?_⟩
    have e:=r.length
    simp only [Array.length_toList] at e
    omega
theorem Inv.list_inj (I:Inv X pins σ H s) (h:SqL X.K H a xs) (h':SqL X.K H a ys):xs=ys:=by
  obtain ⟨its,r,⟨o,n,e,_,_,d⟩,_⟩:=I.list h
  obtain ⟨its',r',⟨o',n',e',_,_,d'⟩,_⟩:=I.list h'
  rw [e] at e'; cases e'
  rw [d] at d'
  injection d' with d1 _
  have:its=its':=by simpa using congrArg Array.toList d1
  subst this
  exact r.inj r'
theorem Inv.tuple_inj (I:Inv X pins σ H s) (h:SqT X.K H a xs) (h':SqT X.K H a ys):xs=ys:=by
  obtain ⟨its,r,⟨o,e,_,n,d⟩,_⟩:=I.tuple h
  obtain ⟨its',r',⟨o',e',_,n',d'⟩,_⟩:=I.tuple h'
  rw [e] at e'; cases e'
  rw [d] at d'
  injection d' with d1 _
  have:its=its':=by simpa using congrArg Array.toList d1
  subst this
  exact r.inj r'
end
abbrev Cx.wish (X:Cx) (E:Value->Shared->Prop):Cx:={ X with xe:=E }
abbrev Cx.nox (X:Cx):Cx:=X.wish fun _ _=>False
theorem Cx.Ok.wish {X:Cx} (ok:X.Ok) (E:Value->Shared->Prop):(X.wish E).Ok:=
  ⟨ok.mod,ok.kind,ok.glob,ok.blt,ok.above,ok.inj,ok.has,ok.cab,ok.hd,ok.frames,ok.stk,ok.exf,ok.bs,ok.bsz,ok.noex,ok.exfs,ok.funs,ok.frf⟩
theorem Cx.Ok.unwish {X:Cx} {E:Value->Shared->Prop} (ok:(X.wish E).Ok):X.Ok:=
  ⟨ok.mod,ok.kind,ok.glob,ok.blt,ok.above,ok.inj,ok.has,ok.cab,ok.hd,ok.frames,ok.stk,ok.exf,ok.bs,ok.bsz,ok.noex,ok.exfs,ok.funs,ok.frf⟩
section
variable {X:Cx} {pins:List (Addr × Obj)} {σ:St} {H:Hp} {s:Shared} {E:Value->Shared->Prop}
theorem Inv.wish (I:Inv X pins σ H s) (E:Value->Shared->Prop):Inv (X.wish E) pins σ H s:=⟨I.ok.wish E,I.os,I.bare,I.base,I.loc,I.cell,I.free,I.freeC,I.pin,I.hok,I.len⟩
theorem Inv.unwish (I:Inv (X.wish E) pins σ H s):Inv X pins σ H s:=⟨I.ok.unwish,I.os,I.bare,I.base,I.loc,I.cell,I.free,I.freeC,I.pin,I.hok,I.len⟩
theorem SP.unwish {D:Iw} {f:Flow} {s':Shared} (h:SP (X.wish E) pins D f s'):SP X pins D f s':=by
  cases f with
  | next=>obtain ⟨σ',H',I,q⟩:=h; exact ⟨σ',H',I.unwish,q⟩
  | brk=>obtain ⟨σ',H',I,q⟩:=h; exact ⟨σ',H',I.unwish,q⟩
  | cont=>obtain ⟨σ',H',I,q⟩:=h; exact ⟨σ',H',I.unwish,q⟩
  | ret u=>obtain ⟨v,σ',H',I,r,q⟩:=h; exact ⟨v,σ',H',I.unwish,r,q⟩
theorem PSs.nox {st:List Stmt} {t:TS} (h:PSs X.nox st t):PSs X st t:=fun pins s σ H D I hw=>
  wpAny_mono (h pins s σ H D (I.wish _) hw) (fun _ _ q=>q.unwish) fun _ _ z=>False.elim z
end
section
variable {X:Cx} {st:Stmt} {rest:List Stmt} {t u:TS} {e:Expr} {te:TE} {pos:Pos}
def QI:TS:=fun D σ H=>D.nx σ H
def RC (t u:TS):TS:=fun D σ H=>t { D with nx:=u D } σ H
theorem NX:PSs X [] QI:=fun _ _ σ H _ I h=>wpAny_execs_nil ⟨σ,H,I,h⟩
theorem Lb (h1:PS X st t) (h2:PSs X rest u):PSs X (st :: rest) (RC t u):=by
  intro pins s σ H D I h
  refine wpAny_execs_cons (thn (h1 pins s σ H { D with nx:=u D } I h) fun f s1 q=>?_)
  cases f with
  | next=>
    obtain ⟨σ',H',I',q⟩:=q
    exact h2 pins s1 σ' H' D I' q
  | ret v=>exact q
  | brk=>exact q
  | cont=>exact q
theorem NW (h1:PS X st t):PSs X [st] t:=by
  intro pins s σ H D I h
  refine wpAny_execs_cons (thn (h1 pins s σ H D I h) fun f s1 q=>?_)
  cases f with
  | next=>exact wpAny_execs_nil q
  | ret v=>exact q
  | brk=>exact q
  | cont=>exact q
theorem Inv.quiet {pins:List (Addr × Obj)} {σ:St} {H:Hp} {s:Shared} (I:Inv X pins σ H s):interactive X.env=false:=by simp [interactive,I.ok.kind]
def QK (te:TE):TS:=fun D σ H=>te σ H fun _ H1=>D.nx σ H1
theorem NY (he:PE X e te) (hs:swapsWith e none pos.line X.env=pure false:=by rfl):PS X (.Expr e pos) (QK te):=by
  intro pins s σ H D I h
  exact wpAny_Expr_any (thn (he pins s σ H _ I h) fun v s1 ⟨x,H1,I1,r1,q1⟩=>⟨σ,H1,I1,q1⟩) I.quiet hs
def RD (te:TE):TS:=fun D σ H=>te σ H D.rt
theorem O7 (he:PE X e te):PS X (.Return (some e) pos) (RD te):=by
  intro pins s σ H D I h
  exact wpAny_Return_some (thn (he pins s σ H _ I h) fun v s1 ⟨x,H1,I1,r1,q1⟩=>⟨x,σ,H1,I1,r1,q1⟩)
def RK (c:TT) (t u:TS):TS:=fun D σ H=>c σ H fun b H1=>if b=true then t D σ H1 else u D σ H1
theorem Qe {c:Expr} {a b:List Stmt} {tc:TT} (hc:PT X c tc) (ha:PSs X a t) (hb:PSs X b u):PS X (.If c a b pos) (RK tc t u):=by
  intro pins s σ H D I h
  refine wpAny_If (thn (hc pins s σ H _ I h) fun d s1 ⟨H1,I1,q1⟩=>?_)
  cases d with
  | true=>exact ha pins s1 σ H1 D I1 q1
  | false=>exact hb pins s1 σ H1 D I1 q1
end
abbrev TG:=V->St->Hp->(St->Hp->Prop)->Prop
abbrev TGs:=List V->St->Hp->(St->Hp->Prop)->Prop
def PG (X:Cx) (target:Expr) (t:TG):Prop:=
  ∀ (pins:List (Addr × Obj)) (s:Shared) (σ:St) (H:Hp) (v:V) (u:Value) (Q:St->Hp->Prop),Inv X pins σ H s->RelV v u->t v σ H Q->
    wpAny (model X.prog X.w) X.A (assign target X.env u) (fun _ s'=>∃ σ' H',Inv X pins σ' H' s' /\ Q σ' H') X.xe s
def PGs (X:Cx) (ts:List Expr) (t:TGs):Prop:=
  ∀ (pins:List (Addr × Obj)) (s:Shared) (σ:St) (H:Hp) (vs:List V) (us:List Value) (Q:St->Hp->Prop),Inv X pins σ H s->Vals vs us->t vs σ H Q->
    wpAny (model X.prog X.w) X.A (assignInOrder ((assignEach ts X.env).map (·.2)) us) (fun _ s'=>∃ σ' H',Inv X pins σ' H' s' /\ Q σ' H') X.xe s
abbrev P1:=V->V->V->Hp->(Hp->Prop)->Prop
def Q6 (X:Cx) (t:P1):Prop:=
  ∀ (pins:List (Addr × Obj)) (s:Shared) (σ:St) (H:Hp) (o i v:V) (ov iv u:Value) (Q:Hp->Prop),Inv X pins σ H s->RelV o ov->RelV i iv->RelV v u->t o i v H Q->
    wpAny (model X.prog X.w) X.A (setItem ov iv u) (fun _ s'=>∃ H',Inv X pins σ H' s' /\ Q H') X.xe s
section
variable {X:Cx} {pos:Pos}
def DY (i:Nat):TG:=fun v σ H Q=>Q (σ.set i (some v)) H
theorem Ao {i:Nat} {x:Str} (hN:X.N.Nodup) (hi:X.N[i]? = some x) (hx:Loc X.env.scope x) (hf:X.fn x=true ∨ X.env.scope.names.lookup x=some .local:=by first | exact .inl rfl | exact .inr rfl | assumption):PG X (.Name x pos) (DY i):=by
  intro pins s σ H v u Q I r h
  exact wpAny_assign_Name (G9 I hN hi hx r (fun s' I'=>⟨_,H,I',h⟩) hf)
def Qy:TGs:=fun vs σ H Q=>vs=[] /\ Q σ H
def Oa (t:TG) (u:TGs):TGs:=fun vs σ H Q=>∃ v r,vs=v :: r /\ t v σ H fun σ' H'=>u r σ' H' Q
theorem DG:PGs X [] Qy:=by
  intro pins s σ H vs us Q I r h
  obtain ⟨e,h⟩:=h
  subst e
  cases r
  exact assignInOrder_nil ⟨σ,H,I,h⟩
theorem Ax {e:Expr} {es:List Expr} {t:TG} {u:TGs} (h1:PG X e t) (h2:PGs X es u)
    (hs:(assignEach (e :: es) X.env).map (·.2)=assign e X.env :: (assignEach es X.env).map (·.2):=by rfl):PGs X (e :: es) (Oa t u):=by
  intro pins s σ H vs us Q I r h
  obtain ⟨v,vr,e1,h⟩:=h
  subst e1
  cases r with
  | cons r rr=>
    rw [hs]
    refine assignInOrder_cons (thn (h1 pins s σ H _ _ _ I r h) fun _ s1 ⟨σ1,H1,I1,q1⟩=>?_)
    exact h2 pins s1 σ1 H1 _ _ Q I1 rr q1
def Po (K:PySem.W.Frag) (n:Nat) (t:TGs):TG:=fun v σ H Q=>∃ a xs,v=.ref a /\ SqT K H a xs /\ xs.length=n /\ t xs σ H Q
theorem IV {es:List Expr} {k:Nat} {t:TGs} {n:Nat} (hc:X.calm=true) (h:PGs X es t)
    (hn:(assignEach es X.env).length=n:=by rfl) (hst:(assignEach es X.env).findIdx? (·.1)=none:=by rfl):PG X (.Tuple es k pos) (Po X.K n t):=by
  intro pins s σ H v u Q I r hw
  obtain ⟨a,xs,e1,hq,hl,hw⟩:=hw
  subst e1
  cases r
  obtain ⟨its,rv,ht,hz⟩:=I.tuple hq
  refine assign_Tuple_tuple (I.ok.hd hc) ht (by simp [hn,← hl,rv.length]) hst fun h' hx=>?_
  have I1:Inv X pins σ H { s with heap:=h' }:=I.kept (t':=s.toks) fun b o e=>hx b o (Nat.ne_of_lt (Heap.lt_size e)) e
  exact h pins _ σ H xs _ Q I1 (by simpa using rv) hw
def Ri (to ti:TE) (t:P1):TG:=fun v σ H Q=>to σ H fun o H1=>ti σ H1 fun i H2=>t o i v H2 fun H3=>Q σ H3
theorem PB {o i:Expr} {to ti:TE} {t:P1} (ho:PE X o to) (hi:PE X i ti) (hs:Q6 X t)
    (ha:∀ v,assign (.Subscript o i pos) X.env v=(do
      let ov ← holding [v] (eval o X.env)
      let iv ← holding [v,ov] (eval i X.env)
      standAt pos
      holding [v,ov,iv] (setItem ov iv v)
      release [v,ov,iv] []):=by intro _; rfl):PG X (.Subscript o i pos) (Ri to ti t):=by
  intro pins s σ H v u Q I r h
  rw [ha]
  refine wpAny_bind (wpAny_holding (thn (ho pins s σ H _ I h) fun ov s1 ⟨x,H1,I1,r1,q1⟩=>?_))
  refine wpAny_bind (wpAny_holding (thn (hi pins s1 σ H1 _ I1 q1) fun iv s2 ⟨y,H2,I2,r2,q2⟩=>?_))
  refine wpAny_bind (wpAny_standAt (wpAny_bind (wpAny_holding (thn (hs pins s2 σ H2 x y v ov iv u _ I2 r1 r2 r q2) fun _ s3 ⟨H3,I3,q3⟩=>?_))))
  exact wpAny_release ⟨σ,H3,I3,q3⟩
def M5 (te:TE) (g:TG):TS:=fun D σ H=>te σ H fun x H1=>g x σ H1 D.nx
theorem O8 {tg e:Expr} {te:TE} {g:TG} (he:PE X e te) (hg:PG X tg g) (hs:swapsWithSole [tg] e pos.line X.env=pure false:=by rfl) (hw:swappedStores [tg] e X.env=pure none:=by rfl)
    (h1:(assignEach [tg] X.env).map (·.2)=[assign tg X.env]:=by rfl):PS X (.Assign [tg] e pos) (M5 te g):=by
  intro pins s σ H D I h
  refine wpAny_Assign_stores (thn (he pins s σ H _ I h) fun v s1 ⟨x,H1,I1,r1,q1⟩=>?_) hs hw
  rw [h1]
  exact thn (hg pins s1 σ H1 x v _ I1 r1 q1) fun _ s2 q=>q
theorem O6 {i:Nat} {x:Str} {e:Expr} {te:TE} {pos':Pos} (hN:X.N.Nodup) (hi:X.N[i]? = some x) (hx:Loc X.env.scope x) (he:PE X e te) (hs:swapsWith e (some (.Name x pos')) pos.line X.env=pure false:=by rfl) (hf:X.fn x=true ∨ X.env.scope.names.lookup x=some .local:=by first | exact .inl rfl | exact .inr rfl | assumption) :
    PS X (.Assign [.Name x pos'] e pos) (M5 te (DY i)):=by
  intro pins s σ H D I h
  refine wpAny_Assign_Name (thn (he pins s σ H _ I h) fun v s1 ⟨y,H1,I1,r1,q1⟩=>?_) hs
  exact G9 I1 hN hi hx r1 (fun s2 I2=>⟨_,H1,I2,q1⟩) hf
end
section
variable {X:Cx} {pos:Pos}
def Oo (c:TT) (tb:TS):TS:=fun D σ H=>∃ W:Nat->St->Hp->Prop,(∃ m,W m σ H) /\ ∀ m σ H,W m σ H->
  c σ H fun b H1=>if b=true then ∃ N:St->Hp->Prop,(∀ σ' H',N σ' H'->∃ m',m' < m /\ W m' σ' H') /\ tb { D with nx:=N,ct:=N,bk:=D.nx } σ H1 else D.nx σ H1
theorem Lc {c:Expr} {body:List Stmt} {tc:TT} {tb:TS} (hp:PassesOwn (model X.prog X.w) X.A X.env X.xe) (hc:PT X c tc) (hb:PSs X body tb):PS X (.While c body [] pos) (Oo tc tb):=by
  intro pins s σ H D I h
  obtain ⟨W,⟨m0,w0⟩,turn⟩:=h
  refine wpAny_While (codeAny_whileLoop (fun n s'=>∃ σ' H',Inv X pins σ' H' s' /\ W n σ' H') ?_ m0 ⟨σ,H,I,w0⟩)
  rintro n s1 ⟨σ1,H1,I1,w1⟩
  refine wpAny_passesOwn hp (thn (hc pins s1 σ1 H1 _ I1 (turn n σ1 H1 w1)) fun b s2 ⟨H2,I2,q2⟩=>?_)
  cases b with
  | true=>
    obtain ⟨N,hN,q2⟩:=q2
    rw [if_pos rfl]
    refine wpAny_passesOwn hp (thn (hb pins s2 σ1 H2 _ I2 q2) fun f s3 q3=>?_)
    cases f with
    | next=>
      obtain ⟨σ3,H3,I3,n3⟩:=q3
      obtain ⟨m',hm,w3⟩:=hN σ3 H3 n3
      exact ⟨m',hm,σ3,H3,I3,w3⟩
    | cont=>
      obtain ⟨σ3,H3,I3,n3⟩:=q3
      obtain ⟨m',hm,w3⟩:=hN σ3 H3 n3
      exact ⟨m',hm,σ3,H3,I3,w3⟩
    | brk=>exact q3
    | ret v=>exact q3
  | false=>
    rw [if_neg Bool.false_ne_true]
    exact wpAny_execs_nil ⟨σ1,H2,I2,q2⟩
end
structure It where
  go:Nat->Hp->Prop
  yld:Nat->Hp->V->Hp->Prop
  stop:Nat->Hp->Prop
def DB (X:Cx) (pins:List (Addr × Obj)) (H:Hp) (b:Addr):Prop:=
  H b=none /\ b ≠ X.env.locals /\ b ∉ X.fs /\ (b ∈ X.ex ∨ X.s₀.heap.objs.size <= b) /\ (∀ x c,X.env.cells.lookup x=some c->c ≠ b) /\ ∀ p ∈ X.pn ++ pins,p.1 ≠ b
theorem Inv.fpOk {X:Cx} {pins:List (Addr × Obj)} {σ:St} {H H':Hp} {s:Shared} {b:Addr} (I:Inv X pins σ H s) (hb:s.heap.objs.size <= b) (hn:H' b=none):DB X pins H' b:=by
  refine ⟨hn,Nat.ne_of_gt (Nat.lt_of_lt_of_le I.lt hb),I.nofs hb,.inr (Nat.le_trans I.sz hb),fun x c e z=>?_,fun p hp z=>?_⟩
  . obtain ⟨v,q⟩:=I.cell x c e
    exact absurd (Nat.lt_of_lt_of_le q.lt (by rw [z]; exact hb)) (Nat.lt_irrefl _)
  . exact absurd (Nat.lt_of_lt_of_le (Heap.lt_size (I.pin p hp).1) (by rw [z]; exact hb)) (Nat.lt_irrefl _)
structure IA (P:Program) (w:World) (K:PySem.W.Frag) (tg:Expr) (J:It) (fp:List Addr) (it:Addr) (tn:Nat->Heap->Prop):Prop where
  mem:it ∈ fp
  obj:∀ i h,tn i h->∀ b ∈ fp,∃ o,h.get? b=some o /\ ∀ v,o.data ≠ .cell v
  keep:∀ i h h',tn i h->(∀ b ∈ fp,∀ o,h.get? b=some o->h'.get? b=some o)->tn i h'
  item:∀ (X:Cx),X.prog=P->X.w=w->X.K=K->X.calm=true->∀ (i:Nat) (pins:List (Addr × Obj)) (s:Shared) (σ:St) (H:Hp) (E:Value->Shared->Prop),Inv X pins σ H s->(∀ b ∈ fp,DB X pins H b)->tn i s.heap->J.go i H->
    wpAny (model P w) X.A (pyNext (.ref it)) (fun r s1=>∃ u,r=some u /\
      wpAny (model P w) X.A (letOwnedTupleGo tg (.ref it) u) (fun _ s2=>∃ x H',Inv X pins σ H' s2 /\ RelV x u /\ J.yld i H x H' /\ tn (i + 1) s2.heap /\ ∀ b ∈ fp,H' b=none) E s1) E s
  done:∀ (X:Cx),X.prog=P->X.w=w->X.K=K->X.calm=true->∀ (i:Nat) (pins:List (Addr × Obj)) (s:Shared) (σ:St) (H:Hp) (E:Value->Shared->Prop),Inv X pins σ H s->(∀ b ∈ fp,DB X pins H b)->tn i s.heap->J.stop i H->
    wpAny (model P w) X.A (pyNext (.ref it)) (fun r s1=>r=none /\ Inv X pins σ H s1) E s
  self:∀ (A:Around) (i:Nat) (s:Shared) (Q:Value->Shared->Prop) (E:Value->Shared->Prop),tn i s.heap->Q (.ref it) s->wpAny (model P w) A (pyIter (.ref it)) Q E s
abbrev TI:=St->Hp->(It->Hp->Prop)->Prop
def PIE (X:Cx) (pins:List (Addr × Obj)) (σ:St) (tg:Expr) (R:It->Hp->Prop) (itv:Value) (s2:Shared):Prop:=
  ∃ (it:Addr) (fp:List Addr) (tn:Nat->Heap->Prop) (J:It) (H':Hp),itv=.ref it /\ Inv X pins σ H' s2 /\ IA X.prog X.w X.K tg J fp it tn /\ tn 0 s2.heap /\ (∀ b ∈ fp,DB X pins H' b) /\ R J H'
def PI (X:Cx) (tg iter:Expr) (wi:TI):Prop:=
  ∀ (pins:List (Addr × Obj)) (s:Shared) (σ:St) (H:Hp) (R:It->Hp->Prop),Inv X pins σ H s->wi σ H R->
    wpAny (model X.prog X.w) X.A (eval iter X.env) (fun v s1=>wpAny (model X.prog X.w) X.A (pyIter v) (PIE X pins σ tg R) X.xe s1) X.xe s
theorem MM {M:Model} {A:Around} {E:Value->Shared->Prop} {s:Shared} {tg:Expr} {it:Addr} {u:Value} {o:Obj} {n:String} {vs:Array Value} {Q:Unit->Shared->Prop} (ho:s.heap.get? it=some o) (hc:o.cls=.type n) (hd:o.data=.fields vs)
    (hn:["enumerate", "zip", "dict_itemiterator", "dict_reverseitemiterator", "odict_iterator", "itertools.zip_longest", "itertools.pairwise"].contains n=false) (hQ:Q () s):wpAny M A (letOwnedTupleGo tg (.ref it) u) Q E s:=by
  unfold letOwnedTupleGo
  cases tg <;> first
    | exact wpAny_pure hQ
    | (cases u <;> first
        | exact wpAny_pure hQ
        | (refine wpAny_bind (wpAny_load ho ?_)
           rw [hc,hd]
           show wpAny M A (if (["enumerate", "zip", "dict_itemiterator", "dict_reverseitemiterator", "odict_iterator", "itertools.zip_longest", "itertools.pairwise"].contains n && vs[0]? == some (rawInt _))=true then _ else _) Q E s
           rw [if_neg (by intro h; rw [hn,Bool.false_and] at h; cases h)]
           exact wpAny_pure hQ))
def Itl (K:PySem.W.Frag) (a:Addr):It:=
  ⟨fun i H=>∃ xs x,SqL K H a xs /\ xs[i]? = some x,fun i H x H'=>H'=H /\ ∀ xs,SqL K H a xs->xs[i]? = some x,fun i H=>∃ xs,SqL K H a xs /\ xs.length <= i⟩
def Itt (K:PySem.W.Frag) (a:Addr):It:=
  ⟨fun i H=>∃ xs x,SqT K H a xs /\ xs[i]? = some x,fun i H x H'=>H'=H /\ ∀ xs,SqT K H a xs->xs[i]? = some x,fun i H=>∃ xs,SqT K H a xs /\ xs.length <= i⟩
def Itr (lo:Int) (n:Nat):It:=⟨fun i _=>i < n,fun i H x H'=>H'=H /\ x=.int (lo + i),fun i _=>n <= i⟩
theorem J5 {P:Program} {w:World} {K:PySem.W.Frag} {tg:Expr} (a it:Addr):IA P w K tg (Itl K a) [it] it (fun i h=>h.IsListIter it a i) where
  mem:=by simp
  obj:=fun i h st b hb=>by
    have e:b=it:=by simpa using hb
    subst e
    obtain ⟨o,e,c,d⟩:=st
    exact ⟨o,e,fun v z=>by rw [d] at z; cases z⟩
  keep:=fun i h h' st k=>st.at fun o e=>k it (by simp) o e
  item:=by
    intro X hP hw hK hc i pins s σ H E I hf st hg
    subst hP hw hK
    obtain ⟨xs,x,hq,hx⟩:=hg
    obtain ⟨its,rv,p,hz⟩:=I.list hq
    obtain ⟨u,hu,ru⟩:=rv.get hx
    obtain ⟨f0,f1,f2,f3,f4,f5⟩:=hf it (by simp)
    refine wpAny_pyNext_list_item st p.isList (x:=u) (by simpa using hu) fun h' st' sb=>?_
    have I1:Inv X pins σ H { s with heap:=h' }:=I.turned (t':=s.toks) (fun b o hb e=>(sb.2 b hb).trans e) f0 f1 f3 f4 f5
    obtain ⟨o,e,c,d⟩:=id st'
    exact ⟨u,rfl,MM (s:={ s with heap:=h' }) e c d (by decide) ⟨x,H,I1,ru,⟨rfl,fun ys hy=>by rw [I.list_inj hy hq]; exact hx⟩,st',fun b hb=>(hf b hb).1⟩⟩
  done:=by
    intro X hP hw hK hc i pins s σ H E I hf st hg
    subst hP hw hK
    obtain ⟨xs,hq,hx⟩:=hg
    obtain ⟨its,rv,p,hz⟩:=I.list hq
    obtain ⟨f0,f1,f2,f3,f4,f5⟩:=hf it (by simp)
    have hl:=rv.length
    exact wpAny_pyNext_list_end (I.ok.hd hc) st p.isList (by simp; omega) fun h' eb=>⟨rfl,I.turned (t':=s.toks) (fun b o hb e=>eb b o hb e) f0 f1 f3 f4 f5⟩
  self:=fun _ _ _ _ _ st h=>wpAny_pyIter_listiter st h
theorem ID {P:Program} {w:World} {K:PySem.W.Frag} {tg:Expr} (a it:Addr):IA P w K tg (Itt K a) [it] it (fun i h=>h.IsTupleIter it a i) where
  mem:=by simp
  obj:=fun i h st b hb=>by
    have e:b=it:=by simpa using hb
    subst e
    obtain ⟨o,e,c,d⟩:=st
    exact ⟨o,e,fun v z=>by rw [d] at z; cases z⟩
  keep:=fun i h h' st k=>st.at fun o e=>k it (by simp) o e
  item:=by
    intro X hP hw hK hc i pins s σ H E I hf st hg
    subst hP hw hK
    obtain ⟨xs,x,hq,hx⟩:=hg
    obtain ⟨its,rv,p,hz⟩:=I.tuple hq
    obtain ⟨u,hu,ru⟩:=rv.get hx
    obtain ⟨f0,f1,f2,f3,f4,f5⟩:=hf it (by simp)
    refine wpAny_pyNext_tuple_item st (show s.heap.IsTuple a its.toArray from p) (x:=u) (by simpa using hu) fun h' st' sb=>?_
    have I1:Inv X pins σ H { s with heap:=h' }:=I.turned (t':=s.toks) (fun b o hb e=>(sb.2 b hb).trans e) f0 f1 f3 f4 f5
    obtain ⟨o,e,c,d⟩:=id st'
    exact ⟨u,rfl,MM (s:={ s with heap:=h' }) e c d (by decide) ⟨x,H,I1,ru,⟨rfl,fun ys hy=>by rw [I.tuple_inj hy hq]; exact hx⟩,st',fun b hb=>(hf b hb).1⟩⟩
  done:=by
    intro X hP hw hK hc i pins s σ H E I hf st hg
    subst hP hw hK
    obtain ⟨xs,hq,hx⟩:=hg
    obtain ⟨its,rv,p,hz⟩:=I.tuple hq
    obtain ⟨f0,f1,f2,f3,f4,f5⟩:=hf it (by simp)
    have hl:=rv.length
    exact wpAny_pyNext_tuple_end (I.ok.hd hc) st (show s.heap.IsTuple a its.toArray from p) (by simp; omega) fun h' eb=>⟨rfl,I.turned (t':=s.toks) (fun b o hb e=>eb b o hb e) f0 f1 f3 f4 f5⟩
  self:=fun _ _ _ _ _ st h=>wpAny_pyIter_tupleiter st h
theorem IE {P:Program} {w:World} {K:PySem.W.Frag} {tg:Expr} (it:Addr) (lo:Int) (n:Nat):IA P w K tg (Itr lo n) [it] it (fun i h=>IsRangeIter h it (lo + (i:Nat) * 1) ((n:Int) - (i:Nat)) 1) where
  mem:=by simp
  obj:=fun i h st b hb=>by
    have e:b=it:=by simpa using hb
    subst e
    exact ⟨_,st,fun v z=>by
      have z':Data.fields _=Data.cell v:=z
      cases z'⟩
  keep:=fun i h h' st k=>k it (by simp) _ st
  item:=by
    intro X hP hw hK hc i pins s σ H E I hf st hg
    subst hP hw hK
    obtain ⟨f0,f1,f2,f3,f4,f5⟩:=hf it (by simp)
    have W:=Walks.range (prog:=X.prog) (w:=X.w) (I.ok.hd hc) it lo 1 n
    refine W.item i s _ _ hg st fun v h' tk hv st' kk=>?_
    obtain ⟨t,rfl⟩:=hv
    have I1:Inv X pins σ H { s with heap:=h',toks:=tk }:=I.turned (fun b o hb e=>kk b o (by simpa using hb) e) f0 f1 f3 f4 f5
    refine ⟨_,rfl,MM (s:={ s with heap:=h',toks:=tk }) (n := "range_iterator") st' rfl rfl (by decide) ⟨.int (lo + i),H,I1,⟨t,?_⟩,⟨rfl,rfl⟩,st',fun b hb=>(hf b hb).1⟩⟩
    rw [Int.mul_one]
  done:=by
    intro X hP hw hK hc i pins s σ H E I hf st hg
    subst hP hw hK
    obtain ⟨f0,f1,f2,f3,f4,f5⟩:=hf it (by simp)
    exact wpAny_pyNext_range_end (I.ok.hd hc) st (by have:n <= i:=hg; omega) fun h' eb=>⟨rfl,I.turned (t':=s.toks) (fun b o hb e=>eb b o hb e) f0 f1 f3 f4 f5⟩
  self:=fun _ _ _ _ _ st h=>wpAny_pyIter_rangeiter st h
end L2
namespace L2
open PySem PySem.Spec PyProof.Rows
section
variable {X:Cx} {tg:Expr}
def OY (K:PySem.W.Frag) (tl:TE):TI:=fun σ H R=>tl σ H fun x H1=>∃ a,x=.ref a /\ (∃ xs,SqL K H1 a xs) /\ R (Itl K a) H1
def Qw (K:PySem.W.Frag) (tl:TE):TI:=fun σ H R=>tl σ H fun x H1=>∃ a,x=.ref a /\ (∃ xs,SqT K H1 a xs) /\ R (Itt K a) H1
theorem Gi {l:Expr} {tl:TE} (hl:PE X l tl):PI X tg l (OY X.K tl):=by
  intro pins s σ H R I h
  refine thn (hl pins s σ H _ I h) fun v s1 ⟨x,H1,I1,r1,q1⟩=>?_
  obtain ⟨a,e,⟨xs,hq⟩,q⟩:=q1
  subst e
  cases r1
  obtain ⟨its,rv,p,hz⟩:=I1.list hq
  refine wpAny_pyIter_list p.isList ?_
  refine ⟨s1.heap.objs.size,[s1.heap.objs.size],_,_,H1,rfl,I1.kept (t':=s1.toks) fun b o e=>Heap.get?_push_of_some _ e,J5 a _,⟨_,Heap.get?_push_size _ rfl,rfl,rfl⟩,fun b hb=>?_,q⟩
  have e:b=s1.heap.objs.size:=by simpa using hb
  subst e
  exact I1.fpOk (Nat.le_refl _) (I1.hok.fresh (Nat.le_refl _))
theorem O9 {l:Expr} {tl:TE} (hl:PE X l tl):PI X tg l (Qw X.K tl):=by
  intro pins s σ H R I h
  refine thn (hl pins s σ H _ I h) fun v s1 ⟨x,H1,I1,r1,q1⟩=>?_
  obtain ⟨a,e,⟨xs,hq⟩,q⟩:=q1
  subst e
  cases r1
  obtain ⟨its,rv,p,hz⟩:=I1.tuple hq
  refine wpAny_pyIter_tuple (show s1.heap.IsTuple a its.toArray from p) ?_
  refine ⟨s1.heap.objs.size,[s1.heap.objs.size],_,_,H1,rfl,I1.kept (t':=s1.toks) fun b o e=>Heap.get?_push_of_some _ e,ID a _,⟨_,Heap.get?_push_size _ rfl,rfl,rfl⟩,fun b hb=>?_,q⟩
  have e:b=s1.heap.objs.size:=by simpa using hb
  subst e
  exact I1.fpOk (Nat.le_refl _) (I1.hok.fresh (Nat.le_refl _))
theorem LX {pins:List (Addr × Obj)} {σ:St} {H:Hp} {s:Shared} {R:It->Hp->Prop} {E:Value->Shared->Prop} {lo hi:Int} {t u v:Tok} {tk:Nat} (I:Inv X pins σ H s) (h1 : -(2 ^ 62) <= lo) (h2:lo < 2 ^ 62) (h3 : -(2 ^ 62) <= hi) (h4:hi < 2 ^ 62)
    (q:R (Itr lo (hi - lo).toNat) H):wpAny (model X.prog X.w) X.A (pyIter (.ref s.heap.objs.size)) (PIE X pins σ tg R) E { s with heap:=s.heap.push { cls:=.type "range",data:=.fields #[.int lo t,.int hi u,.int 1 v] },toks:=tk }:=by
  refine wpAny_pyIter_range (IsRange.new ..) (small_one h1 h2 h3 h4) ?_
  have I1:Inv X pins σ H { s with heap:=s.heap.push { cls:=.type "range",data:=.fields #[.int lo t,.int hi u,.int 1 v] },toks:=tk }:=I.kept fun b o e=>Heap.get?_push_of_some _ e
  refine ⟨(s.heap.push { cls:=.type "range",data:=.fields #[.int lo t,.int hi u,.int 1 v] }).objs.size,[(s.heap.push { cls:=.type "range",data:=.fields #[.int lo t,.int hi u,.int 1 v] }).objs.size],_,_,H,rfl,
    I1.kept (t':=tk) fun b o e=>Heap.get?_push_of_some _ e,IE _ lo (hi - lo).toNat,?_,fun b hb=>?_,q⟩
  . have e1:lo + ((0:Nat):Int) * 1=lo:=by simp
    have e2:(((hi - lo).toNat:Nat):Int) - ((0:Nat):Int)=Builtin.Range.rangeSize lo hi 1:=by rw [rangeSize_one]; split <;> omega
    show IsRangeIter _ _ (lo + ((0:Nat):Int) * 1) ((((hi - lo).toNat:Nat):Int) - ((0:Nat):Int)) 1
    rw [e1,e2]
    exact Heap.get?_push_size _ rfl
  . have e:b=(s.heap.push { cls:=.type "range",data:=.fields #[.int lo t,.int hi u,.int 1 v] }).objs.size:=by simpa using hb
    subst e
    exact I1.fpOk (Nat.le_refl _) (I1.hok.fresh (Nat.le_refl _))
def Qx (ta:TA):TI:=fun σ H R=>ta σ H fun vs H1=>∃ j:Int,vs=[.int j] /\ -(2 ^ 62) <= j /\ j < 2 ^ 62 /\ R (Itr 0 j.toNat) H1
theorem KQ {a:Expr} {ta:TA} {p pos:Pos} (hg:Gl X "range") (hm:X.mg "range" = none) (ha:PA X [a] ta) (hs:starEach [a] X.env=[(false,eval a X.env)]:=by rfl):PI X tg (.Call (.Name "range" p) [a] [] pos) (Qx ta):=by
  intro pins s σ H R I h
  refine Call_ (FO I hg hm boot_range (PyProof.Rows.callWith_type1 (thn (ha pos pins s σ H _ I h) fun us s1 ⟨vs,H1,I1,r1,q1⟩=>?_) hs rfl))
  obtain ⟨j,e,q1,q2,q⟩:=q1
  subst e
  cases r1 with
  | cons r rr=>
    cases rr
    obtain ⟨t,rfl⟩:=r
    exact call_range_1 (LX I1 (by omega) (by omega) q1 q2 (by simpa using q))
def RL (wi:TI) (g:TG) (tb:TS):TS:=fun D σ H=>wi σ H fun J H1=>∃ W:Nat->Nat->St->Hp->Prop,(∃ m,W 0 m σ H1) /\ ∀ i m σ H,W i m σ H->
  (J.stop i H /\ D.nx σ H) ∨ (J.go i H /\ ∃ N:St->Hp->Prop,(∀ σ' H',N σ' H'->∃ m',m' < m /\ W (i + 1) m' σ' H') /\ ∀ x H',J.yld i H x H'->g x σ H' fun σ2 H2=>tb { D with nx:=N,ct:=N,bk:=D.nx } σ2 H2)
def Gh (fp:List Addr) (h:Heap):List (Addr × Obj):=fp.filterMap fun b=>(h.get? b).map fun o=>(b,o)
theorem A1 {fp:List Addr} {h:Heap} {b:Addr} {o:Obj} (hb:b ∈ fp) (e:h.get? b=some o):(b,o) ∈ Gh fp h:=List.mem_filterMap.mpr ⟨b,hb,by rw [e]; rfl⟩
theorem KY {fp:List Addr} {h:Heap} {p:Addr × Obj} (hp:p ∈ Gh fp h):p.1 ∈ fp /\ h.get? p.1=some p.2:=by
  obtain ⟨b,hb,e⟩:=List.mem_filterMap.mp hp
  cases q:h.get? b with
  | none=>rw [q] at e; cases e
  | some o=>
    rw [q] at e
    have e':(b,o)=p:=Option.some.inj e
    subst e'
    exact ⟨hb,q⟩
theorem Inv.pinned {pins:List (Addr × Obj)} {σ:St} {H:Hp} {s:Shared} {fp:List Addr} (I:Inv X pins σ H s) (hf:∀ b ∈ fp,DB X pins H b) (ho:∀ b ∈ fp,∃ o,s.heap.get? b=some o /\ ∀ v,o.data ≠ .cell v):Inv X (pins ++ Gh fp s.heap) σ H s:=
  I.pins_of fun p hp=>(List.mem_append.mp hp).elim (fun z=>I.pin p (List.mem_append_right _ z)) fun z=>by
    obtain ⟨hb,e⟩:=KY z
    obtain ⟨f0,f1,f2,_⟩:=hf p.1 hb
    obtain ⟨o,e',d⟩:=ho p.1 hb
    rw [e] at e'; cases e'
    exact ⟨e,f0,f1,f2,d⟩
theorem Inv.unpinned {pins pl:List (Addr × Obj)} {σ:St} {H:Hp} {s:Shared} (I:Inv X (pins ++ pl) σ H s):Inv X pins σ H s:=I.pins_of fun p hp=>I.pin p (List.mem_append_right _ (List.mem_append_left _ hp))
theorem Ld {iter:Expr} {body:List Stmt} {wi:TI} {g:TG} {tb:TS} {pos:Pos} (hp:PassesOwn (model X.prog X.w) X.A X.env X.xe) (hc:X.calm=true) (hi:PI X tg iter wi) (hg:PG X tg g) (hb:PSs X body tb)
    (hs:∀ x,foldedSetIterable iter X.env x=pure x:=by intro _; rfl):PS X (.For tg iter body [] pos) (RL wi g tb):=by
  intro pins s σ H D I h
  refine wpAny_For (thn (hi pins s σ H _ I h) fun v s1 h1=>thn h1 fun itv s2 h2=>?_) hs
  obtain ⟨it,fp,tn,J,H2,e,I2,T,st2,f2,W,⟨m0,w0⟩,turn⟩:=h2
  subst e
  have stat:∀ {H':Hp},(∀ b ∈ fp,H' b=none)->∀ b ∈ fp,DB X pins H' b:=fun hn b hb=>⟨hn b hb,(f2 b hb).2⟩
  refine codeAny_forLoop_any (fun n s'=>∃ i σ' H',Inv X pins σ' H' s' /\ tn i s'.heap /\ (∀ b ∈ fp,H' b=none) /\ W i n σ' H') ?_ m0 ⟨0,σ,H2,I2,st2,fun b hb=>(f2 b hb).1,w0⟩
  rintro n s3 ⟨i,σ3,H3,I3,st3,fr3,w3⟩
  rcases turn i n σ3 H3 w3 with ⟨stop,qn⟩ | ⟨go,N,hN,step⟩
  . refine wpAny_passesOwn hp (thn (T.done X rfl rfl rfl hc i pins s3 σ3 H3 X.xe I3 (stat fr3) st3 stop) fun r s4 ⟨hr,I4⟩=>?_)
    subst hr
    exact wpAny_execs_nil ⟨σ3,H3,I4,qn⟩
  . refine wpAny_passesOwn hp (thn (T.item X rfl rfl rfl hc i pins s3 σ3 H3 X.xe I3 (stat fr3) st3 go) fun r s4 ⟨u,hr,h4⟩=>?_)
    subst hr
    refine wpAny_passesOwn hp (thn h4 fun _ s5 ⟨x,H5,I5,r5,y5,st5,fr5⟩=>?_)
    have I5':=I5.pinned (stat fr5) (T.obj _ _ st5)
    refine wpAny_passesOwn hp (thn (hg _ s5 σ3 H5 x u _ I5' r5 (step x H5 y5)) fun _ s6 ⟨σ6,H6,I6,q6⟩=>?_)
    refine wpAny_passesOwn hp (thn (hb _ s6 σ6 H6 _ I6 q6) fun f s7 q7=>?_)
    have again:∀ {σ7:St} {H7:Hp},Inv X (pins ++ Gh fp s5.heap) σ7 H7 s7->N σ7 H7->∃ m,m < n /\ ∃ i σ' H',Inv X pins σ' H' s7 /\ tn i s7.heap /\ (∀ b ∈ fp,H' b=none) /\ W i m σ' H':=fun {σ7 H7} I7 n7=>by
      obtain ⟨m',hm,w7⟩:=hN σ7 H7 n7
      refine ⟨m',hm,i + 1,σ7,H7,I7.unpinned,T.keep _ _ _ st5 fun b hb o e=>(I7.pin (b,o) (List.mem_append_right _ (List.mem_append_right _ (A1 hb e)))).1,fun b hb=>?_,w7⟩
      obtain ⟨o,e,d⟩:=T.obj _ _ st5 b hb
      exact (I7.pin (b,o) (List.mem_append_right _ (List.mem_append_right _ (A1 hb e)))).2.1
    cases f with
    | next=>obtain ⟨σ7,H7,I7,n7⟩:=q7; exact again I7 n7
    | cont=>obtain ⟨σ7,H7,I7,n7⟩:=q7; exact again I7 n7
    | brk=>obtain ⟨σ7,H7,I7,q7⟩:=q7; exact ⟨σ7,H7,I7.unpinned,q7⟩
    | ret v=>obtain ⟨x7,σ7,H7,I7,r7,q7⟩:=q7; exact ⟨x7,σ7,H7,I7.unpinned,r7,q7⟩
end
end L2
namespace L2
open PySem PySem.Spec PyProof.Rows
abbrev R2:=V->V->Hp->VK->Prop
def OpR (X:Cx) (f:Value->Value->Sem Value) (r:R2):Prop:=
  ∀ (pins:List (Addr × Obj)) (s:Shared) (σ:St) (H:Hp) (x y:V) (v u:Value) (Q:VK),Inv X pins σ H s->RelV x v->RelV y u->r x y H Q->
    wpAny (model X.prog X.w) X.A (f v u) (EP X pins σ Q) X.xe s
def UnR (X:Cx) (f:Value->Sem Value) (r:V->Hp->VK->Prop):Prop:=
  ∀ (pins:List (Addr × Obj)) (s:Shared) (σ:St) (H:Hp) (x:V) (v:Value) (Q:VK),Inv X pins σ H s->RelV x v->r x H Q->
    wpAny (model X.prog X.w) X.A (f v) (EP X pins σ Q) X.xe s
def B0 (X:Cx) (f:Value) (r:List V->Hp->VK->Prop):Prop:=
  ∀ (pins:List (Addr × Obj)) (s:Shared) (σ:St) (H:Hp) (xs:List V) (us:List Value) (Q:VK),Inv X pins σ H s->Vals xs us->r xs H Q->
    wpAny (model X.prog X.w) X.A (call f us) (EP X pins σ Q) X.xe s
def tOp (r:R2) (ta tb:TE):TE:=fun σ H Q=>ta σ H fun x H1=>tb σ H1 fun y H2=>r x y H2 Q
def tUn (r:V->Hp->VK->Prop) (ta:TE):TE:=fun σ H Q=>ta σ H fun x H1=>r x H1 Q
def rI (C:Int->Int->Prop) (g:Int->Int->V):R2:=fun x y H Q=>∃ i j,x=.int i /\ y=.int j /\ C i j /\ Q (g i j) H
def rI0 (g:Int->Int->V):R2:=fun x y H Q=>∃ i j,x=.int i /\ y=.int j /\ Q (g i j) H
def rU (g:Int->V):V->Hp->VK->Prop:=fun x H Q=>∃ i,x=.int i /\ Q (g i) H
section
variable {X:Cx} {a b c:Expr} {ta tb tc:TE} {pos:Pos}
theorem Py (ha:PE X a ta) (hb:PE X b tb) {pins:List (Addr × Obj)} {s:Shared} {σ:St} {H:Hp} {R:V->V->Hp->Prop} (I:Inv X pins σ H s)
    (h:ta σ H fun x H1=>tb σ H1 fun y H2=>R x y H2) {Q:Value->Shared->Prop} {f:Value->Value->Sem Value}
    (hf:∀ v u s2 x y H2,Inv X pins σ H2 s2->RelV x v->RelV y u->R x y H2->wpAny (model X.prog X.w) X.A (f v u) Q X.xe s2) :
    wpAny (model X.prog X.w) X.A (eval a X.env) (fun v s₁=>wpAny (model X.prog X.w) X.A (eval b X.env) (fun u s₂=>wpAny (model X.prog X.w) X.A (f v u) Q X.xe s₂) X.xe s₁) X.xe s:=by
  refine thn (ha pins s σ H _ I h) fun v s1 ⟨x,H1,I1,r1,q1⟩=>?_
  refine thn (hb pins s1 σ H1 _ I1 q1) fun u s2 ⟨y,H2,I2,r2,q2⟩=>?_
  exact hf v u s2 x y H2 I2 r1 r2 q2
theorem Qg {op:Operator} {r:R2} (ho:OpR X (binaryOp op) r) (ha:PE X a ta) (hb:PE X b tb):PE X (.BinOp a op b pos) (tOp r ta tb):=by
  intro pins s σ H Q I h
  exact wpAny_BinOp (Py ha hb I h fun v u s2 x y H2 I2 rx ry q=>ho pins s2 σ H2 x y v u Q I2 rx ry q)
theorem Qf {op:UnaryOp} {r:V->Hp->VK->Prop} (ho:UnR X (unaryOp op) r) (ha:PE X a ta):PE X (.UnaryOp op a pos) (tUn r ta):=by
  intro pins s σ H Q I h
  exact UnaryOp_ (thn (ha pins s σ H _ I h) fun v s1 ⟨x,H1,I1,r1,q1⟩=>ho pins s1 σ H1 x v Q I1 r1 q1)
theorem opI {f:Value->Value->Sem Value} {C:Int->Int->Prop} {g:Int->Int->Int}
    (rule:∀ (i j:Int) (t u:Tok) (s:Shared) (Q:Value->Shared->Prop) (E:Value->Shared->Prop),C i j->Q (.int (g i j) s.toks) { s with toks:=s.toks + 1 }->wpAny (model X.prog X.w) X.A (f (.int i t) (.int j u)) Q E s) :
    OpR X f (rI C fun i j=>.int (g i j)):=by
  intro pins s σ H x y v u Q I rx ry h
  obtain ⟨i,j,rfl,rfl,hc,q⟩:=h
  obtain ⟨t,rfl⟩:=rx
  obtain ⟨t',rfl⟩:=ry
  exact rule i j t t' s _ _ hc ⟨.int (g i j),H,I.tok _,⟨_,rfl⟩,q⟩
theorem Qn {f:Value->Value->Sem Value} {g:Int->Int->Int}
    (rule:∀ (i j:Int) (t u:Tok) (s:Shared) (Q:Value->Shared->Prop) (E:Value->Shared->Prop),Q (.int (g i j) s.toks) { s with toks:=s.toks + 1 }->wpAny (model X.prog X.w) X.A (f (.int i t) (.int j u)) Q E s) :
    OpR X f (rI0 fun i j=>.int (g i j)):=by
  intro pins s σ H x y v u Q I rx ry h
  obtain ⟨i,j,rfl,rfl,q⟩:=h
  obtain ⟨t,rfl⟩:=rx
  obtain ⟨t',rfl⟩:=ry
  exact rule i j t t' s _ _ ⟨.int (g i j),H,I.tok _,⟨_,rfl⟩,q⟩
theorem Qo {f:Value->Value->Sem Value} {g:Int->Int->Bool}
    (rule:∀ (i j:Int) (t u:Tok) (s:Shared) (Q:Value->Shared->Prop) (E:Value->Shared->Prop),Q (.bool (g i j)) s->wpAny (model X.prog X.w) X.A (f (.int i t) (.int j u)) Q E s) :
    OpR X f (rI0 fun i j=>.bl (g i j)):=by
  intro pins s σ H x y v u Q I rx ry h
  obtain ⟨i,j,rfl,rfl,q⟩:=h
  obtain ⟨t,rfl⟩:=rx
  obtain ⟨t',rfl⟩:=ry
  exact rule i j t t' s _ _ ⟨.bl (g i j),H,I,rfl,q⟩
def Ro (i j:Int):Prop:=0 < j /\ j < 1073741824
def Rn (i j:Int):Prop:=0 <= j /\ j <= 1000000 /\ i.natAbs < 2 ^ 64
def CMul (i j:Int):Prop:=(-(2 ^ 64) < i /\ i < 2 ^ 64) ∨ (-(2 ^ 64) < j /\ j < 2 ^ 64)
theorem CMul.ok {i j:Int} (h:CMul i j):IntMulOk i j:=by
  rcases h with ⟨h1,h2⟩ | ⟨h1,h2⟩
  . exact .of_left (intBits_le_64 h1 h2)
  . exact .of_right (intBits_le_64 h1 h2)
theorem PX:OpR X (binaryOp .Add) (rI0 fun i j=>.int (i + j)):=Qn fun _ _ _ _ _ _ _ q=>add_int q
theorem PL:OpR X (binaryOp .Sub) (rI0 fun i j=>.int (i - j)):=Qn fun _ _ _ _ _ _ _ q=>sub_int q
theorem PQ:OpR X (binaryOp .Mult) (rI CMul fun i j=>.int (i * j)):=opI fun _ _ _ _ _ _ _ hc q=>mul_int q hc.ok
theorem Np:OpR X (binaryOp .FloorDiv) (rI Ro fun i j=>.int (i / j)):=opI fun i j _ _ _ _ _ hc q=>by
  have h1:(0:Int) < j:=hc.1
  have h2:j < 1073741824:=hc.2
  exact floordiv_int (by omega) (by rw [Int.fdiv_eq_ediv_of_nonneg i (by omega)]; exact q) (.inl (PyProof.noPylong_small (by omega)))
theorem PR:OpR X (binaryOp .Mod) (rI (fun _ j=>0 < j) fun i j=>.int (i % j)):=opI fun i j _ _ _ _ _ hc q=>by
  have h1:(0:Int) < j:=hc
  exact mod_int' (by omega) (by rw [Int.fmod_eq_emod_of_nonneg i (by omega)]; exact q)
theorem PN:OpR X (binaryOp .Pow) (rI Rn fun i j=>.int (i ^ j.toNat)):=opI fun _ _ _ _ _ _ _ hc q=>pow_int_small hc.1 hc.2.1 hc.2.2 q
theorem unI {f:Value->Sem Value} {g:Int->Int}
    (rule:∀ (i:Int) (t:Tok) (s:Shared) (Q:Value->Shared->Prop) (E:Value->Shared->Prop),Q (.int (g i) s.toks) { s with toks:=s.toks + 1 }->wpAny (model X.prog X.w) X.A (f (.int i t)) Q E s) :
    UnR X f (rU fun i=>.int (g i)):=by
  intro pins s σ H x v Q I rx h
  obtain ⟨i,rfl,q⟩:=h
  obtain ⟨t,rfl⟩:=rx
  exact rule i t s _ _ ⟨.int (g i),H,I.tok _,⟨_,rfl⟩,q⟩
theorem Of:UnR X (unaryOp .USub) (rU fun i=>.int (-i)):=unI fun _ _ _ _ _ q=>neg_int q
end
section
variable {X:Cx} {a b c:Expr} {ta tb tc:TE} {pos:Pos}
theorem Gu {pins:List (Addr × Obj)} {σ:St} {H:Hp} {s:Shared} {Q:VK} {k k':Bool} (I:Inv X pins σ H s) (q:Q (.bl k) H) (e:k=k'):EP X pins σ Q (.bool k') s:=by
  subst e
  exact ⟨.bl k,H,I,rfl,q⟩
theorem Ql:OpR X (compareOp .Lt) (rI0 fun i j=>.bl (decide (i < j))):=Qo fun _ _ _ _ _ _ _ q=>lt_int q
theorem Qm:OpR X (compareOp .Gt) (rI0 fun i j=>.bl (decide (j < i))):=Qo fun _ _ _ _ _ _ _ q=>gt_int q
theorem KU:OpR X (compareOp .In) (fun x y H Q=>∃ i j,x=.str i /\ y=.str j /\ Q (.bl (!(Builtin.Str.occurrences j i 0 j.length 1).isEmpty)) H):=by
  intro pins s σ H x y v u Q I rx ry h
  obtain ⟨i,j,rfl,rfl,q⟩:=h
  obtain ⟨t,rfl⟩:=rx
  obtain ⟨t',rfl⟩:=ry
  exact in_str (Gu I q rfl)
theorem PU:OpR X (compareOp .Is) (fun x y H Q=>y=.non /\ Q (.bl (decide (x=.non))) H):=by
  intro pins s σ H x y v u Q I rx ry h
  obtain ⟨rfl,q⟩:=h
  cases ry
  refine is_none_gen (Gu I q ?_)
  cases x <;> first
    | (cases rx; rfl)
    | (obtain ⟨t,rfl⟩:=rx; rfl)
theorem No:OpR X (compareOp .IsNot) (fun x y H Q=>y=.non /\ Q (.bl (!decide (x=.non))) H):=by
  intro pins s σ H x y v u Q I rx ry h
  obtain ⟨rfl,q⟩:=h
  cases ry
  refine isnot_none_gen (Gu I q ?_)
  cases x <;> first
    | (cases rx; rfl)
    | (obtain ⟨t,rfl⟩:=rx; rfl)
theorem Gj:OpR X (compareOp .NotIn) (fun x y H Q=>∃ i j,x=.str i /\ y=.str j /\ Q (.bl (!(!(Builtin.Str.occurrences j i 0 j.length 1).isEmpty))) H):=by
  intro pins s σ H x y v u Q I rx ry h
  obtain ⟨i,j,rfl,rfl,q⟩:=h
  obtain ⟨t,rfl⟩:=rx
  obtain ⟨t',rfl⟩:=ry
  exact notIn_str (Gu I q rfl)
theorem Lx (b:Expr) {op:CmpOp} (h:op ≠ .In:=by decide) (h2:op ≠ .NotIn:=by decide):behindInMarks op b=false:=by
  have e1:(op == CmpOp.In)=false:=by cases op <;> first | rfl | exact absurd rfl h
  have e2:(op == CmpOp.NotIn)=false:=by cases op <;> first | rfl | exact absurd rfl h2
  cases b <;> simp [behindInMarks,e1,e2]
theorem Ni {op:CmpOp} {r:R2} (ho:OpR X (compareOp op) r) (ha:PE X a ta) (hb:PE X b tb) (hm:behindInMarks op b=false):PE X (.Compare a [op] [b] pos) (tOp r ta tb):=by
  intro pins s σ H Q I h
  exact wpAny_Compare1 (Py ha hb I h fun v u s2 x y H2 I2 rx ry q=>ho pins s2 σ H2 x y v u Q I2 rx ry q) hm
def QG (t:TE):TT:=fun σ H Q=>t σ H fun x H'=>∃ k,x=.bl k /\ Q k H'
theorem NV {op:CmpOp} {r:R2} (ho:OpR X (compareOp op) r) (ha:PE X a ta) (hb:PE X b tb) (hm:behindInMarks op b=false):PT X (.Compare a [op] [b] pos) (QG (tOp r ta tb)):=by
  intro pins s σ H Q I h
  refine wpAny_isTrue_Compare1 (thn (ha pins s σ H _ I h) fun v s1 ⟨x,H1,I1,r1,q1⟩=>thn (hb pins s1 σ H1 _ I1 q1) fun u s2 ⟨y,H2,I2,r2,q2⟩=>
    thn (ho pins s2 σ H2 x y v u _ I2 r1 r2 q2) fun c s3 ⟨z,H3,I3,r3,k,e,q3⟩=>?_) hm
  subst e
  cases r3
  exact wpAny_truthy_bool ⟨H3,I3,q3⟩
theorem FN:(sizeLine:Nat) < 2 ^ 63:=by rw [sizeLine_eq]; decide
theorem IW:OpR X (binaryOp .Add) (fun x y H Q=>∃ i j,x=.str i /\ y=.str j /\ i.length + j.length <= sizeLine /\ Q (.str (i ++ j)) H):=by
  intro pins s σ H x y v u Q I rx ry h
  obtain ⟨i,j,rfl,rfl,hz,q⟩:=h
  obtain ⟨t,rfl⟩:=rx
  obtain ⟨t',rfl⟩:=ry
  exact add_str (fun t' tk=>⟨.str (i ++ j),H,I.tok _,⟨_,rfl⟩,q⟩) hz
theorem G0 {x:V} {us:List Value} (r:Vals [x] us):∃ u,us=[u] /\ RelV x u:=by
  cases r with
  | cons r1 r2=>cases r2; exact ⟨_,rfl,r1⟩
theorem P7 {x y:V} {us:List Value} (r:Vals [x,y] us):∃ u w',us=[u,w'] /\ RelV x u /\ RelV y w':=by
  cases r with
  | cons r1 r2=>
    cases r2 with
    | cons r3 r4=>cases r4; exact ⟨_,_,rfl,r1,r3⟩
theorem Ku:B0 X (.type "int") (fun xs H Q=>(∃ i,xs=[.int i] /\ Q (.int i) H) ∨ ∃ k,xs=[.bl k] /\ Q (.int (if k then 1 else 0)) H):=by
  intro pins s σ H xs us Q I r h
  rcases h with ⟨i,rfl,q⟩ | ⟨k,rfl,q⟩
  . obtain ⟨u,rfl,t,rfl⟩:=G0 r
    exact call_int_int ⟨.int i,H,I,⟨_,rfl⟩,q⟩
  . obtain ⟨u,rfl,r1⟩:=G0 r
    cases r1
    exact call_int_bool ⟨.int (if k then 1 else 0),H,I.tok _,⟨_,rfl⟩,q⟩
def Rl (K:PySem.W.Frag) (x:V) (H:Hp) (n:Nat):Prop:=
  match x with
  | .str y=>y.length <= sizeLine /\ n=y.length
  | .byt y=>y.size <= sizeLine /\ n=y.size
  | .ref p=>(∃ xs,SqL K H p xs /\ n=xs.length) ∨ ∃ xs,SqT K H p xs /\ n=xs.length
  | _=>False
theorem Mp:B0 X (.builtin "len") (fun xs H Q=>∃ x n,xs=[x] /\ Rl X.K x H n /\ Q (.int n) H):=by
  intro pins s σ H xs us Q I r h
  obtain ⟨x,n,rfl,e,q⟩:=h
  obtain ⟨u,rfl,rx⟩:=G0 r
  have hl:=FN
  have hs:sizeLine=16777216:=sizeLine_eq
  cases x with
  | str y=>
    obtain ⟨t,rfl⟩:=rx
    obtain ⟨hy,e'⟩:y.length <= sizeLine /\ n=y.length:=e
    subst e'
    exact len_str (by omega) ⟨.int _,H,I.tok _,⟨_,rfl⟩,q⟩
  | byt y=>
    obtain ⟨t,rfl⟩:=rx
    obtain ⟨hy,e'⟩:y.size <= sizeLine /\ n=y.size:=e
    subst e'
    exact PySem.W.len_bytes (by omega) ⟨.int _,H,I.tok _,⟨_,rfl⟩,q⟩
  | ref p=>
    cases rx
    have e':(∃ xs,SqL X.K H p xs /\ n=xs.length) ∨ ∃ xs,SqT X.K H p xs /\ n=xs.length:=e
    rcases e' with ⟨xs,hx,e'⟩ | ⟨xs,hx,e'⟩
    . subst e'
      obtain ⟨its,r',pl,hz⟩:=I.list hx
      have hlen:=r'.length
      exact Calls.call_len_list pl.isList (by simp only [List.size_toArray]; omega) ⟨.int xs.length,H,I.tok _,⟨_,by simp only [List.size_toArray]; rw [hlen]⟩,q⟩
    . subst e'
      obtain ⟨its,r',pl,hz⟩:=I.tuple hx
      have hlen:=r'.length
      exact len_tuple pl (by simp only [List.size_toArray]; omega) ⟨.int xs.length,H,I.tok _,⟨_,by simp only [List.size_toArray]; rw [hlen]⟩,q⟩
  | _=>exact (show False from e).elim
end
end L2
namespace L2
open PySem PySem.Spec PyProof.Rows
structure ObjM (h:Heap) (x dx C:Addr) (mA:Str->Option Value):Prop where
  obj:h.get? x=some (PySem.W.instObj C dx)
  ns:h.Ns1 dx mA
  ne:dx ≠ x
theorem Ke {h:Heap} {dx:Addr} {mA:Str->Option Value} (n:h.Ns1 dx mA):∃ od,h.get? dx=some od /\ ∀ name,PySem.W.lookIn name od=some (mA name):=by
  obtain ⟨o,es,ep,ho,hd,hk,_,hm⟩:=n
  refine ⟨o,ho,fun name=>?_⟩
  have e:=hm name
  unfold nsFind findBy at e
  rw [← Array.find?_toList] at e
  unfold PySem.W.lookIn
  rw [hd]
  dsimp only
  split
  . rename_i y q
    rw [q] at e
    exact congrArg some e
  . rename_i q
    rw [q] at e
    have a:es.toList.any (·.refKey)=false:=by
      rw [List.any_eq_false]
      intro y hy
      obtain ⟨z,t,hkey⟩:=hk y (Array.mem_toList_iff.mp hy)
      simp [DictEntry.refKey,hkey]
    have a' : ¬ es.toList.any (·.refKey)=true:=by rw [a]; exact Bool.false_ne_true
    rw [if_neg a']
    exact congrArg some e
theorem ObjM.look {h:Heap} {x dx C:Addr} {mA:Str->Option Value} (I:ObjM h x dx C mA):∃ od,PySem.W.InstAt h x (PySem.W.instObj C dx) C (some od) /\ ∀ name,PySem.W.lookIn name od=some (mA name):=
  let ⟨od,ho,hl⟩:=Ke I.ns
  ⟨od,⟨I.obj,rfl,rfl,ho⟩,hl⟩
section
variable {prog:Program} {w:World} {A:Around} {E:Value->Shared->Prop} {s:Shared} {K:PySem.W.Frag} {x dx C f:Addr} {mA:Str->Option Value} {name:Str} {v:Value}
end
theorem RelO.some_of {v:V} {o:Option Value} (r:RelO (some v) o):∃ u,o=some u /\ RelV v u:=by
  cases o with
  | none=>exact (show False from r).elim
  | some u=>exact ⟨u,rfl,r⟩
section
variable {P:Program} {w:World} {H H':Hp} {h h':Heap} {a C dx:Addr} {fs fs':List (Str × V)}
theorem N9 (hok:HOk P w H h) (e:H a=some (.ins C dx fs)):∃ mA,ObjM h a dx C mA /\ (∀ f,RelO (fs.lookup f) (mA f)) /\ PySem.Within mA (fs.map (·.1)) /\ fs.length <= 1000 /\ H dx=some (.own a):=by
  obtain ⟨d,z,ne,ob,mA,n,r,q⟩:=(show ObjOk P w H h a (.ins C dx fs) from hok a _ e)
  exact ⟨mA,⟨ob,n,ne⟩,r,q,z,d⟩
end
structure Cls (K:PySem.W.Frag) (C:Addr):Prop where
  pg:PySem.W.plainGet K C Str.empty=true
  hd:PySem.W.hasDictIn K C=true
  po:PySem.W.plainOver K C=true
  sa:PySem.W.findIn K (.ref C) "__setattr__" = some (some (.builtin "object.__setattr__"))
theorem Cls.get {K:PySem.W.Frag} {C:Addr} (c:Cls K C) (f:Str):PySem.W.plainGet K C f=true:=c.pg
section
variable {X:Cx} {pins:List (Addr × Obj)} {σ:St} {H:Hp} {s:Shared} {a C dx:Addr} {fs:List (Str × V)} {f:Str} {v:V} {A:Around} {E:Value->Shared->Prop}
end
section
variable {X:Cx} {o e value:Expr} {f:Str} {pos pos' tpos:Pos} {ta tv:TE}
end
section
variable {X:Cx} {pins:List (Addr × Obj)} {σ:St} {H:Hp} {s:Shared} {A:Around} {E:Value->Shared->Prop} {Q:Value->Shared->Prop} {c:Value} {b:Bool}
inductive D8 (K:PySem.W.Frag) (H:Hp):V->Value->Prop where
  | non:D8 K H .non (.type "NoneType")
  | bl (x:Bool):D8 K H (.bl x) (.type "bool")
  | int (i:Int):D8 K H (.int i) (.type "int")
  | str (x:Str):D8 K H (.str x) (.type "str")
  | flt (x:UInt64):D8 K H (.flt x) (.type "float")
  | lst {a:Addr} {xs:List V} (e:H a=some (.lst xs)):D8 K H (.ref a) (.type "list")
  | frz {a:Addr} {o:Obj} {xs:List V} (e:H a=some (.frz o (.lst xs))):D8 K H (.ref a) (.type "list")
  | tup {a:Addr} {xs:List V} (e:H a=some (.tup xs)):D8 K H (.ref a) (.type "tuple")
  | dK {a:Addr} {kvs:List (Key × V)} (e:H a=some (.dK kvs)):D8 K H (.ref a) (.type "dict")
  | dT {a:Addr} {kvs:List (List Key × V)} (e:H a=some (.dT kvs)):D8 K H (.ref a) (.type "dict")
  | ins {a C dx:Addr} {fs:List (Str × V)} (e:H a=some (.ins C dx fs)) (cl:Cls K C) (ha:PySem.W.findIn K (.ref C) "__class__" = some (some (.builtin "object.__class__")))
      (hn:PySem.W.specialIn K (.builtin "object.__class__") "__get__" = some (some (.builtin "getset_descriptor.__get__"))) (htk:PySem.W.takesIn K (.builtin "object.__class__")=some true)
      (hm:PySem.W.mroIn K C (.type "object")=some true):D8 K H (.ref a) (.ref C)
theorem Kh {x:V} {u t:Value} (I:Inv X pins σ H s) (rx:RelV x u) (ty:D8 X.K H x t) (e:PySem.W.kitOne X.K t c=some b) (h:∀ tk,Q (.bool b) { s with toks:=tk }) :
    wpAny (model X.prog X.w) A (call (.builtin "isinstance") [u,c]) Q E s:=by
  cases ty with
  | non=>cases (show u=Value.none from rx); exact PySem.W.kia_one PySem.W.kitx_none I.kIn True.intro e (fun z=>nomatch z) h
  | bl y=>cases (show u=Value.bool y from rx); exact PySem.W.kia_one PySem.W.kitx_bool I.kIn True.intro e (fun z=>nomatch z) h
  | int i=>obtain ⟨t,q⟩:=(show ∃ t,u=Value.int i t from rx); cases q; exact PySem.W.kia_one PySem.W.kitx_int I.kIn True.intro e (fun z=>nomatch z) h
  | str y=>obtain ⟨t,q⟩:=(show ∃ t,u=Value.str y t from rx); cases q; exact PySem.W.kia_one PySem.W.kitx_str I.kIn True.intro e (fun z=>nomatch z) h
  | flt y=>obtain ⟨t,q⟩:=(show ∃ t,u=Value.float y t from rx); cases q; exact PySem.W.kia_one PySem.W.kitx_float I.kIn True.intro e (fun z=>nomatch z) h
  | @lst a xs ea=>
    cases (show u=Value.ref a from rx)
    obtain ⟨_,_,n,_,h1⟩:=(show ObjOk X.prog X.w H s.heap a (.lst xs) from I.hok a _ ea)
    exact PySem.W.kia_one PySem.W.kitx_list I.kIn ⟨_,h1,rfl⟩ e (fun z=>nomatch z) h
  | @frz a ob xs ea=>
    cases (show u=Value.ref a from rx)
    obtain ⟨_,_,_,n,_,h1⟩:=(show ObjOk X.prog X.w H s.heap a (.frz ob (.lst xs)) from I.hok a _ ea)
    exact PySem.W.kia_one PySem.W.kitx_list I.kIn ⟨_,h1,rfl⟩ e (fun z=>nomatch z) h
  | @tup a xs ea=>
    cases (show u=Value.ref a from rx)
    obtain ⟨_,_,_,p⟩:=(show ObjOk X.prog X.w H s.heap a (.tup xs) from I.hok a _ ea)
    obtain ⟨o,h1,h2,_⟩:=p
    exact PySem.W.kia_one PySem.W.kitx_tuple I.kIn ⟨o,h1,h2⟩ e (fun z=>nomatch z) h
  | @dK a kvs ea=>
    cases (show u=Value.ref a from rx)
    obtain ⟨_,_,vs,_,p⟩:=(show ObjOk X.prog X.w H s.heap a (.dK kvs) from I.hok a _ ea)
    obtain ⟨o,es,ep,h1,h2,_⟩:=p
    exact PySem.W.kia_one PySem.W.kitx_dict I.kIn ⟨o,h1,h2.1⟩ e (fun z=>nomatch z) h
  | @dT a kvs ea=>
    cases (show u=Value.ref a from rx)
    obtain ⟨_,_,xs,_,o,es,ep,h1,h2,_⟩:=(show ObjOk X.prog X.w H s.heap a (.dT kvs) from I.hok a _ ea)
    exact PySem.W.kia_one PySem.W.kitx_dict I.kIn ⟨o,h1,h2.1⟩ e (fun z=>nomatch z) h
  | @ins a C dx fs ea cl ha hn htk hm=>
    cases (show u=Value.ref a from rx)
    obtain ⟨mA,O,_⟩:=N9 I.hok ea
    obtain ⟨od,J,_⟩:=O.look
    exact PySem.W.kia_one (PySem.W.kitx_own (cl.get _) cl.hd ha hn htk hm) I.kIn J e (fun z=>nomatch z) h
end
end L2
namespace L2
open PySem PySem.Spec PyProof.Rows
structure Room (k:Nat) (A:Around):Prop where
  hd:A.handled=none
  dp:A.depth + 3 * k + 5 < recursionLimit
  un:A.units + 16 * k + 200 < cLine
theorem Room.mono {j k:Nat} {A:Around} (r:Room k A) (h:j <= k):Room j A:=⟨r.hd,by have:=r.dp; omega,by have:=r.un; omega⟩
theorem Room.deeper {k:Nat} {A:Around} (r:Room (k + 1) A) (env:Env):Room k (A.deeper env):=
  ⟨r.hd,by have:=r.dp; show A.depth + 1 + 3 * k + 5 < _; omega,by have:=r.un; show A.units + 3 + 16 * k + 200 < _; omega⟩
theorem Room.depth {k:Nat} {A:Around} (r:Room k A):A.depth < recursionLimit:=by have:=r.dp; omega
theorem Room.units {k:Nat} {A:Around} (r:Room k A):A.units + 64 < cLine:=by have:=r.un; omega
def RH:TA:=fun _ H Q=>Q [] H
def QN (ta:TE) (tr:TA):TA:=fun σ H Q=>ta σ H fun x H1=>tr σ H1 fun xs H2=>Q (x :: xs) H2
section
variable {X:Cx} {e:Expr} {es:List Expr} {te:TE} {t:TA} {pos:Pos}
theorem FI:PA X [] RH:=fun _ _ _ _ H Q I h=>Calls.spliced_nil ⟨[],H,I,.nil,h⟩
theorem Dv (ha:PE X e te) (hr:PA X es t) (hs:starEach (e :: es) X.env=(false,eval e X.env) :: starEach es X.env:=by rfl):PA X (e :: es) (QN te t):=by
  intro pos pins s σ H Q I h
  rw [hs]
  show wpAny _ _ (spliced ((false,eval e X.env) :: backTo pos (starEach es X.env))) _ _ s
  refine Calls.spliced_cons (thn (ha pins s σ H _ I h) fun u s1 ⟨x,H1,I1,r1,q1⟩=>?_)
  exact thn (hr pos pins s1 σ H1 _ I1 q1) fun us s2 ⟨xs,H2,I2,r2,q2⟩=>⟨x :: xs,H2,I2,.cons r1 r2,q2⟩
def RB (t:TA):TE:=fun σ H Q=>t σ H fun xs H1=>xs.length <= sizeLine /\ ∀ p,H1 p=none->Q (.ref p) (upd H1 p (.tup xs))
def RJ (t:TA):TE:=fun σ H Q=>t σ H fun xs H1=>xs.length <= sizeLine /\ ∀ p,H1 p=none->Q (.ref p) (upd H1 p (.lst xs))
theorem PD {x1} (h:PA X es t):PE X (.Tuple es x1 pos) (RB t):=by
  intro pins s σ H Q I hq
  refine wpAny_Tuple_spliced (thn (h pos pins s σ H _ I hq) fun us s1 ⟨xs,H1,I1,r,z,q⟩=>⟨by rw [← r.length]; exact z,?_⟩)
  have hf:H1 s1.heap.objs.size=none:=I1.hok.fresh (Nat.le_refl _)
  refine ⟨.ref s1.heap.objs.size,upd H1 s1.heap.objs.size (.tup xs),I1.laid (t':=s1.toks) (fun b u e=>Heap.get?_push_of_some _ e) (Nat.le_refl _) ?_,rfl,q _ hf⟩
  exact ⟨z,us,r,⟨_,Heap.get?_push_size _ rfl,rfl,_,rfl⟩⟩
theorem Ll (h:PA X es t):PE X (.List es pos) (RJ t):=by
  intro pins s σ H Q I hq
  refine wpAny_List_spliced (thn (h pos pins s σ H _ I hq) fun us s1 ⟨xs,H1,I1,r,z,q⟩=>⟨by rw [← r.length]; exact z,?_⟩)
  have hf:H1 s1.heap.objs.size=none:=I1.hok.fresh (Nat.le_refl _)
  refine ⟨.ref s1.heap.objs.size,upd H1 s1.heap.objs.size (.lst xs),I1.laid (t':=s1.toks) (fun b u e=>Heap.get?_push_of_some _ e) (Nat.le_refl _) ?_,rfl,q _ hf⟩
  exact ⟨z,us,0,r,Heap.get?_push_size _ rfl⟩
end
abbrev Sp:=List V->Hp->VK->XK->Prop
abbrev CXT:=List Env->Hp->Shared->XK->Value->Shared->Prop
structure OJ (P:Program) (w:World) (K:PySem.W.Frag) (mg:Str->Option Value) (base:Heap) (A:Around) (outer:List Env) (s:Shared) (H:Hp):Prop where
  frames:A.frames=some outer
  mod:Mod K mg base
  bs:∀ b o,base.get? b=some o->s.heap.get? b=some o /\ H b=none
  bsz:base.objs.size <= s.heap.objs.size
  funs:s.heap.FunFrames base outer
  frf:∀ b ∈ frs outer,H b=none
  hok:HOk P w H s.heap
  bare:AllBare s.gens
def CE (outer:List Env) (P:Program) (w:World) (H:Hp) (s:Shared) (Q:VK) (u:Value) (s':Shared):Prop:=
  ∃ v H',s'.os=s.os /\ AllBare s'.gens /\ Un (frs outer) [] H H' s.heap s'.heap /\ HOk P w H' s'.heap /\ RelV v u /\ Q v H'
def CR (CX:CXT) (outer:List Env) (P:Program) (w:World) (H:Hp) (s:Shared) (Q:VK) (E:XK) (r:Result) (s':Shared):Prop:=
  match r with
  | .ok (.ret u)=>CE outer P w H s Q u s'
  | .ok _=>False
  | .error e=>CX outer H s E e s'
structure FnOk (P:Program) (w:World) (K:PySem.W.Frag) (mg:Str->Option Value) (base:Heap) (CX:CXT) (k:Nat) (f:Addr) (fd:FuncData) (ps:List Str) (sp:Sp):Prop where
  len:∀ vs H Q E,sp vs H Q E->vs.length=ps.length
  run:∀ (A:Around) (outer:List Env) (s:Shared) (H:Hp) (args:Args) (us:List Value) (vs:List V) (Q:VK) (E:XK),Room k A->OJ P w K mg base A outer s H->BindsTo s fd args (ps.zip us)->Vals vs us->sp vs H Q E->
    codeAny (model P w) A (.call (.ref f) args) (CR CX outer P w H s Q E) s
theorem FnOk.imp {P:Program} {w:World} {K:PySem.W.Frag} {mg:Str->Option Value} {base:Heap} {CX:CXT} {k:Nat} {f:Addr} {fd:FuncData} {ps:List Str} {sp sp':Sp} (F:FnOk P w K mg base CX k f fd ps sp)
    (h:∀ vs H Q E,sp' vs H Q E->sp vs H Q E):FnOk P w K mg base CX k f fd ps sp':=
  ⟨fun vs H Q E q=>F.len vs H Q E (h _ _ _ _ q),fun A outer s H args us vs Q E hr he hb hv hs=>F.run A outer s H args us vs Q E hr he hb hv (h _ _ _ _ hs)⟩
section
variable {X:Cx} {pins:List (Addr × Obj)} {σ:St} {H:Hp} {s s':Shared}
theorem Inv.env0 (I:Inv X pins σ H s):OJ X.prog X.w X.K X.mg X.base X.A X.stack s H:=
  ⟨I.ok.frames,I.ok.mod,I.bs,Nat.le_trans I.ok.bsz I.sz,I.stack,I.stkFree,I.hok,I.bare⟩
theorem Inv.after {Q:VK} {u:Value} (I:Inv X pins σ H s) (h:CE X.stack X.prog X.w H s Q u s'):EP X pins σ Q u s':=by
  obtain ⟨v,H',os,bare,un,hok,r,q⟩:=h
  obtain ⟨hh,g,d,t,os'⟩:=s'
  obtain rfl:os'=s.os:=os
  exact ⟨v,H',I.call (h':=hh) (g':=g) (d':=d) (t':=t) (ch:=[]) un hok bare (fun b z=>absurd z (by simp)),r,q⟩
end
def QO (sp:Sp) (dvs:List V) (E:XK) (t:TA):TE:=fun σ H Q=>t σ H fun vs H1=>sp (vs ++ dvs) H1 Q E
def Binds (K:PySem.W.Frag) (fd:FuncData) (ps:List Str) (ds:List Value):Prop:=
  ∀ (s:Shared) (us:List Value),K.In s.heap->(us ++ ds).length=ps.length->BindsTo s fd ⟨us,[]⟩ (ps.zip (us ++ ds))
theorem Binds.all {K:PySem.W.Frag} {fd:FuncData} {ps:List Str} (h:∀ us:List Value,us.length=ps.length->bindArgs fd ⟨us,[]⟩=pure (ps.zip us)):Binds K fd ps []:=fun s us _ hl=>by
  rw [List.append_nil] at hl ⊢
  exact .of_eq (h us hl)
def Ir (CX:CXT) (X:Cx) (E:XK):Prop:=∀ (pins:List (Addr × Obj)) (σ:St) (H:Hp) (s:Shared) (e:Value) (s':Shared),Inv X pins σ H s->CX X.stack H s E e s'->X.xe e s'
section
variable {X:Cx} {CX:CXT} {k:Nat} {f C:Addr} {fd:FuncData} {ps:List Str} {sp:Sp} {dvs:List V} {ds:List Value} {E:XK} {x m:Str} {p pos apos:Pos} {e o:Expr} {es:List Expr} {ta:TE} {t:TA}
theorem Ou {pins:List (Addr × Obj)} {σ:St} {H:Hp} {s:Shared} {Q:VK} {us:List Value} {vs:List V} (F:FnOk X.prog X.w X.K X.mg X.base CX k f fd ps sp) (hr:Room k X.A) (hb:Binds X.K fd ps ds) (hd:Vals dvs ds) (hx:Ir CX X E)
    (I:Inv X pins σ H s) (r:Vals vs us) (h:sp (vs ++ dvs) H Q E):wpAny (model X.prog X.w) X.A (call (.ref f) us) (EP X pins σ Q) X.xe s:=by
  have r2:Vals (vs ++ dvs) (us ++ ds):=r.append hd
  have hl:(us ++ ds).length=ps.length:=by rw [← r2.length]; exact F.len _ _ _ _ h
  refine wpAny_call (codeAny_mono (F.run X.A X.stack s H ⟨us,[]⟩ (us ++ ds) (vs ++ dvs) Q E hr I.env0 (hb s us I.kIn hl) r2 h) fun r s' hq=>?_)
  cases r with
  | error e=>exact hx pins σ H s e s' I hq
  | ok fl=>
    cases fl with
    | ret u=>exact I.after hq
    | next=>exact False.elim hq
    | brk=>exact False.elim hq
    | cont=>exact False.elim hq
theorem Nj (F:FnOk X.prog X.w X.K X.mg X.base CX k f fd ps sp) (hr:Room k X.A) (hg:Gl X x) (hm:X.mg x=some (.ref f)) (hk:PySem.W.keepIn X.K (.ref f)=true) (hb:Binds X.K fd ps ds) (hd:Vals dvs ds) (hx:Ir CX X E)
    (ha:PA X (e :: es) t) (hdb:(x == ("__debug__" : Str))=false:=by decide) (he:starEach (e :: es) X.env=(false,eval e X.env) :: starEach es X.env:=by rfl) (hpl:(backTo pos (starEach es X.env)).any (·.1)=false:=by rfl) :
    PE X (.Call (.Name x p) (e :: es) [] pos) (QO sp dvs E t):=by
  intro pins s σ H Q I h
  refine wpAny_Call_Name_kw (Jc I hg hm ?_ hdb)
  refine PySem.W.callWith_K (h₀:=X.base) I.ok.mod.kin hk (thn (ha pos pins s σ H _ I h) fun us s1 ⟨vs,H1,I1,r,q⟩=>⟨I1.kIn,?_⟩) he hpl
  exact Ou F hr hb hd hx I1 r q
end
section
variable {X:Cx} {CX:CXT} {k:Nat} {f C:Addr} {fd:FuncData} {ps ks:List Str} {sp:Sp} {E:XK} {x m:Str} {p pos apos kpos:Pos} {e o:Expr} {es:List Expr} {kws:List Keyword} {te ta:TE} {t tk:TA} {nm:Option Str}
variable {g:List Value->List Value->List Value} {gV:List V->List V->List V}
end
structure Ad (N P:List Str) (sc:Scope):Prop where
  kind:sc.kind=.function
  co:sc.isCoroutine=false
  gen:sc.isGenerator=false
  nd:N.Nodup
  pre:N.take P.length=P
  par:∀ x ∈ P,sc.names.lookup x=some .local ∨ sc.names.lookup x=some .cell
  nofree:∀ y ∈ sc.names,y.2 ≠ .free
theorem GP {kindOf:Str->Option NameKind} {x:Str}:∀ {binds:List (Str × Value)} {m:Str->Option Value},(∀ v,(x,v) ∉ binds)->bindL kindOf binds m x=m x
  | [],_,_=>rfl
  | (n,v) :: r,m,h=>by
    unfold bindL
    rw [GP fun w hw=>h w (List.mem_cons_of_mem _ hw)]
    split
    . have:x ≠ n:=by rintro rfl; exact h v List.mem_cons_self
      simp [this]
    . rfl
theorem GR {kindOf:Str->Option NameKind} {x:Str}:∀ {binds:List (Str × Value)} {m:Str->Option Value},(∀ v,(x,v) ∉ binds)->bindC kindOf binds m x=m x
  | [],_,_=>rfl
  | (n,v) :: r,m,h=>by
    unfold bindC
    rw [GR fun w hw=>h w (List.mem_cons_of_mem _ hw)]
    split
    . rfl
    . have:x ≠ n:=by rintro rfl; exact h v List.mem_cons_self
      simp [this]
theorem GQ {kindOf:Str->Option NameKind} {x:Str} {v:Value}:∀ {P:List Str} {vs:List Value} {i:Nat} {m:Str->Option Value},P.Nodup->P[i]? = some x->vs[i]? = some v->kindOf x=some .local->
    bindL kindOf (P.zip vs) m x=some v
  | [],_,_,_,_,h,_,_=>by simp at h
  | _ :: _,[],_,_,_,_,h,_=>by simp at h
  | p :: P,w :: vs,0,m,nd,h1,h2,hk=>by
    simp at h1 h2; subst h1; subst h2
    show bindL kindOf ((p,w) :: P.zip vs) m p=_
    unfold bindL
    rw [GP fun v hv=>(List.nodup_cons.mp nd).1 (List.of_mem_zip hv).1,if_pos hk]
    simp
  | p :: P,w :: vs,i + 1,m,nd,h1,h2,hk=>by
    show bindL kindOf ((p,w) :: P.zip vs) m x=_
    unfold bindL
    exact GQ (i:=i) (List.nodup_cons.mp nd).2 (by simpa using h1) (by simpa using h2) hk
theorem GS {kindOf:Str->Option NameKind} {x:Str} {v:Value}:∀ {P:List Str} {vs:List Value} {i:Nat} {m:Str->Option Value},P.Nodup->P[i]? = some x->vs[i]? = some v->kindOf x ≠ some .local->
    bindC kindOf (P.zip vs) m x=some v
  | [],_,_,_,_,h,_,_=>by simp at h
  | _ :: _,[],_,_,_,_,h,_=>by simp at h
  | p :: P,w :: vs,0,m,nd,h1,h2,hk=>by
    simp at h1 h2; subst h1; subst h2
    show bindC kindOf ((p,w) :: P.zip vs) m p=_
    unfold bindC
    rw [GR fun v hv=>(List.nodup_cons.mp nd).1 (List.of_mem_zip hv).1,if_neg hk]
    simp
  | p :: P,w :: vs,i + 1,m,nd,h1,h2,hk=>by
    show bindC kindOf ((p,w) :: P.zip vs) m x=_
    unfold bindC
    exact GS (i:=i) (List.nodup_cons.mp nd).2 (by simpa using h1) (by simpa using h2) hk
def start (N:List Str) (vs:List V):St:=vs.map some ++ List.replicate (N.length - vs.length) none
def Bl (CX:CXT) (P:Program) (w:World) (K:PySem.W.Frag) (mg:Str->Option Value) (base:Heap) (N:List Str) (qual:Str) (scope:Scope) (f:Addr) (cd:Value) (A:Around) (outer:List Env) (s:Shared) (H:Hp) (E:XK):Cx where
  prog:=P
  w:=w
  K:=K
  mg:=mg
  base:=base
  A:=A.deeper (envOfC qual scope s.heap.objs.size f cd)
  N:=N
  s₀:=s
  H₀:=H
  env:=envOfC qual scope s.heap.objs.size f cd
  outer:=outer
  stack:=envOfC qual scope s.heap.objs.size f cd :: outer
  ex:=[]
  calm:=true
  fn:=fun _=>true
  pn:=[]
  xe:=fun e s'=>wpAny (model P w) (A.deeper (envOfC qual scope s.heap.objs.size f cd)) (leaving (envOfC qual scope s.heap.objs.size f cd) e) (fun _ s''=>CX outer H s E e s'') (fun e' s''=>CX outer H s E e' s'') s'
theorem Hr {sc:Scope} {n:Nat} {x:Str} (h:sc.names.lookup x=some .cell):∃ c,(cellsFrom n sc.names []).lookup x=some c:=by
  have q:=PySem.W.cellsFrom_some sc.names n [] (.inl h)
  exact Option.isSome_iff_exists.mp q
theorem Ki {CX:CXT} {P:Program} {w:World} {K:PySem.W.Frag} {mg:Str->Option Value} {base:Heap} {N ps:List Str} {qual:Str} {scope:Scope} {f:Addr} {cd:Value} {A:Around} {outer:List Env} {s s1:Shared} {H:Hp} {E:XK} {us:List Value} {vs:List V}
    (S:Ad N ps scope) (hd:A.handled=none) (e0:OJ P w K mg base A outer s H) (hl:vs.length=ps.length) (r:Vals vs us)
    (x:InCallC s s.heap.objs.size (bindL (envOfC qual scope s.heap.objs.size f cd).kindOf (ps.zip us) fun _=>none) (cellsFrom (s.heap.objs.size + 1) scope.names []) (bindC (envOfC qual scope s.heap.objs.size f cd).kindOf (ps.zip us) fun _=>none) s1) :
    Inv (Bl CX P w K mg base N qual scope f cd A outer s H E) [] (start N vs) H s1:=by
  have hpl:ps.length <= N.length:=by have:=congrArg List.length S.pre; rw [List.length_take] at this; omega
  obtain ⟨h1,tk,rfl,hk⟩:=x.done
  have noA:∀ b:Addr,b ∉ (Bl CX P w K mg base N qual scope f cd A outer s H E).ex:=fun b z=>absurd (show b ∈ ([]:List Addr) from z) (by simp)
  refine ⟨⟨e0.mod,S.kind,rfl,rfl,Nat.le_refl _,fun y z c h1 h2=>?_,fun y hy=>?_,fun y c _ h=>?_,fun _=>hd,Around.frames_deeper e0.frames,.inr ⟨rfl,rfl⟩,fun b z=>absurd z (noA b),e0.bs,e0.bsz,fun b _ _=>noA b,fun b z=>absurd z (noA b),e0.funs,e0.frf⟩,
    rfl,e0.bare,Un.kept hk,⟨_,x.toInCall.ns,fun i y v h1 h2 h3=>?_⟩,fun y c h=>⟨_,x.cell y c h⟩,e0.hok.fresh (Nat.le_refl _),fun y c h=>?_,fun p hp=>absurd (show p ∈ ([]:List (Addr × Obj)) from hp) (by simp),e0.hok.kept hk,?_⟩
  . exact name_of_addr x.apart (PySem.mem_of_lookup h1) (PySem.mem_of_lookup h2)
  . have hy:scope.names.lookup y=some .cell ∨ scope.names.lookup y=some .free:=hy
    rcases hy with hy | hy
    . exact Hr hy
    . exact absurd rfl (S.nofree _ (PySem.mem_of_lookup hy))
  . exact Nat.le_of_lt (x.above y c (PySem.mem_of_lookup h))
  . have hi:i < vs.length:=by
      unfold start at h2
      by_cases hi:i < vs.length
      . exact hi
      . rw [List.getElem?_append_right (by simpa using hi)] at h2
        rw [List.getElem?_replicate] at h2
        split at h2 <;> cases h2
    have ha:vs[i]? = some v:=by
      unfold start at h2
      rw [List.getElem?_append_left (by simpa using hi),List.getElem?_map] at h2
      cases e:vs[i]? with
      | none=>rw [e] at h2; cases h2
      | some a=>rw [e] at h2; cases h2; rfl
    obtain ⟨u,hu,rv⟩:=r.get ha
    have hp:ps[i]? = some y:=by
      rw [← S.pre,List.getElem?_take_of_lt (by omega)]; exact h1
    have ndP:ps.Nodup:=by rw [← S.pre]; exact S.nd.sublist (List.take_sublist _ _)
    refine ⟨u,rv,?_⟩
    rcases S.par y (List.mem_of_getElem? hp) with k | k
    . exact .inl ⟨k,GQ ndP hp hu k⟩
    . obtain ⟨c,e⟩:=Hr (n:=s.heap.objs.size + 1) k
      refine .inr ⟨.inl k,c,e,?_⟩
      have q:=x.cell y c e
      rw [GS ndP hp hu (by show scope.names.lookup y ≠ _; rw [k]; decide)] at q
      exact q
  . exact e0.hok.fresh (Nat.le_of_lt (x.above y c (PySem.mem_of_lookup h)))
  . unfold start
    show _=N.length
    rw [List.length_append,List.length_map,List.length_replicate]
    omega
theorem Qz {CX:CXT} {P:Program} {w:World} {K:PySem.W.Frag} {mg:Str->Option Value} {base:Heap} {k:Nat} {f:Addr} {name qual:Str} {params:Arguments} {body:List Stmt} {scope:Scope} {dV kV doc pm cdv ct oc:Value} {an od:Option Addr}
    {osl:Array (Option Value)} {N ps:List Str} {sp:Sp} (lk:K.lookup f=some ⟨oc,od,.func (PySem.W.fnOf name qual params body scope dV kV doc pm an cdv ct),osl⟩) (hcd:PySem.W.codeIn K cdv qual=true) (S:Ad N ps scope)
    (len:∀ vs H Q E,sp vs H Q E->vs.length=ps.length)
    (hbody:∀ (A:Around) (outer:List Env) (s:Shared) (H:Hp) (vs:List V) (Q:VK) (E:XK),Room k (A.deeper (envOfC qual scope s.heap.objs.size f cdv))->sp vs H Q E->
      ∃ t,PSs (Bl CX P w K mg base N qual scope f cdv A outer s H E) body t /\ t { nx:=fun _ H'=>Q .non H',rt:=Q } (start N vs) H) :
    FnOk P w K mg base CX (k + 1) f (PySem.W.fnOf name qual params body scope dV kV doc pm an cdv ct) ps sp:=by
  refine ⟨len,fun A outer s H args us vs Q E hr e0 hb r hsp=>?_⟩
  have hl:=len _ _ _ _ hsp
  have KX:K.In s.heap:=e0.mod.kin.keeps fun b o e=>(e0.bs b o e).1
  have lim:s.heap.NoLimit:=e0.mod.nolimit.keeps fun b o e=>(e0.bs b o e).1
  have hkind:∀ y ∈ ps.zip us,scope.names.lookup y.1=some .local ∨ (scope.names.lookup y.1=some .cell /\ ((cellsFrom (s.heap.objs.size + 1) scope.names []).lookup y.1).isSome=true):=fun ⟨n,v⟩ hy=>by
    rcases S.par n (List.of_mem_zip hy).1 with q | q
    . exact .inl q
    . exact .inr ⟨q,PySem.W.cellsFrom_some _ _ _ (.inl q)⟩
  refine codeAny_call_function hr.depth (KX _ _ lk) rfl S.co S.gen rfl (PySem.W.codeRec_of KX hcd) (hb _ _ _ _ ?_)
  refine wpAny_newFunctionEnv_cells S.kind hkind fun env he s1 x=>?_
  subst he
  refine ⟨lim.keeps x.toInCall.keep,codeAny_func ?_⟩
  obtain ⟨t,ht,hq⟩:=hbody A outer s H vs Q E (hr.deeper _) hsp
  have I:Inv (Bl CX P w K mg base N qual scope f cdv A outer s H E) [] (start N vs) H s1:=Ki S hr.hd e0 hl r x
  refine wpAny_mono (ht [] s1 (start N vs) H _ I hq) (fun fl s' hs=>?_) fun e s' hs=>hs
  have fin:∀ {σ':St} {H':Hp} {v:V} {u:Value},Inv (Bl CX P w K mg base N qual scope f cdv A outer s H E) [] σ' H' s'->RelV v u->Q v H'->CE outer P w H s Q u s':=
    fun {σ' H' v u} J rv q=>⟨v,H',J.os,J.bare,J.base,J.hok,rv,q⟩
  cases fl with
  | ret u=>
    obtain ⟨v,σ',H',J,rv,q⟩:=hs
    exact fin J rv q
  | next=>
    obtain ⟨σ',H',J,q⟩:=hs
    exact fin (v:=V.non) (u:=Value.none) J rfl q
  | brk=>
    obtain ⟨_,_,_,q⟩:=hs
    exact False.elim q
  | cont=>
    obtain ⟨_,_,_,q⟩:=hs
    exact False.elim q
end L2
namespace L2
open PySem PySem.Spec PyProof.Rows
section
variable {X:Cx} {x:Str} {p pos:Pos} {e:Expr} {es:List Expr} {t:TA} {id T:String} {r:List V->Hp->VK->Prop}
def tCB (r:List V->Hp->VK->Prop) (t:TA):TE:=fun σ H Q=>t σ H fun vs H1=>r vs H1 Q
theorem HN (hc:B0 X (.builtin id) r) (hg:Gl X x) (hm:X.mg x=none) (hv:bootBuiltins x=some (.builtin id)) (ha:PA X (e :: es) t) (hn:x ≠ "__name__" := by decide) (hdb:(x == ("__debug__" : Str))=false:=by decide)
    (he:starEach (e :: es) X.env=(false,eval e X.env) :: starEach es X.env:=by rfl) (hpl:(backTo pos (starEach es X.env)).any (·.1)=false:=by rfl):PE X (.Call (.Name x p) (e :: es) [] pos) (tCB r t):=by
  intro pins s σ H Q I h
  refine wpAny_Call_Name_kw (FO I hg hm hv ?_ hn hdb)
  exact PyProof.Rows.callWith_builtin1 (thn (ha pos pins s σ H _ I h) fun us s1 ⟨vs,H1,I1,r1,q1⟩=>hc pins s1 σ H1 vs us Q I1 r1 q1) he hpl
theorem DH (hc:B0 X (.type T) r) (hg:Gl X x) (hm:X.mg x=none) (hv:bootBuiltins x=some (.type T)) (ha:PA X (e :: es) t) (hn:x ≠ "__name__" := by decide) (hdb:(x == ("__debug__" : Str))=false:=by decide)
    (he:starEach (e :: es) X.env=(false,eval e X.env) :: starEach es X.env:=by rfl) (hpl:(backTo pos (starEach es X.env)).any (·.1)=false:=by rfl):PE X (.Call (.Name x p) (e :: es) [] pos) (tCB r t):=by
  intro pins s σ H Q I h
  refine wpAny_Call_Name_kw (FO I hg hm hv ?_ hn hdb)
  exact PyProof.Rows.callWith_type1 (thn (ha pos pins s σ H _ I h) fun us s1 ⟨vs,H1,I1,r1,q1⟩=>hc pins s1 σ H1 vs us Q I1 r1 q1) he hpl
end
end L2
namespace HT
open PySem PyProof.Rows
section
open PySem.SeqAt
open PySem.AutoSeq1 (wpAny_loadPart')
open PySem.MeetsSeq PySem.MeetsSeq2 PySem.MeetsSeq3
end
section
variable {prog:Program} {w:World} {A:Around} {E:Value->Shared->Prop} {s:Shared}
theorem OF {t b:Addr} {vs ws:List Value} {Q:Value->Shared->Prop} (ht:IsTup s.heap t vs.toArray) (hb:IsTup s.heap b ws.toArray) (hv:vs ≠ [])
    (h1:ws=[]->Q (.ref t) s) (h2:ws ≠ []->Q (.ref s.heap.objs.size) { s with heap:=s.heap.push { cls:=.type "tuple",data:=.seq (vs ++ ws).toArray } })
    (hsz:vs.length + ws.length <= sizeLine):wpAny (model prog w) A (binaryOp .Add (.ref t) (.ref b)) Q E s:=by
  obtain ⟨⟨cls,dd,data,sl⟩,ho,hc,n,hd⟩:=id ht
  obtain ⟨⟨cls2,dd2,data2,sl2⟩,ho2,hc2,n2,hd2⟩:=id hb
  simp only at hc hd hc2 hd2
  subst hc hd hc2 hd2
  have e:vs.toArray ++ ws.toArray=(vs ++ ws).toArray:=by simp
  by_cases hw:ws=[]
  . exact concat_meets ⟨_,ho,rfl⟩ ⟨_,ho2,rfl⟩ noFill_tuple_add seq_tuple_add PySem.F.slot_tuple_add PySem.F.entry_tuple_add (PySem.F.args_tuple_add_2 _ _)
      (tuple_addW1 t b vs.toArray ws.toArray n n2 dd dd2 sl sl2 (by simpa using hv) (by simp [hw])) ⟨ho,ho2,h1 hw⟩
  . refine concat_meets ⟨_,ho,rfl⟩ ⟨_,ho2,rfl⟩ noFill_tuple_add seq_tuple_add PySem.F.slot_tuple_add PySem.F.entry_tuple_add (PySem.F.args_tuple_add_2 _ _)
      (tuple_addW2 t b vs.toArray ws.toArray n n2 dd dd2 sl sl2 (by simpa using hv) (by simpa using hw) (by rw [List.size_toArray,List.size_toArray]; exact hsz)) ⟨ho,ho2,?_⟩
    rw [e]
    exact h2 hw
def sIx (n d:Nat):Option Int->Nat
  | none=>d
  | some v=>if v < 0 then (v + (n:Int)).toNat else min v.toNat n
theorem HG (n d:Nat):sIx n d none=d:=rfl
theorem Ej (n d k:Nat):sIx n d (some (k:Int))=min k n:=by
  show (if (k:Int) < 0 then ((k:Int) + (n:Int)).toNat else min (k:Int).toNat n)=min k n
  rw [if_neg (by omega),Int.toNat_natCast]
theorem Ot (n d:Nat) (hd:d <= n) (o:Option Int):sIx n d o <= n:=by
  cases o with
  | none=>exact hd
  | some v=>
    show (if v < 0 then (v + (n:Int)).toNat else min v.toNat n) <= n
    by_cases hv:v < 0
    . rw [if_pos hv]; omega
    . rw [if_neg hv]; exact Nat.min_le_right _ _
theorem Ju (v:Int) (n d:Nat):(if v < 0 then max (v + (n:Int)) 0 else min v (n:Int))=((sIx n d (some v):Nat):Int):=by
  show (if v < 0 then max (v + (n:Int)) 0 else min v (n:Int))=(((if v < 0 then (v + (n:Int)).toNat else min v.toNat n):Nat):Int)
  by_cases hv:v < 0
  . simp only [if_pos hv]; omega
  . simp only [if_neg hv]; omega
theorem Iq (lo hi:Option Int) (n:Nat):Builtin.Slice.sliceAdjust lo hi 1 (n:Int)=(((sIx n 0 lo:Nat):Int),((sIx n n hi:Nat):Int)):=by
  have h1 : ¬ ((1:Int) < 0):=by omega
  unfold Builtin.Slice.sliceAdjust
  simp only [h1,if_false]
  refine Prod.ext ?_ ?_
  . cases lo with
    | none=>rfl
    | some v=>exact Ju v n 0
  . cases hi with
    | none=>rfl
    | some v=>exact Ju v n n
theorem IU (i j:Nat):Builtin.Slice.slicePlaces (i:Int) (j:Int) 1=j - i:=by
  unfold Builtin.Slice.slicePlaces
  have h1:(1:Int) > 0:=by omega
  simp only [h1,if_true,Int.ediv_one]
  split <;> omega
theorem Ex {v:Value} {o:Option Int} {Q:Option Int->Shared->Prop} (p:IsPart v o) (h:Q o s):wpAny (model prog w) A (Builtin.Slice.slicePartIndex v) Q E s:=by
  cases p with
  | none=>exact slicePart_none h
  | int i t=>exact slicePart_int h
theorem CW {sl:Addr} {vl vu:Value} {lo hi:Option Int} {n:Nat} {Q:Int × Int × Nat->Shared->Prop} (hs:s.heap.IsSliceOf sl vl vu .none) (pl:IsPart vl lo) (pu:IsPart vu hi)
    (h:Q (((sIx n 0 lo:Nat):Int),1,sIx n n hi - sIx n 0 lo) s):wpAny (model prog w) A (Builtin.Slice.sliceApplied (.ref sl) (pure (n:Int))) Q E s:=by
  obtain ⟨os,hos,hcs,hds⟩:=id hs
  unfold Builtin.Slice.sliceApplied Builtin.Slice.sliceFields
  refine wpAny_bind (wpAny_bind (wpAny_field hos hds (x:=vl) rfl (wpAny_bind (wpAny_field hos hds (x:=vu) rfl (wpAny_bind (wpAny_field hos hds (x:=.none) rfl (wpAny_pure ?_)))))))
  refine wpAny_bind (slicePart_none ?_)
  show wpAny _ _ (if ((1:Int) == 0)=true then _ else _) _ _ s
  rw [if_neg (by decide)]
  refine wpAny_bind (Ex pl (wpAny_bind (Ex pu (wpAny_bind (wpAny_pure ?_)))))
  show wpAny _ _ (match Builtin.Slice.sliceAdjust lo hi 1 (n:Int) with | (lo,hi)=>pure (lo,(1:Int),Builtin.Slice.slicePlaces lo hi 1)) _ _ s
  rw [Iq lo hi n]
  show wpAny _ _ (pure (((sIx n 0 lo:Nat):Int),(1:Int),Builtin.Slice.slicePlaces ((sIx n 0 lo:Nat):Int) ((sIx n n hi:Nat):Int) 1)) _ _ s
  rw [IU]
  exact wpAny_pure h
theorem Lg (xs:Array Value) (i k:Nat):((List.range k).filterMap fun (m:Nat)=>xs[((i:Int) + (m:Int) * 1).toNat]?).toArray=((xs.toList.drop i).take k).toArray:=by
  have e:(fun (m:Nat)=>xs[((i:Int) + (m:Int) * 1).toNat]?)=fun m=>xs[i + m]?:=by
    funext m
    have:((i:Int) + (m:Int) * 1).toNat=i + m:=by omega
    rw [this]
  rw [e]
  have:=pick_run xs i k
  rw [List.filterMap_map] at this
  have e2:((fun x=>xs[x]?) ∘ fun x=>i + x)=fun m=>xs[i + m]?:=rfl
  rw [e2] at this
  rw [this]
theorem D1 {t sl:Addr} {items:Array Value} {vl vu:Value} {lo hi:Option Int} {Q:Value->Shared->Prop} (ht:IsTup s.heap t items) (hs:s.heap.IsSliceOf sl vl vu .none) (pl:IsPart vl lo) (pu:IsPart vu hi)
    (hw : ¬ (sIx items.size 0 lo=0 /\ sIx items.size items.size hi=items.size))
    (h:Q (.ref s.heap.objs.size) { s with heap:=s.heap.push { cls:=.type "tuple",data:=.seq ((items.toList.drop (sIx items.size 0 lo)).take (sIx items.size items.size hi - sIx items.size 0 lo)).toArray } })
    (hsz:items.size <= sizeLine):wpAny (model prog w) A (getItem (.ref t) (.ref sl)) Q E s:=by
  have htake:sizeOk (.seq ((items.toList.drop (sIx items.size 0 lo)).take (sIx items.size items.size hi - sIx items.size 0 lo)).toArray):=by
    show ((items.toList.drop (sIx items.size 0 lo)).take (sIx items.size items.size hi - sIx items.size 0 lo)).toArray.size <= sizeLine
    rw [List.size_toArray,List.length_take,List.length_drop,Array.length_toList]
    omega
  have hj:sIx items.size items.size hi <= items.size:=Ot _ _ (Nat.le_refl _) hi
  obtain ⟨os,hos,hcs,hds⟩:=id hs
  have hTs:s.TypeIs (.ref sl) "slice" := ⟨os,hos,hcs⟩
  unfold getItem
  try with_reducible refine wpAny_holding ?_
  first | refine wpAny_bind (wpAny_pure ?_) | skip
  refine wpAny_bind (wpAny_sequenceKey ht.typeIs (by decide) ?_)
  refine wpAny_bind (wpAny_callSpecial?_slot (name:=Str.ofString "__getitem__") ht.typeIs PyProof.Rows.slot_tuple_getitem
    (wpAny_call_entry PyProof.Rows.slot_tuple_getitem ht.typeIs entry_tuple_getitem ?_ (args_tuple_getitem _ _)))
  show wpAny _ _ (Builtin.Tuple.tupleItemsOf (.ref t) >>= _) _ _ s
  refine wpAny_bind (tupleItemsOf_ ht ?_)
  refine wpAny_bind (wpAny_typeOf hTs ?_)
  rw [if_pos (by decide)]
  refine wpAny_bind (CW hs pl pu ?_)
  have hno : ¬ ((((sIx items.size 0 lo:Nat):Int) == 0 && (1:Int) == 1 && (sIx items.size items.size hi - sIx items.size 0 lo) == items.size)=true):=by
    intro q
    rw [Bool.and_eq_true,Bool.and_eq_true] at q
    have q1:((sIx items.size 0 lo:Nat):Int)=0:=eq_of_beq q.1.1
    have q2:sIx items.size items.size hi - sIx items.size 0 lo=items.size:=eq_of_beq q.2
    exact hw ⟨by omega,by omega⟩
  show wpAny _ _ (if (((sIx items.size 0 lo:Nat):Int) == 0 && (1:Int) == 1 && (sIx items.size items.size hi - sIx items.size 0 lo) == items.size)=true then _ else _) _ _ s
  rw [if_neg hno,Lg]
  first
    | exact wpAny_bind (m:=Builtin.Tuple.tupleExact _) (wpAny_newObj_type (wpAny_pure ⟨_,rfl,wpAny_pure h⟩) htake)
    | exact wpAny_bind (m:=Builtin.Tuple.tupleExact _) (wpAny_newObj_type (wpAny_bind (wpAny_pure (wpAny_pure ⟨_,rfl,wpAny_pure h⟩))) htake)
    | exact wpAny_bind (wpAny_bind (m:=Builtin.Tuple.tupleExact _) (wpAny_newObj_type (wpAny_pure (wpAny_pure ⟨_,rfl,wpAny_pure h⟩)) htake))
    | exact wpAny_bind (wpAny_bind (m:=Builtin.Tuple.tupleExact _) (wpAny_newObj_type (wpAny_pure ⟨_,rfl,wpAny_pure h⟩) htake))
end
end HT
namespace L2
open PySem PySem.Spec PyProof.Rows
abbrev TO:=St->Hp->(Option Int->Hp->Prop)->Prop
def PO (X:Cx) (e:Option Expr) (t:TO):Prop:=
  ∀ (pins:List (Addr × Obj)) (s:Shared) (σ:St) (H:Hp) (Q:Option Int->Hp->Prop),Inv X pins σ H s->t σ H Q->
    wpAny (model X.prog X.w) X.A (evalPart e X.env) (fun u s'=>∃ o H',Inv X pins σ H' s' /\ IsPart u o /\ Q o H') X.xe s
def M4:TO:=fun _ H Q=>Q none H
def QH (t:TE):TO:=fun σ H Q=>t σ H fun x H1=>∃ i,x=.int i /\ Q (some i) H1
theorem FR {ns:List Int}:∀ {us:List Value},Vals (ns.map V.int) us->IntsAre us ns:=by
  induction ns with
  | nil=>intro us r; rw [List.map_nil] at r; cases r; exact .nil
  | cons n ns ih=>
    intro us r
    rw [List.map_cons] at r
    cases r with
    | cons r1 r2=>
      obtain ⟨t,e⟩:=r1
      subst e
      exact .cons n t (ih r2)
section
variable {X:Cx} {e:Expr} {te:TE} {lo hi:Option Expr} {tl th:TO} {pos p2:Pos}
theorem Nc:PO X none M4:=by
  intro pins s σ H Q I h
  rw [evalPart_none]
  exact wpAny_pure ⟨none,H,I,.none,h⟩
theorem Nb (h:PE X e te):PO X (some e) (QH te):=by
  intro pins s σ H Q I hw
  rw [evalPart_some]
  refine thn (h pins s σ H _ I hw) fun u s1 ⟨x,H1,I1,r1,q1⟩=>?_
  obtain ⟨i,rfl,q⟩:=q1
  obtain ⟨t,rfl⟩:=r1
  exact ⟨some i,H1,I1,.int i t,q⟩
def SlR (X:Cx) (r:V->Option Int->Option Int->Hp->VK->Prop):Prop:=
  ∀ (pins:List (Addr × Obj)) (s:Shared) (σ:St) (H:Hp) (x:V) (v vl vu:Value) (lo hi:Option Int) (sl:Addr) (Q:VK),Inv X pins σ H s->RelV x v->s.heap.IsSliceOf sl vl vu .none->IsPart vl lo->IsPart vu hi->r x lo hi H Q->
    ∃ T id,typeLookup (.type T) "__getitem__" = pure (some (.builtin id)) /\ s.TypeIs v T /\ wpAny (model X.prog X.w) X.A (getItem v (.ref sl)) (EP X pins σ Q) X.xe s
theorem SlR.or {r r':V->Option Int->Option Int->Hp->VK->Prop} (h:SlR X r) (h':SlR X r'):SlR X (fun x lo hi H Q=>r x lo hi H Q ∨ r' x lo hi H Q):=by
  intro pins s σ H x v vl vu lo hi sl Q I rx hs pl pu q
  rcases q with q | q
  . exact h pins s σ H x v vl vu lo hi sl Q I rx hs pl pu q
  . exact h' pins s σ H x v vl vu lo hi sl Q I rx hs pl pu q
def tSl (r:V->Option Int->Option Int->Hp->VK->Prop) (te:TE) (tl th:TO):TE:=fun σ H Q=>te σ H fun x H1=>tl σ H1 fun l H2=>th σ H2 fun u H3=>r x l u H3 Q
theorem Lk {r:V->Option Int->Option Int->Hp->VK->Prop} (hr:SlR X r) (he:PE X e te) (hl:PO X lo tl) (hu:PO X hi th):PE X (.Subscript e (.Slice lo hi none p2) pos) (tSl r te tl th):=by
  intro pins s σ H Q I h
  refine Subscript_ (thn (he pins s σ H _ I h) fun v s1 ⟨x,H1,I1,r1,q1⟩=>?_)
  refine wpAny_Slice (thn (hl pins s1 σ H1 _ I1 q1) fun vl s2 ⟨l,H2,I2,pl,q2⟩=>thn (hu pins s2 σ H2 _ I2 q2) fun vu s3 ⟨u,H3,I3,pu,q3⟩=>?_)
  rw [evalPart_none]
  refine wpAny_pure ?_
  have I4:Inv X pins σ H3 { s3 with heap:=s3.heap.push { cls:=.type "slice",data:=.fields #[vl,vu,.none] } }:=I3.kept (t':=s3.toks) fun b ob q=>Heap.get?_push_of_some _ q
  obtain ⟨T,id,hT,ht,hg⟩:=hr pins { s3 with heap:=s3.heap.push { cls:=.type "slice",data:=.fields #[vl,vu,.none] } } σ H3 x v vl vu l u s3.heap.objs.size Q I4 r1 (Heap.IsSliceOf.new ..) pl pu q3
  show wpAny (model X.prog X.w) X.A (subscriptTail e (.Slice lo hi none p2) v (.ref s3.heap.objs.size)) (EP X pins σ Q) X.xe { s3 with heap:=s3.heap.push { cls:=.type "slice",data:=.fields #[vl,vu,.none] } }
  exact tail_any (ops:=[.ref s3.heap.objs.size,v]) ht hT hg (by with_unfolding_all rfl)
def Hk (xs:List V) (lo hi:Option Int):List V:=(xs.drop (HT.sIx xs.length 0 lo)).take (HT.sIx xs.length xs.length hi - HT.sIx xs.length 0 lo)
theorem EZ (xs:List V) (lo hi:Option Int):(Hk xs lo hi).length <= xs.length:=by
  unfold Hk
  rw [List.length_take,List.length_drop]
  omega
def RU (K:PySem.W.Frag):V->Option Int->Option Int->Hp->VK->Prop:=fun x lo hi H Q=>∃ a xs,x=.ref a /\ SqT K H a xs /\
  ¬ (HT.sIx xs.length 0 lo=0 /\ HT.sIx xs.length xs.length hi=xs.length) /\ ∀ p,H p=none->Q (.ref p) (upd H p (.tup (Hk xs lo hi)))
theorem Os:SlR X (RU X.K):=by
  intro pins s σ H x v vl vu lo hi sl Q I rx hs pl pu h
  obtain ⟨a,xs,rfl,hx,hw,q⟩:=h
  cases rx
  obtain ⟨its,r,ht,hz⟩:=I.tuple hx
  have hlen:its.toArray.size=xs.length:=by rw [List.size_toArray]; exact r.length.symm
  refine ⟨"tuple",_,PyProof.Rows.slot_tuple_getitem.lookup,ht.typeIs,?_⟩
  refine HT.D1 ht hs pl pu (by rw [hlen]; exact hw) ?_ (by rw [hlen]; exact hz)
  rw [hlen]
  refine ⟨.ref s.heap.objs.size,_,I.laid (t':=s.toks) (o:=.tup (Hk xs lo hi)) (fun b ob q=>Heap.get?_push_of_some _ q) (Nat.le_refl _) ?_,rfl,q _ (I.hok.fresh (Nat.le_refl _))⟩
  exact ⟨Nat.le_trans (EZ xs lo hi) hz,_,(r.drop (HT.sIx xs.length 0 lo)).take (HT.sIx xs.length xs.length hi - HT.sIx xs.length 0 lo),IsTup.new _ _⟩
def QZ (K:PySem.W.Frag):R2:=fun x y H Q=>∃ a b xs ys,x=.ref a /\ y=.ref b /\ SqT K H a xs /\ SqT K H b ys /\ xs ≠ [] /\ xs.length + ys.length <= sizeLine /\
  (ys=[]->Q (.ref a) H) /\ (ys ≠ []->∀ p,H p=none->Q (.ref p) (upd H p (.tup (xs ++ ys))))
theorem Vals.nil_iff {xs:List V} {us:List Value} (r:Vals xs us):us=[] ↔ xs=[]:=by
  cases r with
  | nil=>simp
  | cons _ _=>simp
theorem Nq:OpR X (binaryOp .Add) (QZ X.K):=by
  intro pins s σ H x y v u Q I rx ry h
  obtain ⟨a,b,xs,ys,rfl,rfl,ha,hb,hx,hz,q1,q2⟩:=h
  cases rx
  cases ry
  obtain ⟨its,r1,p1,_⟩:=I.tuple ha
  obtain ⟨its2,r2,p2,_⟩:=I.tuple hb
  refine HT.OF p1 p2 (fun z=>hx (r1.nil_iff.mp z)) (fun z=>⟨.ref a,H,I,rfl,q1 (r2.nil_iff.mp z)⟩) (fun z=>?_) (by rw [← r1.length,← r2.length]; exact hz)
  refine ⟨.ref s.heap.objs.size,_,I.laid (t':=s.toks) (o:=.tup (xs ++ ys)) (fun b ob q=>Heap.get?_push_of_some _ q) (Nat.le_refl _) ?_,rfl,q2 (fun w=>z (r2.nil_iff.mpr w)) _ (I.hok.fresh (Nat.le_refl _))⟩
  exact ⟨by rw [List.length_append]; exact hz,_,r1.append r2,IsTup.new _ _⟩
theorem Hu:B0 X (.type "tuple") (fun xs H Q=>∃ a ys,xs=[.ref a] /\ SqT X.K H a ys /\ Q (.ref a) H):=by
  intro pins s σ H xs us Q I r h
  obtain ⟨a,ys,rfl,ha,q⟩:=h
  obtain ⟨u,rfl,ru⟩:=G0 r
  cases ru
  obtain ⟨its,_,p1,_⟩:=I.tuple ha
  exact call_tuple_same (items:=its.toArray) p1 ⟨.ref a,H,I,rfl,q⟩
end
end L2
namespace L2
open PySem PySem.Spec PyProof.Rows
def ixN (n:Nat) (i:Int):Option Nat:=if 0 <= i then (if i < n then some i.toNat else none) else if -(n:Int) <= i then some (i + n).toNat else none
def atI {α:Type} (xs:List α) (i:Int):Option α:=(ixN xs.length i).bind fun j=>xs[j]?
theorem Jl {n:Nat} {i:Int} {j:Nat} (h:ixN n i=some j):seqIndex? i n=some j /\ j < n /\ -(n:Int) <= i /\ i < n:=by
  unfold ixN at h
  by_cases h0:0 <= i
  . rw [if_pos h0] at h
    by_cases h1:i < n
    . rw [if_pos h1] at h
      have e:i.toNat=j:=Option.some.inj h
      exact ⟨by rw [seqIndex_of h0 h1,e],by omega,by omega,h1⟩
    . rw [if_neg h1] at h; cases h
  . rw [if_neg h0] at h
    by_cases h1 : -(n:Int) <= i
    . rw [if_pos h1] at h
      have e:(i + n).toNat=j:=Option.some.inj h
      exact ⟨by rw [seqIndex_neg (by omega) h1,e],by omega,h1,by omega⟩
    . rw [if_neg h1] at h; cases h
theorem Gz {α:Type} {xs:List α} {i:Int} {v:α} (h:atI xs i=some v):∃ j,seqIndex? i xs.length=some j /\ xs[j]? = some v /\ j < xs.length /\ -(xs.length:Int) <= i /\ i < xs.length:=by
  unfold atI at h
  cases e:ixN xs.length i with
  | none=>rw [e] at h; cases h
  | some j=>
    rw [e] at h
    obtain ⟨h1,h2,h3,h4⟩:=Jl e
    exact ⟨j,h1,h,h2,h3,h4⟩
def Jw (b:Expr):Prop:=∀ o i,subscripted b false o i=operate [o,i] (getItem o i)
def IxR (X:Cx) (r:R2):Prop:=
  ∀ (value slice:Expr) (pins:List (Addr × Obj)) (s:Shared) (σ:St) (H:Hp) (x y:V) (v u:Value) (Q:VK),Inv X pins σ H s->RelV x v->RelV y u->r x y H Q->
    subscripted slice false v u=operate [v,u] (getItem v u)->wpAny (model X.prog X.w) X.A (subscriptTail value slice v u) (EP X pins σ Q) X.xe s
def MtR (X:Cx) (id:String) (r:V->List V->Hp->VK->Prop):Prop:=
  ∀ (pins:List (Addr × Obj)) (s:Shared) (σ:St) (H:Hp) (x:V) (xs:List V) (v:Value) (us:List Value) (Q:VK),Inv X pins σ H s->RelV x v->Vals xs us->r x xs H Q->
    wpAny (model X.prog X.w) X.A (call (.builtin id) (v :: us)) (EP X pins σ Q) X.xe s
section
variable {X:Cx} {a b:Expr} {ta tb:TE} {pos:Pos}
theorem IxR.or {r r':R2} (h:IxR X r) (h':IxR X r'):IxR X (fun x y H Q=>r x y H Q ∨ r' x y H Q):=by
  intro value slice pins s σ H x y v u Q I rx ry q hs
  rcases q with q | q
  . exact h value slice pins s σ H x y v u Q I rx ry q hs
  . exact h' value slice pins s σ H x y v u Q I rx ry q hs
theorem Qh {r:R2} (hr:IxR X r) (ha:PE X a ta) (hb:PE X b tb) (hs:Jw b):PE X (.Subscript a b pos) (tOp r ta tb):=by
  intro pins s σ H Q I h
  exact Subscript_ (Py ha hb I h fun v u s2 x y H2 I2 rx ry q=>hr a b pins s2 σ H2 x y v u Q I2 rx ry q (hs _ _))
def QY (K:PySem.W.Frag):R2:=fun x y H Q=>∃ p xs i v,x=.ref p /\ y=.int i /\ SqL K H p xs /\ atI xs i=some v /\ Q v H
def QW (K:PySem.W.Frag):R2:=fun x y H Q=>∃ p xs i v,x=.ref p /\ y=.int i /\ SqT K H p xs /\ atI xs i=some v /\ Q v H
def QX:R2:=fun x y H Q=>∃ z i c,x=.str z /\ y=.int i /\ z.length <= sizeLine /\ atI z.cps.toList i=some c /\ Q (.str ⟨#[c]⟩) H
theorem ix_list:IxR X (QY X.K):=by
  intro value slice pins s σ H x y v u Q I rx ry h hs
  obtain ⟨p,xs,i,z,rfl,rfl,hq,he,q⟩:=h
  cases rx
  obtain ⟨t,rfl⟩:=ry
  obtain ⟨its,r,pl,hz⟩:=I.list hq
  obtain ⟨j,h1,h2,h3,h4,h5⟩:=Gz he
  obtain ⟨w,ew,rw'⟩:=r.get h2
  have hl:=r.length
  have hn:=FN
  have fin:EP X pins σ Q w s:=⟨z,H,I,rw',q⟩
  by_cases h0:0 <= i
  . have hj:i.toNat=j:=by
      rw [seqIndex_of h0 h5] at h1
      exact Option.some.inj h1
    exact item_listR pl.isList h0 (by omega) (by rw [hj]; simpa using ew) fin hs
  . have hj:(i + (its.toArray.size:Int)).toNat=j:=by
      rw [seqIndex_neg (by omega) h4] at h1
      rw [List.size_toArray,← hl]
      exact Option.some.inj h1
    exact subscriptTail_builtinR (x:=w) pl.isList.typeIs slot_list_getitem.lookup
      (wpAny_getItem_list_neg (Q:=fun r s'=>r=w /\ EP X pins σ Q r s') pl.isList (by omega) (by rw [List.size_toArray] <;> omega) (by omega) (by rw [hj]; simpa using ew) ⟨rfl,fin⟩) hs
theorem ix_tup:IxR X (QW X.K):=by
  intro value slice pins s σ H x y v u Q I rx ry h hs
  obtain ⟨p,xs,i,z,rfl,rfl,hq,he,q⟩:=h
  cases rx
  obtain ⟨t,rfl⟩:=ry
  obtain ⟨its,r,pl,hz⟩:=I.tuple hq
  obtain ⟨j,h1,h2,h3,h4,h5⟩:=Gz he
  obtain ⟨w,ew,rw'⟩:=r.get h2
  have hl:=r.length
  have hn:=FN
  have fin:EP X pins σ Q w s:=⟨z,H,I,rw',q⟩
  exact subscriptTail_builtinR (x:=w) pl.typeIs slot_tuple_getitem.lookup
    (getItem_tuple (j:=j) (Q:=fun r s'=>r=w /\ EP X pins σ Q r s') pl (by omega) (by omega) (by rw [List.size_toArray,← hl]; exact h1) (by simpa using ew) ⟨rfl,fin⟩) hs
theorem Pk:IxR X QX:=by
  intro value slice pins s σ H x y v u Q I rx ry h hs
  obtain ⟨z,i,c,rfl,rfl,hz,he,q⟩:=h
  obtain ⟨t,rfl⟩:=rx
  obtain ⟨t',rfl⟩:=ry
  obtain ⟨j,h1,h2,h3,h4,h5⟩:=Gz he
  have hl:z.cps.toList.length=z.length:=by simp [Str.length]
  rw [hl] at h1 h4 h5
  have hn:=FN
  exact tail_any (typeIs_str s z t) slot_str_getitem.lookup (getItem_str (c:=c) (by
    have e1:decide (i < -(2 ^ 63:Int))=false:=decide_eq_false (by omega)
    have e2:decide (i ≥ 2 ^ 63)=false:=decide_eq_false (by omega)
    rw [e1,e2,Bool.or_false]) (by rw [h1]; simpa using h2) ⟨.str ⟨#[c]⟩,H,I.tok _,⟨_,rfl⟩,q⟩) hs
def rIx (K:PySem.W.Frag):R2:=fun x y H Q=>QY K x y H Q ∨ QW K x y H Q ∨ QX x y H Q
theorem Ib:IxR X (rIx X.K):=ix_list.or (ix_tup.or Pk)
theorem IX (its:List Value) (n j:Nat) (u:Value):Obj.mapSeq (·.setIfInBounds j u) { cls:=.type "list",data:=.seq its.toArray n }={ cls:=.type "list",data:=.seq (its.set j u).toArray n }:=by
  simp [Obj.mapSeq]
theorem Inv.lst {pins:List (Addr × Obj)} {σ:St} {H:Hp} {s:Shared} {p:Addr} {xs:List V} (I:Inv X pins σ H s) (h:H p=some (.lst xs)) :
    ∃ (its:List Value) (n:Nat),Vals xs its /\ s.heap.get? p=some { cls:=.type "list",data:=.seq its.toArray n } /\ xs.length <= sizeLine:=by
  obtain ⟨z,its,n,r,e⟩:=I.hok p _ h
  exact ⟨its,n,r,e,z⟩
theorem Inv.lstUpd {pins:List (Addr × Obj)} {σ:St} {H:Hp} {s:Shared} {p:Addr} {xs ys:List V} {its its':List Value} {n n':Nat} {f:Obj->Obj} (I:Inv X pins σ H s) (h:H p=some (.lst xs))
    (ho:s.heap.get? p=some { cls:=.type "list",data:=.seq its.toArray n }) (hf:f { cls:=.type "list",data:=.seq its.toArray n }={ cls:=.type "list",data:=.seq its'.toArray n' }) (r:Vals ys its') (hz:ys.length <= sizeLine) (t:Nat) :
    Inv X pins σ (upd H p (.lst ys)) { s with heap:=s.heap.update p f,toks:=t }:=by
  have e:(s.heap.update p f).get? p=some { cls:=.type "list",data:=.seq its'.toArray n' }:=by
    rw [Heap.get?_update_self f ho (by rw [hf] <;> rfl),hf]
  refine I.write (x:=p) (e:=p) (by rw [h]; trivial) (.inl rfl) (fun b u hb q=>(Heap.get?_update_other _ _ (Ne.symm hb)).trans q) ⟨_,e⟩ ?_
  exact ⟨hz,its',n',r,e⟩
def QV:V->V->V->Hp->(Hp->Prop)->Prop:=fun o i v H Q=>∃ p xs k j,o=.ref p /\ i=.int k /\ H p=some (.lst xs) /\ ixN xs.length k=some j /\ Q (upd H p (.lst (xs.set j v)))
theorem LF:Q6 X QV:=by
  intro pins s σ H o i v ov iv u Q I ro ri rv h
  obtain ⟨p,xs,k,j,rfl,rfl,hp,hj,q⟩:=h
  cases ro
  obtain ⟨t,rfl⟩:=ri
  obtain ⟨its,n,r,ho,hz⟩:=I.lst hp
  obtain ⟨h1,h2,h3,h4⟩:=Jl hj
  have hl:=r.length
  have hn:=FN
  have I':Inv X pins σ (upd H p (.lst (xs.set j v))) { s with heap:=s.heap.update p (Obj.mapSeq (·.setIfInBounds j u)) }:=
    I.lstUpd hp ho (IX its n j u) (r.set rv j) (by rw [List.length_set]; exact hz) s.toks
  by_cases h0:0 <= k
  . have hk:k.toNat=j:=by
      rw [seqIndex_of h0 h4] at h1
      exact Option.some.inj h1
    exact PySem.W.ki_setAt ho h0 (by omega) (by rw [List.size_toArray,← hl]; exact h4) (by rw [hk]; exact ⟨_,I',q⟩)
  . have hk:(k + (its.toArray.size:Int)).toNat=j:=by
      rw [seqIndex_neg (by omega) h3] at h1
      rw [List.size_toArray,← hl]
      exact Option.some.inj h1
    exact PySem.W.ki_setBack ho (by omega) (by rw [List.size_toArray,← hl]; exact h3) (by omega) (by rw [hk]; exact ⟨_,I',q⟩)
theorem GY (lo hi:Option Int) (n:Nat):(sliceBounds lo hi none n).1=((HT.sIx n 0 lo:Nat):Int) /\ (sliceBounds lo hi none n).2.1=((HT.sIx n n hi:Nat):Int) /\ (sliceBounds lo hi none n).2.2=1:=by
  refine ⟨?_,?_,rfl⟩
  . cases lo with
    | none=>simp [sliceBounds,HT.sIx]
    | some i=>
      simp only [sliceBounds,HT.sIx,Option.getD_none,show (1:Int) > 0 by decide,if_true]
      by_cases h:i < 0
      . simp only [h,if_true] <;> omega
      . simp only [h,if_false] <;> omega
  . cases hi with
    | none=>simp [sliceBounds,HT.sIx]
    | some i=>
      simp only [sliceBounds,HT.sIx,Option.getD_none,show (1:Int) > 0 by decide,if_true]
      by_cases h:i < 0
      . simp only [h,if_true] <;> omega
      . simp only [h,if_false] <;> omega
theorem Fm (its:List Value) (lo hi:Option Int):slicePick its.toArray lo hi none=((its.drop (HT.sIx its.length 0 lo)).take (HT.sIx its.length its.length hi - HT.sIx its.length 0 lo)).toArray:=by
  obtain ⟨h1,h2,h3⟩:=GY lo hi its.toArray.size
  unfold slicePick
  rw [h1,h2,h3]
  simp only [sliceRange_one,pick_run,List.size_toArray] <;> rfl
def RV (K:PySem.W.Frag):V->Option Int->Option Int->Hp->VK->Prop:=fun x lo hi H Q=>∃ a xs,x=.ref a /\ SqL K H a xs /\ ∀ p,H p=none->Q (.ref p) (upd H p (.lst (Hk xs lo hi)))
theorem NB:SlR X (RV X.K):=by
  intro pins s σ H x v vl vu lo hi sl Q I rx hs pl pu h
  obtain ⟨a,xs,rfl,hx,q⟩:=h
  cases rx
  obtain ⟨its,r,ht,hz⟩:=I.list hx
  have hlen:=r.length
  refine ⟨"list",_,slot_list_getitem.lookup,ht.isList.typeIs,?_⟩
  refine wpAny_getItem_list_slice ht.isList hs pl pu .none (by simp) ?_ (by rw [List.size_toArray] <;> omega)
  rw [Fm,← hlen]
  refine ⟨.ref s.heap.objs.size,_,I.laid (t':=s.toks) (o:=.lst (Hk xs lo hi)) (fun b ob q=>Heap.get?_push_of_some _ q) (Nat.le_refl _) ?_,rfl,q _ (I.hok.fresh (Nat.le_refl _))⟩
  exact ⟨Nat.le_trans (EZ xs lo hi) hz,_,0,(r.drop (HT.sIx xs.length 0 lo)).take (HT.sIx xs.length xs.length hi - HT.sIx xs.length 0 lo),Heap.get?_push_size _ rfl⟩
def DZ:V->Bool
  | .non=>true
  | .bl _=>true
  | .int _=>true
  | .str _=>true
  | _=>false
def eqV:V->V->Bool
  | .non,.non=>true
  | .bl a,.bl b=>a == b
  | .bl a,.int b=>(if a then 1 else 0) == b
  | .int a,.bl b=>a == (if b then 1 else 0)
  | .int a,.int b=>a == b
  | .str a,.str b=>a == b
  | _,_=>false
theorem Pv {A:Around} {s:Shared} {y x:V} {u v:Value} (ry:RelV y u) (rx:RelV x v) (fy:DZ y=true) (fx:DZ x=true):SeqAt.EqAt A s u v (eqV y x):=by
  cases y with
  | non=>
    cases ry
    cases x with
    | non=>cases rx; exact SeqAt.EqAt.same _
    | bl b=>cases rx; exact SeqAt.EqAt.none_bool b
    | int b=>obtain ⟨t,rfl⟩:=rx; exact SeqAt.EqAt.none_int b t
    | str b=>obtain ⟨t,rfl⟩:=rx; exact SeqAt.EqAt.none_str b t
    | _=>exact absurd (show false=true from fx) Bool.false_ne_true
  | bl a=>
    cases ry
    cases x with
    | non=>cases rx; exact SeqAt.EqAt.bool_none a
    | bl b=>cases rx; exact SeqAt.EqAt.bool_bool a b
    | int b=>obtain ⟨t,rfl⟩:=rx; exact SeqAt.EqAt.bool_int a b t
    | str b=>obtain ⟨t,rfl⟩:=rx; exact SeqAt.EqAt.bool_str a b t
    | _=>exact absurd (show false=true from fx) Bool.false_ne_true
  | int a=>
    obtain ⟨t',rfl⟩:=ry
    cases x with
    | non=>cases rx; exact SeqAt.EqAt.int_none a t'
    | bl b=>cases rx; exact SeqAt.EqAt.int_bool a t' b
    | int b=>obtain ⟨t,rfl⟩:=rx; exact SeqAt.EqAt.int_int a t' b t
    | str b=>obtain ⟨t,rfl⟩:=rx; exact SeqAt.EqAt.int_str a t' b t
    | _=>exact absurd (show false=true from fx) Bool.false_ne_true
  | str a=>
    obtain ⟨t',rfl⟩:=ry
    cases x with
    | non=>cases rx; exact SeqAt.EqAt.str_none a t'
    | bl b=>cases rx; exact SeqAt.EqAt.str_bool a t' b
    | int b=>obtain ⟨t,rfl⟩:=rx; exact SeqAt.EqAt.str_int a t' b t
    | str b=>obtain ⟨t,rfl⟩:=rx; exact SeqAt.EqAt.str_str a t' b t
    | _=>exact absurd (show false=true from fx) Bool.false_ne_true
  | _=>exact absurd (show false=true from fy) Bool.false_ne_true
def eqU (x:V) (u:Value):Bool:=match u with
  | .none=>eqV .non x
  | .bool b=>eqV (.bl b) x
  | .int i _=>eqV (.int i) x
  | .str z _=>eqV (.str z) x
  | _=>false
theorem MW {x y:V} {u:Value} (r:RelV y u) (f:DZ y=true):eqU x u=eqV y x:=by
  cases y with
  | non=>cases r; rfl
  | bl b=>cases r; rfl
  | int i=>obtain ⟨t,rfl⟩:=r; rfl
  | str z=>obtain ⟨t,rfl⟩:=r; rfl
  | _=>exact absurd (show false=true from f) Bool.false_ne_true
theorem D7 {x:V}:∀ {xs:List V} {us:List Value},Vals xs us->xs.all DZ=true->us.any (eqU x)=xs.any fun y=>eqV y x
  | _,_,.nil,_=>rfl
  | y :: xs,u :: us,.cons r t,f=>by
    rw [List.all_cons,Bool.and_eq_true] at f
    rw [List.any_cons,List.any_cons,MW r f.1,D7 t f.2]
theorem C2 {A:Around} {s:Shared} {x:V} {v:Value} (rx:RelV x v) (fx:DZ x=true):∀ {xs:List V} {us:List Value},Vals xs us->xs.all DZ=true->∀ u ∈ us,SeqAt.EqAt A s u v (eqU x u)
  | _,_,.nil,_=>fun u hu=>by cases hu
  | y :: xs,u :: us,.cons r t,f=>fun u' hu=>by
    rw [List.all_cons,Bool.and_eq_true] at f
    rcases List.mem_cons.mp hu with rfl | hu
    . rw [MW r f.1]; exact Pv r rx f.1 fx
    . exact C2 rx fx t f.2 u' hu
def inV (x:V) (xs:List V):Bool:=xs.any fun y=>eqV y x
def rIn (K:PySem.W.Frag) (neg:Bool):R2:=fun x y H Q=>∃ p xs,y=.ref p /\ (SqL K H p xs ∨ SqT K H p xs) /\ DZ x=true /\ xs.all DZ=true /\ Q (.bl (if neg then !inV x xs else inV x xs)) H
theorem KW:OpR X (compareOp .In) (rIn X.K false):=by
  intro pins s σ H x y v u Q I rx ry h
  obtain ⟨p,xs,rfl,hq,fx,fs,q⟩:=h
  cases ry
  rcases hq with hq | hq
  . obtain ⟨its,r,pl,hz⟩:=I.list hq
    refine SeqAt.in_listAt (eqU x) pl.isList (fun w hw=>C2 rx fx r fs w (by simpa using hw)) ⟨.bl _,H,I,rfl,?_⟩
    rw [show its.toArray.any (eqU x)=its.any (eqU x) by simp,D7 r fs]
    exact q
  . obtain ⟨its,r,pl,hz⟩:=I.tuple hq
    refine SeqAt.in_tupleAt (eqU x) pl (fun w hw=>C2 rx fx r fs w (by simpa using hw)) ⟨.bl _,H,I,rfl,?_⟩
    rw [show its.toArray.any (eqU x)=its.any (eqU x) by simp,D7 r fs]
    exact q
theorem Gk:OpR X (compareOp .NotIn) (rIn X.K true):=by
  intro pins s σ H x y v u Q I rx ry h
  obtain ⟨p,xs,rfl,hq,fx,fs,q⟩:=h
  cases ry
  rcases hq with hq | hq
  . obtain ⟨its,r,pl,hz⟩:=I.list hq
    refine SeqAt.notIn_listAt (eqU x) pl.isList (fun w hw=>C2 rx fx r fs w (by simpa using hw)) ⟨.bl _,H,I,rfl,?_⟩
    rw [show its.toArray.any (eqU x)=its.any (eqU x) by simp,D7 r fs]
    exact q
  . obtain ⟨its,r,pl,hz⟩:=I.tuple hq
    refine SeqAt.notIn_tupleAt (eqU x) pl (fun w hw=>C2 rx fx r fs w (by simpa using hw)) ⟨.bl _,H,I,rfl,?_⟩
    rw [show its.toArray.any (eqU x)=its.any (eqU x) by simp,D7 r fs]
    exact q
def tyV (K:PySem.W.Frag) (T:String) (x:V) (H:Hp):Prop:=match x with
  | .str _=>T = "str"
  | .int _=>T = "int"
  | .ref p=>(T = "list" /\ ∃ xs,SqL K H p xs) ∨ (T = "tuple" /\ ∃ o,K.lookup p=some o /\ o.cls=.type "tuple" /\ o.dict=none) ∨
      (T = "dict" /\ ((∃ kvs,H p=some (.dK kvs)) ∨ ∃ kvs,H p=some (.dT kvs))) ∨ (T = "set" /\ ∃ S n,H p=some (.set S n))
  | _=>False
theorem Og {pins:List (Addr × Obj)} {σ:St} {H:Hp} {s:Shared} {T:String} {x:V} {v:Value} (I:Inv X pins σ H s) (r:RelV x v) (ty:tyV X.K T x H) :
    s.TypeIs v T /\ ∀ a,v=.ref a->∃ ob,s.heap.get? a=some ob /\ ob.dict=none:=by
  cases x with
  | str z=>
    obtain ⟨t,rfl⟩:=r
    cases (show T = "str" from ty)
    exact ⟨typeIs_str s z t,fun _ e=>nomatch e⟩
  | int i=>
    obtain ⟨t,rfl⟩:=r
    cases (show T = "int" from ty)
    exact ⟨typeIs_int s i t,fun _ e=>nomatch e⟩
  | ref p=>
    cases r
    rcases ty with ⟨rfl,xs,hq⟩ | ⟨rfl,o,hk,hc,hd⟩ | ⟨rfl,hk⟩ | ⟨rfl,S,n,hk⟩
    . obtain ⟨its,_,pl,_⟩:=I.list hq
      refine ⟨pl.isList.typeIs,fun a e=>?_⟩
      cases e
      obtain ⟨o,n,e,c,hd,_⟩:=pl
      exact ⟨o,e,hd⟩
    . refine ⟨⟨o,I.kIn p o hk,hc⟩,fun a e=>?_⟩
      cases e
      exact ⟨o,I.kIn _ o hk,hd⟩
    . have z:∃ o,s.heap.get? p=some o /\ o.ExactDict:=by
        rcases hk with ⟨kvs,hk⟩ | ⟨kvs,hk⟩
        . obtain ⟨_,_,_,_,o,_,_,e,ex,_⟩:=I.hok p _ hk
          exact ⟨o,e,ex⟩
        . obtain ⟨_,_,_,_,o,_,_,e,ex,_⟩:=I.hok p _ hk
          exact ⟨o,e,ex⟩
      obtain ⟨o,e,ex⟩:=z
      refine ⟨⟨o,e,ex.1⟩,fun a e2=>?_⟩
      cases e2
      exact ⟨o,e,ex.2.1⟩
    . obtain ⟨o,_,_,_,e,ex,_⟩:=I.hok p _ hk
      refine ⟨⟨o,e,ex.1⟩,fun a e2=>?_⟩
      cases e2
      exact ⟨o,e,ex.2.1⟩
  | _=>exact False.elim ty
def tBM (K:PySem.W.Frag) (T:String) (r:V->List V->Hp->VK->Prop) (to:TE) (t:TA):TE:=fun σ H Q=>to σ H fun x H1=>tyV K T x H1 /\ t σ H1 fun xs H2=>r x xs H2 Q
variable {o e:Expr} {es:List Expr} {to:TE} {t:TA} {name:Str} {apos cpos:Pos} {T id:String} {r:V->List V->Hp->VK->Prop}
theorem Qi (pa:PlainAttrs T) (slot:Slot T name id) (hty:typeOf (.builtin id)=pure (.type "method_descriptor")) (hm:MtR X id r) (ho:PE X o to) (ha:PA X (e :: es) t)
    (hbase:attributeBase o name X.env (eval o X.env)=eval o X.env:=by rfl)
    (hfew:((backTo cpos (starEach (e :: es) X.env)).all (fun x=>!x.1) && (backToKw cpos (keywordEach [] X.env)).all (fun x=>x.1.isSome)
      && decide ((e :: es).length + ([]:List Keyword).length + (if ([]:List Keyword).isEmpty then 0 else 1) < 30))=true:=by rfl)
    (hline:(apos.endLine == cpos.line)=true:=by rfl) (hs:starEach (e :: es) X.env=(false,eval e X.env) :: starEach es X.env:=by rfl) (hplain:(backTo cpos (starEach es X.env)).any (·.1)=false:=by rfl) :
    PE X (.Call (.Attribute o name apos) (e :: es) [] cpos) (tBM X.K T r to t):=by
  intro pins s σ H Q I h
  refine wpAny_Call_method_late hbase hfew hline rfl (thn (ho pins s σ H _ I h) fun v s1 ⟨x,H1,I1,r1,ty,q1⟩=>?_)
  obtain ⟨h1,h2⟩:=Og I1 r1 ty
  refine ⟨T,id,pa,slot,hty,h1,h2,?_⟩
  have hA:=ha cpos pins s1 σ H1 _ I1 q1
  rw [hs] at hA ⊢
  refine Calls.callWith_builtin (by show (false || (backTo cpos (starEach es X.env)).any (·.1))=false; rw [hplain] <;> rfl) (Calls.evalArgs_plain ?_)
  exact thn hA fun us s2 ⟨vs,H2,I2,r2,q2⟩=>hm pins s2 σ H2 x vs v us Q I2 r1 r2 q2
end
end L2
namespace L2
open PySem PySem.Spec PyProof.Rows
def MtM (X:Cx) (id:String) (r:V->List V->Hp->VK->Prop):Prop:=
  ∀ (pins:List (Addr × Obj)) (s:Shared) (σ:St) (H:Hp) (x:V) (xs:List V) (v:Value) (us:List Value) (Q:VK),Inv X pins σ H s->RelV x v->Vals xs us->r x xs H Q->
    wpAny (model X.prog X.w) X.A (call (.builtin id) (v :: us)) (EP X pins σ Q) X.xe s
theorem Vals.one:∀ {x:V} {us:List Value},Vals [x] us->∃ u,us=[u] /\ RelV x u
  | _,_,.cons r .nil=>⟨_,rfl,r⟩
theorem Vals.two:∀ {x y:V} {us:List Value},Vals [x,y] us->∃ u v,us=[u,v] /\ RelV x u /\ RelV y v
  | _,_,_,.cons r (.cons q .nil)=>⟨_,_,rfl,r,q⟩
theorem Vals.rep {xs:List V} {us:List Value} (h:Vals xs us):∀ k:Nat,Vals (List.replicate k xs).flatten (List.replicate k us).flatten
  | 0=>.nil
  | k + 1=>by
    rw [List.replicate_succ,List.replicate_succ,List.flatten_cons,List.flatten_cons]
    exact Vals.append h (Vals.rep h k)
theorem GF (its:List Value):∀ (k:Nat) (acc:List Value),
    List.foldl (fun x1 x2=>x1 ++ x2) acc.toArray (List.replicate k its.toArray)=(acc ++ (List.replicate k its).flatten).toArray
  | 0,acc=>by simp
  | k + 1,acc=>by
    have e:acc.toArray ++ its.toArray=(acc ++ its).toArray:=by simp
    have e2:(acc ++ its) ++ (List.replicate k its).flatten=acc ++ (List.replicate (k + 1) its).flatten:=by
      rw [List.replicate_succ,List.flatten_cons,List.append_assoc]
    rw [← e2,← GF its k (acc ++ its),← e,List.replicate_succ,List.foldl_cons]
section
variable {X:Cx} {pins:List (Addr × Obj)} {σ:St} {H:Hp} {s:Shared} {l b:Addr} {xs ys zs:List V}
theorem Inv.lset {its its':List Value} {n:Nat} {f:Array Value->Array Value} {t':Nat} (I:Inv X pins σ H s) (hH:H l=some (.lst xs))
    (e:s.heap.get? l=some { cls:=.type "list",data:=.seq its.toArray n }) (hf:f its.toArray=its'.toArray) (hv:Vals ys its') (hz:ys.length <= sizeLine) :
    Inv X pins σ (upd H l (.lst ys)) { s with heap:=s.heap.update l (Obj.mapSeq f),toks:=t' }:=by
  have q:=PySem.IsL.update e f
  rw [hf] at q
  refine I.write (x:=l) (e:=l) (by rw [hH]; exact trivial) (.inl rfl) (fun b' u hb hu=>(Heap.get?_update_other s.heap (Obj.mapSeq f) (Ne.symm hb)).trans hu) ⟨_,q⟩ ?_
  exact ⟨hz,its',_,hv,q⟩
theorem Inv.lnew {its:List Value} {t':Nat} (I:Inv X pins σ H s) (hv:Vals ys its) (hz:ys.length <= sizeLine) :
    Inv X pins σ (upd H s.heap.objs.size (.lst ys)) { s with heap:=s.heap.push { cls:=.type "list",data:=.seq its.toArray },toks:=t' }:=
  I.laid (fun _ _ q=>Heap.get?_push_of_some _ q) (Nat.le_refl _) ⟨hz,its,0,hv,Heap.get?_push_size _ rfl⟩
theorem Inv.fresh (I:Inv X pins σ H s):H s.heap.objs.size=none:=I.hok.fresh (Nat.le_refl _)
theorem Inv.lstM (I:Inv X pins σ H s) (hH:H l=some (.lst xs)):xs.length <= sizeLine /\ ∃ (its:List Value) (n:Nat),Vals xs its /\ xs.length=its.length /\ s.heap.get? l=some { cls:=.type "list",data:=.seq its.toArray n }:=by
  obtain ⟨z,its,n,r,e⟩:=I.hok l _ hH
  exact ⟨z,its,n,r,r.length,e⟩
theorem Lw {n:Nat} (h:n <= sizeLine):Builtin.List.listTooLong n=false:=by
  unfold Builtin.List.listTooLong
  exact decide_eq_false (by omega)
end
section
variable {X:Cx}
def NP:V->List V->Hp->VK->Prop:=fun x vs H Q=>∃ l xs y,x=.ref l /\ vs=[y] /\ H l=some (.lst xs) /\ xs.length < sizeLine /\ Q .non (upd H l (.lst (xs ++ [y])))
theorem Kc:MtM X "list.append" NP:=by
  intro pins s σ H x vs v us Q I rx rv h
  obtain ⟨l,xs,y,rfl,rfl,hH,hz,q⟩:=h
  cases rx
  obtain ⟨u,rfl,ru⟩:=rv.one
  obtain ⟨z,its,n,r,hl,e⟩:=I.lstM hH
  refine call_meets F.slot_list_append ⟨_,e,rfl⟩ F.entry_list_append (F.args_list_append_2 _ _) (PySem.list_append l its.toArray n u (by rw [List.size_toArray]; omega)) ⟨e,?_⟩
  refine ⟨.non,_,I.lset (its':=its ++ [u]) hH e (by simp) (r.append (.cons ru .nil)) ?_,rfl,q⟩
  rw [List.length_append,List.length_singleton]
  omega
def RZ:R2:=fun x y H Q=>∃ l b xs zs,x=.ref l /\ y=.ref b /\ H l=some (.lst xs) /\ H b=some (.lst zs) /\ xs.length + zs.length <= sizeLine /\ ∀ p,H p=none->Q (.ref p) (upd H p (.lst (xs ++ zs)))
theorem Lo:OpR X (binaryOp .Add) RZ:=by
  intro pins s σ H x y v u Q I rx ry h
  obtain ⟨l,b,xs,zs,rfl,rfl,hH,hB,hz,q⟩:=h
  cases rx
  cases ry
  obtain ⟨z,its,n,r,hl,e⟩:=I.lstM hH
  obtain ⟨z2,its2,n2,r2,hl2,e2⟩:=I.lstM hB
  refine PySem.P.add_list e e2 ?_ (by rw [List.size_toArray,List.size_toArray]; omega)
  have ea:its.toArray ++ its2.toArray=(its ++ its2).toArray:=by simp
  rw [ea]
  exact ⟨.ref _,_,I.lnew (t':=s.toks) (r.append r2) (by rw [List.length_append]; omega),rfl,q _ I.fresh⟩
def RX:R2:=fun x y H Q=>∃ l k xs,x=.ref l /\ y=.int k /\ H l=some (.lst xs) /\ -(2 ^ 63) <= k /\ k < 2 ^ 63 /\ xs.length * k.toNat <= sizeLine /\
  ∀ p,H p=none->Q (.ref p) (upd H p (.lst (List.replicate k.toNat xs).flatten))
theorem Go {α:Type} (xs:List α) (k:Nat):(List.replicate k xs).flatten.length=k * xs.length:=by
  induction k with
  | zero=>simp
  | succ k ih=>rw [List.replicate_succ,List.flatten_cons,List.length_append,ih,Nat.succ_mul,Nat.add_comm]
theorem PM:OpR X (binaryOp .Mult) RX:=by
  intro pins s σ H x y v u Q I rx ry h
  obtain ⟨l,k,xs,rfl,rfl,hH,h1,h2,hz,q⟩:=h
  cases rx
  obtain ⟨t,rfl⟩:=ry
  obtain ⟨z,its,n,r,hl,e⟩:=I.lstM hH
  have hlen:its.toArray.size * k.toNat <= sizeLine:=by rw [List.size_toArray,← hl]; exact hz
  have hcap : ¬ its.toArray.size * k.toNat > (2 ^ 63 - 1) / 8:=by
    have:(sizeLine:Nat) <= (2 ^ 63 - 1) / 8:=by decide
    omega
  have hfit : ¬ (!Builtin.List.listFitsIndex k)=true:=by
    rw [fitsIndex_both h1 h2]
    exact Bool.false_ne_true
  have hlong : ¬ Builtin.List.listTooLong (its.toArray.size * k.toNat)=true:=by
    rw [Lw hlen]
    exact Bool.false_ne_true
  have hnew:List.foldl (fun x1 x2=>x1 ++ x2) #[] (List.replicate (if its.toArray.isEmpty=true then 0 else k.toNat) its.toArray)=(List.replicate k.toNat its).flatten.toArray:=by
    have f0:∀ m:Nat,List.foldl (fun x1 x2=>x1 ++ x2) #[] (List.replicate m its.toArray)=(List.replicate m its).flatten.toArray:=fun m=>by
      have:=GF its m []
      rw [List.nil_append] at this
      exact this
    rw [f0]
    cases its with
    | nil=>simp
    | cons a r'=>rw [if_neg (by simp)]
  refine wpAny_binaryOp_repeat_ref (T := "list") (U := "int") (by decide) ⟨_,e,rfl⟩ (fun s'=>typeIs_int s' k t) noFill_list_mul F.fills_int_mul F.slot_int_rmul repeat_list F.slot_int_index.lookup
    (call_meets F.slot_int_rmul (typeIs_int s k t) F.entry_int_rmul (F.args_int_rmul_2 _ _) (int___rmul___int_list k t l its.toArray n)
      ⟨e,rfl,⟨_,e,rfl⟩,call_meets F.slot_list_mul ⟨_,e,rfl⟩ F.entry_list_mul (F.args_list_mul_2 _ _) (AutoListH.list___mul___list_int_3 l its.toArray n k t hfit hcap hlong) ⟨e,?_⟩⟩)
  rw [hnew]
  exact ⟨.ref _,_,I.lnew (t':=s.toks) (r.rep k.toNat) (by rw [Go,Nat.mul_comm]; exact hz),rfl,q _ I.fresh⟩
end
section
variable {prog:Program} {w:World} {A:Around} {E:Value->Shared->Prop} {s:Shared}
end
section
variable {X:Cx}
end
end L2
namespace L2
open PySem PySem.Spec PyProof.Rows
section
variable {κ:Type} [DecidableEq κ]
def Db (kvs:List (κ × V)) (k:κ):Option V:=(kvs.find? fun kv=>decide (kv.1=k)).map (·.2)
def CP (kvs:List (κ × V)) (k:κ) (v:V):List (κ × V):=
  if (kvs.any fun kv=>decide (kv.1=k))=true then kvs.map (fun kv=>if kv.1=k then (kv.1,v) else kv) else kvs ++ [(k,v)]
theorem Eu {p:κ × V} {r:List (κ × V)} {k:κ} (e:p.1=k):Db (p :: r) k=some p.2:=by simp [Db,List.find?_cons,e]
theorem Ev {p:κ × V} {r:List (κ × V)} {k:κ} (e : ¬ p.1=k):Db (p :: r) k=Db r k:=by simp [Db,List.find?_cons,e]
theorem G1 (k:κ):∀ kvs:List (κ × V),(kvs.any fun kv=>decide (kv.1=k))=(Db kvs k).isSome
  | []=>rfl
  | p :: r=>by
    rw [List.any_cons]
    by_cases e:p.1=k
    . simp only [Eu e,decide_eq_true e,Bool.true_or,Option.isSome_some]
    . rw [Ev e,decide_eq_false e,Bool.false_or]; exact G1 k r
theorem C4 (kvs:List (κ × V)) (k:κ) (v:V):(CP kvs k v).length <= kvs.length + 1:=by
  unfold CP
  split
  . rw [List.length_map]; omega
  . rw [List.length_append,List.length_cons,List.length_nil]; omega
theorem RelO.isSome_eq {o:Option V} {u:Option Value} (r:RelO o u):o.isSome=u.isSome:=by
  cases o with
  | none=>cases u with
    | none=>rfl
    | some _=>exact (show False from r).elim
  | some _=>cases u with
    | none=>exact (show False from r).elim
    | some _=>rfl
theorem KV.val {kvs:List (κ × V)} {vs:List (κ × Value)} (r:KV kvs vs) (k:κ):RelO (Db kvs k) (valueAt vs k):=by
  unfold KV at r
  induction r with
  | nil=>exact True.intro
  | @cons p q ps qs h t ih=>
    obtain ⟨h1,h2⟩:=h
    by_cases e:p.1=k
    . have e':q.1=k:=h1.symm.trans e
      have b:valueAt (q :: qs) k=some q.2:=by simp [valueAt,List.find?_cons,e']
      rw [Eu e,b]; exact h2
    . have e' : ¬ q.1=k:=fun z=>e (h1.trans z)
      have b:valueAt (q :: qs) k=valueAt qs k:=by simp [valueAt,List.find?_cons,e']
      rw [Ev e,b]; exact ih
theorem KV.any {kvs:List (κ × V)} {vs:List (κ × Value)} (r:KV kvs vs) (k:κ):(kvs.any fun kv=>decide (kv.1=k))=vs.any fun kv=>decide (kv.1=k):=by
  unfold KV at r
  induction r with
  | nil=>rfl
  | cons h t ih=>rw [List.any_cons,List.any_cons,ih,h.1]
theorem KV.repl {kvs:List (κ × V)} {vs:List (κ × Value)} (r:KV kvs vs) (k:κ) {y:V} {u:Value} (ry:RelV y u) :
    KV (kvs.map fun kv=>if kv.1=k then (kv.1,y) else kv) (vs.map fun kv=>if kv.1=k then (kv.1,u) else kv):=by
  unfold KV at r ⊢
  induction r with
  | nil=>exact .nil
  | @cons p q ps qs h t ih=>
    rw [List.map_cons,List.map_cons]
    refine .cons ?_ ih
    obtain ⟨h1,h2⟩:=h
    by_cases e:p.1=k
    . rw [if_pos e,if_pos (h1.symm.trans e)]; exact ⟨h1,ry⟩
    . rw [if_neg e,if_neg (fun z=>e (h1.trans z))]; exact ⟨h1,h2⟩
theorem KV.put {kvs:List (κ × V)} {vs:List (κ × Value)} (r:KV kvs vs) (k:κ) {y:V} {u:Value} (ry:RelV y u):KV (CP kvs k y) (stored vs k u):=by
  unfold CP stored
  rw [r.any k]
  by_cases e:(vs.any fun kv=>decide (kv.1=k))=true
  . rw [if_pos e,if_pos e]; exact r.repl k ry
  . rw [if_neg e,if_neg e]; exact Paired.snoc r ⟨rfl,ry⟩
theorem KV.length {kvs:List (κ × V)} {vs:List (κ × Value)} (r:KV kvs vs):kvs.length=vs.length:=Paired.length r
end
theorem Jk {P:Program} {w:World} {k:Key} {u:Value} (r:RelV (kV k) u):(BA P w).is k u=true:=by
  cases k with
  | inl i=>obtain ⟨t,e⟩:=(show ∃ t,u=Value.int i t from r); subst e; exact HS P w i t
  | inr x=>obtain ⟨t,e⟩:=(show ∃ t,u=Value.str x t from r); subst e; exact HR P w x t
theorem GA {P:Program} {w:World}:∀ {ks:List Key} {us:List Value},Vals (ks.map kV) us->ItemsAre (BA P w) ks us
  | [],_,r=>by rw [List.map_nil] at r; cases r; exact .nil
  | k :: ks,_,r=>by
    rw [List.map_cons] at r
    cases r with
    | cons h t=>exact .cons (Jk h) (GA t)
abbrev KT (H:Hp):List (List Key × V)->List (List Key × Addr × Value)->Prop:=Paired fun p q=>p.1=q.1 /\ H q.2.1=some (.tup (p.1.map kV)) /\ RelV p.2 q.2.2
theorem KT.val {H:Hp} {kvs:List (List Key × V)} {xs:List (List Key × Addr × Value)} (r:KT H kvs xs) (k:List Key):RelO (Db kvs k) ((atKey xs k).map (·.2)):=by
  induction r with
  | nil=>exact True.intro
  | @cons p q ps qs h t ih=>
    obtain ⟨h1,_,h2⟩:=h
    by_cases e:p.1=k
    . have e':q.1=k:=h1.symm.trans e
      have b:atKey (q :: qs) k=some q.2:=by simp [atKey,List.find?_cons,e']
      rw [Eu e,b]; exact h2
    . have e' : ¬ q.1=k:=fun z=>e (h1.trans z)
      have b:atKey (q :: qs) k=atKey qs k:=by simp [atKey,List.find?_cons,e']
      rw [Ev e,b]; exact ih
theorem KT.repl {H:Hp} {kvs:List (List Key × V)} {xs:List (List Key × Addr × Value)} (r:KT H kvs xs) (k:List Key) {y:V} {u:Value} (ry:RelV y u) :
    KT H (kvs.map fun kv=>if kv.1=k then (kv.1,y) else kv) (xs.map (putAt k u)):=by
  induction r with
  | nil=>exact .nil
  | @cons p q ps qs h t ih=>
    rw [List.map_cons,List.map_cons]
    refine .cons ?_ ih
    obtain ⟨h1,h2,h3⟩:=h
    unfold putAt
    by_cases e:p.1=k
    . rw [if_pos e,if_pos (h1.symm.trans e)]; exact ⟨h1,h2,ry⟩
    . rw [if_neg e,if_neg (fun z=>e (h1.trans z))]; exact ⟨h1,h2,h3⟩
theorem KT.put {H:Hp} {kvs:List (List Key × V)} {xs:List (List Key × Addr × Value)} (r:KT H kvs xs) (k:List Key) {b:Addr} {y:V} {u:Value} (hb:H b=some (.tup (k.map kV))) (ry:RelV y u) :
    KT H (CP kvs k y) (storedH xs k b u):=by
  have e:(kvs.any fun kv=>decide (kv.1=k))=(atKey xs k).isSome:=by
    rw [G1,(r.val k).isSome_eq,Option.isSome_map]
  unfold CP storedH
  rw [e]
  by_cases q:(atKey xs k).isSome=true
  . rw [if_pos q,if_pos q]; exact r.repl k ry
  . rw [if_neg q,if_neg q]; exact Paired.snoc r ⟨rfl,hb,ry⟩
theorem KT.keeps {H H':Hp} {kvs:List (List Key × V)} {xs:List (List Key × Addr × Value)} (r:KT H kvs xs) (ht:∀ b ys,H b=some (.tup ys)->H' b=some (.tup ys)):KT H' kvs xs:=
  Paired.mapP r fun _ _ z=>⟨z.1,ht _ _ z.2.1,z.2.2⟩
section
variable {P:Program} {w:World} {H:Hp} {h:Heap} {a:Addr}
theorem OP {u:HO} (ok:HOk P w H h) (e:Rd H a u):ObjOk P w H h a u:=e.ok ok
theorem Me {kvs:List (Key × V)} (ok:HOk P w H h) (e:Rd H a (.dK kvs)):kvs.length <= sizeLine /\ (a == sysModules)=false /\ ∃ vs,KV kvs vs /\ h.DictOf (BA P w) a vs:=
  show ObjOk P w H h a (.dK kvs) from OP ok e
theorem Ob {kvs:List (Key × V)} (ok:HOk P w H h) (e:H a=some (.dK kvs)):kvs.length <= sizeLine /\ (a == sysModules)=false /\ ∃ vs,KV kvs vs /\ h.DictOf (BA P w) a vs:=Me ok (.inl e)
theorem Ia {ks:List Key} (ok:HOk P w H h) (e:H a=some (.tup (ks.map kV))):(tupleKind (BA P w)).is h ks a:=by
  obtain ⟨_,its,r,o,h1,h2,n,h3⟩:=(show ObjOk P w H h a (.tup (ks.map kV)) from ok a _ e)
  exact ⟨o,its.toArray,n,h1,h2,h3,by simpa using GA r⟩
theorem Md {kvs:List (List Key × V)} (ok:HOk P w H h) (e:Rd H a (.dT kvs)):kvs.length <= sizeLine /\ (a == sysModules)=false /\
    ∃ xs,KT H kvs xs /\ h.DictOfH (tupleKind (BA P w)) a xs:=by
  obtain ⟨z,y,xs,r,o,es,ep,h1,h2,h3,h4,h5⟩:=(show ObjOk P w H h a (.dT kvs) from OP ok e)
  refine ⟨z,y,xs,r,o,es,ep,h1,h2,h3,h4,fun x hx=>?_,h5⟩
  have all:∀ {l:List (List Key × V)} {m:List (List Key × Addr × Value)},KT H l m->∀ x ∈ m,(tupleKind (BA P w)).is h x.1 x.2.1:=by
    intro l m q
    induction q with
    | nil=>intro x hx; exact nomatch hx
    | @cons p q ps qs hq t ih=>
      intro x hx
      rcases List.mem_cons.mp hx with e | hx
      . subst e
        exact Ia ok (by rw [← hq.1]; exact hq.2.1)
      . exact ih x hx
  exact all r x hx
theorem Q1 {kvs:List (List Key × V)} (ok:HOk P w H h) (e:H a=some (.dT kvs)):kvs.length <= sizeLine /\ (a == sysModules)=false /\
    ∃ xs,KT H kvs xs /\ h.DictOfH (tupleKind (BA P w)) a xs:=Md ok (.inl e)
end
def DGet (H:Hp) (a:Addr) (y:V) (r:Option V):Prop:=
  (∃ kvs k,Rd H a (.dK kvs) /\ y=kV k /\ r=Db kvs k) ∨ ∃ kvs k b,Rd H a (.dT kvs) /\ y=.ref b /\ H b=some (.tup (k.map kV)) /\ r=Db kvs k
def DPut (H:Hp) (a:Addr) (y v:V) (H':Hp):Prop:=
  (∃ kvs k,H a=some (.dK kvs) /\ y=kV k /\ kvs.length < sizeLine /\ H'=upd H a (.dK (CP kvs k v))) ∨
  ∃ kvs k b,H a=some (.dT kvs) /\ y=.ref b /\ H b=some (.tup (k.map kV)) /\ kvs.length < sizeLine /\ H'=upd H a (.dT (CP kvs k v))
theorem DGet.k {H:Hp} {a:Addr} {kvs:List (Key × V)} {k:Key} (e:H a=some (.dK kvs)):DGet H a (kV k) (Db kvs k):=.inl ⟨kvs,k,.inl e,rfl,rfl⟩
theorem DPut.k {H:Hp} {a:Addr} {kvs:List (Key × V)} {k:Key} {v:V} (e:H a=some (.dK kvs)) (hl:kvs.length < sizeLine):DPut H a (kV k) v (upd H a (.dK (CP kvs k v))):=.inl ⟨kvs,k,e,rfl,hl,rfl⟩
section
variable {X:Cx} {pins:List (Addr × Obj)} {σ:St} {H:Hp} {s:Shared} {a:Addr} {y v:V} {u r:Value} {o:Option V} {A:Around} {E:Value->Shared->Prop}
theorem Inv.big (I:Inv X pins σ H s):sysModules < s.heap.objs.size:=by
  have h:mainGlobals < s.heap.objs.size:=(I.mod.glob.keeps I.bk).lt
  exact Nat.lt_trans (by decide) h
theorem Kr {Q:Value->Shared->Prop} (hu:A.units + 1 < cLine) (I:Inv X pins σ H s) (g:DGet H a y (some v)) (ry:RelV y u) (h:∀ w' s',Inv X pins σ H s'->RelV v w'->Q w' s') :
    wpAny (model X.prog X.w) A (getItem (.ref a) u) Q E s:=by
  rcases g with ⟨kvs,k,e,ey,l⟩ | ⟨kvs,k,b,e,ey,eb,l⟩
  . subst ey
    obtain ⟨z,hd,vs,rel,dd⟩:=Me I.hok e
    obtain ⟨w',hw,rw'⟩:=RelO.some_of (v:=v) (o:=valueAt vs k) (by rw [l]; exact rel.val k)
    exact wpAny_getItem_of (Jk ry) dd.mapOf hw (h w' _ (I.tok _) rw')
  . subst ey
    cases (show u=Value.ref b from ry)
    obtain ⟨z,hd,xs,rel,dd⟩:=Md I.hok e
    obtain ⟨w',hw,rw'⟩:=RelO.some_of (v:=v) (o:=(atKey xs k).map (·.2)) (by rw [l]; exact rel.val k)
    obtain ⟨p,hp,hp2⟩:=Option.map_eq_some_iff.mp hw
    refine wpAny_getItem_heap (tupleKind_room_in1 hu) (Ia I.hok eb) dd hp ?_
    rw [hp2]
    exact h w' _ (I.tok _) rw'
theorem Gx {h':Heap} {t':Nat} {ob:HO} (I:Inv X pins σ H s) (mu:Mut (H a)) (hs:Heap.SameBut a s.heap h') (he:∃ q,h'.get? a=some q) (new:ObjOk X.prog X.w (upd H a ob) h' a ob) :
    Inv X pins σ (upd H a ob) { s with heap:=h',toks:=t' }:=
  I.write (x:=a) (e:=a) mu (.inl rfl) (fun b q hb z=>(hs.2 b hb).trans z) he new
theorem Mf {P:Program} {w:World} {H':Hp} {h':Heap} {kvs:List (Key × V)} {vs:List (Key × Value)} (z:kvs.length <= sizeLine) (hd:(a == sysModules)=false) (rel:KV kvs vs) (dd:h'.DictOf (BA P w) a vs) :
    ObjOk P w H' h' a (.dK kvs):=⟨z,hd,vs,rel,dd⟩
theorem Kq {H':Hp} {Q:Unit->Shared->Prop} (hu:A.units + 1 < cLine) (I:Inv X pins σ H s) (g:DPut H a y v H') (ry:RelV y u) (rv:RelV v r) (h:∀ s',Inv X pins σ H' s'->Q () s') :
    wpAny (model X.prog X.w) A (setItem (.ref a) u r) Q E s:=by
  rcases g with ⟨kvs,k,e,ey,l,eH⟩ | ⟨kvs,k,b,e,ey,eb,l,eH⟩
  . subst ey eH
    obtain ⟨z,hd,vs,rel,dd⟩:=Ob I.hok e
    have hz:vs.length <= sizeLine:=by rw [← rel.length]; exact z
    have hl:(CP kvs k v).length <= sizeLine:=by have:=C4 kvs k v; omega
    refine wpAny_setItem_pairs (hsz:=hz) (Jk ry) dd fun h' dd' hs=>h _ ?_
    have he:∃ q,h'.get? a=some q:=let ⟨q,_,_,hq,_⟩:=dd'; ⟨q,hq⟩
    exact Gx I (by rw [e]; exact True.intro) hs he (Mf hl hd (rel.put k rv) dd')
  . subst ey eH
    cases (show u=Value.ref b from ry)
    obtain ⟨z,hd,xs,rel,dd⟩:=Q1 I.hok e
    have hz:xs.length <= sizeLine:=by rw [← Paired.length rel]; exact z
    have hl:(CP kvs k v).length <= sizeLine:=by have:=C4 kvs k v; omega
    refine wpAny_setItem_heap (hsz:=hz) (tupleKind_room_in1 hu) (Ia I.hok eb) dd fun h' dd' hs=>h _ ?_
    obtain ⟨q,es,ep,hq,h2,h3,h4,_,h5⟩:=dd'
    refine Gx I (by rw [e]; exact True.intro) hs ⟨q,hq⟩ ⟨hl,hd,_,(rel.put k eb rv).keeps fun c ys ec=>?_,q,es,ep,hq,h2,h3,h4,h5⟩
    rw [Ag (Qs ec e (fun z=>nomatch z))]
    exact ec
end
section
variable {X:Cx} {pins:List (Addr × Obj)} {σ:St} {H:Hp} {s:Shared} {a:Addr} {kvs:List (Key × V)} {k:Key} {u:Value} {A:Around} {E:Value->Shared->Prop}
end
def P2 (i:Expr):Prop:=∀ ov iv,subscripted i false ov iv=operate [ov,iv] (getItem ov iv)
theorem M6 {prog:Program} {w:World} {A:Around} {E:Value->Shared->Prop} {s:Shared} {env:Env} {value slice:Expr} {pos:Pos} {T id:String} {Q:Value->Shared->Prop}
    (hl:typeLookup (.type T) "__getitem__" = pure (some (.builtin id))) (hs:P2 slice)
    (h:wpAny (model prog w) A (eval value env) (fun o s₁=>wpAny (model prog w) A (eval slice env) (fun i s₂=>s₂.TypeIs o T /\ wpAny (model prog w) A (getItem o i) Q E s₂) E s₁) E s) :
    wpAny (model prog w) A (eval (.Subscript value slice pos) env) Q E s:=by
  refine Subscript_ (wpAny_mono h (fun o s₁ h₁=>wpAny_mono h₁ (fun i s₂ h₂=>?_) fun _ _ x=>x) fun _ _ x=>x)
  obtain ⟨hT,h₂⟩:=h₂
  unfold subscriptTail
  refine wpAny_bind ?_
  rw [getitemInPython_of_ne hT.not_modules]
  refine wpAny_bind (wpAny_specialOf hT hl ?_)
  have fin:wpAny (model prog w) A (subscripted slice false o i) (fun r s₃=>wpAny (model prog w) A (letTemporaryGo value o r >>= fun _=>pure r) Q E s₃) E s₂:=by
    rw [hs o i]
    exact wpAny_operating (wpAny_mono h₂ (fun r s₃ h₃=>wpAny_bind (wpAny_letTemporaryGo (wpAny_pure h₃))) fun _ _ x=>x)
  first
    | exact wpAny_pure (wpAny_bind fin)
    | exact wpAny_bind (wpAny_pure (wpAny_bind fin))
    | exact wpAny_bind fin
theorem Hi {X:Cx} {pins:List (Addr × Obj)} {σ:St} {H:Hp} {s:Shared} {a:Addr} {y:V} {o:Option V} (I:Inv X pins σ H s) (g:DGet H a y o):s.TypeIs (.ref a) "dict" := by
  rcases g with ⟨kvs,k,e,_,_⟩ | ⟨kvs,k,b,e,_,_,_⟩
  . obtain ⟨_,_,vs,_,dd⟩:=Me I.hok e
    exact dd.typeIs
  . obtain ⟨_,_,xs,_,dd⟩:=Md I.hok e
    exact dd.typeIs
def QM (td ty:TE):TE:=fun σ H Q=>td σ H fun x H1=>ty σ H1 fun y H2=>∃ a v,x=.ref a /\ DGet H2 a y (some v) /\ Q v H2
def QS (td ty tv:TE):TS:=fun D σ H=>tv σ H fun v H1=>td σ H1 fun x H2=>ty σ H2 fun y H3=>∃ a H4,x=.ref a /\ DPut H3 a y v H4 /\ D.nx σ H4
section
variable {X:Cx} {o i e value:Expr} {pos pos' tpos:Pos} {td ty tv:TE}
theorem Ng (hu:X.A.units + 1 < cLine) (ho:PE X o td) (hi:PE X i ty) (hs:P2 i):PE X (.Subscript o i pos) (QM td ty):=by
  intro pins s σ H Q I h
  refine M6 PySem.F.slot_dict_getitem.lookup hs (thn (ho pins s σ H _ I h) fun u s1 ⟨x,H1,I1,rx,q1⟩=>thn (hi pins s1 σ H1 _ I1 q1) fun iv s2 ⟨y,H2,I2,ry,a,v,ex,g,q2⟩=>?_)
  subst ex
  obtain rfl:u=Value.ref a:=rx
  exact ⟨Hi I2 g,Kr hu I2 g ry fun w' s3 I3 rw'=>⟨v,H2,I3,rw',q2⟩⟩
theorem NZ (hu:X.A.units + 1 < cLine) (ho:PE X o td) (hi:PE X i ty) (hv:PE X value tv) (hs:swapsWith value (some (.Subscript o i pos')) pos.line X.env=pure false) :
    PS X (.Assign [.Subscript o i pos'] value pos) (QS td ty tv):=by
  intro pins s σ H D I h
  refine wpAny_Assign_Subscript (thn (hv pins s σ H _ I h) fun r s1 ⟨v,H1,I1,rv,q1⟩=>thn (ho pins s1 σ H1 _ I1 q1) fun u s2 ⟨x,H2,I2,rx,q2⟩=>thn (hi pins s2 σ H2 _ I2 q2) fun iv s3 ⟨y,H3,I3,ry,a,H4,ex,g,q3⟩=>?_) hs
  subst ex
  obtain rfl:u=Value.ref a:=rx
  exact Kq hu I3 g ry rv fun s4 I4=>⟨σ,H4,I4,q3⟩
end
theorem Mg {P:Program} {w:World} {H:Hp} (h:Heap) (hb:sysModules < h.objs.size):ObjOk P w H (h.push { cls:=.type "dict",data:=.dict #[] }) h.objs.size (.dK []):=
  ⟨Nat.zero_le _,beq_eq_false_iff_ne.mpr (Ne.symm (Nat.ne_of_lt hb)),[],.nil,Heap.DictOf.new h⟩
section
variable {X:Cx} {pos:Pos}
end
def GV:List (TE × TE)->St->Hp->(List (V × V)->Hp->Prop)->Prop
  | [],_,H,Q=>Q [] H
  | (tk,tv) :: r,σ,H,Q=>tk σ H fun x H1=>tv σ H1 fun y H2=>GV r σ H2 fun ps H3=>Q ((x,y) :: ps) H3
abbrev VV:List (V × V)->List (Value × Value)->Prop:=Paired fun p q=>RelV p.1 q.1 /\ RelV p.2 q.2
def PPs (X:Cx) (pos:Pos) (keys:List (Option Expr)) (values:List Expr) (trs:List (TE × TE)):Prop:=
  ∀ (pins:List (Addr × Obj)) (s:Shared) (σ:St) (H:Hp) (Q:List (V × V)->Hp->Prop),Inv X pins σ H s->GV trs σ H Q->
    wpAny (model X.prog X.w) X.A (evalPairs (pairTrees keys values X.env pos)) (fun vs s'=>∃ ps H',Inv X pins σ H' s' /\ VV ps vs /\ Q ps H') X.xe s
theorem Na {X:Cx} {pos:Pos}:PPs X pos [] [] []:=fun pins s σ H Q I h=>pairTrees_nil_walk ⟨[],H,I,.nil,h⟩
theorem Le {X:Cx} {pos:Pos} {k v:Expr} {ks:List (Option Expr)} {vs:List Expr} {tk tv:TE} {trs:List (TE × TE)} (hk:PE X k tk) (hv:PE X v tv) (hr:PPs X pos ks vs trs) :
    PPs X pos (some k :: ks) (v :: vs) ((tk,tv) :: trs):=fun pins s σ H Q I h=>
  pairTrees_cons_walk (thn (hk pins s σ H _ I h) fun u s1 ⟨x,H1,I1,rx,q1⟩=>thn (hv pins s1 σ H1 _ I1 q1) fun w2 s2 ⟨y,H2,I2,ry,q2⟩=>
    thn (hr pins s2 σ H2 _ I2 q2) fun ws s3 ⟨ps,H3,I3,rel,q3⟩=>⟨(x,y) :: ps,H3,I3,.cons ⟨rx,ry⟩ rel,q3⟩)
def C1 (kvs more:List (Key × V)):List (Key × V):=more.foldl (fun acc kv=>CP acc kv.1 kv.2) kvs
theorem KV.merge:∀ {more:List (Key × V)} {rs:List (Key × Value)} {kvs:List (Key × V)} {vs:List (Key × Value)},KV more rs->KV kvs vs->KV (C1 kvs more) (merged vs rs):=by
  intro more rs kvs vs r
  unfold KV at r
  induction r generalizing kvs vs with
  | nil=>intro q; exact q
  | @cons p q ps qs h t ih=>
    intro r0
    have e:KV (CP kvs p.1 p.2) (stored vs q.1 q.2):=by
      have:=r0.put p.1 h.2
      rw [← h.1]; exact this
    exact ih e
theorem DX:∀ (more kvs:List (Key × V)),(C1 kvs more).length <= kvs.length + more.length
  | [],kvs=>by show kvs.length <= kvs.length + 0; omega
  | p :: r,kvs=>by
    have h1:=DX r (CP kvs p.1 p.2)
    have h2:=C4 kvs p.1 p.2
    show (C1 (CP kvs p.1 p.2) r).length <= _
    rw [List.length_cons]; omega
theorem Fe {P:Program} {w:World}:∀ {kvs:List (Key × V)} {ws:List (Value × Value)},VV (kvs.map fun kv=>(kV kv.1,kv.2)) ws->∃ rs,Carries (BA P w) ws rs /\ KV kvs rs
  | [],_,r=>by rw [List.map_nil] at r; cases r; exact ⟨[],True.intro,.nil⟩
  | p :: kvs,_,r=>by
    rw [List.map_cons] at r
    cases r with
    | @cons a b as bs h t=>
      obtain ⟨rs,c,q⟩:=Fe (P:=P) (w:=w) t
      obtain ⟨b1,b2⟩:=b
      exact ⟨(p.1,b2) :: rs,⟨Jk h.1,rfl,c⟩,.cons ⟨rfl,h.2⟩ q⟩
def QL (trs:List (TE × TE)):TE:=fun σ H Q=>∀ p,H p=none->GV trs σ (upd H p (.dK [])) fun ps H2=>H2 p=some (.dK []) /\ ∃ kvs:List (Key × V),ps=kvs.map (fun kv=>(kV kv.1,kv.2)) /\ kvs.length <= 15 /\ Q (.ref p) (upd H2 p (.dK (C1 [] kvs)))
theorem Nf {X:Cx} {pos:Pos} {keys:List (Option Expr)} {values:List Expr} {trs:List (TE × TE)} (h:PPs X pos keys values trs) (hall:keys.all (·.isSome)=true) (hl:keys.length=values.length) (h0:keys ≠ [])
    (h15:keys.length <= 15):PE X (.Dict keys values pos) (QL trs):=by
  intro pins s σ H Q I q
  have hn:=I.hok.fresh (Nat.le_refl s.heap.objs.size)
  have I1:=I.laid (a:=s.heap.objs.size) (o:=.dK []) (h':=s.heap.push { cls:=.type "dict",data:=.dict #[] }) (t':=s.toks) (fun _ _ q=>Heap.get?_push_of_some _ q) (Nat.le_refl _) (Mg s.heap I.big)
  refine wpAny_Dict_walk (knd:=BA X.prog X.w) hall hl h0 h15 (thn (h pins _ σ _ _ I1 (q _ hn)) fun ws s2 ⟨ps,H2,I2,rel,e,kvs,ep,lk,q2⟩=>?_)
  subst ep
  obtain ⟨rs,c,rk⟩:=Fe (P:=X.prog) (w:=X.w) rel
  obtain ⟨z,hd,vs0,r0,dd⟩:=Ob I2.hok e
  cases r0
  refine ⟨rs,c,dd,fun h' dd' hs=>⟨.ref s.heap.objs.size,_,?_,rfl,q2⟩⟩
  have hz:(C1 [] kvs).length <= sizeLine:=by
    have h1:=DX kvs []
    rw [List.length_nil] at h1
    rw [sizeLine_eq]; omega
  have he:∃ q,h'.get? s.heap.objs.size=some q:=let ⟨q,_,_,hq,_⟩:=dd'; ⟨q,hq⟩
  exact Gx I2 (by rw [e]; exact True.intro) hs he (Mf hz hd (rk.merge .nil) dd')
section
variable {X:Cx} {pins:List (Addr × Obj)} {σ:St} {H:Hp} {s:Shared} {a:Addr} {y d:V} {u r:Value} {o:Option V} {A:Around} {E:Value->Shared->Prop}
end
section
variable {X:Cx} {o e f:Expr} {apos cpos:Pos} {td ty tx:TE}
end
section
variable {X:Cx} {pins:List (Addr × Obj)} {σ:St} {H:Hp} {s:Shared} {a:Addr} {kvs:List (Key × V)} {A:Around} {E:Value->Shared->Prop}
end
section
variable {X:Cx} {pins:List (Addr × Obj)} {σ:St} {H:Hp} {s:Shared} {a:Addr} {y:V} {u:Value} {A:Around} {E:Value->Shared->Prop}
end
end L2
namespace Att
open PySem PySem.W PySem.Calls PyProof.Rows
theorem Ef {P:Params} {h:Heap}:∀ (ns:List Int) (vs:List Value),WellAll P h vs (ns.map WData.int)->IntsAre vs ns:=by
  intro ns
  induction ns with
  | nil=>
    intro vs w
    rw [List.map_nil] at w
    cases w
    exact .nil
  | cons n ns ih=>
    intro vs w
    rw [List.map_cons] at w
    cases w with
    | cons a b=>
      cases a
      exact .cons _ _ (ih _ b)
theorem KE {l:OpenLaw} {n:Nat} (hn:l.most=some n) {P:Params} {h:Heap} {args:List WData} {vals:List Value}
    (hpre:l.row.toRowW.claim.pre args=true) (hwl:WellAll P h vals args) :
    ∃ a vs ns,vals=[Value.ref a] /\ args=[WData.list (ns.map WData.int)] /\ h.get? a=some { cls:=.type "list",data:=.seq vs.toArray } /\ IntsAre vs ns /\ ns.length <= n:=by
  have hsh:WShape.hasAll [] args [.list .int]=true:=(pre_splitW hpre).1
  have hc:l.pre.holds [] { args:=args }=true:=(pre_splitW hpre).2
  obtain ⟨d,r,rfl,h1,h2⟩:=hasAllW_cons hsh
  obtain rfl:=hasAllW_nil h2
  obtain ⟨xs,rfl,h3⟩:=hasW_list h1
  obtain ⟨ns,rfl⟩:=items_int h3
  have hlen:ns.length <= n:=by
    unfold OpenLaw.pre at hc
    have h4:(WTm.not (.lt (.lit (.int (n:Int))) (.len (.arg 0)))).holds [] { args:=[.list (ns.map .int)] }=true:=by
      have h4:=(holds_andW hc).1
      rw [hn] at h4
      exact h4
    have h5:=condW_of h4 (w_not (w_lt w_lit (w_len_list (w_arg rfl))))
    rw [List.length_map] at h5
    refine Nat.le_of_not_lt fun q=>?_
    have q':(n:Int) < ((ns.length:Nat):Int):=by omega
    first
      | (rw [decide_eq_true q'] at h5; exact absurd h5 (by decide))
      | (simp at h5; omega)
  cases hwl with
  | cons w1 w2=>
    cases w2
    cases w1 with
    | list ho hall=>exact ⟨_,_,ns,rfl,rfl,ho,Ef ns _ hall,hlen⟩
theorem KO (l:OpenLaw) (args:List WData):l.row.toRowW.claim.post args (.bool true) args=true:=
  postW_of (r:=l.row.toRowW) (X:=(true == true))
    (show WShape.has [] (.bool true) .bool=true by first | rfl | decide | simp [WShape.has,WShape.arms,WShape.armsAll])
    (show (WTm.eq .res (.lit (.bool true))).value [] { args:=args,res:=some (.bool true),after:=args }=some (.bool (true == true)) from w_eq_bool (w_res rfl) w_lit) rfl
theorem Hz {l:OpenLaw} {n:Nat} {q:Program} {loose:List Str} {XP:(Str->Option Value)->Heap->Prop} {YP:World->Heap->Prop} {d:DefRec}
    (hn:l.most=some n) (hdf:d.params.defaults=[])
    (call:∀ (w:World) (s₀ s₁:Shared) (mg mb:Str->Option Value) (fa:Addr) (o:Obj) (pm cd doc:Value) (a:Addr) (vs:List Value) (ns:List Int),
      Ground q loose [] XP w s₀ mg mb s₁.heap->YP w s₁.heap->
      s₁.heap.get? fa=some o->o.data=.func (docDef d.name d.params d.body d.scope pm cd doc)->s₁.heap.CodeRec cd d.name->mg d.name=some (.ref fa)->
      s₁.heap.get? a=some { cls:=.type "list",data:=.seq vs.toArray }->IntsAre vs ns->ns.length <= n->s₁.gens = #[]->
      codeAny (model l.prog w) callerA (.call (.ref fa) ⟨[.ref a],[]⟩) (fun r s'=>r=.ok (.ret (.bool true)) /\ OldK s₁.heap s'.heap /\ s'.os=s₁.os /\ AllBare s'.gens) s₁) :
    WalkO q loose XP YP l.row.toRowW d [] (fun f vs=>PySem.call f vs):=by
  intro w s₀ s₁ mg mb G Y fa o pm cd doc dV kV ho hd hcd hD hmg hg args vals as hpre hlay hrd hwl hlo
  obtain rfl:dV=.none:=Dflts.none hD hdf
  obtain rfl:kV=.none:=Dflts.noKw hD
  obtain ⟨a,vs,ns,rfl,rfl,hobj,hints,hlen⟩:=KE hn hpre hwl
  refine enter_call (codeAny_mono (call w s₀ s₁ mg mb fa o pm cd doc a vs ns G Y ho (fd_plain hd) hcd hmg hobj hints hlen hg) fun r s' hq=>?_)
  obtain ⟨rfl,h2,h3,h4⟩:=hq
  exact ⟨.inl ⟨.bool true,.bool true,[],rfl,fun _=>rfl,.bool true,KO l _,fun _=>⟨List.Pairwise.nil,fun _ hm=>(nomatch hm)⟩⟩,h2,h3,h4⟩
section
variable {prog:Program} {w:World} {A:Around} {E:Value->Shared->Prop} {s:Shared} {K:Frag}
end
end Att
namespace L2
open PySem PySem.Spec PyProof.Rows
theorem DC:∀ {vs:List Value} {ns:List Int},IntsAre vs ns->Vals (ns.map V.int) vs
  | _,_,.nil=>.nil
  | _,_,.cons n t h=>.cons ⟨t,rfl⟩ (DC h)
def OI (H:Hp):Prop:=∀ b,H b=none ∨ ∃ o xs,H b=some (.frz o (.lst xs))
theorem L8 {P:Program} {w:World} {K:PySem.W.Frag} {mg mb:Str->Option Value} {CX:CXT} {k:Nat} {fa a:Addr} {fd:FuncData} {x:Str} {sp:Sp} {s₁:Shared} {vs:List Value} {ns:List Int}
    (KX:K.In s₁.heap) (hns:s₁.heap.Ns mainGlobals mg) (hb:s₁.heap.Ns builtinsNs mb) (hbb:∀ x:Str,x ≠ "__name__" -> mb x=bootBuiltins x) (hlim:s₁.heap.NoLimit) (hg:s₁.gens = #[])
    (ha:s₁.heap.get? a=some { cls:=.type "list",data:=.seq vs.toArray }) (hi:IntsAre vs ns) (hl:ns.length <= sizeLine) (hr:Room k callerA)
    (F:∀ base:Heap,K.In base->base.Ns mainGlobals mg->FnOk P w K mg base CX k fa fd [x] sp) (hbind:∀ (s:Shared) (u:Value),BindsTo s fd ⟨[u],[]⟩ [(x,u)])
    (hsp:∀ H:Hp,OI H->SqL K H a (ns.map V.int)->sp [.ref a] H (fun v _=>v=.bl true) fun _ _ _=>False)
    (hCX:∀ H e s',CX [] H s₁ (fun _ _ _=>False) e s'->False) :
    codeAny (model P w) callerA (.call (.ref fa) ⟨[.ref a],[]⟩) (fun r s'=>r=.ok (.ret (.bool true)) /\ OldK s₁.heap s'.heap /\ s'.os=s₁.os /\ AllBare s'.gens) s₁:=by
  have rv:=DC hi
  have lenV:=hi.length
  have core:∀ H:Hp,OI H->SqL K H a (ns.map V.int)->HOk P w H s₁.heap->(∀ b,H b ≠ none->b=a)->(H a ≠ none->K.lookup a=none)->
      codeAny (model P w) callerA (.call (.ref fa) ⟨[.ref a],[]⟩) (fun r s'=>r=.ok (.ret (.bool true)) /\ OldK s₁.heap s'.heap /\ s'.os=s₁.os /\ AllBare s'.gens) s₁:=by
    intro H hO hS hok hA hK
    have base_of:∀ {b:Addr} {o:Obj},s₁.heap.get? b=some o->H b=none->(Gr s₁.heap H).get? b=some o:=fun e n=>ML e n
    have noA:∀ {b:Addr} {o:Obj} {es:Array DictEntry} {ep:Nat},s₁.heap.get? b=some o->o.data=.dict es ep->H b=none:=fun {b o es ep} e d=>by
      cases q:H b with
      | none=>rfl
      | some u=>
        have e':b=a:=hA b (by rw [q]; simp)
        subst e'
        rw [ha] at e; cases e
        have d':Data.seq vs.toArray _=Data.dict es ep:=d
        cases d'
    have nsK:∀ {b:Addr} {m:Str->Option Value},s₁.heap.Ns b m->(Gr s₁.heap H).Ns b m:=fun {b m} ⟨o,es,ep,e,d,r⟩=>⟨o,es,ep,base_of e (noA e d),d,r⟩
    have hKb:K.In (Gr s₁.heap H):=fun b o e=>base_of (KX b o e) (by
      cases q:H b with
      | none=>rfl
      | some u=>
        have e':b=a:=hA b (by rw [q]; simp)
        subst e'
        rw [hK (by rw [q]; simp)] at e; cases e)
    have hM:Mod K mg (Gr s₁.heap H):=⟨hKb,nsK hns,⟨mb,nsK hb,hbb⟩,let ⟨mc,h1,h2⟩:=hlim; ⟨mc,nsK h1,h2⟩⟩
    have e0:OJ P w K mg (Gr s₁.heap H) callerA [] s₁ H:=⟨rfl,hM,fun b o e=>Nr e,Nat.le_of_eq (Kj _ _),trivial,fun b hb=>absurd (show b ∈ ([]:List Addr) from hb) (by simp),hok,.of_eq hg⟩
    refine codeAny_mono ((F _ hKb (nsK hns)).run callerA [] s₁ H ⟨[.ref a],[]⟩ [.ref a] [.ref a] _ _ hr e0 (hbind s₁ (.ref a)) (.cons rfl .nil) (hsp H hO hS)) fun r s' h=>?_
    cases r with
    | error e=>exact (hCX H e s' h).elim
    | ok fl=>
      cases fl with
      | next=>exact False.elim h
      | brk=>exact False.elim h
      | cont=>exact False.elim h
      | ret u=>
        obtain ⟨v,H',os,bare,un,hok',r',q⟩:=h
        have q':v=.bl true:=q
        subst q'
        obtain rfl:u=Value.bool true:=r'
        refine ⟨rfl,OldK.of_keep fun b o e=>?_,os,bare⟩
        cases q:H b with
        | none=>exact un.keep b o e q (by intro z; exact absurd (show b ∈ ([]:List Addr) from z) (by simp)) (by simp)
        | some u=>
          rcases hO b with z | ⟨ob,xs,z⟩
          . rw [q] at z; cases z
          . have z2:=un.frzs b ob _ z
            obtain ⟨e1,_⟩:=hok b _ z
            obtain ⟨e2,_⟩:=hok' b _ z2
            rw [e] at e1; cases e1
            exact e2
  cases hk:K.lookup a with
  | some o=>
    have e:=KX a o hk
    rw [ha] at e
    cases e
    refine core (fun _=>none) (fun _=>.inl rfl) (.inr ⟨_,vs.toArray,_,hk,rfl,rfl,rfl,by rw [List.size_toArray,lenV]; exact hl,by simpa using rv⟩) (fun b u z=>by have z':(none:Option HO)=some u:=z; cases z') (fun b z=>absurd rfl z) fun z=>absurd rfl z
  | none=>
    refine core (fun b=>if b=a then some (.frz { cls:=.type "list",data:=.seq vs.toArray } (.lst (ns.map V.int))) else none) (fun b=>?_) (.inl (.inr ⟨{ cls:=.type "list",data:=.seq vs.toArray },if_pos rfl⟩)) (fun b u z=>?_) (fun b z=>?_) fun _=>hk
    . by_cases hb:b=a
      . exact .inr ⟨_,_,if_pos hb⟩
      . exact .inl (if_neg hb)
    . by_cases hb:b=a
      . have z':=(if_pos hb).symm.trans z
        cases z'
        subst hb
        exact ⟨ha,by rw [List.length_map]; exact hl,vs,_,rv,ha⟩
      . have z':=(if_neg hb).symm.trans z
        cases z'
    . by_cases hb:b=a
      . exact hb
      . exact absurd (if_neg hb) z
end L2
namespace L2
open PySem PySem.Spec PyProof.Rows
theorem Mz {l:PySem.W.OpenLaw} {n k:Nat} {q:Program} {loose:List Str} {XP:(Str->Option Value)->Heap->Prop} {YP:World->Heap->Prop} {d:DefRec} {K:Params->PySem.W.Frag} {CX:World->CXT} {sp:World->Sp} {x:Str}
    (hn:l.most=some n) (hn2:n <= sizeLine) (hdf:d.params.defaults=[]) (hr:Room k callerA)
    (hY:∀ (w:World) (h:Heap),YP w h->(K w.params).In h)
    (F:∀ (w:World) (mg:Str->Option Value) (fa:Addr) (h:Heap),(K w.params).In h->h.Ns mainGlobals mg->mg d.name=some (.ref fa)->
      ∃ fd:FuncData,(∀ (s:Shared) (u:Value),BindsTo s fd ⟨[u],[]⟩ [(x,u)]) /\
        ∀ base:Heap,(K w.params).In base->base.Ns mainGlobals mg->FnOk l.prog w (K w.params) mg base (CX w) k fa fd [x] (sp w))
    (hsp:∀ (w:World) (H:Hp) (a:Addr) (ns:List Int),ns.length <= n->OI H->SqL (K w.params) H a (ns.map V.int)->sp w [.ref a] H (fun v _=>v=.bl true) fun _ _ _=>False)
    (hCX:∀ (w:World) (H:Hp) (s:Shared) (e:Value) (s':Shared),CX w [] H s (fun _ _ _=>False) e s'->False) :
    PySem.W.WalkO q loose XP YP l.row.toRowW d [] (fun f vs=>PySem.call f vs):=by
  refine Att.Hz hn hdf fun w s₀ s₁ mg mb fa o pm cd doc a vs ns G Y ho hd hcd hmg hobj hints hlen hg=>?_
  have KX:=hY w _ Y
  obtain ⟨fd,hb,hF⟩:=F w mg fa _ KX G.T.g hmg
  exact L8 KX G.T.g G.T.b G.T.builtins G.T.nolimit hg hobj hints (Nat.le_trans hlen hn2) hr hF hb (fun H hO hS=>hsp w H a ns hlen hO hS) fun H e s'=>hCX w H s₁ e s'
end L2
namespace L2
open PySem PySem.Spec PyProof.Rows
def D6 (s:Stmt):Arguments:=match s with
  | .FunctionDef _ a _ _ _ _ _ _ _ _=>a
  | _=>{ posonlyargs:=[],args:=[],vararg:=none,kwonlyargs:=[],kw_defaults:=[],kwarg:=none,defaults:=[] }
def AX (s:Stmt):List Stmt:=match s with
  | .FunctionDef _ _ b _ _ _ _ _ _ _=>b
  | _=>[]
def AF (s:Stmt):Scope:=match s with
  | .FunctionDef _ _ _ _ _ _ sc _ _ _=>sc
  | _=>{ kind:=.function,names:=[],isGenerator:=false,isCoroutine:=false }
abbrev CX0:CXT:=fun _ _ _ _ _ _=>False
abbrev E0:XK:=fun _ _ _=>False
theorem Qk {X:Cx}:Ir CX0 X E0:=fun _ _ _ _ _ _ _ h=>h.elim
structure Fun (K:PySem.W.Frag) (x qual:Str) (st:Stmt) (f:Addr) (fd:FuncData):Prop where
  ex:∃ (oc:Value) (od:Option Addr) (kV doc pm:Value) (an:Option Addr) (cdv ct:Value) (osl:Array (Option Value)),
    fd=PySem.W.fnOf x qual (D6 st) (AX st) (AF st) .none kV doc pm an cdv ct /\ K.lookup f=some ⟨oc,od,.func fd,osl⟩ /\ PySem.W.codeIn K cdv qual=true
  kp:PySem.W.keepIn K (.ref f)=true
section
variable {P:Program} {w:World} {K:PySem.W.Frag} {mg:Str->Option Value} {base:Heap}
theorem Fun.ok {x qual:Str} {st:Stmt} {f:Addr} {fd:FuncData} {N ps:List Str} {k:Nat} {sp:Sp} (F:Fun K x qual st f fd) (S:Ad N ps (AF st)) (len:∀ vs H Q E,sp vs H Q E->vs.length=ps.length)
    (hbody:∀ (cdv:Value) (A:Around) (outer:List Env) (s:Shared) (H:Hp) (vs:List V) (Q:VK) (E:XK),Room k (A.deeper (envOfC qual (AF st) s.heap.objs.size f cdv))->sp vs H Q E->
      ∃ t,PSs (Bl CX0 P w K mg base N qual (AF st) f cdv A outer s H E).nox (AX st) t /\ t { nx:=fun _ H'=>Q .non H',rt:=Q } (start N vs) H):FnOk P w K mg base CX0 (k + 1) f fd ps sp:=by
  obtain ⟨oc,od,kV,doc,pm,an,cdv,ct,osl,rfl,lk,hcd⟩:=F.ex
  refine Qz lk hcd S len fun A outer s H vs Q E hr hsp=>?_
  obtain ⟨t,h,q⟩:=hbody cdv A outer s H vs Q E hr hsp
  exact ⟨t,h.nox,q⟩
theorem Fun.binds {x qual:Str} {st:Stmt} {f:Addr} {fd:FuncData} {ps:List Str} (F:Fun K x qual st f fd)
    (h:∀ (kV doc pm:Value) (an:Option Addr) (cdv ct:Value) (us:List Value),us.length=ps.length->bindArgs (PySem.W.fnOf x qual (D6 st) (AX st) (AF st) .none kV doc pm an cdv ct) ⟨us,[]⟩=pure (ps.zip us)):Binds K fd ps []:=by
  obtain ⟨oc,od,kV,doc,pm,an,cdv,ct,osl,rfl,lk,hcd⟩:=F.ex
  exact .all (h kV doc pm an cdv ct)
theorem Pp {x qual:Str} {st:Stmt} {f:Addr} {oc:Value} {od an:Option Addr} {osl:Array (Option Value)} {kV doc pm cdv ct:Value} (l:K.lookup f=some ⟨oc,od,.func (PySem.W.fnOf x qual (D6 st) (AX st) (AF st) .none kV doc pm an cdv ct),osl⟩)
    (c:PySem.W.codeIn K cdv qual=true) (k:PySem.W.keepIn K (.ref f)=true):Fun K x qual st f (PySem.W.fnOf x qual (D6 st) (AX st) (AF st) .none kV doc pm an cdv ct):=⟨⟨oc,od,kV,doc,pm,an,cdv,ct,osl,rfl,l,c⟩,k⟩
end
theorem OZ {A:Around} {k:Nat} (hr:Room k A):A.units + 1 < cLine:=Nat.lt_of_le_of_lt (Nat.add_le_add_left (by decide:1 <= 64) _) hr.units
section
variable {X:Cx}
end
section
variable {κ:Type} [DecidableEq κ]
end
end L2
namespace L2
open PySem PySem.Spec PyProof.Rows
def CU (env:Env):List (Str × NameKind)->List (Str × Addr)->List (Str × Addr)
  | [],cs=>cs
  | (n,k) :: r,cs=>CU env r (if k == .free then (match env.cells.lookup n with | some c=>(n,c) :: cs | none=>cs) else cs)
theorem B4 {env:Env}:∀ (l:List (Str × NameKind)) (cs:List (Str × Addr)),(∀ x ∈ l,x.2=.free->∃ c,env.cells.lookup x.1=some c)->
    (forIn l cs fun (x:Str × NameKind) (r:List (Str × Addr))=>(if (x.2 == NameKind.free)=true then (do let a ← cellOf env x.1; pure (ForInStep.yield ((x.1,a) :: r))) else pure (ForInStep.yield r):Sem (ForInStep (List (Str × Addr)))))=pure (CU env l cs)
  | [],cs,_=>by rw [List.forIn_nil]; rfl
  | (n,k) :: r,cs,h=>by
    have hr:∀ x ∈ r,x.2=.free->∃ c,env.cells.lookup x.1=some c:=fun x hx=>h x (List.mem_cons_of_mem _ hx)
    rw [List.forIn_cons]
    by_cases hk:k=.free
    . subst hk
      obtain ⟨c,hc⟩:=h (n,.free) List.mem_cons_self rfl
      have e:cellOf env n=pure c:=by unfold cellOf; rw [hc]
      dsimp only
      rw [if_pos (by decide),e,pure_bind,pure_bind]
      dsimp only
      rw [B4 r _ hr]
      show _=pure (CU env r (if (NameKind.free == NameKind.free)=true then (match env.cells.lookup n with | some c=>(n,c) :: cs | none=>cs) else cs))
      rw [if_pos (by decide),hc]
    . have hb : ¬ (k == NameKind.free)=true:=by simpa using hk
      dsimp only
      rw [if_neg hb,pure_bind]
      dsimp only
      rw [B4 r _ hr]
      show _=pure (CU env r (if (k == NameKind.free)=true then (match env.cells.lookup n with | some c=>(n,c) :: cs | none=>cs) else cs))
      rw [if_neg hb]
theorem Bs {scope:Scope} {env:Env} (h:∀ x ∈ scope.names,x.2=.free->∃ c,env.cells.lookup x.1=some c):closureFor scope env=pure (CU env scope.names []):=by
  have e:=B4 (env:=env) scope.names [] h
  unfold closureFor
  dsimp only
  rw [← bind_pure (pure (CU env scope.names [])),← e]
theorem Cf {env:Env}:∀ (l:List (Str × NameKind)) (cs:List (Str × Addr)),(∀ x c,cs.lookup x=some c->env.cells.lookup x=some c)->∀ x c,(CU env l cs).lookup x=some c->env.cells.lookup x=some c
  | [],cs,h=>h
  | (n,k) :: r,cs,h=>by
    refine Cf r _ ?_
    intro x c
    by_cases hk:(k == NameKind.free)=true
    . rw [if_pos hk]
      cases hl:env.cells.lookup n with
      | none=>exact h x c
      | some d=>
        intro q
        by_cases hx:x=n
        . subst hx
          rw [List.lookup_cons_self] at q
          rw [hl]; exact q
        . have hb:(x == n)=false:=beq_eq_false_iff_ne.mpr hx
          simp only [List.lookup_cons,hb] at q
          exact h x c q
    . rw [if_neg hk]; exact h x c
theorem Fd {env:Env}:∀ (l:List (Str × NameKind)) (cs:List (Str × Addr)) (x:Str),(cs.lookup x).isSome=true->((CU env l cs).lookup x).isSome=true
  | [],cs,x,h=>h
  | (n,k) :: r,cs,x,h=>by
    refine Fd r _ x ?_
    by_cases hk:(k == NameKind.free)=true
    . rw [if_pos hk]
      cases hl:env.cells.lookup n with
      | none=>exact h
      | some d=>
        by_cases hx:(x == n)=true
        . simp only [List.lookup_cons,hx,Option.isSome_some]
        . have hb:(x == n)=false:=by simpa using hx
          simp only [List.lookup_cons,hb]; exact h
    . rw [if_neg hk]; exact h
theorem Ho {env:Env}:∀ (l:List (Str × NameKind)) (cs:List (Str × Addr)) (x:Str) (c:Addr),(x,NameKind.free) ∈ l->env.cells.lookup x=some c->((CU env l cs).lookup x).isSome=true
  | [],cs,x,c,h,_=>by simp at h
  | (n,k) :: r,cs,x,c,h,hc=>by
    rcases List.mem_cons.mp h with e | e
    . obtain ⟨rfl,rfl⟩:=Prod.mk.inj e
      refine Fd r _ _ ?_
      rw [if_pos (by decide),hc]
      simp only [List.lookup_cons_self,Option.isSome_some]
    . exact Ho r _ x c e hc
theorem GL {env:Env} {l:List (Str × NameKind)} {x:Str} {c:Addr} (h:(x,NameKind.free) ∈ l) (hc:env.cells.lookup x=some c):(CU env l []).lookup x=some c:=by
  obtain ⟨d,hd⟩:=Option.isSome_iff_exists.mp (Ho l [] x c h hc)
  have:=Cf l [] (fun _ _ z=>by simp at z) x d hd
  rw [hc] at this; cases this
  exact hd
def Bd:List (Str × NameKind)->List Str
  | []=>[]
  | (n,.free) :: r=>n :: Bd r
  | _ :: r=>Bd r
theorem Dh {x:Str}:∀ {l:List (Str × NameKind)},x ∈ Bd l->(x,NameKind.free) ∈ l
  | [],h=>by simp [Bd] at h
  | (n,k) :: r,h=>by
    cases k <;> first
      | (rcases List.mem_cons.mp (show x ∈ n :: Bd r from h) with e | e
         . subst e; exact List.mem_cons_self
         . exact List.mem_cons_of_mem _ (Dh e))
      | exact List.mem_cons_of_mem _ (Dh (show x ∈ Bd r from h))
theorem GD {x:Str}:∀ {l:List (Str × NameKind)},(x,NameKind.free) ∈ l->x ∈ Bd l
  | [],h=>by simp at h
  | (n,k) :: r,h=>by
    rcases List.mem_cons.mp h with e | e
    . cases e; exact List.mem_cons_self
    . have ih:=GD e
      cases k <;> first
        | exact List.mem_cons_of_mem _ ih
        | exact ih
theorem C3 {x:Str} (f:Str × NameKind->Str × NameKind) (hf:∀ p,f p=p ∨ p.2=.free /\ f p=(p.1,.cell)):∀ (l:List (Str × NameKind)) (k:NameKind),(l.map f).lookup x=some k->l.lookup x=some k ∨ l.lookup x=some .free /\ k=.cell
  | [],_,h=>nomatch h
  | (y,j) :: l,k,h=>by
    have rest:=C3 (x:=x) f hf l k
    rw [List.map_cons] at h
    rcases hf (y,j) with e | ⟨ej,e⟩ <;> rw [e] at h <;> cases he:x == y <;> simp only [List.lookup_cons,he] at h ⊢
    . exact rest h
    . exact .inl h
    . exact rest h
    . cases h
      cases (show j=NameKind.free from ej)
      exact .inr ⟨rfl,rfl⟩
theorem CH {scope:Scope} {env:Env} {x:Str} {k:NameKind} (h:(relabel scope env).names.lookup x=some k):scope.names.lookup x=some k ∨ scope.names.lookup x=some .free /\ k=.cell:=by
  unfold relabel at h
  refine C3 _ (fun p=>?_) _ _ h
  obtain ⟨n,j⟩:=p
  dsimp only
  split
  . rename_i hc
    refine .inr ⟨?_,rfl⟩
    simp only [Bool.and_eq_true,beq_iff_eq] at hc
    exact hc.1.1
  . exact .inl rfl
def F7 (ix:List Nat) (σ:St):St:=ix.map fun j=>(σ[j]?).getD none
def cxB (X:Cx) (scope:Scope) (tgs:List Str) (fp:List Addr) (C:Addr) (s:Shared) (H:Hp):Cx:=
  { X with N:=tgs ++ Bd scope.names,s₀:=s,H₀:=H,env:=compEnvC scope (CU X.env scope.names []) C X.env,outer:=X.stack,ex:=fp,fn:=fun _=>false,pn:=[],xe:=fun _ _=>False }
def P3 {α:Type} (P:α->Prop):List α->Prop
  | []=>True
  | x :: r=>P x /\ P3 P r
theorem Fj {α:Type} {P:α->Prop}:∀ {l:List α},P3 P l->∀ x ∈ l,P x
  | [],_,_,h=>by simp at h
  | _ :: _,h,x,hx=>by
    rcases List.mem_cons.mp hx with e | e
    . subst e; exact h.1
    . exact Fj h.2 x e
structure BScope (X:Cx) (scope:Scope) (tgs:List Str) (ix:List Nat):Prop where
  kind:scope.kind=.function
  nocell:∀ y ∈ scope.names,y.2 ≠ .cell
  loc:∀ y ∈ scope.names,y.2=.local->scope.names.lookup y.1=some .local
  fre:P3 (fun x=>X.env.kindOf x=some .cell ∨ X.env.kindOf x=some .free) (Bd scope.names)
  ixs:(Bd scope.names).map some=ix.map fun j=>X.N[j]?
  ndl:∀ x ∈ Bd scope.names,scope.names.lookup x=some .free
section
variable {X:Cx} {scope:Scope} {tgs:List Str} {ix:List Nat}
theorem BScope.cells (S:BScope X scope tgs ix) (ok:X.Ok):∀ x ∈ scope.names,x.2=.free->∃ c,X.env.cells.lookup x.1=some c:=fun x hx hk=>by
  obtain ⟨n,k⟩:=x
  subst hk
  exact ok.has n (Fj S.fre n (GD hx))
theorem Inv.cellLt {pins:List (Addr × Obj)} {σ:St} {H:Hp} {s:Shared} (I:Inv X pins σ H s) {x:Str} {c:Addr} (e:X.env.cells.lookup x=some c):c < s.heap.objs.size:=by
  obtain ⟨v,q⟩:=I.cell x c e
  exact q.lt
theorem Inv.track {pins:List (Addr × Obj)} {σ:St} {H:Hp} {s:Shared} {D:Addr} {o:HO} (I:Inv X pins σ H s) (f:DB X pins H D) (new:ObjOk X.prog X.w (upd H D o) s.heap D o):Inv X pins σ (upd H D o) s:=by
  obtain ⟨f0,f1,f2,f3,f4,f5⟩:=f
  have nD:∀ b u,H b=some u->b ≠ D:=fun b u e z=>by rw [z,f0] at e; cases e
  have:=I.step (h':=s.heap) (H':=upd H D o) (g':=s.gens) (t':=s.toks) (d':=s.drawn) (ch:=[D]) (fun b hb=>?_) (fun b u _ _ _ e _=>e) (fun b u _ _ _ e _=>⟨u.slots,e⟩) (fun b u hb e n=>?_) (fun b u _ e=>⟨u,e⟩)
    (fun b xs e=>?_) (fun b u v e=>?_) (fun b ps e=>?_) (fun m hm=>hm) (fun b u e=>?_) I.bare
  . exact this
  . have e:b=D:=by simpa using hb
    subst e
    exact ⟨f3,f1,f4,f5⟩
  . rw [Ag (fun z=>hb (by simp [z]))]; exact n
  . rw [Ag (nD b _ e)]; exact e
  . rw [Ag (nD b _ e)]; exact e
  . exact ⟨#[],by rw [Ag (nD b _ e),e]; simp⟩
  . by_cases hb:b=D
    . subst hb; rw [A5] at e; cases e; exact new
    . rw [Ag hb] at e
      exact (I.hok b u e).stay (fun _ _ _ q=>q) (fun c q=>by rw [Ag (nD c _ q)]; exact q) fun c xs q=>by rw [Ag (nD c _ q)]; exact q
theorem Ik {pins:List (Addr × Obj)} {σ:St} {H:Hp} {s:Shared} {fp:List Addr} {C:Addr} (S:BScope X scope tgs ix) (I:Inv X pins σ H s) (hf:∀ b ∈ fp,DB X pins H b) (hfo:∀ b ∈ fp,b < s.heap.objs.size) (hC:s.heap.objs.size <= C) :
    (cxB X scope tgs fp C s H).Ok:=by
  have sub:∀ x c,(CU X.env scope.names []).lookup x=some c->X.env.cells.lookup x=some c:=Cf scope.names [] (fun _ _ z=>by simp at z)
  refine ⟨I.ok.mod,S.kind,I.ok.glob,I.ok.blt,hC,fun x y c h1 h2=>I.ok.inj x y c (sub x c h1) (sub y c h2),fun x hx=>?_,fun x c h=>absurd h (by simp [cxB]),I.ok.hd,I.ok.frames,.inl rfl,fun b hb=>⟨?_,fun x c e=>?_⟩,fun b o e=>I.bs b o e,
    Nat.le_trans I.ok.bsz I.sz,fun b o e hb=>?_,fun b hb hz=>?_,I.stack,I.stkFree⟩
  . have hx':(relabel scope X.env).names.lookup x=some .cell ∨ (relabel scope X.env).names.lookup x=some .free:=hx
    have hm:(x,NameKind.free) ∈ scope.names:=by
      rcases hx' with h | h
      . rcases CH h with q | q
        . exact absurd rfl (S.nocell _ (PySem.mem_of_lookup q))
        . exact PySem.mem_of_lookup q.1
      . rcases CH h with q | q
        . exact PySem.mem_of_lookup q
        . exact absurd q.2 (by decide)
    obtain ⟨c,hc⟩:=S.cells I.ok _ hm rfl
    exact ⟨c,GL hm hc⟩
  . exact fun z=>absurd (hfo b hb) (by rw [z]; exact Nat.not_lt.mpr hC)
  . exact (hf b hb).2.2.2.2.1 x c (sub x c e)
  . obtain ⟨f0,f1,f2,f3,f4,f5⟩:=hf b hb
    rcases f3 with z | z
    . exact I.ok.noex b o e z
    . exact absurd (Heap.lt_size (I.ok.bs b o e).1) (Nat.not_lt.mpr z)
  . obtain ⟨f0,f1,f2,f3,f4,f5⟩:=hf b hb
    rcases List.mem_cons.mp (I.stkSub b hz) with z | z
    . exact f1 z
    . exact f2 z
end
end L2
namespace L2
open PySem PySem.Spec PyProof.Rows
section
variable {X:Cx} {scope:Scope} {tgs:List Str} {ix:List Nat}
abbrev BZ (tgs:List Str) (ix:List Nat) (σ:St):St:=List.replicate tgs.length none ++ F7 ix σ
theorem Ew {σ:St} {k:Nat} {v:V} (h:(BZ tgs ix σ)[k]? = some (some v)):tgs.length <= k /\ ∃ j,ix[k - tgs.length]? = some j /\ σ[j]? = some (some v):=by
  have hk:tgs.length <= k:=by
    rcases Nat.lt_or_ge k tgs.length with z | z
    . rw [List.getElem?_append_left (by simpa using z),List.getElem?_replicate,if_pos z] at h
      cases h
    . exact z
  refine ⟨hk,?_⟩
  rw [List.getElem?_append_right (by simpa using hk),List.length_replicate] at h
  unfold F7 at h
  rw [List.getElem?_map] at h
  cases e:ix[k - tgs.length]? with
  | none=>rw [e] at h; cases h
  | some j=>
    rw [e] at h
    refine ⟨j,rfl,?_⟩
    have h':(σ[j]?).getD none=some v:=Option.some.inj h
    cases q:σ[j]? with
    | none=>rw [q] at h'; cases h'
    | some o=>
      rw [q] at h'
      have h'':o=some v:=h'
      rw [h'']
theorem FQ {pins:List (Addr × Obj)} {σ:St} {H:Hp} {s s4:Shared} {fp:List Addr} {C D:Addr} {o:Obj} (S:BScope X scope tgs ix) (I:Inv X pins σ H s) (hf:∀ b ∈ fp,DB X pins H b) (hfo:∀ b ∈ fp,b < s.heap.objs.size)
    (hC:s.heap.objs.size <= C) (hD:s.heap.objs.size <= D) (hDC:D ≠ C) {m:Str->Option Value} (hn:s4.heap.Ns C m) (hk:∀ b u,s.heap.get? b=some u->s4.heap.get? b=some u) (hos:s4.os=s.os) (hg:s4.gens=s.gens)
    (hDo:s4.heap.get? D=some o) (hcell:∀ v,o.data ≠ .cell v):Inv (cxB X scope tgs fp C s H) [(D,o)] (BZ tgs ix σ) H s4:=by
  have ok:=Ik (tgs:=tgs) (ix:=ix) (C:=C) S I hf hfo hC
  have sub:∀ x c,(CU X.env scope.names []).lookup x=some c->X.env.cells.lookup x=some c:=Cf scope.names [] (fun _ _ z=>by simp at z)
  refine ⟨ok,hos,by rw [hg]; exact I.bare,Un.kept hk,⟨m,hn,fun k x v h1 h2 h3=>?_⟩,fun x c e=>?_,I.hok.fresh hC,fun x c e=>I.freeC x c (sub x c e),fun p hp=>?_,I.hok.kept hk,?_⟩
  . obtain ⟨hkl,j,hj,hσ⟩:=Ew h2
    have h1':(Bd scope.names)[k - tgs.length]? = some x:=by
      have:(tgs ++ Bd scope.names)[k]? = some x:=h1
      rwa [List.getElem?_append_right hkl] at this
    have hx:x ∈ Bd scope.names:=List.mem_of_getElem? h1'
    have hXN:X.N[j]? = some x:=by
      have e:=congrArg (fun l=>l[k - tgs.length]?) S.ixs
      simp only [List.getElem?_map,h1',hj,Option.map_some] at e
      exact (Option.some.inj e).symm
    have kx:=Fj S.fre x hx
    obtain ⟨m0,hn0,hl⟩:=I.loc
    obtain ⟨u,r,l⟩:=hl j x v hXN hσ (by rcases kx with z | z; exact .inr (.inl z); exact .inr (.inr z))
    refine ⟨u,r,?_⟩
    rcases l with ⟨z,_⟩ | ⟨_,c,hc,q⟩
    . rcases kx with y | y <;> rw [z] at y <;> cases y
    . refine .inr ⟨?_,c,GL (Dh hx) hc,?_⟩
      . have h3':(relabel scope X.env).names.lookup x=some .local ∨ (relabel scope X.env).names.lookup x=some .cell ∨ (relabel scope X.env).names.lookup x=some .free:=h3
        rcases h3' with z | z | z
        . exfalso
          rcases CH z with w | w
          . have lk:scope.names.lookup x=some .local:=w
            have:=S.ndl x hx
            rw [lk] at this; cases this
          . exact absurd w.2 (by decide)
        . exact .inl z
        . exact .inr z
      . obtain ⟨oc,hoc,hd⟩:=q
        exact ⟨oc,hk c oc hoc,hd⟩
  . obtain ⟨v,oc,hoc,hd⟩:=I.cell x c (sub x c e)
    exact ⟨v,oc,hk c oc hoc,hd⟩
  . have e:p=(D,o):=by simpa [cxB] using hp
    subst e
    refine ⟨hDo,I.hok.fresh hD,hDC,fun hz=>?_,hcell⟩
    have hz':D ∈ frs X.stack:=hz
    rcases List.mem_cons.mp (I.stkSub D hz') with z | z
    . exact absurd I.lt (by rw [← z]; exact Nat.not_lt.mpr hD)
    . exact I.nofs hD z
  . show (List.replicate tgs.length none ++ F7 ix σ).length=(tgs ++ Bd scope.names).length
    have e:=congrArg List.length S.ixs
    simp only [List.length_map] at e
    rw [List.length_append,List.length_append,List.length_replicate,e]
    unfold F7
    rw [List.length_map]
def Iu (X:Cx) (ifs:List Expr) (tc:TT):Prop:=
  ∀ (pins:List (Addr × Obj)) (s:Shared) (σ:St) (H:Hp) (Q:Bool->Hp->Prop),Inv X pins σ H s->tc σ H Q->
    wpAny (model X.prog X.w) X.A (forIn ifs true fun c r=>if r=true then do let ok ← isTrue c X.env (eval c X.env); pure (ForInStep.yield ok) else pure (ForInStep.yield r)) (TP X pins σ Q) X.xe s
def QF:TT:=fun _ H Q=>Q true H
theorem Lf:Iu X [] QF:=fun pins s σ H Q I h=>wpAny_tests_nil ⟨H,I,h⟩
def GK (n:Nat) (g:TG):Prop:=∀ x σ H Q,g x σ H Q->g x σ H fun σ2 H2=>Q σ2 H2 /\ σ2.length=σ.length /\ σ2.drop n=σ.drop n
theorem Jp {n i:Nat} (h:i < n):GK n (DY i):=fun x σ H Q q=>⟨q,by simp,by rw [List.drop_set_of_lt h]⟩
def Q7 (tgs:List Str) (ix:List Nat) (g:TG) (tc:TT) (te:TE) (σ:St) (Q:VK) (J:It) (H1:Hp):Prop:=∃ W:Nat->Nat->List V->Hp->Prop,(∃ m,W 0 m [] H1) /\ ∀ i m ys H,W i m ys H->
  (J.stop i H /\ ys.length <= sizeLine /\ ∀ p,H p=none->Q (.ref p) (upd H p (.lst ys))) ∨
  (J.go i H /\ ys.length < sizeLine /\ ∃ N:List V->Hp->Prop,(∀ ys' H',N ys' H'->∃ m',m' < m /\ W (i + 1) m' ys' H') /\ ∀ x H',J.yld i H x H'->g x (BZ tgs ix σ) H' fun σ2 H2=>tc σ2 H2 fun b H3=>
    if b=true then te σ2 H3 fun v H4=>N (ys ++ [v]) H4 else N ys H3)
def F0 (tgs:List Str) (ix:List Nat) (wi:TI) (g:TG) (tc:TT) (te:TE):TE:=fun σ H Q=>wi σ H fun J H1=>Q7 tgs ix g tc te σ Q J H1
theorem EV {α:Type} {t:Sem α} {Q Q':α->Shared->Prop} {M:Model} {A:Around} {E:Value->Shared->Prop} {s:Shared} (h:wpAny M A t Q (fun _ _=>False) s) (hQ:∀ a s,Q a s->Q' a s):wpAny M A t Q' E s:=wpAny_mono h hQ fun _ _ x=>x.elim
theorem KR {α:Type} {u:Sem Unit} {t:Sem α} {P:Unit->Shared->Prop} {Q:α->Shared->Prop} {M:Model} {A:Around} {E:Value->Shared->Prop} {s:Shared} (hu:u=pure ()) (h:wpAny M A u P E s) (k:∀ s',P () s'->wpAny M A t Q E s'):wpAny M A t Q E s:=by
  subst hu
  have z:wpAny M A ((pure ():Sem Unit) >>= fun _=>t) Q E s:=wpAny_bind (wpAny_mono h (fun _ s' p=>k s' p) fun _ _ x=>x)
  exact z
end
end L2
namespace L2
open PySem PySem.Spec PyProof.Rows
section
variable {X:Cx} {scope:Scope} {tgs:List Str} {ix:List Nat}
abbrev Cv (its:List Value) (k:Nat):Obj:={ cls:=.type "list",data:=.seq its.toArray k }
theorem Iy {fp:List Addr} {C:Addr} {s0:Shared} {H0:Hp} {pins:List (Addr × Obj)} {σ σ6:St} {H:Hp} {s:Shared} (I:Inv (cxB X scope tgs fp C s0 H0) pins σ6 H s) (l6:σ6.length=(BZ tgs ix σ).length)
    (d6:σ6.drop tgs.length=(BZ tgs ix σ).drop tgs.length):Inv (cxB X scope tgs fp C s0 H0) pins (BZ tgs ix σ) H s:=by
  refine I.weak l6.symm fun k v e=>?_
  obtain ⟨hk,_⟩:=Ew e
  have e1:σ6[k]? = (σ6.drop tgs.length)[k - tgs.length]?:=by rw [List.getElem?_drop]; congr 1; omega
  have e2:(BZ tgs ix σ)[k]? = ((BZ tgs ix σ).drop tgs.length)[k - tgs.length]?:=by rw [List.getElem?_drop]; congr 1; omega
  rw [e1,d6,← e2]
  exact e
theorem Fc {elt tg iter:Expr} {ifs:List Expr} {pos:Pos} {g:TG} {tc:TT} {te:TE} {pins:List (Addr × Obj)} {σ:St} {H2:Hp} {s2:Shared} {it:Addr} {fp:List Addr} {tn:Nat->Heap->Prop} {J:It} {Q:VK}
    (S:BScope X scope tgs ix) (ht:∀ o v,letOwnedTupleGo tg o v=pure ()) (hc:X.calm=true) (hg:∀ fp C s H,PG (cxB X scope tgs fp C s H) tg g) (hgk:GK tgs.length g) (hi:∀ fp C s H,Iu (cxB X scope tgs fp C s H) ifs tc) (he:∀ fp C s H,PE (cxB X scope tgs fp C s H) elt te)
    (I2:Inv X pins σ H2 s2) (T:IA X.prog X.w X.K tg J fp it tn) (t0:tn 0 s2.heap) (hf:∀ b ∈ fp,DB X pins H2 b)
    (W:Nat->Nat->List V->Hp->Prop) (w0:∃ m,W 0 m [] H2)
    (turn:∀ i m ys H,W i m ys H->(J.stop i H /\ ys.length <= sizeLine /\ ∀ p,H p=none->Q (.ref p) (upd H p (.lst ys))) ∨
      (J.go i H /\ ys.length < sizeLine /\ ∃ N:List V->Hp->Prop,(∀ ys' H',N ys' H'->∃ m',m' < m /\ W (i + 1) m' ys' H') /\ ∀ x H',J.yld i H x H'->g x (BZ tgs ix σ) H' fun σ2 H2=>tc σ2 H2 fun b H3=>
        if b=true then te σ2 H3 fun v H4=>N (ys ++ [v]) H4 else N ys H3))
    {RR:Value->Addr->Result->Shared->Prop}
    (fin:∀ (D C:Addr) (s':Shared) (H':Hp) (m:Str->Option Value),Inv X pins σ H' s'->Q (.ref D) H'->s'.heap.Ns C m->DB X pins H' C->RR (.ref D) C (.ok .next) s') :
    wpAny (model X.prog X.w) X.A (newList []) (fun acc s₃=>wpAny (model X.prog X.w) X.A (newFunctionEnv scope X.env.globals (CU X.env scope.names []) [] X.env.qual none .none (some X.env)) (fun cenv s₄=>
      codeAny (model X.prog X.w) X.A (.compStart (.ListComp elt [⟨tg,iter,ifs,0⟩] scope pos) 0 (.ref it) acc { cenv with scope:=relabel scope X.env }) (RR acc cenv.locals) s₄) X.xe s₃) X.xe s2:=by
  refine wpAny_newObj_type (wpAny_newFunctionEnv S.nocell (by intro y hy; simp at hy) (fun h₁ hns₁ hsb₁=>?_) S.kind)
  dsimp only at hns₁ hsb₁ ⊢
  generalize hH2:s2.heap.push { cls:=.type "list",dict:=none,data:=.seq ([]:List Value).toArray }=G2 at hns₁ hsb₁ ⊢
  have hC:G2.objs.size=s2.heap.objs.size + 1:=by rw [← hH2,Heap.size_push]
  have hCle:s2.heap.objs.size <= G2.objs.size:=by rw [hC]; exact Nat.le_succ _
  have hDC:s2.heap.objs.size ≠ G2.objs.size:=by rw [hC]; exact Nat.ne_of_lt (Nat.lt_succ_self _)
  have below:∀ b,b < s2.heap.objs.size->b ≠ G2.objs.size /\ b ≠ s2.heap.objs.size:=fun b hb=>⟨by rw [hC]; exact Nat.ne_of_lt (Nat.lt_succ_of_lt hb),Nat.ne_of_lt hb⟩
  have old:∀ b o,s2.heap.get? b=some o->h₁.get? b=some o:=fun b o e=>hsb₁.extBut b o (below b (Heap.lt_size e)).1 (Heap.get?_push_of_some _ (hH2 ▸ Heap.get?_push_of_some _ e))
  have hacc:h₁.get? s2.heap.objs.size=some (Cv [] 0):=hsb₁.extBut _ _ hDC (Heap.get?_push_of_some _ (hH2 ▸ Heap.get?_push_size _ rfl))
  have hfo:∀ b ∈ fp,b < s2.heap.objs.size:=fun b hb=>let ⟨o,e,_⟩:=T.obj 0 _ t0 b hb; Heap.lt_size e
  have ok:=Ik (tgs:=tgs) (ix:=ix) (C:=G2.objs.size) S I2 hf hfo hCle
  have sub:∀ x c,(CU X.env scope.names []).lookup x=some c->X.env.cells.lookup x=some c:=Cf scope.names [] (fun _ _ z=>by simp at z)
  have nDfs:s2.heap.objs.size ∉ frs X.stack:=fun hz=>by
    rcases List.mem_cons.mp (I2.stkSub _ hz) with z | z
    . exact absurd I2.lt (by rw [← z]; exact Nat.lt_irrefl _)
    . exact I2.nofs (Nat.le_refl _) z
  have nDcell:∀ x c,(CU X.env scope.names []).lookup x=some c->c ≠ s2.heap.objs.size:=fun x c e=>Nat.ne_of_lt (I2.cellLt (sub x c e))
  have ncell:∀ (its:List Value) (k:Nat) (v:Option Value),(Cv its k).data ≠ .cell v:=fun its k v z=>by cases z
  have stat:∀ {Hx:Hp} {o:Obj},(∀ b ∈ fp,Hx b=none)->∀ b ∈ fp,DB (cxB X scope tgs fp G2.objs.size s2 H2) [(s2.heap.objs.size,o)] Hx b:=fun {Hx o} hn b hb=>
    ⟨hn b hb,(ok.exf b hb).1,ok.exfs b hb,.inl hb,(ok.exf b hb).2,fun p hp z=>by
      have e:p=(s2.heap.objs.size,o):=by simpa [cxB] using hp
      subst e
      exact absurd (hfo b hb) (by rw [← z]; exact Nat.lt_irrefl _)⟩
  have loop:∀ s₃:Shared,s₃={ s2 with heap:=h₁,toks:=s2.toks + ([]:List (Str × Value)).length }->
      codeAny (model X.prog X.w) X.A (.compLoop (.ListComp elt [⟨tg,iter,ifs,0⟩] scope pos) 0 (.ref it) (.ref s2.heap.objs.size) (compEnvC scope (CU X.env scope.names []) G2.objs.size X.env)) (RR (.ref s2.heap.objs.size) G2.objs.size) s₃:=by
    rintro s₃ rfl
    obtain ⟨m0,w0⟩:=w0
    refine codeAny_compLoop_tests (fun n s=>∃ i ys its k H,Inv (cxB X scope tgs fp G2.objs.size s2 H2) [(s2.heap.objs.size,Cv its k)] (BZ tgs ix σ) H s /\ tn i s.heap /\ (∀ b ∈ fp,H b=none) /\ Vals ys its /\ W i n ys H) ?_ m0
      ⟨0,[],[],0,H2,FQ S I2 hf hfo hCle (Nat.le_refl _) hDC hns₁ old rfl rfl hacc (ncell _ _),T.keep 0 _ _ t0 fun b _ o e=>old b o e,fun b hb=>(hf b hb).1,.nil,w0⟩ (ht _)
    rintro n s ⟨i,ys,its,k,H,I,st,fr,rv,w⟩
    rcases turn i n ys H w with ⟨stop,hz,q⟩ | ⟨go,hz8,N,hN,step⟩
    . refine thn (T.done (cxB X scope tgs fp G2.objs.size s2 H2) rfl rfl rfl hc i _ s _ H _ I (stat fr) st stop) fun r s1 ⟨hr,I1⟩=>?_
      subst hr
      obtain ⟨pe,pn,_⟩:=I1.pin (s2.heap.objs.size,Cv its k) (List.mem_append_right _ (by simp))
      have J0:Inv X pins σ H s1:=I2.call' I1.os I1.base I1.hok I1.bare fun b hb=>⟨(hf b hb).2.2.2.1,(hf b hb).2.1,(hf b hb).2.2.2.2.1,(hf b hb).2.2.2.2.2⟩
      have J1:Inv X pins σ (upd H s2.heap.objs.size (.lst ys)) s1:=J0.track (I2.fpOk (Nat.le_refl _) pn) ⟨hz,its,k,rv,pe⟩
      obtain ⟨m,hn,_⟩:=I1.loc
      exact fin _ _ s1 _ m J1 (q _ pn) hn (I2.fpOk hCle (by rw [Ag (Ne.symm hDC)]; exact I1.free))
    . refine thn (T.item (cxB X scope tgs fp G2.objs.size s2 H2) rfl rfl rfl hc i _ s _ H _ I (stat fr) st go) fun r s1 ⟨u,hr,h1⟩=>?_
      subst hr
      refine KR (ht _ _) h1 fun s5 ⟨x,H5,I5,r5,y5,st5,fr5⟩=>?_
      have I5':=I5.pinned (stat fr5) (T.obj _ _ st5)
      refine EV (hg fp G2.objs.size s2 H2 _ s5 _ H5 x u _ I5' r5 (hgk _ _ _ _ (step x H5 y5))) fun _ s6 ⟨σ6,H6,I6,q6,l6,d6⟩=>?_
      refine EV (hi fp G2.objs.size s2 H2 _ s6 σ6 H6 _ I6 q6) fun okb s7 ⟨H7,I7,q7⟩=>?_
      cases okb with
      | false=>
        rw [if_neg Bool.false_ne_true] at q7 ⊢
        obtain ⟨m',hm,w7⟩:=hN _ _ q7
        refine ⟨m',hm,i + 1,ys,its,k,H7,Iy I7.unpinned l6 d6,T.keep _ _ _ st5 fun b hb o e=>(I7.pin (b,o) (List.mem_append_right _ (List.mem_append_right _ (A1 hb e)))).1,fun b hb=>?_,rv,w7⟩
        obtain ⟨o,e,_⟩:=T.obj _ _ st5 b hb
        exact (I7.pin (b,o) (List.mem_append_right _ (List.mem_append_right _ (A1 hb e)))).2.1
      | true=>
        rw [if_pos rfl] at q7 ⊢
        refine EV (he fp G2.objs.size s2 H2 _ s7 σ6 H7 _ I7 q7) fun xv s8 ⟨v,H8,I8,rv8,q8⟩=>?_
        obtain ⟨m',hm,w8⟩:=hN _ _ q8
        obtain ⟨pe,pn,_⟩:=I8.pin (s2.heap.objs.size,Cv its k) (List.mem_append_right _ (List.mem_append_left _ (by simp)))
        have hlen:=rv.length
        refine call_meets PySem.F.slot_list_append ⟨_,pe,rfl⟩ PySem.F.entry_list_append (PySem.F.args_list_append_2 _ _) (PySem.list_append s2.heap.objs.size its.toArray k xv (by rw [List.size_toArray]; omega)) ⟨pe,?_⟩
        have hp:its.toArray.push xv=(its ++ [xv]).toArray:=by simp
        have q':∃ k',(s8.heap.update s2.heap.objs.size (Obj.mapSeq (fun a=>a.push xv))).get? s2.heap.objs.size=some (Cv (its ++ [xv]) k'):=⟨_,by
          unfold Cv
          rw [← hp]
          exact PySem.IsL.update pe (fun a=>a.push xv)⟩
        obtain ⟨k',q'⟩:=q'
        have I9:Inv (cxB X scope tgs fp G2.objs.size s2 H2) [] σ6 H8 { s8 with heap:=s8.heap.update s2.heap.objs.size (Obj.mapSeq (fun a=>a.push xv)) }:=
          (I8.pins_of (pins':=[]) (fun p hp=>absurd hp (by simp))).turned (t':=s8.toks) (fun b o hb e=>(Heap.get?_update_other s8.heap (Obj.mapSeq (fun a=>a.push xv)) (Ne.symm hb)).trans e) pn hDC (.inr (Nat.le_refl _)) nDcell (fun p hp=>absurd hp (by simp [cxB]))
        have I10:Inv (cxB X scope tgs fp G2.objs.size s2 H2) [(s2.heap.objs.size,Cv (its ++ [xv]) k')] σ6 H8 { s8 with heap:=s8.heap.update s2.heap.objs.size (Obj.mapSeq (fun a=>a.push xv)) }:=
          I9.pins_of fun p hp=>by
            have e:p=(s2.heap.objs.size,Cv (its ++ [xv]) k'):=by simpa using hp
            subst e
            exact ⟨q',pn,hDC,nDfs,ncell _ _⟩
        refine ⟨m',hm,i + 1,ys ++ [v],its ++ [xv],k',H8,Iy I10 l6 d6,T.keep _ _ _ st5 fun b hb o e=>?_,fun b hb=>?_,rv.append (.cons rv8 .nil),w8⟩
        . exact (Heap.get?_update_other s8.heap (Obj.mapSeq (fun a=>a.push xv)) (Ne.symm (below b (hfo b hb)).2)).trans (I8.pin (b,o) (List.mem_append_right _ (List.mem_append_right _ (A1 hb e)))).1
        . obtain ⟨o,e,_⟩:=T.obj _ _ st5 b hb
          exact (I8.pin (b,o) (List.mem_append_right _ (List.mem_append_right _ (A1 hb e)))).2.1
  exact codeAny_compStart_list (loop _ rfl) (T.self _ 0 _ _ _ (T.keep 0 _ _ t0 fun b _ o e=>old b o e) (loop _ rfl))
theorem Nh {elt tg iter:Expr} {ifs:List Expr} {pos:Pos} {wi:TI} {g:TG} {tc:TT} {te:TE} (S:BScope X scope tgs ix) (hc:X.calm=true) (hi:PI X tg iter wi) (hg:∀ fp C s H,PG (cxB X scope tgs fp C s H) tg g) (hgk:GK tgs.length g)
    (hif:∀ fp C s H,Iu (cxB X scope tgs fp C s H) ifs tc) (he:∀ fp C s H,PE (cxB X scope tgs fp C s H) elt te) (hs:∀ x,foldedSetIterable iter X.env x=pure x:=by intro _; rfl) (ht:∀ o v,letOwnedTupleGo tg o v=pure ():=by intro _ _; rfl) :
    PE X (.ListComp elt [⟨tg,iter,ifs,0⟩] scope pos) (F0 tgs ix wi g tc te):=by
  intro pins s σ H Q I h
  rw [eval_ListComp]
  refine wpAny_comprehension_free (use:=none) rfl hs (Bs (S.cells I.ok)) S.kind S.loc ?_
  show wpAny _ _ (eval iter X.env) _ _ s
  refine thn (hi pins s σ H _ I h) fun v s1 h1=>thn h1 fun itv s2 h2=>?_
  obtain ⟨it,fp,tn,J,H2,e,I2,T,t0,f2,W,w0,turn⟩:=h2
  subst e
  refine Fc (RR:=fun acc C=>compPost (model X.prog X.w) X.A X.xe none (EP X pins σ Q) acc C) S ht hc hg hgk hif he I2 T t0 f2 W w0 turn ?_
  intro D C s' H' m J1 q hn fC
  obtain ⟨f0,f1,f2,f3,f4,f5⟩:=fC
  exact ⟨m,hn,fun h' sb=>⟨.ref D,H',J1.turned (t':=s'.toks) (fun b o hb e=>(sb.2 b hb).trans e) f0 f1 f3 f4 f5,rfl,q⟩⟩
theorem IT {i:Nat} {y:Str} {py:Pos} {elt tg iter:Expr} {ifs:List Expr} {pos spos:Pos} {wi:TI} {g:TG} {tc:TT} {te:TE} (hN:X.N.Nodup) (hiN:X.N[i]? = some y) (hy:X.env.scope.names.lookup y=some .local)
    (S:BScope X scope tgs ix) (hc:X.calm=true) (hi:PI X tg iter wi) (hg:∀ fp C s H,PG (cxB X scope tgs fp C s H) tg g) (hgk:GK tgs.length g)
    (hif:∀ fp C s H,Iu (cxB X scope tgs fp C s H) ifs tc) (he:∀ fp C s H,PE (cxB X scope tgs fp C s H) elt te)
    (hsw:swapsWith (.ListComp elt [⟨tg,iter,ifs,0⟩] scope pos) (some (.Name y py)) spos.line X.env=pure true:=by rfl) (hs:∀ x,foldedSetIterable iter X.env x=pure x:=by intro _; rfl) (ht:∀ o v,letOwnedTupleGo tg o v=pure ():=by intro _ _; rfl) :
    PS X (.Assign [.Name y py] (.ListComp elt [⟨tg,iter,ifs,0⟩] scope pos) spos) (M5 (F0 tgs ix wi g tc te) (DY i)):=by
  intro pins s σ H D0 I h
  rw [exec_Assign_Name_used _ _ _ _ hsw]
  refine wpAny_bind (wpAny_standAt (wpAny_bind ?_))
  show wpAny _ X.A (do let _ ← comprehension (.ListComp elt [⟨tg,iter,ifs,0⟩] scope pos) scope X.env _ (newList []) false (eval iter X.env) (some (assign (.Name y py) X.env))) _ _ s
  refine wpAny_bind (wpAny_mono (wpAny_comprehension_free (use:=some (assign (.Name y py) X.env)) (Q:=fun _ s'=>SP X pins D0 .next s') rfl hs (Bs (S.cells I.ok)) S.kind S.loc ?_) (fun _ s' hq=>wpAny_pure (wpAny_pure hq)) fun _ _ e=>e)
  refine thn (hi pins s σ H _ I h) fun v s1 h1=>thn h1 fun itv s2 h2=>?_
  obtain ⟨it,fp,tn,J,H2,e,I2,T,t0,f2,W,w0,turn⟩:=h2
  subst e
  refine Fc (Q:=fun x H1=>DY i x σ H1 D0.nx) (RR:=fun acc C=>compPost (model X.prog X.w) X.A X.xe (some (assign (.Name y py) X.env)) (fun _ s'=>SP X pins D0 .next s') acc C) S ht hc hg hgk hif he I2 T t0 f2 W w0 turn ?_
  intro D C s' H' m J1 q hn fC
  obtain ⟨f0,f1,f2,f3,f4,f5⟩:=fC
  show wpAny _ X.A (assign (.Name y py) X.env (.ref D)) _ _ _
  refine wpAny_assign_Name (F1 (v:=.ref D) J1 hN hiN (.inl hy) rfl (fun s'' I'' hsb=>?_) (.inr hy))
  obtain ⟨a,sb,ha⟩:=hsb
  have hCa:C ≠ a:=by
    rcases ha with z | z
    . rw [z]; exact f1
    . exact Ne.symm (f4 y a z)
  exact ⟨m,hn.sameBut sb hCa,fun h' sb'=>⟨_,H',I''.turned (t':=s''.toks) (fun b o hb e=>(sb'.2 b hb).trans e) f0 f1 f3 f4 f5,q⟩⟩
end
end L2
namespace L2
open PySem PySem.Spec PyProof.Rows
section
variable {X:Cx}
theorem Hw:B0 X (.builtin "isinstance") (fun xs H Q=>∃ x T t b,xs=[x,.ty T] /\ D8 X.K H x t /\ PySem.W.kitOne X.K t (.type T)=some b /\ Q (.bl b) H):=by
  intro pins s σ H xs us Q I r h
  obtain ⟨x,T,t,b,rfl,ty,e,q⟩:=h
  obtain ⟨u,w',rfl,rx,ry⟩:=P7 r
  cases ry
  exact Kh I rx ty e fun tk=>⟨.bl b,H,I.tok tk,rfl,q⟩
end
section
variable {prog:Program} {w:World} {A:Around} {E:Value->Shared->Prop} {s:Shared}
end
end L2
namespace L2
open PySem PySem.Spec PyProof.Rows
section
variable {prog:Program} {w:World} {A:Around} {R:Result->Shared->Prop}
end
section
variable {X:Cx}
end
end L2
namespace L2
open PySem PySem.Spec PyProof.Rows
section
variable {X:Cx}
end
mutual
inductive DatV (K:PySem.W.Frag) (H:Hp):V->PyData->Prop
  | non:DatV K H .non .none
  | bl (b:Bool):DatV K H (.bl b) (.bool b)
  | int (i:Int):DatV K H (.int i) (.int i)
  | str (x:Str):DatV K H (.str x) (.str x)
  | tup {a:Addr} {xs:List V} {ds:List PyData}:SqT K H a xs->DatVs K H xs ds->DatV K H (.ref a) (.tuple ds)
  | lst {a:Addr} {xs:List V} {ds:List PyData}:SqL K H a xs->DatVs K H xs ds->DatV K H (.ref a) (.list ds)
inductive DatVs (K:PySem.W.Frag) (H:Hp):List V->List PyData->Prop
  | nil:DatVs K H [] []
  | cons {v:V} {d:PyData} {vs:List V} {ds:List PyData}:DatV K H v d->DatVs K H vs ds->DatVs K H (v :: vs) (d :: ds)
end
section
variable {X:Cx} {pins:List (Addr × Obj)} {σ:St} {H:Hp} {s:Shared}
mutual
theorem DatV.reads (I:Inv X pins σ H s):∀ {v:V} {d:PyData},DatV X.K H v d->∀ {u:Value},RelV v u->∃ as,Reads s.heap u d as
  | _,_,.non,_,r=>by cases r; exact ⟨[],.none⟩
  | _,_,.bl b,_,r=>by cases r; exact ⟨[],.bool b⟩
  | _,_,.int i,_,r=>by obtain ⟨t,rfl⟩:=r; exact ⟨[],.int i t⟩
  | _,_,.str x,_,r=>by obtain ⟨t,rfl⟩:=r; exact ⟨[],.str x t⟩
  | _,_,.tup hq hs,_,r=>by
    cases r
    obtain ⟨its,rv,⟨o,e,c,n,d⟩,_⟩:=I.tuple hq
    obtain ⟨as,ra⟩:=DatVs.reads I hs rv
    exact ⟨_,.tuple e c d (by simpa using ra)⟩
  | _,_,.lst hq hs,_,r=>by
    cases r
    obtain ⟨its,rv,⟨o,n,e,c,_,d⟩,_⟩:=I.list hq
    obtain ⟨as,ra⟩:=DatVs.reads I hs rv
    exact ⟨_,.list e c d (by simpa using ra)⟩
theorem DatVs.reads (I:Inv X pins σ H s):∀ {vs:List V} {ds:List PyData},DatVs X.K H vs ds->∀ {us:List Value},Vals vs us->∃ as,ReadsAll s.heap us ds as
  | _,_,.nil,_,.nil=>⟨[],.nil⟩
  | _,_,.cons h t,_,.cons r rr=>by
    obtain ⟨a,ra⟩:=DatV.reads I h r
    obtain ⟨b,rb⟩:=DatVs.reads I t rr
    exact ⟨_,.cons ra rb⟩
end
end
section
variable {X:Cx}
theorem PV (hu:X.A.units + 64 < cLine):OpR X (compareOp .Eq) (fun x y H Q=>∃ d d',DatV X.K H x d /\ DatV X.K H y d' /\ SeqAt.shaped d=true /\ SeqAt.shaped d'=true /\ Q (.bl (PyData.eqv d d')) H):=by
  intro pins s σ H x y v u Q I rx ry h
  obtain ⟨d,d',h1,h2,s1,s2,q⟩:=h
  obtain ⟨as,ra⟩:=h1.reads I rx
  obtain ⟨bs,rb⟩:=h2.reads I ry
  exact SeqAt.compareEq_shaped ra rb s1 s2 hu ⟨.bl _,H,I,rfl,q⟩
theorem PP (hu:X.A.units + 64 < cLine):OpR X (compareOp .NotEq) (fun x y H Q=>∃ d d',DatV X.K H x d /\ DatV X.K H y d' /\ SeqAt.shaped d=true /\ SeqAt.shaped d'=true /\ Q (.bl (!PyData.eqv d d')) H):=by
  intro pins s σ H x y v u Q I rx ry h
  obtain ⟨d,d',h1,h2,s1,s2,q⟩:=h
  obtain ⟨as,ra⟩:=h1.reads I rx
  obtain ⟨bs,rb⟩:=h2.reads I ry
  exact SeqAt.compareNe_shaped ra rb s1 s2 hu ⟨.bl _,H,I,rfl,q⟩
theorem LP {A:Around} {k:Nat} (hr:Room k A):A.units + 64 < cLine:=hr.units
end
end L2
namespace L2
open PySem PySem.Spec PyProof.Rows
theorem Inv.turnedL {X:Cx} {pins:List (Addr × Obj)} {σ:St} {H:Hp} {s:Shared} {h':Heap} {t':Nat} {ch:List Addr} (I:Inv X pins σ H s) (k:∀ b o,b ∉ ch->s.heap.get? b=some o->h'.get? b=some o) (hf:∀ b ∈ ch,DB X pins H b):Inv X pins σ H { s with heap:=h',toks:=t' }:=by
  have nit:∀ b u,H b=some u->b ∉ ch:=fun b u e z=>by rw [(hf b z).1] at e; cases e
  refine I.step (g':=s.gens) (d':=s.drawn) (ch:=ch) (fun b hb=>⟨(hf b hb).2.2.2.1,(hf b hb).2.1,(hf b hb).2.2.2.2.1,(hf b hb).2.2.2.2.2⟩) (fun b o _ _ hc e _=>k b o hc e) (fun b o _ _ hc e _=>⟨o.slots,k b o hc e⟩) (fun _ _ _ _ n=>n)
    (fun b o hc e=>⟨o,k b o hc e⟩) (fun _ _ e=>e) (fun _ _ _ e=>e) (fun b ps e=>⟨#[],by rw [e]; simp⟩) (fun m hm=>?_) (fun b u e=>?_) I.bare
  . obtain ⟨o,es,ep,ho,r⟩:=hm
    exact ⟨o,es,ep,k _ o (fun z=>(hf _ z).2.1 rfl) ho,r⟩
  . refine (I.hok b u e).stay (fun c v hc q=>k c v ?_ q) (fun _ q=>q) fun _ _ q=>q
    rcases hc with z | z
    . rw [z]; exact nit b u e
    . exact nit c _ z
def ItP (K:PySem.W.Frag) (n:Nat) (src:Nat->List V) (Cond:PySem.W.Frag->Hp->Prop):It:=
  ⟨fun i H=>i < n /\ Cond K H,fun i H v H'=>∃ T,H T=none /\ v=.ref T /\ H'=upd H T (.tup (src i)),fun i H=>i=n /\ Cond K H⟩
theorem IF {P:Program} {w:World} {K:PySem.W.Frag} {es:List Expr} {k0:Nat} {pos:Pos} {I0:Addr} {ι:Type} {fp wr:List Addr} {n:Nat} {src:Nat->List V} {good:ι->Prop} {Pt:ι->Nat->Array Value->Prop} {Sw:ι->Nat->Heap->Prop} {Mid:ι->Nat->Addr->Heap->Prop} {tn:Nat->Heap->Prop} {Cond:PySem.W.Frag->Hp->Prop}
    (W:∀ A:Around,A.handled=none->∀ z,good z->WalksT P w A I0 fp wr n (Pt z) (Sw z) (Mid z)) (hmem:I0 ∈ wr) (hPt:∀ z i vals,good z->Pt z i vals->Vals (src i) vals.toList) (hlen:∀ i,(src i).length <= sizeLine)
    (obj:∀ i h,tn i h->∀ b ∈ wr,∃ o,h.get? b=some o /\ ∀ v,o.data ≠ .cell v)
    (keep:∀ i h h',tn i h->(∀ b ∈ wr,∀ o,h.get? b=some o->h'.get? b=some o)->tn i h')
    (into:∀ (X:Cx) (pins:List (Addr × Obj)) (σ:St) (H:Hp) (s:Shared) (i:Nat),X.prog=P->X.w=w->X.K=K->Inv X pins σ H s->Cond K H->tn i s.heap->∃ z,good z /\ Sw z i s.heap) (out:∀ z i h,Sw z i h->tn i h)
    (self:∀ (A:Around) (i:Nat) (s:Shared) (Q:Value->Shared->Prop) (E:Value->Shared->Prop),tn i s.heap->Q (.ref I0) s->wpAny (model P w) A (pyIter (.ref I0)) Q E s) :
    IA P w K (.Tuple es k0 pos) (ItP K n src Cond) wr I0 tn where
  mem:=hmem
  obj:=obj
  keep:=keep
  item:=by
    intro X hP hw hK hc i pins s σ H E I hf st hg
    obtain ⟨hi,hcond⟩:=hg
    obtain ⟨z,gz,sz⟩:=into X pins σ H s i hP hw hK I hcond st
    have W':=W X.A (I.ok.hd hc) z gz
    refine W'.item i s _ _ hi sz fun T vals h' tk hp hT ht hm kk=>⟨_,rfl,?_⟩
    have I1:Inv X pins σ H { s with heap:=h',toks:=tk }:=I.turnedL kk hf
    refine W'.go es k0 pos i T _ _ _ hm fun h2 st2 kk2=>?_
    have I2:Inv X pins σ H { s with heap:=h2,toks:=tk }:=I1.turnedL (t':=tk) kk2 hf
    have hn:H T=none:=I.hok.fresh hT
    have ht2:IsTup h2 T vals:=by
      obtain ⟨o,e,r⟩:=ht
      exact ⟨o,kk2 T o (W'.apart i T _ hm) e,r⟩
    refine ⟨.ref T,upd H T (.tup (src i)),I2.track (I.fpOk hT hn) ⟨hlen i,vals.toList,hPt z i vals gz hp,by simpa using ht2⟩,rfl,⟨T,hn,rfl,rfl⟩,out z _ _ st2,fun b hb=>?_⟩
    have hbT:b ≠ T:=fun z=>W'.apart i T _ hm (by rw [← z]; exact hb)
    rw [Ag hbT]
    exact (hf b hb).1
  done:=by
    intro X hP hw hK hc i pins s σ H E I hf st hg
    obtain ⟨hi,hcond⟩:=hg
    subst hi
    obtain ⟨z,gz,sz⟩:=into X pins σ H s i hP hw hK I hcond st
    exact (W X.A (I.ok.hd hc) z gz).done s _ _ sz fun h' tk kk=>⟨rfl,I.turnedL kk hf⟩
  self:=self
def D5 (xs:List V) (i:Nat):List V:=[.int i,xs.getD i .non]
theorem Ij {xs:List V} {its:List Value} (r:Vals xs its) {i:Nat} {vals:Array Value} (h:∃ t x,its.toArray[i]? = some x /\ vals = #[.int i t,x]):Vals (D5 xs i) vals.toList:=by
  obtain ⟨t,x,hx,rfl⟩:=h
  have hx':its[i]? = some x:=by simpa using hx
  have hlt:i < its.length:=(List.getElem?_eq_some_iff.mp hx').1
  have hl:=r.length
  have hv:xs[i]? = some (xs.getD i .non):=by
    rw [List.getElem?_eq_getElem (by omega)]
    simp [List.getD,show i < xs.length by omega]
  obtain ⟨u,hu,ru⟩:=r.get hv
  rw [hx'] at hu; cases hu
  exact .cons ⟨t,rfl⟩ (.cons ru .nil)
theorem OD {P:Program} {w:World} {e it:Addr} {f:Nat->Heap->Prop} (A:Around) (i:Nat) (s:Shared) (Q:Value->Shared->Prop) (E:Value->Shared->Prop) (st:(∃ old,IsEnum s.heap e it i old) /\ f i s.heap) (h:Q (.ref e) s):wpAny (model P w) A (pyIter (.ref e)) Q E s:=by
  obtain ⟨⟨old,he⟩,_⟩:=st
  exact wpAny_pyIter_enum he h
theorem Pw {e it:Addr} {h:Heap} {i:Nat} {o:Obj} (he:∃ old,IsEnum h e it i old) (ho:h.get? it=some o) (hd:∃ vs,o.data=.fields vs):∀ b ∈ [e,it],∃ o,h.get? b=some o /\ ∀ v,o.data ≠ .cell v:=fun b hb=>by
  rcases List.mem_cons.mp hb with z | z
  . subst z
    obtain ⟨old,he⟩:=he
    exact ⟨_,he,fun v q=>by cases q⟩
  . rw [List.mem_singleton.mp z]
    obtain ⟨vs,hd⟩:=hd
    exact ⟨o,ho,fun v q=>by rw [hd] at q; cases q⟩
end L2
namespace L2
open PySem PySem.Spec PyProof.Rows
open AutoSeq1 (wpAny_loadPart')
section
variable {X:Cx} {es:List Expr} {k0:Nat} {tpos:Pos}
theorem Kv:bootBuiltins "enumerate" = some (.type "enumerate"):=by decide +kernel
theorem Oh {pins:List (Addr × Obj)} {σ:St} {H:Hp} {s:Shared} (I:Inv X pins σ H s):∀ b ∈ [s.heap.objs.size + 1,s.heap.objs.size],DB X pins H b:=fun b hb=>by
  have hb':b=s.heap.objs.size + 1 ∨ b=s.heap.objs.size:=by simpa using hb
  rcases hb' with e | e <;> subst e
  . exact I.fpOk (Nat.le_succ _) (I.hok.fresh (Nat.le_succ _))
  . exact I.fpOk (Nat.le_refl _) (I.hok.fresh (Nat.le_refl _))
end
end L2
namespace L2
open PySem PySem.Spec PyProof.Rows
section
variable {X:Cx} {pins:List (Addr × Obj)} {σ:St} {H:Hp} {s:Shared} {a:Addr} {y v:V} {u r:Value} {o:Option V} {A:Around} {E:Value->Shared->Prop}
end
section
variable {X:Cx} {o i e value:Expr} {pos pos' tpos:Pos} {td ty tv:TE}
end
end L2
namespace L2
open PySem PySem.Spec PyProof.Rows
section
variable {X:Cx} {value e e2:Expr} {es:List Expr} {pos:Pos} {tv t t2:TE} {ts:List TE}
end
end L2
namespace Mi
open PySem L2
inductive D where
  | non | bl (b:Bool) | int (i:Int) | str (x:Str) | ty (n:String) | scr (ns:List Int) | tup (xs:List D) | lst (xs:List D) | ref (n:Nat)
inductive MO where
  | lst (xs:List D) | dK (kvs:List (Key × D))
abbrev Mh:=List MO
abbrev M (α:Type):=Mh->Option (α × Mh)
abbrev Sl:=List (Option D)
def ret {α:Type} (a:α):M α:=fun μ=>some (a,μ)
def bnd {α β:Type} (m:M α) (f:α->M β):M β:=fun μ=>match m μ with
  | some (a,μ1)=>f a μ1
  | none=>none
def BE {α:Type}:M α:=fun _=>none
theorem AE {α β:Type} {m:M α} {f:α->M β} {μ:Mh} {r:β × Mh} (h:bnd m f μ=some r):∃ a μ1,m μ=some (a,μ1) /\ f a μ1=some r:=by
  unfold bnd at h
  cases e:m μ with
  | none=>rw [e] at h; cases h
  | some p=>obtain ⟨a,μ1⟩:=p; rw [e] at h; exact ⟨a,μ1,rfl,h⟩
@[simp] theorem Q8 {α β:Type} (a:α) (f:α->M β):bnd (ret a) f=f a:=rfl
theorem AL {α β:Type} {m:M α} {f:α->M β} {μ μ1:Mh} {a:α} (h:m μ=some (a,μ1)):bnd m f μ=f a μ1:=by unfold bnd; rw [h]
def ScrAt (K:PySem.W.Frag) (H:Hp) (a:Addr) (xs:List V):Prop:=
  (∃ o,H a=some (.frz o (.lst xs))) ∨ ∃ (o:Obj) (its:Array Value) (n:Nat),K.lookup a=some o /\ o.cls=.type "list" /\ o.dict=none /\ o.data=.seq its n /\ its.size <= sizeLine /\ Vals xs its.toList
theorem ScrAt.sq {K:PySem.W.Frag} {H:Hp} {a:Addr} {xs:List V} (h:ScrAt K H a xs):SqL K H a xs:=h.elim (fun z=>.inl (.inr z)) .inr
mutual
def Is (K:PySem.W.Frag) (ι:Nat->Addr) (k:Nat) (H:Hp):D->V->Prop
  | .non,v=>v=.non
  | .bl b,v=>v=.bl b
  | .int i,v=>v=.int i
  | .str x,v=>v=.str x
  | .ty n,v=>v=.ty n
  | .scr ns,v=>∃ p,v=.ref p /\ ScrAt K H p (ns.map V.int)
  | .tup ds,v=>∃ p vs,v=.ref p /\ SqT K H p vs /\ IsL K ι k H ds vs
  | .lst ds,v=>∃ p vs,v=.ref p /\ H p=some (.lst vs) /\ (∀ n,n < k->ι n ≠ p) /\ IsL K ι k H ds vs
  | .ref n,v=>n < k /\ v=.ref (ι n)
def IsL (K:PySem.W.Frag) (ι:Nat->Addr) (k:Nat) (H:Hp):List D->List V->Prop
  | [],vs=>vs=[]
  | d :: ds,vs=>∃ v vs',vs=v :: vs' /\ Is K ι k H d v /\ IsL K ι k H ds vs'
end
section
variable {K:PySem.W.Frag} {ι ι' ι2:Nat->Addr} {k k' k2:Nat} {H H' H2:Hp}
theorem IsL.length:∀ {ds:List D} {vs:List V},IsL K ι k H ds vs->vs.length=ds.length
  | [],_,h=>by unfold IsL at h; subst h; rfl
  | _ :: _,_,h=>by
    unfold IsL at h
    obtain ⟨v,vs',rfl,_,h⟩:=h
    simp only [List.length_cons,IsL.length h]
theorem IsL.get:∀ {ds:List D} {vs:List V} {i:Nat} {d:D},IsL K ι k H ds vs->ds[i]? = some d->∃ v,vs[i]? = some v /\ Is K ι k H d v
  | [],_,_,_,_,e=>by simp at e
  | _ :: _,_,0,_,h,e=>by
    unfold IsL at h
    obtain ⟨v,vs',rfl,h1,_⟩:=h
    simp at e; subst e
    exact ⟨v,rfl,h1⟩
  | _ :: _,_,i + 1,d,h,e=>by
    unfold IsL at h
    obtain ⟨v,vs',rfl,_,h⟩:=h
    obtain ⟨u,e1,e2⟩:=IsL.get (i:=i) (d:=d) h (by simpa using e)
    exact ⟨u,by simpa using e1,e2⟩
theorem IsL.append:∀ {ds es:List D} {vs us:List V},IsL K ι k H ds vs->IsL K ι k H es us->IsL K ι k H (ds ++ es) (vs ++ us)
  | [],_,_,_,h,q=>by unfold IsL at h; subst h; exact q
  | _ :: _,_,_,_,h,q=>by
    unfold IsL at h
    obtain ⟨v,vs',rfl,h1,h⟩:=h
    show IsL K ι k H (_ :: (_ ++ _)) _
    unfold IsL
    exact ⟨v,_,rfl,h1,IsL.append h q⟩
theorem IsL.take:∀ (n:Nat) {ds:List D} {vs:List V},IsL K ι k H ds vs->IsL K ι k H (ds.take n) (vs.take n)
  | 0,ds,vs,_=>by rw [List.take_zero,List.take_zero]; unfold IsL; rfl
  | n + 1,[],_,h=>by unfold IsL at h; subst h; simp only [List.take_nil]; unfold IsL; rfl
  | n + 1,_ :: _,_,h=>by
    unfold IsL at h
    obtain ⟨v,vs',rfl,h1,h⟩:=h
    simp only [List.take_succ_cons]
    unfold IsL
    exact ⟨v,_,rfl,h1,IsL.take n h⟩
theorem IsL.drop:∀ (n:Nat) {ds:List D} {vs:List V},IsL K ι k H ds vs->IsL K ι k H (ds.drop n) (vs.drop n)
  | 0,_,_,h=>h
  | n + 1,[],_,h=>by unfold IsL at h; subst h; simp only [List.drop_nil]; unfold IsL; rfl
  | n + 1,_ :: _,_,h=>by
    unfold IsL at h
    obtain ⟨v,vs',rfl,h1,h⟩:=h
    simp only [List.drop_succ_cons]
    exact IsL.drop n h
theorem IsL.cons {d:D} {ds:List D} {v:V} {vs:List V} (h:Is K ι k H d v) (t:IsL K ι k H ds vs):IsL K ι k H (d :: ds) (v :: vs):=by
  unfold IsL
  exact ⟨v,vs,rfl,h,t⟩
theorem IsL.nil:IsL K ι k H [] []:=by unfold IsL; rfl
theorem IsL.one {d:D} {v:V} (h:Is K ι k H d v):IsL K ι k H [d] [v]:=.cons h .nil
theorem IsL.set {d:D} {v:V} (h1:Is K ι k H d v):∀ {ds:List D} {vs:List V} (i:Nat),IsL K ι k H ds vs->IsL K ι k H (ds.set i d) (vs.set i v)
  | [],_,_,h=>by unfold IsL at h; subst h; exact .nil
  | _ :: _,_,0,h=>by
    unfold IsL at h
    obtain ⟨v,vs',rfl,_,h⟩:=h
    exact .cons h1 h
  | _ :: _,_,i + 1,h=>by
    unfold IsL at h
    obtain ⟨v,vs',rfl,h0,h⟩:=h
    exact .cons h0 (IsL.set h1 i h)
theorem IsL.ofInts:∀ (ns:List Int),IsL K ι k H (ns.map D.int) (ns.map V.int)
  | []=>.nil
  | n :: r=>.cons (by unfold Is; rfl) (IsL.ofInts r)
def MJ:HO->Bool
  | .lst _=>true
  | .dK _=>true
  | _=>false
def Muts (ι:Nat->Addr) (k:Nat) (H:Hp):Prop:=∀ n,n < k->∃ o,H (ι n)=some o /\ MJ o=true
structure Ext (ι:Nat->Addr) (k:Nat) (H:Hp) (ι':Nat->Addr) (k':Nat) (H':Hp):Prop where
  le:k <= k'
  agree:∀ n,n < k->ι' n=ι n
  fresh:∀ n,k <= n->n < k'->H (ι' n)=none
  keep:∀ p o,H p=some o->(∀ n,n < k->ι n ≠ p)->H' p=some o
  was:Muts ι k H
  there:Muts ι k H'
theorem Ext.refl (h:Muts ι k H):Ext ι k H ι k H:=⟨Nat.le_refl _,fun _ _=>rfl,fun n h1 h2=>absurd h1 (by omega),fun _ _ e _=>e,h,h⟩
theorem Ext.trans (a:Ext ι k H ι' k' H') (b:Ext ι' k' H' ι2 k2 H2):Ext ι k H ι2 k2 H2 where
  le:=Nat.le_trans a.le b.le
  agree:=fun n h=>(b.agree n (Nat.lt_of_lt_of_le h a.le)).trans (a.agree n h)
  fresh:=fun n h1 h2=>by
    rcases Nat.lt_or_ge n k' with z | z
    . rw [b.agree n z]; exact a.fresh n h1 z
    . have q:=b.fresh n z h2
      cases e:H (ι2 n) with
      | none=>rfl
      | some o=>
        by_cases hx:∃ m,m < k /\ ι m=ι2 n
        . obtain ⟨m,hm,e2⟩:=hx
          obtain ⟨o',q',_⟩:=a.there m hm
          rw [e2,q] at q'; cases q'
        . have:=a.keep _ o e (fun m hm e2=>hx ⟨m,hm,e2⟩)
          rw [q] at this; cases this
  keep:=fun p o e hn=>b.keep p o (a.keep p o e hn) (fun n hlt e2=>by
    rcases Nat.lt_or_ge n k with z | z
    . rw [a.agree n z] at e2; exact hn n z e2
    . have:=a.fresh n z hlt
      rw [e2,e] at this; cases this)
  was:=a.was
  there:=fun n h=>by
    have:=b.there n (Nat.lt_of_lt_of_le h a.le)
    rw [a.agree n h] at this; exact this
theorem Ext.out (a:Ext ι k H ι' k' H') {p:Addr} {o:HO} (e:H p=some o) (hn:∀ n,n < k->ι n ≠ p):∀ n,n < k'->ι' n ≠ p:=fun n h e2=>by
  rcases Nat.lt_or_ge n k with z | z
  . rw [a.agree n z] at e2; exact hn n z e2
  . have:=a.fresh n z h
    rw [e2,e] at this; cases this
theorem Muts.ne (a:Muts ι k H) {p:Addr} {o:HO} (e:H p=some o) (hm:MJ o=false):∀ n,n < k->ι n ≠ p:=fun n hn e2=>by
  obtain ⟨o',q,h⟩:=a n hn
  rw [e2,e] at q; cases q
  rw [hm] at h; cases h
theorem GX {p:Addr} {vs:List V} (a:Ext ι k H ι' k' H') (h:SqT K H p vs):SqT K H' p vs:=by
  rcases h with h | h
  . rcases h with h | ⟨o,h⟩
    . exact .inl (.inl (a.keep p _ h (a.was.ne h rfl)))
    . exact .inl (.inr ⟨o,a.keep p _ h (a.was.ne h rfl)⟩)
  . exact .inr h
theorem JL {p:Addr} {vs:List V} (a:Ext ι k H ι' k' H') (h:ScrAt K H p vs):ScrAt K H' p vs:=by
  rcases h with ⟨o,h⟩ | h
  . exact .inl ⟨o,a.keep p _ h (a.was.ne h rfl)⟩
  . exact .inr h
mutual
theorem Is.ext (a:Ext ι k H ι' k' H'):∀ {d:D} {v:V},Is K ι k H d v->Is K ι' k' H' d v
  | .non,_,h=>by unfold Is at h ⊢; exact h
  | .bl _,_,h=>by unfold Is at h ⊢; exact h
  | .int _,_,h=>by unfold Is at h ⊢; exact h
  | .str _,_,h=>by unfold Is at h ⊢; exact h
  | .ty _,_,h=>by unfold Is at h ⊢; exact h
  | .scr ns,_,h=>by
    unfold Is at h ⊢
    obtain ⟨p,rfl,h⟩:=h
    exact ⟨p,rfl,JL a h⟩
  | .tup ds,_,h=>by
    unfold Is at h ⊢
    obtain ⟨p,vs,rfl,h1,h2⟩:=h
    exact ⟨p,vs,rfl,GX a h1,IsL.ext a h2⟩
  | .lst ds,_,h=>by
    unfold Is at h ⊢
    obtain ⟨p,vs,rfl,h1,hn,h2⟩:=h
    exact ⟨p,vs,rfl,a.keep p _ h1 hn,a.out h1 hn,IsL.ext a h2⟩
  | .ref n,_,h=>by
    unfold Is at h ⊢
    obtain ⟨h,rfl⟩:=h
    exact ⟨Nat.lt_of_lt_of_le h a.le,by rw [a.agree n h]⟩
theorem IsL.ext (a:Ext ι k H ι' k' H'):∀ {ds:List D} {vs:List V},IsL K ι k H ds vs->IsL K ι' k' H' ds vs
  | [],_,h=>by unfold IsL at h ⊢; exact h
  | _ :: _,_,h=>by
    unfold IsL at h ⊢
    obtain ⟨v,vs',rfl,h1,h2⟩:=h
    exact ⟨v,vs',rfl,Is.ext a h1,IsL.ext a h2⟩
end
def KVs (K:PySem.W.Frag) (ι:Nat->Addr) (k:Nat) (H:Hp):List (Key × D)->List (Key × V)->Prop
  | [],r=>r=[]
  | (y,d) :: l,r=>∃ v r',r=(y,v) :: r' /\ Is K ι k H d v /\ KVs K ι k H l r'
theorem KVs.ext (a:Ext ι k H ι' k' H'):∀ {l:List (Key × D)} {r:List (Key × V)},KVs K ι k H l r->KVs K ι' k' H' l r
  | [],_,h=>h
  | (_,_) :: _,_,h=>by
    obtain ⟨v,r',rfl,h1,h2⟩:=h
    exact ⟨v,r',rfl,h1.ext a,h2.ext a⟩
def ObjIs (K:PySem.W.Frag) (ι:Nat->Addr) (k:Nat) (H:Hp):MO->HO->Prop
  | .lst ds,o=>∃ vs,o=.lst vs /\ IsL K ι k H ds vs
  | .dK l,o=>∃ r,o=.dK r /\ KVs K ι k H l r
structure RelH (K:PySem.W.Frag) (ι:Nat->Addr) (μ:Mh) (H:Hp):Prop where
  inj:∀ i j,i < μ.length->j < μ.length->ι i=ι j->i=j
  obj:∀ n o,μ[n]? = some o->∃ u,H (ι n)=some u /\ ObjIs K ι μ.length H o u
theorem ObjIs.mut {o:MO} {u:HO} (h:ObjIs K ι k H o u):MJ u=true:=by
  cases o with
  | lst ds=>obtain ⟨vs,rfl,_⟩:=h; rfl
  | dK l=>obtain ⟨r,rfl,_⟩:=h; rfl
theorem ObjIs.ext (a:Ext ι k H ι' k' H') {o:MO} {u:HO} (h:ObjIs K ι k H o u):ObjIs K ι' k' H' o u:=by
  cases o with
  | lst ds=>obtain ⟨vs,rfl,h⟩:=h; exact ⟨vs,rfl,h.ext a⟩
  | dK l=>obtain ⟨r,rfl,h⟩:=h; exact ⟨r,rfl,h.ext a⟩
theorem RelH.muts {μ:Mh} (r:RelH K ι μ H):Muts ι μ.length H:=fun n hn=>by
  obtain ⟨u,e,h⟩:=r.obj n μ[n] (by simp [hn])
  exact ⟨u,e,h.mut⟩
theorem RelH.ext0 {μ:Mh} (r:RelH K ι μ H):Ext ι μ.length H ι μ.length H:=Ext.refl r.muts
theorem RelH.laid {μ:Mh} (r:RelH K ι μ H) {p:Addr} (o:HO) (hp:H p=none):Ext ι μ.length H ι μ.length (upd H p o) /\ RelH K ι μ (upd H p o):=by
  have kp:∀ q u,H q=some u->upd H p o q=some u:=fun q u e=>by rw [Ag (Bb e hp)]; exact e
  have a:Ext ι μ.length H ι μ.length (upd H p o):=⟨Nat.le_refl _,fun _ _=>rfl,fun n h1 h2=>absurd h1 (by omega),fun q u e _=>kp q u e,r.muts,fun n hn=>by
    obtain ⟨u,e,h⟩:=r.muts n hn
    exact ⟨u,kp _ _ e,h⟩⟩
  refine ⟨a,r.inj,fun n o' e=>?_⟩
  obtain ⟨u,e1,h⟩:=r.obj n o' e
  exact ⟨u,kp _ _ e1,h.ext a⟩
theorem RelH.grown {μ:Mh} (r:RelH K ι μ H) {p:Addr} {o:HO} {m:MO} (hp:H p=none) (h:ObjIs K ι μ.length H m o) :
    ∃ ι',Ext ι μ.length H ι' (μ ++ [m]).length (upd H p o) /\ RelH K ι' (μ ++ [m]) (upd H p o) /\ ι' μ.length=p:=by
  have kp:∀ q u,H q=some u->upd H p o q=some u:=fun q u e=>by rw [Ag (Bb e hp)]; exact e
  let ι':Nat->Addr:=fun n=>if n=μ.length then p else ι n
  have e0:ι' μ.length=p:=if_pos rfl
  have e1:∀ n,n < μ.length->ι' n=ι n:=fun n hn=>if_neg (by omega)
  have a:Ext ι μ.length H ι' (μ ++ [m]).length (upd H p o):=⟨by simp,e1,fun n h1 h2=>by
      have:n=μ.length:=by simp at h2; omega
      rw [this,e0]; exact hp,fun q u e _=>kp q u e,r.muts,fun n hn=>by
    obtain ⟨u,e,h⟩:=r.muts n hn
    exact ⟨u,kp _ _ e,h⟩⟩
  refine ⟨ι',a,⟨fun i j hi hj e=>?_,fun n o' e=>?_⟩,e0⟩
  . simp at hi hj
    have old:∀ i,i < μ.length->ι' i ≠ p:=fun i hi e=>by
      obtain ⟨u,q,_⟩:=r.muts i hi
      rw [← e1 i hi,e,hp] at q; cases q
    rcases Nat.lt_or_ge i μ.length with zi | zi <;> rcases Nat.lt_or_ge j μ.length with zj | zj
    . rw [e1 i zi,e1 j zj] at e; exact r.inj i j zi zj e
    . have:j=μ.length:=by omega
      subst this; rw [e0] at e; exact absurd e (old i zi)
    . have:i=μ.length:=by omega
      subst this; rw [e0] at e; exact absurd e.symm (old j zj)
    . omega
  . rcases Nat.lt_or_ge n μ.length with z | z
    . rw [List.getElem?_append_left z] at e
      obtain ⟨u,q,hq⟩:=r.obj n o' e
      exact ⟨u,by rw [e1 n z]; exact kp _ _ q,hq.ext a⟩
    . have hn:n=μ.length:=by
        have:=(List.getElem?_eq_some_iff.mp e).1
        simp at this; omega
      subst hn
      rw [List.getElem?_append_right (Nat.le_refl _),Nat.sub_self] at e
      simp at e; subst e
      exact ⟨o,by rw [e0,A5],h.ext a⟩
theorem RelH.changed {μ:Mh} (r:RelH K ι μ H) {n:Nat} {o:HO} {m:MO} (hn:n < μ.length) (h:ObjIs K ι μ.length H m o) :
    Ext ι μ.length H ι (μ.set n m).length (upd H (ι n) o) /\ RelH K ι (μ.set n m) (upd H (ι n) o):=by
  have ne:∀ i,i < μ.length->i ≠ n->ι i ≠ ι n:=fun i hi hne e=>hne (r.inj i n hi hn e)
  have a:Ext ι μ.length H ι (μ.set n m).length (upd H (ι n) o):=⟨by simp,fun _ _=>rfl,fun i h1 h2=>by simp at h2; omega,fun q u e hq=>by rw [Ag (fun z=>hq n hn z.symm)]; exact e,r.muts,fun i hi=>by
    by_cases z:i=n
    . subst z; exact ⟨o,A5,h.mut⟩
    . obtain ⟨u,e,hu⟩:=r.muts i hi
      exact ⟨u,by rw [Ag (ne i hi z)]; exact e,hu⟩⟩
  refine ⟨a,fun i j hi hj=>r.inj i j (by simpa using hi) (by simpa using hj),fun i o' e=>?_⟩
  by_cases z:i=n
  . subst z
    rw [List.getElem?_set_self hn] at e
    cases e
    exact ⟨o,A5,h.ext a⟩
  . rw [List.getElem?_set_ne (Ne.symm z)] at e
    have hi:i < μ.length:=(List.getElem?_eq_some_iff.mp e).1
    obtain ⟨u,q,hq⟩:=r.obj i o' e
    exact ⟨u,by rw [Ag (ne i hi z)]; exact q,hq.ext a⟩
structure RelS (K:PySem.W.Frag) (ι:Nat->Addr) (k:Nat) (H:Hp) (τ:Sl) (σ:St):Prop where
  len:σ.length=τ.length
  get:∀ (i:Nat) (d:D),τ[i]? = some (some d)->∃ v,σ[i]? = some (some v) /\ Is K ι k H d v
theorem RelS.ext {τ:Sl} {σ:St} (a:Ext ι k H ι' k' H') (r:RelS K ι k H τ σ):RelS K ι' k' H' τ σ:=⟨r.len,fun i d e=>by
  obtain ⟨v,e1,h⟩:=r.get i d e
  exact ⟨v,e1,h.ext a⟩⟩
theorem RelS.set {τ:Sl} {σ:St} (r:RelS K ι k H τ σ) {d:D} {v:V} (i:Nat) (h:Is K ι k H d v):RelS K ι k H (τ.set i (some d)) (σ.set i (some v)):=⟨by simp [r.len],fun j e q=>by
  by_cases z:i=j
  . subst z
    have hi:i < τ.length:=by
      have:=(List.getElem?_eq_some_iff.mp q).1
      simpa using this
    rw [List.getElem?_set_self hi] at q
    cases q
    exact ⟨v,List.getElem?_set_self (by rw [r.len]; exact hi),h⟩
  . rw [List.getElem?_set_ne z] at q
    obtain ⟨u,e1,hu⟩:=r.get j e q
    exact ⟨u,by rw [List.getElem?_set_ne z]; exact e1,hu⟩⟩
end
end Mi
namespace Mi
open PySem L2
inductive Fl where
  | next | brk | cont | rt (d:D)
abbrev Aft (K:PySem.W.Frag) (ι:Nat->Addr) (μ:Mh) (H:Hp) (μ':Mh) (φ:(Nat->Addr)->Hp->Prop):Prop:=
  ∀ ι' H',Ext ι μ.length H ι' μ'.length H'->RelH K ι' μ' H'->φ ι' H'
def tE (K:PySem.W.Frag) (m:Sl->M D):TE:=fun σ H Q=>∃ ι μ τ d μ',RelH K ι μ H /\ RelS K ι μ.length H τ σ /\ m τ μ=some (d,μ') /\
  Aft K ι μ H μ' fun ι' H'=>∀ v,Is K ι' μ'.length H' d v->Q v H'
def tT (K:PySem.W.Frag) (m:Sl->M Bool):TT:=fun σ H Q=>∃ ι μ τ b μ',RelH K ι μ H /\ RelS K ι μ.length H τ σ /\ m τ μ=some (b,μ') /\
  Aft K ι μ H μ' fun _ H'=>Q b H'
def tL (K:PySem.W.Frag) (m:Sl->M (List D)):TA:=fun σ H Q=>∃ ι μ τ ds μ',RelH K ι μ H /\ RelS K ι μ.length H τ σ /\ m τ μ=some (ds,μ') /\
  Aft K ι μ H μ' fun ι' H'=>∀ vs,IsL K ι' μ'.length H' ds vs->Q vs H'
def FlP (K:PySem.W.Frag) (Dn:Iw) (ι':Nat->Addr) (k:Nat) (H':Hp) (τ':Sl) (σ':St):Fl->Prop
  | .next=>Dn.nx σ' H'
  | .brk=>Dn.bk σ' H'
  | .cont=>Dn.ct σ' H'
  | .rt d=>∀ v,Is K ι' k H' d v->Dn.rt v H'
def tSt (K:PySem.W.Frag) (m:Sl->M (Fl × Sl)):TS:=fun Dn σ H=>∃ ι μ τ f τ' μ',RelH K ι μ H /\ RelS K ι μ.length H τ σ /\ m τ μ=some ((f,τ'),μ') /\
  Aft K ι μ H μ' fun ι' H'=>∀ σ',RelS K ι' μ'.length H' τ' σ'->FlP K Dn ι' μ'.length H' τ' σ' f
structure RE (X:Cx) (e:Expr) (m:Sl->M D):Prop where
  pe:PE X e (tE X.K m)
structure RT (X:Cx) (e:Expr) (m:Sl->M Bool):Prop where
  pe:PT X e (tT X.K m)
structure RW (X:Cx) (e:Expr) (m:Sl->M Bool):Prop where
  pe:PW X e (tT X.K m)
structure RA (X:Cx) (es:List Expr) (m:Sl->M (List D)):Prop where
  pe:PA X es (tL X.K m)
structure RS (X:Cx) (st:Stmt) (m:Sl->M (Fl × Sl)):Prop where
  pe:PS X st (tSt X.K m)
structure RSs (X:Cx) (st:List Stmt) (m:Sl->M (Fl × Sl)):Prop where
  pe:PSs X st (tSt X.K m)
section
variable {X:Cx} {e a b c:Expr} {es:List Expr} {pos:Pos}
theorem PE.wk {t t':TE} (h:PE X e t) (w:∀ σ H Q,t' σ H Q->t σ H Q):PE X e t':=fun pins s σ H Q I q=>h pins s σ H Q I (w σ H Q q)
theorem RE.wk {m:Sl->M D} {t:TE} (h:PE X e t) (w:∀ σ H Q,tE X.K m σ H Q->t σ H Q):RE X e m:=⟨PE.wk h w⟩
theorem PT.wk {t t':TT} (h:PT X e t) (w:∀ σ H Q,t' σ H Q->t σ H Q):PT X e t':=fun pins s σ H Q I q=>h pins s σ H Q I (w σ H Q q)
theorem RT.wk {m:Sl->M Bool} {t:TT} (h:PT X e t) (w:∀ σ H Q,tT X.K m σ H Q->t σ H Q):RT X e m:=⟨PT.wk h w⟩
theorem PW.wk {t t':TT} (h:PW X e t) (w:∀ σ H Q,t' σ H Q->t σ H Q):PW X e t':=fun wh pins s σ H Q I q=>h wh pins s σ H Q I (w σ H Q q)
theorem RW.wk {m:Sl->M Bool} {t:TT} (h:PW X e t) (w:∀ σ H Q,tT X.K m σ H Q->t σ H Q):RW X e m:=⟨PW.wk h w⟩
theorem PA.wk {t t':TA} (h:PA X es t) (w:∀ σ H Q,t' σ H Q->t σ H Q):PA X es t':=fun p pins s σ H Q I q=>h p pins s σ H Q I (w σ H Q q)
theorem RA.wk {m:Sl->M (List D)} {t:TA} (h:PA X es t) (w:∀ σ H Q,tL X.K m σ H Q->t σ H Q):RA X es m:=⟨PA.wk h w⟩
theorem PS.wk {st:Stmt} {t t':TS} (h:PS X st t) (w:∀ D σ H,t' D σ H->t D σ H):PS X st t':=fun pins s σ H D I q=>h pins s σ H D I (w D σ H q)
theorem RS.wk {m:Sl->M (Fl × Sl)} {st:Stmt} {t:TS} (h:PS X st t) (w:∀ D σ H,tSt X.K m D σ H->t D σ H):RS X st m:=⟨PS.wk h w⟩
theorem PSs.wk {st:List Stmt} {t t':TS} (h:PSs X st t) (w:∀ D σ H,t' D σ H->t D σ H):PSs X st t':=fun pins s σ H D I q=>h pins s σ H D I (w D σ H q)
theorem RSs.wk {m:Sl->M (Fl × Sl)} {st:List Stmt} {t:TS} (h:PSs X st t) (w:∀ D σ H,tSt X.K m D σ H->t D σ H):RSs X st m:=⟨PSs.wk h w⟩
theorem OpR.wk {f:Value->Value->Sem Value} {r r':R2} (h:OpR X f r) (w:∀ x y H Q,r' x y H Q->r x y H Q):OpR X f r':=fun pins s σ H x y v u Q I rx ry q=>h pins s σ H x y v u Q I rx ry (w x y H Q q)
def EJ:Expr->Bool
  | .Starred _ _=>true
  | _=>false
theorem Ai {e:Expr} {es:List Expr} {env:Env} (h:EJ e=false):starEach (e :: es) env=(false,eval e env) :: starEach es env:=by
  cases e <;> first | rfl | cases h
theorem Bp {pos:Pos} {env:Env}:∀ {es:List Expr},(es.all fun e=>!EJ e)=true->(backTo pos (starEach es env)).any (·.1)=false
  | [],_=>rfl
  | e :: es,h=>by
    rw [List.all_cons,Bool.and_eq_true] at h
    have h1:EJ e=false:=by simpa using h.1
    have ih:=Bp (pos:=pos) (env:=env) h.2
    rw [Ai h1]
    unfold backTo at ih ⊢
    simpa using ih
def AA (i:Nat):Sl->M D:=fun τ μ=>match τ[i]? with
  | some (some d)=>some (d,μ)
  | _=>none
def mC (d:D):Sl->M D:=fun _=>ret d
theorem AB (i:Nat) {x:Str} (hN:X.N[i]? = some x:=by rfl) (hv:Vis X.env.scope x:=by first | exact Or.inl rfl | exact Or.inr (Or.inl rfl) | exact Or.inr (Or.inr rfl)) (hd:(x == ("__debug__" : Str))=false:=by decide)
    (hcd:(x == ("__classdict__" : Str))=false:=by decide):RE X (.Name x pos) (AA i):=RE.wk (PC hN hv hd hcd) fun σ H Q h=>by
  obtain ⟨ι,μ,τ,d,μ',R,S,e,q⟩:=h
  unfold AA at e
  split at e
  . rename_i d' ed
    cases e
    obtain ⟨v,e1,h1⟩:=S.get i _ ed
    exact ⟨v,e1,q ι H R.ext0 R v h1⟩
  . cases e
theorem KG {t:TE} {d:D} {v:V} (h:PE X e (tC v)) (hd:∀ ι k H,Is X.K ι k H d v):RE X e (mC d):=RE.wk h fun σ H Q h=>by
  obtain ⟨ι,μ,τ,d,μ',R,S,e,q⟩:=h
  cases e
  exact q ι H R.ext0 R v (hd _ _ _)
theorem AI {i j}:RE X (.Constant (.int i) j pos) (mC (.int i)):=KG (t:=fun _ _ _=>True) PJ fun _ _ _=>by unfold Is; rfl
theorem FB {i j}:RE X (.Constant (.bool i) j pos) (mC (.bl i)):=KG (t:=fun _ _ _=>True) Qj fun _ _ _=>by unfold Is; rfl
theorem A8 {j}:RE X (.Constant .none j pos) (mC .non):=KG (t:=fun _ _ _=>True) PH fun _ _ _=>by unfold Is; rfl
theorem AS {i j}:RE X (.Constant (.str i) j pos) (mC (.str i)):=KG (t:=fun _ _ _=>True) Lj fun _ _ _=>by unfold Is; rfl
theorem NK {x:Str} {v:V} {u:Value} {d:D} (hm:X.mg x=some u) (r:RelV v u) (hd:∀ ι k H,Is X.K ι k H d v) (hg:Gl X x:=by rfl) (hdb:(x == ("__debug__" : Str))=false:=by decide):RE X (.Name x pos) (mC d):=
  KG (t:=fun _ _ _=>True) (Nd hg hm r hdb) hd
def mOp (g:D->D->M D) (ma mb:Sl->M D):Sl->M D:=fun τ=>bnd (ma τ) fun x=>bnd (mb τ) fun y=>g x y
def mUn (g:D->M D) (ma:Sl->M D):Sl->M D:=fun τ=>bnd (ma τ) g
def rM (K:PySem.W.Frag) (g:D->D->M D):R2:=fun x y H Q=>∃ ι μ a b d μ',RelH K ι μ H /\ Is K ι μ.length H a x /\ Is K ι μ.length H b y /\ g a b μ=some (d,μ') /\
  Aft K ι μ H μ' fun ι' H'=>∀ v,Is K ι' μ'.length H' d v->Q v H'
def rM1 (K:PySem.W.Frag) (g:D->M D):V->Hp->VK->Prop:=fun x H Q=>∃ ι μ a d μ',RelH K ι μ H /\ Is K ι μ.length H a x /\ g a μ=some (d,μ') /\
  Aft K ι μ H μ' fun ι' H'=>∀ v,Is K ι' μ'.length H' d v->Q v H'
def rMA (K:PySem.W.Frag) (g:List D->M D):List V->Hp->VK->Prop:=fun xs H Q=>∃ ι μ as d μ',RelH K ι μ H /\ IsL K ι μ.length H as xs /\ g as μ=some (d,μ') /\
  Aft K ι μ H μ' fun ι' H'=>∀ v,Is K ι' μ'.length H' d v->Q v H'
theorem JG {K:PySem.W.Frag} {g:D->D->M D} {ma mb:Sl->M D} {σ:St} {H:Hp} {Q:VK} (h:tE K (mOp g ma mb) σ H Q):tOp (rM K g) (tE K ma) (tE K mb) σ H Q:=by
  obtain ⟨ι,μ,τ,d,μ',R,S,e,q⟩:=h
  obtain ⟨x,μ1,e1,e⟩:=AE e
  obtain ⟨y,μ2,e2,e3⟩:=AE e
  refine ⟨ι,μ,τ,x,μ1,R,S,e1,fun ι1 H1 E1 R1 v1 i1=>?_⟩
  refine ⟨ι1,μ1,τ,y,μ2,R1,S.ext E1,e2,fun ι2 H2 E2 R2 v2 i2=>?_⟩
  exact ⟨ι2,μ2,x,y,d,μ',R2,i1.ext E2,i2,e3,fun ι3 H3 E3 R3 v3 i3=>q ι3 H3 ((E1.trans E2).trans E3) R3 v3 i3⟩
theorem QJ {K:PySem.W.Frag} {g:D->M D} {ma:Sl->M D} {σ:St} {H:Hp} {Q:VK} (h:tE K (mUn g ma) σ H Q):tUn (rM1 K g) (tE K ma) σ H Q:=by
  obtain ⟨ι,μ,τ,d,μ',R,S,e,q⟩:=h
  obtain ⟨x,μ1,e1,e⟩:=AE e
  refine ⟨ι,μ,τ,x,μ1,R,S,e1,fun ι1 H1 E1 R1 v1 i1=>?_⟩
  exact ⟨ι1,μ1,x,d,μ',R1,i1,e,fun ι3 H3 E3 R3 v3 i3=>q ι3 H3 (E1.trans E3) R3 v3 i3⟩
theorem AR {op:Operator} {g:D->D->M D} {ma mb:Sl->M D} (ho:OpR X (binaryOp op) (rM X.K g)) (ha:RE X a ma) (hb:RE X b mb):RE X (.BinOp a op b pos) (mOp g ma mb):=RE.wk (Qg ho ha.pe hb.pe) fun _ _ _ h=>JG h
theorem E9 {op:UnaryOp} {g:D->M D} {ma:Sl->M D} (ho:UnR X (unaryOp op) (rM1 X.K g)) (ha:RE X a ma):RE X (.UnaryOp op a pos) (mUn g ma):=RE.wk (Qf ho ha.pe) fun _ _ _ h=>QJ h
theorem ED {op:CmpOp} {g:D->D->M D} {ma mb:Sl->M D} (ho:OpR X (compareOp op) (rM X.K g)) (ha:RE X a ma) (hb:RE X b mb) (hm:behindInMarks op b=false:=by first | exact Lx _ | rfl):RE X (.Compare a [op] [b] pos) (mOp g ma mb):=
  RE.wk (Ni ho ha.pe hb.pe hm) fun _ _ _ h=>JG h
theorem Ac {g:D->D->M D} {ma mb:Sl->M D} (ho:IxR X (rM X.K g)) (ha:RE X a ma) (hb:RE X b mb) (hs:Jw b:=by exact fun _ _=>rfl):RE X (.Subscript a b pos) (mOp g ma mb):=RE.wk (Qh ho ha.pe hb.pe hs) fun _ _ _ h=>JG h
def asB:D->M Bool
  | .bl b=>ret b
  | _=>BE
def AN (m:Sl->M D):Sl->M Bool:=fun τ=>bnd (m τ) asB
theorem JD {K:PySem.W.Frag} {m:Sl->M D} {σ:St} {H:Hp} {Q:Bool->Hp->Prop} (h:tT K (AN m) σ H Q):tE K m σ H fun x H'=>∃ k,x=.bl k /\ Q k H':=by
  obtain ⟨ι,μ,τ,b,μ',R,S,e,q⟩:=h
  obtain ⟨x,μ1,e1,e⟩:=AE e
  refine ⟨ι,μ,τ,x,μ1,R,S,e1,fun ι1 H1 E1 R1 v1 i1=>?_⟩
  cases x with
  | bl k=>
    cases e
    unfold Is at i1
    exact ⟨b,i1,q ι1 H1 E1 R1⟩
  | _=>cases e
theorem AY {op:CmpOp} {g:D->D->M D} {ma mb:Sl->M D} (ho:OpR X (compareOp op) (rM X.K g)) (ha:RE X a ma) (hb:RE X b mb) (hm:behindInMarks op b=false:=by first | exact Lx _ | rfl):RT X (.Compare a [op] [b] pos) (AN (mOp g ma mb)):=
  RT.wk (NV ho ha.pe hb.pe hm) fun σ H Q h=>JG (Q:=fun x H'=>∃ k,x=.bl k /\ Q k H') (JD h)
theorem IM {m:Sl->M D} (h:RE X e m) (he:∀ whole,isTrue e X.env whole=(do let v ← whole; standAt e.pos; holding [v] (truthy v)):=by intro _; rfl):RT X e (AN m):=
  RT.wk (O4 h.pe he) fun _ _ _ q=>JD q
def Fv (ma mb:Sl->M Bool):Sl->M Bool:=fun τ=>bnd (ma τ) fun x=>if x=true then mb τ else ret false
def mOr (ma mb:Sl->M Bool):Sl->M Bool:=fun τ=>bnd (ma τ) fun x=>if x=true then ret true else mb τ
def IY (ma:Sl->M Bool):Sl->M Bool:=fun τ=>bnd (ma τ) fun x=>ret (!x)
theorem LM {ma:Sl->M Bool} (ha:RT X a ma):RT X (.UnaryOp .Not a pos) (IY ma):=RT.wk (O5 ha.pe) fun σ H Q h=>by
  obtain ⟨ι,μ,τ,b,μ',R,S,e,q⟩:=h
  obtain ⟨x,μ1,e1,e⟩:=AE e
  cases e
  exact ⟨ι,μ,τ,x,_,R,S,e1,q⟩
theorem JM {ma:Sl->M Bool} (ha:RT X a ma):RW X (.BoolOp .And [a] pos) ma:=⟨NR ha.pe⟩
theorem LL {ma:Sl->M Bool} (ha:RT X a ma):RW X (.BoolOp .Or [a] pos) ma:=⟨O1 ha.pe⟩
theorem IL {rest:List Expr} {ma mb:Sl->M Bool} (ha:RT X a ma) (hb:RW X (.BoolOp .And (b :: rest) pos) mb):RW X (.BoolOp .And (a :: b :: rest) pos) (Fv ma mb):=RW.wk (O2 ha.pe hb.pe) fun σ H Q h=>by
  obtain ⟨ι,μ,τ,z,μ',R,S,e,q⟩:=h
  obtain ⟨x,μ1,e1,e⟩:=AE e
  refine ⟨ι,μ,τ,x,μ1,R,S,e1,fun ι1 H1 E1 R1=>?_⟩
  cases x with
  | true=>exact ⟨ι1,μ1,τ,z,μ',R1,S.ext E1,e,fun ι2 H2 E2 R2=>q ι2 H2 (E1.trans E2) R2⟩
  | false=>cases e; exact q ι1 H1 E1 R1
theorem ON {rest:List Expr} {ma mb:Sl->M Bool} (ha:RT X a ma) (hb:RW X (.BoolOp .Or (b :: rest) pos) mb):RW X (.BoolOp .Or (a :: b :: rest) pos) (mOr ma mb):=RW.wk (Qb ha.pe hb.pe) fun σ H Q h=>by
  obtain ⟨ι,μ,τ,z,μ',R,S,e,q⟩:=h
  obtain ⟨x,μ1,e1,e⟩:=AE e
  refine ⟨ι,μ,τ,x,μ1,R,S,e1,fun ι1 H1 E1 R1=>?_⟩
  cases x with
  | true=>cases e; exact q ι1 H1 E1 R1
  | false=>exact ⟨ι1,μ1,τ,z,μ',R1,S.ext E1,e,fun ι2 H2 E2 R2=>q ι2 H2 (E1.trans E2) R2⟩
theorem RW.rt {m:Sl->M Bool} (h:RW X e m):RT X e m:=⟨h.pe.pt⟩
def mIf (mc:Sl->M Bool) (ma mb:Sl->M D):Sl->M D:=fun τ=>bnd (mc τ) fun x=>if x=true then ma τ else mb τ
theorem OO {mc:Sl->M Bool} {ma mb:Sl->M D} (hc:RT X c mc) (ha:RE X a ma) (hb:RE X b mb):RE X (.IfExp c a b pos) (mIf mc ma mb):=RE.wk (Lm hc.pe ha.pe hb.pe) fun σ H Q h=>by
  obtain ⟨ι,μ,τ,z,μ',R,S,e,q⟩:=h
  obtain ⟨x,μ1,e1,e⟩:=AE e
  refine ⟨ι,μ,τ,x,μ1,R,S,e1,fun ι1 H1 E1 R1=>?_⟩
  cases x with
  | true=>exact ⟨ι1,μ1,τ,z,μ',R1,S.ext E1,e,fun ι2 H2 E2 R2=>q ι2 H2 (E1.trans E2) R2⟩
  | false=>exact ⟨ι1,μ1,τ,z,μ',R1,S.ext E1,e,fun ι2 H2 E2 R2=>q ι2 H2 (E1.trans E2) R2⟩
def Jb (ma mb:Sl->M D):Sl->M D:=fun τ=>bnd (ma τ) fun x=>bnd (asB x) fun c=>if c=true then mb τ else ret (.bl false)
theorem Mw {x:D} {μ μ1:Mh} {c:Bool} (h:asB x μ=some (c,μ1)):x=.bl c /\ μ1=μ:=by
  cases x with
  | bl k=>cases h; exact ⟨rfl,rfl⟩
  | _=>cases h
theorem Ox {op} {m:Sl->M D} (h:RE X a m):RE X (.BoolOp op [a] pos) m:=⟨PF h.pe⟩
theorem Oy {rest:List Expr} {ma mb:Sl->M D} (ha:RE X a ma) (hb:RE X (.BoolOp .And (b :: rest) pos) mb):RE X (.BoolOp .And (a :: b :: rest) pos) (Jb ma mb):=RE.wk (PK ha.pe hb.pe) fun σ H Q h=>by
  obtain ⟨ι,μ,τ,z,μ',R,S,e,q⟩:=h
  obtain ⟨x,μ1,e1,e⟩:=AE e
  obtain ⟨c,μ2,e2,e⟩:=AE e
  obtain ⟨rfl,rfl⟩:=Mw e2
  refine ⟨ι,μ,τ,_,μ2,R,S,e1,fun ι1 H1 E1 R1 v1 i1=>⟨c,by unfold Is at i1; exact i1,?_⟩⟩
  cases c with
  | true=>exact ⟨ι1,μ2,τ,z,μ',R1,S.ext E1,e,fun ι2 H2 E2 R2=>q ι2 H2 (E1.trans E2) R2⟩
  | false=>cases e; exact q ι1 H1 E1 R1 _ (by unfold Is; rfl)
def AK:Sl->M (List D):=fun _=>ret []
def AD (m:Sl->M D) (r:Sl->M (List D)):Sl->M (List D):=fun τ=>bnd (m τ) fun x=>bnd (r τ) fun xs=>ret (x :: xs)
theorem AH:RA X [] AK:=RA.wk FI fun σ H Q h=>by
  obtain ⟨ι,μ,τ,z,μ',R,S,e,q⟩:=h
  cases e
  exact q ι H R.ext0 R [] .nil
theorem AC {m:Sl->M D} {r:Sl->M (List D)} (h:RE X e m) (hr:RA X es r) (hs:starEach (e :: es) X.env=(false,eval e X.env) :: starEach es X.env:=by exact Ai rfl):RA X (e :: es) (AD m r):=RA.wk (Dv h.pe hr.pe hs) fun σ H Q h=>by
  obtain ⟨ι,μ,τ,z,μ',R,S,e,q⟩:=h
  obtain ⟨x,μ1,e1,e⟩:=AE e
  obtain ⟨xs,μ2,e2,e⟩:=AE e
  cases e
  exact ⟨ι,μ,τ,x,μ1,R,S,e1,fun ι1 H1 E1 R1 v1 i1=>⟨ι1,μ1,τ,xs,_,R1,S.ext E1,e2,fun ι2 H2 E2 R2 vs i2=>q ι2 H2 (E1.trans E2) R2 _ (.cons (i1.ext E2) i2)⟩⟩
def lim (n:Nat):M Unit:=fun μ=>if n <= sizeLine then some ((),μ) else none
theorem By {n:Nat} {μ μ1:Mh} {u:Unit} (h:lim n μ=some (u,μ1)):n <= sizeLine /\ μ1=μ:=by
  unfold lim at h
  split at h
  . rename_i hn; cases h; exact ⟨hn,rfl⟩
  . cases h
def A4 (ds:List D):M D:=bnd (lim ds.length) fun _=>ret (.tup ds)
def BN (ds:List D):M D:=bnd (lim ds.length) fun _=>ret (.lst ds)
def Ft (ds:List D):M D:=bnd (lim ds.length) fun _=>fun μ=>some (.ref μ.length,μ ++ [.lst ds])
def AG (f:List D->M D) (m:Sl->M (List D)):Sl->M D:=fun τ=>bnd (m τ) f
theorem JW {K:PySem.W.Frag} {ι:Nat->Addr} {μ μ':Mh} {H:Hp} {ds:List D} {vs:List V} {d:D} {Q:VK} (R:RelH K ι μ H) (i:IsL K ι μ.length H ds vs) (e:A4 ds μ=some (d,μ')) (q:Aft K ι μ H μ' fun ι' H'=>∀ v,Is K ι' μ'.length H' d v->Q v H') :
    vs.length <= sizeLine /\ ∀ p,H p=none->Q (.ref p) (upd H p (.tup vs)):=by
  obtain ⟨u,μ1,e1,e2⟩:=AE e
  clear e
  obtain ⟨hl,e3⟩:=By e1
  cases e2
  cases e3
  refine ⟨by rw [i.length]; exact hl,fun p hp=>?_⟩
  obtain ⟨E1,R1⟩:=R.laid (.tup vs) hp
  exact q ι _ E1 R1 _ (by unfold Is; exact ⟨p,vs,rfl,SqT.of A5,i.ext E1⟩)
theorem B6 {K:PySem.W.Frag} {ι:Nat->Addr} {μ μ':Mh} {H:Hp} {ds:List D} {vs:List V} {d:D} {Q:VK} (R:RelH K ι μ H) (i:IsL K ι μ.length H ds vs) (e:BN ds μ=some (d,μ')) (q:Aft K ι μ H μ' fun ι' H'=>∀ v,Is K ι' μ'.length H' d v->Q v H') :
    vs.length <= sizeLine /\ ∀ p,H p=none->Q (.ref p) (upd H p (.lst vs)):=by
  obtain ⟨u,μ1,e1,e2⟩:=AE e
  clear e
  obtain ⟨hl,e3⟩:=By e1
  cases e2
  cases e3
  refine ⟨by rw [i.length]; exact hl,fun p hp=>?_⟩
  obtain ⟨E1,R1⟩:=R.laid (.lst vs) hp
  have ho:∀ n,n < μ.length->ι n ≠ p:=fun n hn z=>by
    obtain ⟨o,e,_⟩:=R.muts n hn
    rw [z,hp] at e; cases e
  exact q ι _ E1 R1 _ (by unfold Is; exact ⟨p,vs,rfl,A5,ho,i.ext E1⟩)
theorem Nu {K:PySem.W.Frag} {ι:Nat->Addr} {μ μ':Mh} {H:Hp} {ds:List D} {vs:List V} {d:D} {Q:VK} (R:RelH K ι μ H) (i:IsL K ι μ.length H ds vs) (e:Ft ds μ=some (d,μ')) (q:Aft K ι μ H μ' fun ι' H'=>∀ v,Is K ι' μ'.length H' d v->Q v H') :
    vs.length <= sizeLine /\ ∀ p,H p=none->Q (.ref p) (upd H p (.lst vs)):=by
  obtain ⟨u,μ1,e1,e2⟩:=AE e
  clear e
  obtain ⟨hl,e3⟩:=By e1
  cases e2
  cases e3
  refine ⟨by rw [i.length]; exact hl,fun p hp=>?_⟩
  obtain ⟨ι',E1,R1,e0⟩:=R.grown (m:=.lst ds) hp ⟨vs,rfl,i⟩
  exact q ι' _ E1 R1 _ (by unfold Is; exact ⟨by simp,by rw [e0]⟩)
theorem DD {K:PySem.W.Frag} {f:List D->M D} {m:Sl->M (List D)} {σ:St} {H:Hp} {Q:VK} {R:List V->Hp->Prop} (h:tE K (AG f m) σ H Q)
    (hf:∀ ι μ μ' H ds vs d,RelH K ι μ H->IsL K ι μ.length H ds vs->f ds μ=some (d,μ')->(Aft K ι μ H μ' fun ι' H'=>∀ v,Is K ι' μ'.length H' d v->Q v H')->R vs H):tL K m σ H R:=by
  obtain ⟨ι,μ,τ,z,μ',S1,S,e,q⟩:=h
  obtain ⟨ds,μ1,e1,e⟩:=AE e
  exact ⟨ι,μ,τ,ds,μ1,S1,S,e1,fun ι1 H1 E1 R1 vs iv=>hf ι1 μ1 μ' H1 ds vs z R1 iv e fun ι2 H2 E2 R2=>q ι2 H2 (E1.trans E2) R2⟩
theorem Al {x1} {m:Sl->M (List D)} (h:RA X es m):RE X (.Tuple es x1 pos) (AG A4 m):=RE.wk (PD h.pe) fun _ _ _ q=>DD q fun _ _ _ _ _ _ _ R i e q=>JW R i e q
theorem B1 {m:Sl->M (List D)} (h:RA X es m):RE X (.List es pos) (AG BN m):=RE.wk (Ll h.pe) fun _ _ _ q=>DD q fun _ _ _ _ _ _ _ R i e q=>B6 R i e q
theorem Ek {m:Sl->M (List D)} (h:RA X es m):RE X (.List es pos) (AG Ft m):=RE.wk (Ll h.pe) fun _ _ _ q=>DD q fun _ _ _ _ _ _ _ R i e q=>Nu R i e q
theorem CJ {id:String} {x:Str} {g:List D->M D} {m:Sl->M (List D)} {p:Pos} (hc:B0 X (.builtin id) (rMA X.K g)) (hm:X.mg x=none) (hv:bootBuiltins x=some (.builtin id)) (ha:RA X (e :: es) m) (hg:Gl X x:=by rfl) (hn:x ≠ "__name__" := by decide) (hdb:(x == ("__debug__" : Str))=false:=by decide)
    (he:starEach (e :: es) X.env=(false,eval e X.env) :: starEach es X.env:=by exact Ai rfl) (hpl:(backTo pos (starEach es X.env)).any (·.1)=false:=by exact Bp rfl):RE X (.Call (.Name x p) (e :: es) [] pos) (AG g m):=
  RE.wk (HN hc hg hm hv ha.pe hn hdb he hpl) fun _ _ _ q=>DD q fun ι μ μ' H ds vs d R i e q=>⟨ι,μ,ds,d,μ',R,i,e,q⟩
theorem A6 {T:String} {x:Str} {g:List D->M D} {m:Sl->M (List D)} {p:Pos} (hc:B0 X (.type T) (rMA X.K g)) (hm:X.mg x=none) (hv:bootBuiltins x=some (.type T)) (ha:RA X (e :: es) m) (hg:Gl X x:=by rfl) (hn:x ≠ "__name__" := by decide) (hdb:(x == ("__debug__" : Str))=false:=by decide)
    (he:starEach (e :: es) X.env=(false,eval e X.env) :: starEach es X.env:=by exact Ai rfl) (hpl:(backTo pos (starEach es X.env)).any (·.1)=false:=by exact Bp rfl):RE X (.Call (.Name x p) (e :: es) [] pos) (AG g m):=
  RE.wk (DH hc hg hm hv ha.pe hn hdb he hpl) fun _ _ _ q=>DD q fun ι μ μ' H ds vs d R i e q=>⟨ι,μ,ds,d,μ',R,i,e,q⟩
def spM (K:PySem.W.Frag) (n:Nat) (φ:List D->M D):Sp:=fun vs H Q _=>vs.length=n /\ rMA K φ vs H Q
theorem NL {n k:Nat} {φ:List D->M D} {f:Addr} {fd:FuncData} {ps:List Str} {x:Str} {m:Sl->M (List D)} {p:Pos} (F:FnOk X.prog X.w X.K X.mg X.base CX0 k f fd ps (spM X.K n φ)) (hr:Room k X.A) (hm:X.mg x=some (.ref f)) (hk:PySem.W.keepIn X.K (.ref f)=true) (hb:Binds X.K fd ps [])
    (hφ:∀ ds μ r,φ ds μ=some r->ds.length=n) (ha:RA X (e :: es) m) (hg:Gl X x:=by rfl) (hdb:(x == ("__debug__" : Str))=false:=by decide) (he:starEach (e :: es) X.env=(false,eval e X.env) :: starEach es X.env:=by exact Ai rfl) (hpl:(backTo pos (starEach es X.env)).any (·.1)=false:=by exact Bp rfl) :
    RE X (.Call (.Name x p) (e :: es) [] pos) (AG φ m):=
  RE.wk (Nj F hr hg hm hk hb .nil Qk ha.pe hdb he hpl) fun _ _ _ q=>DD q fun ι μ μ' H ds vs d R i e q=>by
    rw [List.append_nil]
    exact ⟨by rw [i.length]; exact hφ ds μ _ e,ι,μ,ds,d,μ',R,i,e,q⟩
end
end Mi
namespace Mi
open PySem L2
section
variable {X:Cx} {e a b c tg iter:Expr} {es:List Expr} {pos:Pos} {st:Stmt} {rest body:List Stmt}
def BJ:Sl->M (Fl × Sl):=fun τ=>ret (.next,τ)
def AU (m1 m2:Sl->M (Fl × Sl)):Sl->M (Fl × Sl):=fun τ=>bnd (m1 τ) fun r=>match r.1 with
  | .next=>m2 r.2
  | f=>ret (f,r.2)
theorem Af:RSs X [] BJ:=RSs.wk NX fun Dn σ H h=>by
  obtain ⟨ι,μ,τ,f,τ',μ',R,S,e,q⟩:=h
  cases e
  exact q ι H R.ext0 R σ S
theorem AJ {m1 m2:Sl->M (Fl × Sl)} (h1:RS X st m1) (h2:RSs X rest m2):RSs X (st :: rest) (AU m1 m2):=RSs.wk (Lb h1.pe h2.pe) fun Dn σ H h=>by
  obtain ⟨ι,μ,τ,f,τ',μ',R,S,e,q⟩:=h
  obtain ⟨⟨f1,τ1⟩,μ1,e1,e⟩:=AE e
  refine ⟨ι,μ,τ,f1,τ1,μ1,R,S,e1,fun ι1 H1 E1 R1 σ1 S1=>?_⟩
  cases f1 with
  | next=>exact ⟨ι1,μ1,τ1,f,τ',μ',R1,S1,e,fun ι2 H2 E2 R2=>q ι2 H2 (E1.trans E2) R2⟩
  | brk=>cases e; exact q ι1 H1 E1 R1 σ1 S1
  | cont=>cases e; exact q ι1 H1 E1 R1 σ1 S1
  | rt d=>cases e; exact q ι1 H1 E1 R1 σ1 S1
theorem AM {m:Sl->M (Fl × Sl)} (h:RS X st m):RSs X [st] m:=⟨NW h.pe⟩
def Bw (m:Sl->M D):Sl->M (Fl × Sl):=fun τ=>bnd (m τ) fun _=>ret (.next,τ)
theorem Cm {m:Sl->M D} (h:RE X e m) (hs:swapsWith e none pos.line X.env=pure false:=by rfl):RS X (.Expr e pos) (Bw m):=RS.wk (NY h.pe hs) fun Dn σ H h=>by
  obtain ⟨ι,μ,τ,f,τ',μ',R,S,e,q⟩:=h
  obtain ⟨x,μ1,e1,e⟩:=AE e
  cases e
  exact ⟨ι,μ,_,x,_,R,S,e1,fun ι1 H1 E1 R1 v i1=>q ι1 H1 E1 R1 σ (S.ext E1)⟩
def An (m:Sl->M D):Sl->M (Fl × Sl):=fun τ=>bnd (m τ) fun d=>ret (.rt d,τ)
theorem AV {m:Sl->M D} (h:RE X e m):RS X (.Return (some e) pos) (An m):=RS.wk (O7 h.pe) fun Dn σ H h=>by
  obtain ⟨ι,μ,τ,f,τ',μ',R,S,e,q⟩:=h
  obtain ⟨x,μ1,e1,e⟩:=AE e
  cases e
  exact ⟨ι,μ,_,x,_,R,S,e1,fun ι1 H1 E1 R1 v i1=>q ι1 H1 E1 R1 σ (S.ext E1) v i1⟩
def sIf (mc:Sl->M Bool) (m1 m2:Sl->M (Fl × Sl)):Sl->M (Fl × Sl):=fun τ=>bnd (mc τ) fun x=>if x=true then m1 τ else m2 τ
theorem A2 {mc:Sl->M Bool} {m1 m2:Sl->M (Fl × Sl)} (hc:RT X c mc) (h1:RSs X body m1) (h2:RSs X rest m2):RS X (.If c body rest pos) (sIf mc m1 m2):=RS.wk (Qe hc.pe h1.pe h2.pe) fun Dn σ H h=>by
  obtain ⟨ι,μ,τ,f,τ',μ',R,S,e,q⟩:=h
  obtain ⟨x,μ1,e1,e⟩:=AE e
  refine ⟨ι,μ,τ,x,μ1,R,S,e1,fun ι1 H1 E1 R1=>?_⟩
  cases x with
  | true=>exact ⟨ι1,μ1,τ,f,τ',μ',R1,S.ext E1,e,fun ι2 H2 E2 R2=>q ι2 H2 (E1.trans E2) R2⟩
  | false=>exact ⟨ι1,μ1,τ,f,τ',μ',R1,S.ext E1,e,fun ι2 H2 E2 R2=>q ι2 H2 (E1.trans E2) R2⟩
def tG (K:PySem.W.Frag) (bf:D->Sl->M Sl):TG:=fun v σ H Q=>∃ ι μ τ d τ' μ',RelH K ι μ H /\ RelS K ι μ.length H τ σ /\ Is K ι μ.length H d v /\ bf d τ μ=some (τ',μ') /\
  Aft K ι μ H μ' fun ι' H'=>∀ σ',RelS K ι' μ'.length H' τ' σ'->Q σ' H'
structure RG (X:Cx) (tg:Expr) (bf:D->Sl->M Sl):Prop where
  pe:PG X tg (tG X.K bf)
theorem PG.wk {t t':TG} (h:PG X tg t) (w:∀ v σ H Q,t' v σ H Q->t v σ H Q):PG X tg t':=fun pins s σ H v u Q I r q=>h pins s σ H v u Q I r (w v σ H Q q)
theorem RG.wk {bf:D->Sl->M Sl} {t:TG} (h:PG X tg t) (w:∀ v σ H Q,tG X.K bf v σ H Q->t v σ H Q):RG X tg bf:=⟨PG.wk h w⟩
def AO (i:Nat):D->Sl->M Sl:=fun d τ=>ret (τ.set i (some d))
theorem JF {K:PySem.W.Frag} {i:Nat} {v:V} {σ:St} {H:Hp} {Q:St->Hp->Prop} (h:tG K (AO i) v σ H Q):DY i v σ H Q:=by
  obtain ⟨ι,μ,τ,d,τ',μ',R,S,i1,e,q⟩:=h
  cases e
  exact q ι H R.ext0 R _ (S.set i i1)
theorem Cn (i:Nat) {x:Str} (hN:X.N.Nodup) (hi:X.N[i]? = some x:=by rfl) (hx:Loc X.env.scope x:=by first | exact Or.inl rfl | exact Or.inr rfl) (hf:X.fn x=true ∨ X.env.scope.names.lookup x=some .local:=by first | exact .inl rfl | exact .inr rfl | assumption):RG X (.Name x pos) (AO i):=
  RG.wk (Ao hN hi hx hf) fun _ _ _ _ h=>JF h
def Dp:List Nat->List D->Sl->M Sl
  | [],[],τ=>ret τ
  | i :: is,d :: ds,τ=>bnd (AO i d τ) fun τ1=>Dp is ds τ1
  | _,_,_=>BE
def Ch (is:List Nat):D->Sl->M Sl
  | .tup ds,τ=>if ds.length=is.length then Dp is ds τ else BE
  | _,_=>BE
def Cq:List Nat->TGs
  | []=>Qy
  | i :: is=>Oa (DY i) (Cq is)
theorem EO {K:PySem.W.Frag}:∀ {is:List Nat} {ds:List D} {vs:List V} {τ τ':Sl} {σ:St} {ι:Nat->Addr} {μ μ':Mh} {H:Hp} {Q:St->Hp->Prop},RelH K ι μ H->RelS K ι μ.length H τ σ->IsL K ι μ.length H ds vs->Dp is ds τ μ=some (τ',μ')->
    (μ'=μ->∀ σ',RelS K ι μ.length H τ' σ'->Q σ' H)->Cq is vs σ H Q
  | [],[],_,_,_,_,_,_,_,_,_,R,S,i,e,q=>by
    cases e
    unfold IsL at i; subst i
    exact ⟨rfl,q rfl _ S⟩
  | _ :: is,_ :: ds,_,τ,τ',σ,ι,μ,μ',H,Q,R,S,i,e,q=>by
    unfold IsL at i
    obtain ⟨v,vs',rfl,i1,i2⟩:=i
    exact ⟨v,vs',rfl,EO (is:=is) (ds:=ds) R (S.set _ i1) i2 e q⟩
  | [],_ :: _,_,_,_,_,_,_,_,_,_,_,_,_,e,_=>by cases e
  | _ :: _,[],_,_,_,_,_,_,_,_,_,_,_,_,e,_=>by cases e
theorem GT:∀ {is:List Nat} {ds:List D} {τ τ':Sl} {μ μ':Mh},Dp is ds τ μ=some (τ',μ')->μ'=μ
  | [],[],_,_,_,_,e=>by cases e; rfl
  | _ :: is,_ :: ds,_,_,_,_,e=>GT (is:=is) (ds:=ds) e
  | [],_ :: _,_,_,_,_,e=>by cases e
  | _ :: _,[],_,_,_,_,e=>by cases e
theorem Gc {is:List Nat} {k:Nat} (hc:X.calm=true) (h:PGs X es (Cq is)) (hn:(assignEach es X.env).length=is.length:=by rfl) (hst:(assignEach es X.env).findIdx? (·.1)=none:=by rfl):RG X (.Tuple es k pos) (Ch is):=
  RG.wk (IV hc h hn hst) fun v σ H Q h=>by
    obtain ⟨ι,μ,τ,d,τ',μ',R,S,i1,e,q⟩:=h
    cases d with
    | tup ds=>
      unfold Is at i1
      obtain ⟨p,vs,rfl,h1,h2⟩:=i1
      have e':(if ds.length=is.length then Dp is ds τ else BE) μ=some (τ',μ'):=e
      by_cases hl:ds.length=is.length
      . rw [if_pos hl] at e'
        have e:=e'
        refine ⟨p,vs,rfl,h1,by rw [h2.length,hl],EO R S h2 e fun z σ' S'=>?_⟩
        subst z
        exact q ι H R.ext0 R σ' S'
      . rw [if_neg hl] at e'; cases e'
    | _=>cases e
def Ah (m:Sl->M D) (bf:D->Sl->M Sl):Sl->M (Fl × Sl):=fun τ=>bnd (m τ) fun d=>bnd (bf d τ) fun τ'=>ret (.next,τ')
theorem JE {K:PySem.W.Frag} {m:Sl->M D} {bf:D->Sl->M Sl} {g:TG} {Dn:Iw} {σ:St} {H:Hp} (hg:∀ v H Q,tG K bf v σ H Q->g v σ H Q) (h:tSt K (Ah m bf) Dn σ H):M5 (tE K m) g Dn σ H:=by
  obtain ⟨ι,μ,τ,f,τ',μ',R,S,e,q⟩:=h
  obtain ⟨x,μ1,e1,e⟩:=AE e
  obtain ⟨τ1,μ2,e2,e⟩:=AE e
  cases e
  exact ⟨ι,μ,τ,x,μ1,R,S,e1,fun ι1 H1 E1 R1 v i1=>hg _ _ _ ⟨ι1,μ1,τ,x,_,_,R1,S.ext E1,i1,e2,fun ι2 H2 E2 R2 σ' S'=>q ι2 H2 (E1.trans E2) R2 σ' S'⟩⟩
theorem AZ (i:Nat) {x:Str} {m:Sl->M D} {pos':Pos} (hN:X.N.Nodup) (he:RE X e m) (hi:X.N[i]? = some x:=by rfl) (hx:Loc X.env.scope x:=by first | exact Or.inl rfl | exact Or.inr rfl) (hs:swapsWith e (some (.Name x pos')) pos.line X.env=pure false:=by rfl) (hf:X.fn x=true ∨ X.env.scope.names.lookup x=some .local:=by first | exact .inl rfl | exact .inr rfl | assumption) :
    RS X (.Assign [.Name x pos'] e pos) (Ah m (AO i)):=RS.wk (O6 hN hi hx he.pe hs hf) fun _ _ _ h=>JE (fun _ _ _ q=>JF q) h
theorem Gb {m:Sl->M D} {bf:D->Sl->M Sl} (he:RE X e m) (hg:RG X tg bf) (hs:swapsWithSole [tg] e pos.line X.env=pure false:=by rfl) (hw:swappedStores [tg] e X.env=pure none:=by rfl)
    (h1:(assignEach [tg] X.env).map (·.2)=[assign tg X.env]:=by rfl):RS X (.Assign [tg] e pos) (Ah m bf):=RS.wk (O8 he.pe hg.pe hs hw h1) fun _ _ _ h=>JE (fun _ _ _ q=>q) h
def Et (mc:Sl->M Bool) (mb:Sl->M (Fl × Sl)):Nat->Sl->M (Fl × Sl)
  | 0,_=>BE
  | n + 1,τ=>bnd (mc τ) fun x=>if x=true then bnd (mb τ) fun r=>match r.1 with
      | .next=>Et mc mb n r.2
      | .cont=>Et mc mb n r.2
      | .brk=>ret (.next,r.2)
      | .rt d=>ret (.rt d,r.2)
    else ret (.next,τ)
def IK (n:Nat) (mc:Sl->M Bool) (mb:Sl->M (Fl × Sl)):Sl->M (Fl × Sl):=Et mc mb n
theorem LN (n:Nat) {mc:Sl->M Bool} {mb:Sl->M (Fl × Sl)} (hp:PassesOwn (model X.prog X.w) X.A X.env X.xe) (hc:RT X c mc) (hb:RSs X body mb):RS X (.While c body [] pos) (IK n mc mb):=RS.wk (Lc hp hc.pe hb.pe) fun Dn σ H h=>by
  refine ⟨fun n σ H=>tSt X.K (Et mc mb n) Dn σ H,⟨n,h⟩,?_⟩
  intro n σ H h
  obtain ⟨ι,μ,τ,f,τ',μ',R,S,e,q⟩:=h
  cases n with
  | zero=>cases e
  | succ n=>
    obtain ⟨x,μ1,e1,e⟩:=AE e
    refine ⟨ι,μ,τ,x,μ1,R,S,e1,fun ι1 H1 E1 R1=>?_⟩
    cases x with
    | false=>cases e; exact q ι1 H1 E1 R1 σ (S.ext E1)
    | true=>
      obtain ⟨⟨f2,τ2⟩,μ2,e2,e⟩:=AE e
      refine ⟨fun σ' H'=>tSt X.K (Et mc mb n) Dn σ' H',fun σ' H' z=>⟨n,Nat.lt_succ_self n,z⟩,?_⟩
      refine ⟨ι1,μ1,τ,f2,τ2,μ2,R1,S.ext E1,e2,fun ι2 H2 E2 R2 σ2 S2=>?_⟩
      have E12:=E1.trans E2
      cases f2 with
      | next=>exact ⟨ι2,μ2,τ2,f,τ',μ',R2,S2,e,fun ι3 H3 E3 R3=>q ι3 H3 (E12.trans E3) R3⟩
      | cont=>exact ⟨ι2,μ2,τ2,f,τ',μ',R2,S2,e,fun ι3 H3 E3 R3=>q ι3 H3 (E12.trans E3) R3⟩
      | brk=>cases e; exact q ι2 H2 E12 R2 σ2 S2
      | rt d=>cases e; exact q ι2 H2 E12 R2 σ2 S2
def ItM (K:PySem.W.Frag) (J:It) (ds:List D) (ι:Nat->Addr) (μ:Mh) (H:Hp):Prop:=∀ ι' (μ':Mh) H',Ext ι μ.length H ι' μ'.length H'->RelH K ι' μ' H'->
  (∀ i,i < ds.length->J.go i H') /\ J.stop ds.length H' /\ ∀ (i:Nat) x H2 d,ds[i]? = some d->J.yld i H' x H2->Ext ι' μ'.length H' ι' μ'.length H2 /\ RelH K ι' μ' H2 /\ Is K ι' μ'.length H2 d x
theorem ItM.ext {K:PySem.W.Frag} {J:It} {ds:List D} {ι ι':Nat->Addr} {μ μ':Mh} {H H':Hp} (h:ItM K J ds ι μ H) (E:Ext ι μ.length H ι' μ'.length H'):ItM K J ds ι' μ' H':=fun ι2 μ2 H2 E2 R2=>h ι2 μ2 H2 (E.trans E2) R2
def tI (K:PySem.W.Frag) (m:Sl->M (List D)):TI:=fun σ H R=>∃ ι μ τ ds μ',RelH K ι μ H /\ RelS K ι μ.length H τ σ /\ m τ μ=some (ds,μ') /\
  Aft K ι μ H μ' fun ι' H'=>∀ J,ItM K J ds ι' μ' H'->R J H'
structure RI (X:Cx) (tg iter:Expr) (m:Sl->M (List D)):Prop where
  pe:PI X tg iter (tI X.K m)
theorem PI.wk {t t':TI} (h:PI X tg iter t) (w:∀ σ H R,t' σ H R->t σ H R):PI X tg iter t':=fun pins s σ H R I q=>h pins s σ H R I (w σ H R q)
theorem RI.wk {m:Sl->M (List D)} {t:TI} (h:PI X tg iter t) (w:∀ σ H R,tI X.K m σ H R->t σ H R):RI X tg iter m:=⟨PI.wk h w⟩
theorem PI.or {t t':TI} (h:PI X tg iter t) (h':PI X tg iter t'):PI X tg iter (fun σ H R=>t σ H R ∨ t' σ H R):=fun pins s σ H R I q=>q.elim (h pins s σ H R I) (h' pins s σ H R I)
def Q4:D->M (List D)
  | .lst ds=>ret ds
  | .tup ds=>ret ds
  | .scr ns=>ret (ns.map D.int)
  | _=>BE
def Di (m:Sl->M D):Sl->M (List D):=fun τ=>bnd (m τ) Q4
theorem HV {K:PySem.W.Frag} {ι:Nat->Addr} {μ:Mh} {H:Hp} {p:Addr} {vs:List V} {ds:List D} (st:∀ ι' (μ':Mh) H',Ext ι μ.length H ι' μ'.length H'->RelH K ι' μ' H'->SqL K H' p vs) (i:IsL K ι μ.length H ds vs):ItM K (Itl K p) ds ι μ H:=by
  intro ι' μ' H' E R
  have h:=st ι' μ' H' E R
  have hl:=i.length
  refine ⟨fun j hj=>⟨vs,vs[j],h,by simp⟩,⟨vs,h,by omega⟩,fun j x H2 d hd y=>?_⟩
  obtain ⟨e,y⟩:=y
  subst e
  obtain ⟨v,ev,iv⟩:=(i.ext E).get hd
  have:=y vs h
  rw [ev] at this; cases this
  exact ⟨R.ext0,R,iv⟩
theorem N5 {K:PySem.W.Frag} {ι:Nat->Addr} {μ:Mh} {H:Hp} {p:Addr} {vs:List V} {ds:List D} (h:SqT K H p vs) (i:IsL K ι μ.length H ds vs):ItM K (Itt K p) ds ι μ H:=by
  intro ι' μ' H' E R
  have h:=GX E h
  have hl:=i.length
  refine ⟨fun j hj=>⟨vs,vs[j],h,by simp⟩,⟨vs,h,by omega⟩,fun j x H2 d hd y=>?_⟩
  obtain ⟨e,y⟩:=y
  subst e
  obtain ⟨v,ev,iv⟩:=(i.ext E).get hd
  have:=y vs h
  rw [ev] at this; cases this
  exact ⟨R.ext0,R,iv⟩
theorem NI {m:Sl->M D} {σ:St} {H:Hp} {R:It->Hp->Prop} {K:PySem.W.Frag} (q:tI K (Di m) σ H R):OY K (tE K m) σ H R ∨ Qw K (tE K m) σ H R:=by
  obtain ⟨ι,μ,τ,ds,μ',R0,S,e,q⟩:=q
  obtain ⟨x,μ1,e1,e⟩:=AE e
  cases x with
  | lst es=>
    cases e
    refine .inl ⟨ι,μ,τ,_,_,R0,S,e1,fun ι1 H1 E1 R1 v i1=>?_⟩
    unfold Is at i1
    obtain ⟨p,vs,rfl,h1,hn,h2⟩:=i1
    exact ⟨p,rfl,⟨vs,SqL.of h1⟩,q ι1 H1 E1 R1 _ (HV (fun ι' μ' H' E _=>SqL.of (E.keep p _ h1 hn)) h2)⟩
  | tup es=>
    cases e
    refine .inr ⟨ι,μ,τ,_,_,R0,S,e1,fun ι1 H1 E1 R1 v i1=>?_⟩
    unfold Is at i1
    obtain ⟨p,vs,rfl,h1,h2⟩:=i1
    exact ⟨p,rfl,⟨vs,h1⟩,q ι1 H1 E1 R1 _ (N5 h1 h2)⟩
  | scr ns=>
    cases e
    refine .inl ⟨ι,μ,τ,_,_,R0,S,e1,fun ι1 H1 E1 R1 v i1=>?_⟩
    unfold Is at i1
    obtain ⟨p,rfl,h1⟩:=i1
    exact ⟨p,rfl,⟨_,h1.sq⟩,q ι1 H1 E1 R1 _ (HV (fun ι' μ' H' E _=>(JL E h1).sq) (IsL.ofInts ns))⟩
  | non=>cases e
  | bl _=>cases e
  | int _=>cases e
  | str _=>cases e
  | ty _=>cases e
  | ref _=>cases e
theorem Dc {m:Sl->M D} (h:RE X e m):RI X tg e (Di m):=RI.wk (PI.or (Gi h.pe) (O9 h.pe)) fun _ _ _ q=>NI q
def IN (lo hi:Int):List D:=(List.range (hi - lo).toNat).map fun (j:Nat)=>D.int (lo + (j:Int))
def JN:List D->M (List D)
  | [.int j]=>fun μ=>if -(2 ^ 62) <= j /\ j < 2 ^ 62 then some (IN 0 j,μ) else none
  | _=>BE
def DW (m:Sl->M (List D)):Sl->M (List D):=fun τ=>bnd (m τ) JN
theorem N6 {K:PySem.W.Frag} {ι:Nat->Addr} {μ:Mh} {H:Hp} {lo hi:Int}:ItM K (Itr lo (hi - lo).toNat) (IN lo hi) ι μ H:=by
  intro ι' μ' H' E R
  have hl:(IN lo hi).length=(hi - lo).toNat:=by simp [IN]
  rw [hl]
  refine ⟨fun j hj=>hj,Nat.le_refl _,fun j x H2 d hd y=>?_⟩
  obtain ⟨e,y⟩:=y
  subst e
  unfold IN at hd
  rw [List.getElem?_map] at hd
  cases q:(List.range (hi - lo).toNat)[j]? with
  | none=>rw [q] at hd; cases hd
  | some z=>
    rw [q] at hd
    have hz:z=j:=by
      have:=(List.getElem?_eq_some_iff.mp q).2
      simpa using this.symm
    subst hz
    cases hd
    exact ⟨R.ext0,R,by unfold Is; exact y⟩
theorem DF {a:Expr} {m:Sl->M (List D)} {p:Pos} (hm:X.mg "range" = none) (ha:RA X [a] m) (hg:Gl X "range" := by rfl) (hs:starEach [a] X.env=[(false,eval a X.env)]:=by rfl):RI X tg (.Call (.Name "range" p) [a] [] pos) (DW m):=
  RI.wk (KQ hg hm ha.pe hs) fun σ H R q=>by
    obtain ⟨ι,μ,τ,ds,μ',R0,S,e,q⟩:=q
    obtain ⟨xs,μ1,e1,e⟩:=AE e
    refine ⟨ι,μ,τ,xs,μ1,R0,S,e1,fun ι1 H1 E1 R1 vs i1=>?_⟩
    unfold JN at e
    split at e
    . rename_i j
      split at e
      . rename_i hb
        cases e
        unfold IsL Is at i1
        obtain ⟨v,vs',rfl,rfl,i2⟩:=i1
        unfold IsL at i2
        subst i2
        refine ⟨j,rfl,hb.1,hb.2,q ι1 H1 E1 R1 _ ?_⟩
        have:=N6 (K:=X.K) (ι:=ι1) (μ:=μ') (H:=H1) (lo:=0) (hi:=j)
        rw [Int.sub_zero] at this
        exact this
      . cases e
    . cases e
def Cd (bf:D->Sl->M Sl) (mb:Sl->M (Fl × Sl)):List D->Sl->M (Fl × Sl)
  | [],τ=>ret (.next,τ)
  | x :: xs,τ=>bnd (bf x τ) fun τ1=>bnd (mb τ1) fun r=>match r.1 with
    | .next=>Cd bf mb xs r.2
    | .cont=>Cd bf mb xs r.2
    | .brk=>ret (.next,r.2)
    | .rt d=>ret (.rt d,r.2)
def EB (src:Sl->M (List D)) (bf:D->Sl->M Sl) (mb:Sl->M (Fl × Sl)):Sl->M (Fl × Sl):=fun τ=>bnd (src τ) fun ds=>Cd bf mb ds τ
theorem Cy {src:Sl->M (List D)} {bf:D->Sl->M Sl} {mb:Sl->M (Fl × Sl)} (hp:PassesOwn (model X.prog X.w) X.A X.env X.xe) (hc:X.calm=true) (hi:RI X tg iter src) (hg:RG X tg bf) (hb:RSs X body mb)
    (hs:∀ x,foldedSetIterable iter X.env x=pure x:=by intro _; rfl):RS X (.For tg iter body [] pos) (EB src bf mb):=RS.wk (Ld hp hc hi.pe hg.pe hb.pe hs) fun Dn σ H h=>by
  obtain ⟨ι,μ,τ,f,τ',μ',R,S,e,q⟩:=h
  obtain ⟨ds,μ1,e1,e⟩:=AE e
  refine ⟨ι,μ,τ,ds,μ1,R,S,e1,fun ι1 H1 E1 R1 J it=>?_⟩
  let W:Nat->Nat->St->Hp->Prop:=fun i m σ H=>m=ds.length - i /\ i <= ds.length /\ ∃ ι μ τ f τ' μ',RelH X.K ι μ H /\ RelS X.K ι μ.length H τ σ /\ ItM X.K J ds ι μ H /\ Cd bf mb (ds.drop i) τ μ=some ((f,τ'),μ') /\
    Aft X.K ι μ H μ' fun ι' H'=>∀ σ',RelS X.K ι' μ'.length H' τ' σ'->FlP X.K Dn ι' μ'.length H' τ' σ' f
  refine ⟨W,⟨ds.length,by simp,Nat.zero_le _,ι1,μ1,τ,f,τ',μ',R1,S.ext E1,it,e,fun ι2 H2 E2 R2=>q ι2 H2 (E1.trans E2) R2⟩,?_⟩
  rintro i m σ H ⟨hm,hil,ι,μ,τ,f,τ',μ',R,S,it,e,q⟩
  obtain ⟨go,stop,yl⟩:=it ι μ H R.ext0 R
  by_cases hlt:i < ds.length
  . refine .inr ⟨go i hlt,fun σ' H'=>W (i + 1) (ds.length - (i + 1)) σ' H',fun σ' H' z=>⟨_,by omega,z⟩,fun x H2 y=>?_⟩
    have hd:ds[i]? = some ds[i]:=by simp [hlt]
    obtain ⟨E2,R2,ix⟩:=yl i x H2 _ hd y
    rw [List.drop_eq_getElem_cons hlt] at e
    obtain ⟨τ1,μ1,e1,e⟩:=AE e
    obtain ⟨⟨f2,τ2⟩,μ2,e2,e⟩:=AE e
    refine ⟨ι,μ,τ,_,τ1,μ1,R2,S.ext E2,ix,e1,fun ι3 H3 E3 R3 σ3 S3=>?_⟩
    refine ⟨ι3,μ1,τ1,f2,τ2,μ2,R3,S3,e2,fun ι4 H4 E4 R4 σ4 S4=>?_⟩
    have E14:=(E2.trans E3).trans E4
    cases f2 with
    | next=>exact ⟨rfl,hlt,ι4,μ2,τ2,f,τ',μ',R4,S4,it.ext E14,e,fun ι5 H5 E5 R5=>q ι5 H5 (E14.trans E5) R5⟩
    | cont=>exact ⟨rfl,hlt,ι4,μ2,τ2,f,τ',μ',R4,S4,it.ext E14,e,fun ι5 H5 E5 R5=>q ι5 H5 (E14.trans E5) R5⟩
    | brk=>cases e; exact q ι4 H4 E14 R4 σ4 S4
    | rt d=>cases e; exact q ι4 H4 E14 R4 σ4 S4
  . have hi':i=ds.length:=by omega
    subst hi'
    rw [List.drop_length] at e
    cases e
    exact .inl ⟨stop,q ι H R.ext0 R σ S⟩
end
end Mi
namespace Mi
open PySem L2
section
variable {X:Cx} {scope:Scope} {tgs:List Str} {ix:List Nat} {elt tg iter:Expr} {pos:Pos}
def Lh (ix:List Nat) (τ:Sl):Sl:=ix.map fun j=>(τ[j]?).getD none
def Bg (n:Nat) (ix:List Nat) (τ:Sl):Sl:=List.replicate n none ++ Lh ix τ
def Br (bf:D->Sl->M Sl) (mc:Sl->M Bool) (me:Sl->M D) (τ0:Sl):List D->List D->M (List D)
  | [],ys=>ret ys
  | x :: xs,ys=>bnd (bf x τ0) fun τ1=>bnd (mc τ1) fun c=>if c=true then bnd (me τ1) fun y=>Br bf mc me τ0 xs (ys ++ [y]) else Br bf mc me τ0 xs ys
def Bn (n:Nat) (ix:List Nat) (src:Sl->M (List D)) (bf:D->Sl->M Sl) (mc:Sl->M Bool) (me:Sl->M D) (fin:List D->M D):Sl->M D:=fun τ=>bnd (src τ) fun ds=>bnd (lim ds.length) fun _=>bnd (Br bf mc me (Bg n ix τ) ds []) fin
def DV:Sl->M Bool:=fun _=>ret true
theorem RelS.block {K:PySem.W.Frag} {ι:Nat->Addr} {k:Nat} {H:Hp} {τ:Sl} {σ:St} (S:RelS K ι k H τ σ):RelS K ι k H (Bg tgs.length ix τ) (BZ tgs ix σ):=by
  refine ⟨by simp [Bg,BZ,Lh,F7],fun i d e=>?_⟩
  unfold Bg at e
  have hk:tgs.length <= i:=by
    rcases Nat.lt_or_ge i tgs.length with z | z
    . rw [List.getElem?_append_left (by simpa using z),List.getElem?_replicate,if_pos z] at e
      cases e
    . exact z
  rw [List.getElem?_append_right (by simpa using hk),List.length_replicate] at e
  unfold Lh at e
  rw [List.getElem?_map] at e
  cases q:ix[i - tgs.length]? with
  | none=>rw [q] at e; cases e
  | some j=>
    rw [q] at e
    have e':(τ[j]?).getD none=some d:=Option.some.inj e
    cases q2:τ[j]? with
    | none=>rw [q2] at e'; cases e'
    | some o=>
      rw [q2] at e'
      have e'':o=some d:=e'
      subst e''
      obtain ⟨v,ev,iv⟩:=S.get j d q2
      refine ⟨v,?_,iv⟩
      unfold BZ
      rw [List.getElem?_append_right (by simpa using hk),List.length_replicate]
      unfold F7
      rw [List.getElem?_map,q,Option.map_some,ev]
      rfl
theorem JH {K:PySem.W.Frag} {n:Nat} {src:Sl->M (List D)} {i:Nat} {mc:Sl->M Bool} {me:Sl->M D} {fin:List D->M D} {σ:St} {H:Hp} {Q:VK} (hn:tgs.length=n) (hf:∀ ι μ μ' H ds vs d (Q:VK),RelH K ι μ H->IsL K ι μ.length H ds vs->fin ds μ=some (d,μ')->(Aft K ι μ H μ' fun ι' H'=>∀ v,Is K ι' μ'.length H' d v->Q v H')->
      vs.length <= sizeLine /\ ∀ p,H p=none->Q (.ref p) (upd H p (.lst vs)))
    (h:tE K (Bn n ix src (AO i) mc me fin) σ H Q):F0 tgs ix (tI K src) (DY i) (tT K mc) (tE K me) σ H Q:=by
  subst hn
  obtain ⟨ι,μ,τ,d,μ',R,S,e,q⟩:=h
  obtain ⟨ds,μ1,e1,e5⟩:=AE e
  obtain ⟨u,μ2,e2,e6⟩:=AE e5
  obtain ⟨zs,μ3,e3,e7⟩:=AE e6
  obtain ⟨hl,e4⟩:=By e2
  clear e e5 e6
  subst e4
  refine ⟨ι,μ,τ,ds,_,R,S,e1,fun ι1 H1 E1 R1 J it=>?_⟩
  refine ⟨fun i' m ys H=>m=ds.length - i' /\ i' <= ds.length /\ ys.length <= i' /\ ∃ (ι:Nat->Addr) (μ:Mh) (as:List D),RelH K ι μ H /\ RelS K ι μ.length H τ σ /\ ItM K J ds ι μ H /\ IsL K ι μ.length H as ys /\ Br (AO i) mc me (Bg tgs.length ix τ) (ds.drop i') as μ=some (zs,μ3) /\
    Aft K ι μ H μ' fun ι' H'=>∀ v,Is K ι' μ'.length H' d v->Q v H',⟨ds.length,by simp,Nat.zero_le _,Nat.le_refl _,ι1,_,[],R1,S.ext E1,it,.nil,e3,fun ι2 H2 E2 R2=>q ι2 H2 (E1.trans E2) R2⟩,?_⟩
  rintro i' m ys H ⟨hm,hil,hyl,ι,μ,as,R,S,it,ia,e3,q⟩
  obtain ⟨go,stop,yl⟩:=it ι μ H R.ext0 R
  by_cases hlt:i' < ds.length
  . refine .inr ⟨go i' hlt,by omega,fun ys' H'=>ys'.length <= i' + 1 /\ ∃ (ι:Nat->Addr) (μ:Mh) (as:List D),RelH K ι μ H' /\ RelS K ι μ.length H' τ σ /\ ItM K J ds ι μ H' /\ IsL K ι μ.length H' as ys' /\ Br (AO i) mc me (Bg tgs.length ix τ) (ds.drop (i' + 1)) as μ=some (zs,μ3) /\
      Aft K ι μ H' μ' fun ι' H'=>∀ v,Is K ι' μ'.length H' d v->Q v H',fun ys' H' z=>⟨_,(by omega:ds.length - (i' + 1) < m),rfl,hlt,z⟩,fun x H2 y=>?_⟩
    have hd:ds[i']? = some ds[i']:=by simp [hlt]
    obtain ⟨E2,R2,ix2⟩:=yl i' x H2 _ hd y
    rw [List.drop_eq_getElem_cons hlt] at e3
    obtain ⟨τ1,μ1,e1,e3⟩:=AE e3
    cases e1
    obtain ⟨cc,μ2,e2,e3⟩:=AE e3
    have S2:=(S.ext E2).block (tgs:=tgs) (ix:=ix)
    show tT K mc _ H2 _
    refine ⟨ι,_,_,cc,μ2,R2,S2.set i ix2,e2,fun ι3 H3 E3 R3=>?_⟩
    have E13:=E2.trans E3
    cases cc with
    | false=>
      exact ⟨by omega,ι3,μ2,as,R3,S.ext E13,it.ext E13,ia.ext E13,e3,fun ι5 H5 E5 R5=>q ι5 H5 (E13.trans E5) R5⟩
    | true=>
      obtain ⟨y',μ4,e4,e3⟩:=AE e3
      refine ⟨ι3,μ2,_,y',μ4,R3,(S2.set i ix2).ext E3,e4,fun ι4 H4 E4 R4 v iv=>?_⟩
      have E14:=E13.trans E4
      exact ⟨by simp; omega,ι4,μ4,as ++ [y'],R4,S.ext E14,it.ext E14,(ia.ext E14).append (.one iv),e3,fun ι5 H5 E5 R5=>q ι5 H5 (E14.trans E5) R5⟩
  . have hi':i'=ds.length:=by omega
    subst hi'
    rw [List.drop_length] at e3
    cases e3
    obtain ⟨z1,z2⟩:=hf ι _ μ' H _ ys d Q R ia e7 q
    exact .inl ⟨stop,z1,z2⟩
theorem Gd {n:Nat} {ifs:List Expr} {src:Sl->M (List D)} {i:Nat} {mc:Sl->M Bool} {me:Sl->M D} (S:BScope X scope tgs ix) (hc:X.calm=true) (hi:RI X tg iter src) (hg:∀ fp C s H,PG (cxB X scope tgs fp C s H) tg (DY i)) (hif:∀ fp C s H,Iu (cxB X scope tgs fp C s H) ifs (tT X.K mc)) (he:∀ fp C s H,RE (cxB X scope tgs fp C s H) elt me)
    (hin:i < tgs.length:=by decide) (hn:tgs.length=n:=by rfl) (hs:∀ x,foldedSetIterable iter X.env x=pure x:=by intro _; rfl) (ht:∀ o v,letOwnedTupleGo tg o v=pure ():=by intro _ _; rfl):RE X (.ListComp elt [⟨tg,iter,ifs,0⟩] scope pos) (Bn n ix src (AO i) mc me BN):=
  RE.wk (Nh (te:=tE X.K me) S hc hi.pe hg (Jp hin) hif (fun fp C s H=>(he fp C s H).pe) hs ht) fun _ _ _ h=>JH hn (fun _ _ _ _ _ _ _ _ R i e q=>B6 R i e q) h
theorem Cz {K:PySem.W.Frag}:Iu X [] (tT K DV):=fun pins s σ H Q I h=>by
  obtain ⟨ι,μ,τ,b,μ',R,S,e,q⟩:=h
  cases e
  exact Lf pins s σ H Q I (q ι H R.ext0 R)
theorem E7 (k:Nat) {n:Nat} {y:Str} {py spos:Pos} {ifs:List Expr} {src:Sl->M (List D)} {i:Nat} {mc:Sl->M Bool} {me:Sl->M D} {fin:List D->M D} (hN:X.N.Nodup) (S:BScope X scope tgs ix) (hc:X.calm=true) (hi:RI X tg iter src) (hg:∀ fp C s H,PG (cxB X scope tgs fp C s H) tg (DY i)) (hif:∀ fp C s H,Iu (cxB X scope tgs fp C s H) ifs (tT X.K mc)) (he:∀ fp C s H,RE (cxB X scope tgs fp C s H) elt me)
    (hfin:∀ ι μ μ' H ds vs d (Q:VK),RelH X.K ι μ H->IsL X.K ι μ.length H ds vs->fin ds μ=some (d,μ')->(Aft X.K ι μ H μ' fun ι' H'=>∀ v,Is X.K ι' μ'.length H' d v->Q v H')->vs.length <= sizeLine /\ ∀ p,H p=none->Q (.ref p) (upd H p (.lst vs)))
    (hiN:X.N[k]? = some y:=by rfl) (hy:X.env.scope.names.lookup y=some .local:=by rfl) (hin:i < tgs.length:=by decide) (hn:tgs.length=n:=by rfl)
    (hsw:swapsWith (.ListComp elt [⟨tg,iter,ifs,0⟩] scope pos) (some (.Name y py)) spos.line X.env=pure true:=by rfl) (hs:∀ x,foldedSetIterable iter X.env x=pure x:=by intro _; rfl) (ht:∀ o v,letOwnedTupleGo tg o v=pure ():=by intro _ _; rfl) :
    RS X (.Assign [.Name y py] (.ListComp elt [⟨tg,iter,ifs,0⟩] scope pos) spos) (Ah (Bn n ix src (AO i) mc me fin) (AO k)):=
  RS.wk (IT (te:=tE X.K me) hN hiN hy S hc hi.pe hg (Jp hin) hif (fun fp C s H=>(he fp C s H).pe) hsw hs ht) fun Dn σ H h=>by
    obtain ⟨ι,μ,τ,f,τ',μ',R,S,e,q⟩:=h
    obtain ⟨x,μ1,e1,e⟩:=AE e
    obtain ⟨τ1,μ2,e2,e⟩:=AE e
    cases e2
    cases e
    refine JH hn hfin ⟨ι,μ,τ,x,_,R,S,e1,fun ι1 H1 E1 R1 v i1=>?_⟩
    exact q ι1 H1 E1 R1 _ ((S.ext E1).set k i1)
mutual
def Cl (k:Nat):D->Prop
  | .tup ds=>ClL k ds
  | .lst ds=>ClL k ds
  | .ref n=>n < k
  | _=>True
def ClL (k:Nat):List D->Prop
  | []=>True
  | d :: ds=>Cl k d /\ ClL k ds
end
def ClO (k:Nat):MO->Prop
  | .lst ds=>ClL k ds
  | .dK l=>ClL k (l.map (·.2))
section
variable {K:PySem.W.Frag} {ι:Nat->Addr} {k k':Nat} {H:Hp}
mutual
theorem Is.down (hk:k <= k'):∀ {d:D} {v:V},Cl k d->Is K ι k' H d v->Is K ι k H d v
  | .non,_,_,h=>by unfold Is at h ⊢; exact h
  | .bl _,_,_,h=>by unfold Is at h ⊢; exact h
  | .int _,_,_,h=>by unfold Is at h ⊢; exact h
  | .str _,_,_,h=>by unfold Is at h ⊢; exact h
  | .ty _,_,_,h=>by unfold Is at h ⊢; exact h
  | .scr _,_,_,h=>by unfold Is at h ⊢; exact h
  | .tup ds,_,c,h=>by
    unfold Is at h ⊢
    obtain ⟨p,vs,e,h1,h2⟩:=h
    exact ⟨p,vs,e,h1,IsL.down hk (by unfold Cl at c; exact c) h2⟩
  | .lst ds,_,c,h=>by
    unfold Is at h ⊢
    obtain ⟨p,vs,e,h1,hn,h2⟩:=h
    exact ⟨p,vs,e,h1,fun n z=>hn n (Nat.lt_of_lt_of_le z hk),IsL.down hk (by unfold Cl at c; exact c) h2⟩
  | .ref n,_,c,h=>by
    unfold Is at h ⊢
    exact ⟨by unfold Cl at c; exact c,h.2⟩
theorem IsL.down (hk:k <= k'):∀ {ds:List D} {vs:List V},ClL k ds->IsL K ι k' H ds vs->IsL K ι k H ds vs
  | [],_,_,h=>by unfold IsL at h ⊢; exact h
  | _ :: _,_,c,h=>by
    unfold IsL at h ⊢
    unfold ClL at c
    obtain ⟨v,vs',e,h1,h2⟩:=h
    exact ⟨v,vs',e,Is.down hk c.1 h1,IsL.down hk c.2 h2⟩
end
mutual
theorem Is.cl:∀ {d:D} {v:V},Is K ι k H d v->Cl k d
  | .non,_,_=>by unfold Cl; trivial
  | .bl _,_,_=>by unfold Cl; trivial
  | .int _,_,_=>by unfold Cl; trivial
  | .str _,_,_=>by unfold Cl; trivial
  | .ty _,_,_=>by unfold Cl; trivial
  | .scr _,_,_=>by unfold Cl; trivial
  | .tup ds,_,h=>by
    unfold Is at h; unfold Cl
    obtain ⟨p,vs,e,h1,h2⟩:=h
    exact IsL.cl h2
  | .lst ds,_,h=>by
    unfold Is at h; unfold Cl
    obtain ⟨p,vs,e,h1,hn,h2⟩:=h
    exact IsL.cl h2
  | .ref n,_,h=>by
    unfold Is at h; unfold Cl
    exact h.1
theorem IsL.cl:∀ {ds:List D} {vs:List V},IsL K ι k H ds vs->ClL k ds
  | [],_,_=>by unfold ClL; trivial
  | _ :: _,_,h=>by
    unfold IsL at h; unfold ClL
    obtain ⟨v,vs',e,h1,h2⟩:=h
    exact ⟨Is.cl h1,IsL.cl h2⟩
end
theorem KVs.cl:∀ {l:List (Key × D)} {r:List (Key × V)},KVs K ι k H l r->ClL k (l.map (·.2))
  | [],_,_=>by unfold List.map ClL; trivial
  | (_,_) :: _,_,h=>by
    obtain ⟨v,r',e,h1,h2⟩:=h
    rw [List.map_cons]
    unfold ClL
    exact ⟨h1.cl,KVs.cl h2⟩
theorem KVs.down (hk:k <= k'):∀ {l:List (Key × D)} {r:List (Key × V)},ClL k (l.map (·.2))->KVs K ι k' H l r->KVs K ι k H l r
  | [],_,_,h=>h
  | (_,_) :: _,_,c,h=>by
    rw [List.map_cons] at c
    unfold ClL at c
    obtain ⟨v,r',e,h1,h2⟩:=h
    exact ⟨v,r',e,h1.down hk c.1,KVs.down hk c.2 h2⟩
theorem ObjIs.cl {o:MO} {u:HO} (h:ObjIs K ι k H o u):ClO k o:=by
  cases o with
  | lst ds=>obtain ⟨vs,_,h⟩:=h; exact h.cl
  | dK l=>obtain ⟨r,_,h⟩:=h; exact h.cl
theorem ObjIs.down (hk:k <= k') {o:MO} {u:HO} (c:ClO k o) (h:ObjIs K ι k' H o u):ObjIs K ι k H o u:=by
  cases o with
  | lst ds=>obtain ⟨vs,e,h⟩:=h; exact ⟨vs,e,h.down hk c⟩
  | dK l=>obtain ⟨r,e,h⟩:=h; exact ⟨r,e,h.down hk c⟩
end
def Rm (μ2 μ':Mh) (d' d:D):Prop:=(d'=d /\ Cl μ'.length d) ∨ ∃ n ds,d'=.ref n /\ μ2[n]? = some (.lst ds) /\ μ'.length <= n /\ d=.lst ds /\ ClL μ'.length ds
structure Fk (μ μ2 μ':Mh) (d' d:D):Prop where
  grow:∃ g,μ2=μ' ++ g
  le:μ.length <= μ'.length
  old:∀ (n:Nat) (o:MO),μ'[n]? = some o->μ[n]? = some o ∨ ClO μ'.length o
  conv:Rm μ2 μ' d' d
def Fp:Fl->D
  | .rt d=>d
  | _=>.non
theorem K8 {K:PySem.W.Frag} {ι ι2:Nat->Addr} {μ μ2 μ':Mh} {H H2:Hp} {d' d:D} (R:RelH K ι μ H) (E:Ext ι μ.length H ι2 μ2.length H2) (R2:RelH K ι2 μ2 H2) (t:Fk μ μ2 μ' d' d) :
    Ext ι μ.length H ι2 μ'.length H2 /\ RelH K ι2 μ' H2 /\ ∀ v,Is K ι2 μ2.length H2 d' v->Is K ι2 μ'.length H2 d v:=by
  obtain ⟨⟨g,hg⟩,le,old,conv⟩:=t
  have hle:μ'.length <= μ2.length:=by rw [hg]; simp
  have hget:∀ (n:Nat) (o:MO),μ'[n]? = some o->μ2[n]? = some o:=fun n o e=>by
    rw [hg,List.getElem?_append_left (List.getElem?_eq_some_iff.mp e).1]; exact e
  refine ⟨⟨le,E.agree,fun n h1 h2=>E.fresh n h1 (Nat.lt_of_lt_of_le h2 hle),E.keep,E.was,E.there⟩,⟨fun i j hi hj=>R2.inj i j (Nat.lt_of_lt_of_le hi hle) (Nat.lt_of_lt_of_le hj hle),fun n o e=>?_⟩,fun v iv=>?_⟩
  . obtain ⟨u,q,hq⟩:=R2.obj n o (hget n o e)
    refine ⟨u,q,hq.down hle ?_⟩
    rcases old n o e with z | z
    . obtain ⟨u0,_,h0⟩:=R.obj n o z
      have c:=h0.cl
      cases o with
      | lst ds=>exact clL_mono le c
      | dK l=>exact clL_mono le c
    . exact z
  . rcases conv with ⟨rfl,c⟩ | ⟨n,ds,rfl,hn,hle2,rfl,c⟩
    . exact iv.down hle c
    . obtain ⟨u,q,vs,rfl,il⟩:=R2.obj n _ hn
      have hn2:n < μ2.length:=(List.getElem?_eq_some_iff.mp hn).1
      unfold Is at iv ⊢
      refine ⟨ι2 n,vs,iv.2,q,fun m hm z=>?_,il.down hle c⟩
      have:=R2.inj m n (Nat.lt_of_lt_of_le hm hle) hn2 z
      omega
where
  cl_mono {k k':Nat} (h:k <= k'):∀ {d:D},Cl k d->Cl k' d
    | .non,_=>by unfold Cl; trivial
    | .bl _,_=>by unfold Cl; trivial
    | .int _,_=>by unfold Cl; trivial
    | .str _,_=>by unfold Cl; trivial
    | .ty _,_=>by unfold Cl; trivial
    | .scr _,_=>by unfold Cl; trivial
    | .tup ds,c=>by unfold Cl at c ⊢; exact clL_mono h c
    | .lst ds,c=>by unfold Cl at c ⊢; exact clL_mono h c
    | .ref n,c=>by unfold Cl at c ⊢; exact Nat.lt_of_lt_of_le c h
  clL_mono {k k':Nat} (h:k <= k'):∀ {ds:List D},ClL k ds->ClL k' ds
    | [],_=>by unfold ClL; trivial
    | _ :: _,c=>by unfold ClL at c ⊢; exact ⟨cl_mono h c.1,clL_mono h c.2⟩
def Bo (n:Nat) (ds:List D):Sl:=ds.map some ++ List.replicate (n - ds.length) none
theorem RelS.start {K:PySem.W.Frag} {ι:Nat->Addr} {k:Nat} {H:Hp} {N:List Str} {ds:List D} {vs:List V} (i:IsL K ι k H ds vs):RelS K ι k H (Bo N.length ds) (L2.start N vs):=by
  have hl:=i.length
  refine ⟨by simp [Bo,L2.start,hl],fun j d e=>?_⟩
  unfold Bo at e
  unfold L2.start
  rcases Nat.lt_or_ge j ds.length with z | z
  . rw [List.getElem?_append_left (by simpa using z),List.getElem?_map] at e
    rw [List.getElem?_append_left (by simpa [hl] using z),List.getElem?_map]
    cases q:ds[j]? with
    | none=>rw [q] at e; cases e
    | some d0=>
      rw [q] at e
      cases e
      obtain ⟨v,ev,iv⟩:=i.get q
      exact ⟨v,by rw [ev]; rfl,iv⟩
  . rw [List.getElem?_append_right (by simpa using z),List.getElem?_replicate] at e
    split at e <;> cases e
theorem GG {P:Program} {w:World} {K:PySem.W.Frag} {mg:Str->Option Value} {base:Heap} {x qual:Str} {st:Stmt} {f:Addr} {fd:FuncData} {N ps:List Str} {k n:Nat} {φ:List D->M D} {mb:Sl->M (Fl × Sl)} (F:Fun K x qual st f fd) (S:Ad N ps (AF st)) (hn:ps.length=n:=by rfl)
    (body:∀ (cdv:Value) (A:Around) (outer:List Env) (s:Shared) (H:Hp) (E:XK),Room k (A.deeper (PyProof.Rows.envOfC qual (AF st) s.heap.objs.size f cdv))->RSs (Bl CX0 P w K mg base N qual (AF st) f cdv A outer s H E).nox (AX st) mb)
    (run:∀ ds μ d μ',φ ds μ=some (d,μ')->∃ fl τ2 μ2,mb (Bo N.length ds) μ=some ((fl,τ2),μ2) /\ (fl=.next ∨ ∃ d,fl=.rt d) /\ Fk μ μ2 μ' (Fp fl) d):FnOk P w K mg base CX0 (k + 1) f fd ps (spM K n φ):=by
  refine F.ok S (fun vs H Q E h=>by rw [hn]; exact h.1) (fun cdv A outer s H vs Q E hr h=>⟨_,(body cdv A outer s H E hr).pe,?_⟩)
  obtain ⟨hl,ι,μ,ds,d,μ',R,i,e,q⟩:=h
  obtain ⟨fl,τ2,μ2,e2,hfl,t⟩:=run ds μ d μ' e
  refine ⟨ι,μ,_,fl,τ2,μ2,R,RelS.start i,e2,fun ι2 H2 E2 R2 σ2 S2=>?_⟩
  obtain ⟨E3,R3,c⟩:=K8 R E2 R2 t
  rcases hfl with rfl | ⟨d0,rfl⟩
  . exact q ι2 H2 E3 R3 _ (c _ (by unfold Fp Is; rfl))
  . exact fun v iv=>q ι2 H2 E3 R3 v (c v iv)
end
end Mi
namespace Mi
open PySem L2
def Bf:D->M (List D)
  | .lst ds=>ret ds
  | .scr ns=>ret (ns.map D.int)
  | .ref n=>fun μ=>match μ[n]? with
    | some (.lst ds)=>some (ds,μ)
    | _=>none
  | _=>BE
section
variable {K:PySem.W.Frag} {ι:Nat->Addr} {μ μ':Mh} {H:Hp} {d a b:D} {v x y:V} {ds:List D}
theorem CF (R:RelH K ι μ H) (i:Is K ι μ.length H d v) (e:Bf d μ=some (ds,μ')):μ'=μ /\ ∃ p vs,v=.ref p /\ SqL K H p vs /\ IsL K ι μ.length H ds vs:=by
  cases d with
  | lst es=>
    cases e
    unfold Is at i
    obtain ⟨p,vs,rfl,h1,hn,h2⟩:=i
    exact ⟨rfl,p,vs,rfl,SqL.of h1,h2⟩
  | scr ns=>
    cases e
    unfold Is at i
    obtain ⟨p,rfl,h1⟩:=i
    exact ⟨rfl,p,_,rfl,h1.sq,IsL.ofInts ns⟩
  | ref n=>
    unfold Is at i
    obtain ⟨hn,rfl⟩:=i
    have e':(match μ[n]? with | some (.lst ds)=>some (ds,μ) | _=>none)=some (ds,μ'):=e
    split at e'
    . rename_i es hq
      cases e'
      obtain ⟨u,h1,vs,rfl,h2⟩:=R.obj n _ hq
      exact ⟨rfl,_,vs,rfl,SqL.of h1,h2⟩
    . cases e'
  | _=>cases e
theorem BL {i:Int} (h:Is K ι μ.length H (.int i) v):v=.int i:=by unfold Is at h; exact h
theorem Cp {i:Str} (h:Is K ι μ.length H (.str i) v):v=.str i:=by unfold Is at h; exact h
theorem OX {i:Bool} (h:Is K ι μ.length H (.bl i) v):v=.bl i:=by unfold Is at h; exact h
theorem Ic (h:Is K ι μ.length H .non v):v=.non:=by unfold Is at h; exact h
theorem Qv {n:String} (h:Is K ι μ.length H (.ty n) v):v=.ty n:=by unfold Is at h; exact h
theorem ofI {k:Nat} (i:Int):Is K ι k H (.int i) (.int i):=by unfold Is; rfl
theorem ofS {k:Nat} (i:Str):Is K ι k H (.str i) (.str i):=by unfold Is; rfl
theorem ofB {k:Nat} (i:Bool):Is K ι k H (.bl i) (.bl i):=by unfold Is; rfl
theorem ofN {k:Nat}:Is K ι k H .non .non:=by unfold Is; rfl
theorem Fw {d:D} {vs:List V} {k:Nat} (h:IsL K ι k H [d] vs):∃ v,vs=[v] /\ Is K ι k H d v:=by
  unfold IsL at h
  obtain ⟨v,vs',rfl,h1,h2⟩:=h
  unfold IsL at h2
  subst h2
  exact ⟨v,rfl,h1⟩
theorem Rh {d d':D} {vs:List V} {k:Nat} (h:IsL K ι k H [d,d'] vs):∃ v v',vs=[v,v'] /\ Is K ι k H d v /\ Is K ι k H d' v':=by
  unfold IsL at h
  obtain ⟨v,vs',rfl,h1,h2⟩:=h
  obtain ⟨v',rfl,h3⟩:=Fw h2
  exact ⟨v,v',rfl,h1,h3⟩
theorem Pz {i:Int} {vs:List V} {k:Nat} (h:IsL K ι k H ds vs) (e:atI ds i=some d):∃ v,atI vs i=some v /\ Is K ι k H d v:=by
  unfold atI at e ⊢
  rw [h.length]
  cases q:ixN ds.length i with
  | none=>rw [q] at e; cases e
  | some j=>
    rw [q] at e
    exact h.get e
theorem Mk {vs:List V} {k:Nat} {lo hi:Option Int} (h:IsL K ι k H ds vs):IsL K ι k H ((ds.drop (HT.sIx ds.length 0 lo)).take (HT.sIx ds.length ds.length hi - HT.sIx ds.length 0 lo)) (Hk vs lo hi):=by
  unfold Hk
  rw [h.length]
  exact (h.drop _).take _
end
def Ie (C:Int->Int->Prop) [∀ i j,Decidable (C i j)] (g:Int->Int->D):D->D->M D
  | .int i,.int j=>fun μ=>if C i j then some (g i j,μ) else none
  | _,_=>BE
def EX:D->D->M D:=Ie (fun _ _=>True) fun i j=>.int (i - j)
def Ae:D->D->M D:=Ie (fun _ j=>0 < j /\ j < 1073741824) fun i j=>.int (i / j)
def Ak:D->D->M D:=Ie (fun _ j=>0 < j) fun i j=>.int (i % j)
def F5:D->D->M D:=Ie (fun i j=>0 <= j /\ j <= 1000000 /\ i.natAbs < 2 ^ 64) fun i j=>.int (i ^ j.toNat)
def KN:D->D->M D:=Ie (fun _ _=>True) fun i j=>.bl (decide (i < j))
def NQ:D->D->M D:=Ie (fun _ _=>True) fun i j=>.bl (decide (j < i))
section
variable {X:Cx}
theorem EE {f:Value->Value->Sem Value} {C:Int->Int->Prop} [∀ i j,Decidable (C i j)] {g:Int->Int->D} {gv:Int->Int->V} (hg:∀ i j ι k H,Is X.K ι k H (g i j) (gv i j)) (ho:OpR X f (rI C gv)):OpR X f (rM X.K (Ie C g)):=OpR.wk ho fun x y H Q h=>by
  obtain ⟨ι,μ,a,b,d,μ',R,ia,ib,e,q⟩:=h
  cases a with
  | int i=>
    cases b with
    | int j=>
      have e':(if C i j then some (g i j,μ) else none)=some (d,μ'):=e
      split at e'
      . rename_i hc
        cases e'
        exact ⟨i,j,BL ia,BL ib,hc,q ι H R.ext0 R _ (hg i j _ _ _)⟩
      . cases e'
    | _=>cases e
  | _=>cases e
theorem OpR.ofI0 {f:Value->Value->Sem Value} {gv:Int->Int->V} (ho:OpR X f (rI0 gv)):OpR X f (rI (fun _ _=>True) gv):=OpR.wk ho fun x y H Q h=>by
  obtain ⟨i,j,h1,h2,_,q⟩:=h
  exact ⟨i,j,h1,h2,q⟩
theorem JR:OpR X (binaryOp .Sub) (rM X.K EX):=EE (fun _ _ _ _ _=>ofI _) (OpR.ofI0 PL)
theorem Ba:OpR X (binaryOp .FloorDiv) (rM X.K Ae):=EE (fun _ _ _ _ _=>ofI _) Np
theorem Bx:OpR X (binaryOp .Mod) (rM X.K Ak):=EE (fun _ _ _ _ _=>ofI _) PR
theorem OR:OpR X (binaryOp .Pow) (rM X.K F5):=EE (fun _ _ _ _ _=>ofI _) PN
theorem Qq:OpR X (compareOp .Lt) (rM X.K KN):=EE (fun _ _ _ _ _=>ofB _) (OpR.ofI0 Ql)
theorem Re:OpR X (compareOp .Gt) (rM X.K NQ):=EE (fun _ _ _ _ _=>ofB _) (OpR.ofI0 Qm)
def CK:D->M D
  | .int i=>ret (.int (-i))
  | _=>BE
theorem FJ:UnR X (unaryOp .USub) (rM1 X.K CK):=fun pins s σ H x v Q I r h=>by
  obtain ⟨ι,μ,a,d,μ',R,ia,e,q⟩:=h
  cases a with
  | int i=>
    cases e
    have z:=BL ia
    subst z
    exact Of pins s σ H _ v Q I r ⟨i,rfl,q ι H R.ext0 R _ (ofI _)⟩
  | _=>cases e
def La:D->D->M D
  | .int i,.int j=>ret (.int (i + j))
  | .str i,.str j=>bnd (lim (i.length + j.length)) fun _=>ret (.str (i ++ j))
  | .lst a,.lst b=>BN (a ++ b)
  | .tup [],.tup b=>BE
  | .tup (a :: as),.tup b=>A4 (a :: as ++ b)
  | _,_=>BE
theorem Qr:OpR X (binaryOp .Add) (rM X.K La):=fun pins s σ H x y v u Q I rx ry h=>by
  obtain ⟨ι,μ,a,b,d,μ',R,ia,ib,e,q⟩:=h
  unfold La at e
  split at e
  . cases e
    cases BL ia
    cases BL ib
    exact PX pins s σ H _ _ v u Q I rx ry ⟨_,_,rfl,rfl,q ι H R.ext0 R _ (ofI _)⟩
  . obtain ⟨_,μ1,e1,e2⟩:=AE e
    obtain ⟨hl,rfl⟩:=By e1
    cases e2
    cases Cp ia
    cases Cp ib
    exact IW pins s σ H _ _ v u Q I rx ry ⟨_,_,rfl,rfl,hl,q ι H R.ext0 R _ (ofS _)⟩
  . unfold Is at ia ib
    obtain ⟨p,vs,rfl,h1,hn,h2⟩:=ia
    obtain ⟨p',vs',rfl,h1',hn',h2'⟩:=ib
    obtain ⟨hl,w⟩:=B6 R (h2.append h2') e q
    exact Lo pins s σ H _ _ v u Q I rx ry ⟨p,p',vs,vs',rfl,rfl,h1,h1',by rw [← List.length_append]; exact hl,w⟩
  . cases e
  . rename_i a as bs
    unfold Is at ia ib
    obtain ⟨p,vs,rfl,h1,h2⟩:=ia
    obtain ⟨p',vs',rfl,h1',h2'⟩:=ib
    obtain ⟨hl,w⟩:=JW R (h2.append h2') e q
    refine Nq pins s σ H _ _ v u Q I rx ry ⟨p,p',vs,vs',rfl,rfl,h1,h1',fun z=>?_,by rw [← List.length_append]; exact hl,fun z=>?_,fun _=>w⟩
    . have:=h2.length
      rw [z] at this; cases this
    . subst z
      have hb:bs=[]:=by
        have:=h2'.length
        cases bs with
        | nil=>rfl
        | cons _ _=>cases this
      subst hb
      obtain ⟨_,μ1,e1,e2⟩:=AE e
      obtain ⟨hl,rfl⟩:=By e1
      cases e2
      exact q ι H R.ext0 R _ (by unfold Is; exact ⟨p,vs,rfl,h1,by rw [List.append_nil]; exact h2⟩)
  . cases e
def FE:D->D->M D
  | .int i,.int j=>fun μ=>if (-(2 ^ 64) < i /\ i < 2 ^ 64) ∨ (-(2 ^ 64) < j /\ j < 2 ^ 64) then some (.int (i * j),μ) else none
  | .lst a,.int j=>fun μ=>if -(2 ^ 63) <= j /\ j < 2 ^ 63 /\ a.length * j.toNat <= sizeLine then BN (List.replicate j.toNat a).flatten μ else none
  | _,_=>BE
theorem IsL.rep {K:PySem.W.Frag} {ι:Nat->Addr} {k:Nat} {H:Hp} {ds:List D} {vs:List V} (h:IsL K ι k H ds vs):∀ n:Nat,IsL K ι k H (List.replicate n ds).flatten (List.replicate n vs).flatten
  | 0=>.nil
  | n + 1=>by
    rw [List.replicate_succ,List.replicate_succ,List.flatten_cons,List.flatten_cons]
    exact h.append (IsL.rep h n)
theorem JT:OpR X (binaryOp .Mult) (rM X.K FE):=fun pins s σ H x y v u Q I rx ry h=>by
  obtain ⟨ι,μ,a,b,d,μ',R,ia,ib,e,q⟩:=h
  unfold FE at e
  split at e
  . split at e
    . rename_i hc
      cases e
      cases BL ia
      cases BL ib
      exact PQ pins s σ H _ _ v u Q I rx ry ⟨_,_,rfl,rfl,hc,q ι H R.ext0 R _ (ofI _)⟩
    . cases e
  . split at e
    . rename_i hc
      cases BL ib
      unfold Is at ia
      obtain ⟨p,vs,rfl,h1,hn,h2⟩:=ia
      obtain ⟨hl,w⟩:=B6 R (h2.rep _) e q
      exact PM pins s σ H _ _ v u Q I rx ry ⟨p,_,vs,rfl,rfl,h1,hc.1,hc.2.1,by rw [h2.length]; exact hc.2.2,w⟩
    . cases e
  . cases e
mutual
def toP (μ:Mh):D->Option PyData
  | .non=>some .none
  | .bl b=>some (.bool b)
  | .int i=>some (.int i)
  | .str x=>some (.str x)
  | .ty _=>none
  | .scr ns=>some (.list (ns.map PyData.int))
  | .tup ds=>(Bm μ ds).map PyData.tuple
  | .lst ds=>(Bm μ ds).map PyData.list
  | .ref _=>none
def Bm (μ:Mh):List D->Option (List PyData)
  | []=>some []
  | d :: ds=>(toP μ d).bind fun p=>(Bm μ ds).map (p :: ·)
end
def Ec (μ:Mh):D->Option PyData
  | .ref n=>match μ[n]? with
    | some (.lst ds)=>(Bm μ ds).map PyData.list
    | _=>none
  | d=>toP μ d
section
variable {K:PySem.W.Frag} {ι:Nat->Addr} {μ:Mh} {H:Hp} {k:Nat}
theorem Jt:∀ (ns:List Int),DatVs K H (ns.map V.int) (ns.map PyData.int)
  | []=>.nil
  | n :: r=>.cons (.int n) (Jt r)
mutual
theorem Is.dat:∀ {d:D} {v:V} {p:PyData},Is K ι k H d v->toP μ d=some p->DatV K H v p
  | .non,_,_,h,e=>by unfold Is at h; unfold toP at e; cases e; subst h; exact .non
  | .bl b,_,_,h,e=>by unfold Is at h; unfold toP at e; cases e; subst h; exact .bl b
  | .int b,_,_,h,e=>by unfold Is at h; unfold toP at e; cases e; subst h; exact .int b
  | .str b,_,_,h,e=>by unfold Is at h; unfold toP at e; cases e; subst h; exact .str b
  | .ty b,_,_,h,e=>by unfold toP at e; cases e
  | .scr ns,_,_,h,e=>by
    unfold Is at h; unfold toP at e; cases e
    obtain ⟨p,rfl,h⟩:=h
    exact .lst h.sq (Jt ns)
  | .tup ds,_,_,h,e=>by
    unfold Is at h; unfold toP at e
    obtain ⟨p,vs,rfl,h1,h2⟩:=h
    cases q:Bm μ ds with
    | none=>rw [q] at e; cases e
    | some ps=>rw [q] at e; cases e; exact .tup h1 (IsL.dat h2 q)
  | .lst ds,_,_,h,e=>by
    unfold Is at h; unfold toP at e
    obtain ⟨p,vs,rfl,h1,_,h2⟩:=h
    cases q:Bm μ ds with
    | none=>rw [q] at e; cases e
    | some ps=>rw [q] at e; cases e; exact .lst (SqL.of h1) (IsL.dat h2 q)
  | .ref n,_,_,h,e=>by unfold toP at e; cases e
theorem IsL.dat:∀ {ds:List D} {vs:List V} {ps:List PyData},IsL K ι k H ds vs->Bm μ ds=some ps->DatVs K H vs ps
  | [],_,_,h,e=>by unfold IsL at h; unfold Bm at e; cases e; subst h; exact .nil
  | d :: ds,_,_,h,e=>by
    unfold IsL at h; unfold Bm at e
    obtain ⟨v,vs',rfl,h1,h2⟩:=h
    cases q:toP μ d with
    | none=>rw [q] at e; cases e
    | some p=>
      rw [q] at e
      cases q2:Bm μ ds with
      | none=>rw [q2] at e; cases e
      | some ps=>rw [q2] at e; cases e; exact .cons (Is.dat h1 q) (IsL.dat h2 q2)
end
theorem OE (R:RelH K ι μ H) {d:D} {v:V} {p:PyData} (h:Is K ι μ.length H d v) (e:Ec μ d=some p):DatV K H v p:=by
  cases d with
  | ref n=>
    unfold Is at h
    obtain ⟨_,rfl⟩:=h
    have e':(match μ[n]? with | some (.lst ds)=>(Bm μ ds).map PyData.list | _=>none)=some p:=e
    split at e'
    . rename_i ds hq
      obtain ⟨u,h1,vs,rfl,h2⟩:=R.obj n _ hq
      cases q:Bm μ ds with
      | none=>rw [q] at e'; cases e'
      | some ps=>rw [q] at e'; cases e'; exact .lst (SqL.of h1) (IsL.dat h2 q)
    . cases e'
  | _=>exact Is.dat (μ:=μ) h e
end
def DU (neg:Bool) (a b:D):M D:=fun μ=>match Ec μ a,Ec μ b with
  | some p,some q=>if SeqAt.shaped p=true /\ SeqAt.shaped q=true then some (.bl (if neg then !PyData.eqv p q else PyData.eqv p q),μ) else none
  | _,_=>none
def A9:D->D->M D:=DU false
def Bq:D->D->M D:=DU true
theorem FG {neg:Bool} {a b d:D} {μ μ':Mh} (e:DU neg a b μ=some (d,μ')):∃ p q,Ec μ a=some p /\ Ec μ b=some q /\ SeqAt.shaped p=true /\ SeqAt.shaped q=true /\ d=.bl (if neg then !PyData.eqv p q else PyData.eqv p q) /\ μ'=μ:=by
  unfold DU at e
  split at e
  . rename_i p q e1 e2
    split at e
    . rename_i h
      cases e
      exact ⟨p,q,e1,e2,h.1,h.2,rfl,rfl⟩
    . cases e
  . cases e
theorem DT {k:Nat} (hr:Room k X.A):OpR X (compareOp .Eq) (rM X.K A9):=OpR.wk (PV (LP hr)) fun x y H Q h=>by
  obtain ⟨ι,μ,a,b,d,μ',R,ia,ib,e,q⟩:=h
  obtain ⟨p,p',e1,e2,s1,s2,rfl,rfl⟩:=FG e
  exact ⟨p,p',OE R ia e1,OE R ib e2,s1,s2,q ι H R.ext0 R _ (ofB _)⟩
theorem FK {k:Nat} (hr:Room k X.A):OpR X (compareOp .NotEq) (rM X.K Bq):=OpR.wk (PP (LP hr)) fun x y H Q h=>by
  obtain ⟨ι,μ,a,b,d,μ',R,ia,ib,e,q⟩:=h
  obtain ⟨p,p',e1,e2,s1,s2,rfl,rfl⟩:=FG e
  exact ⟨p,p',OE R ia e1,OE R ib e2,s1,s2,q ι H R.ext0 R _ (ofB _)⟩
def isN:D->Bool
  | .non=>true
  | _=>false
def DS (neg:Bool):D->D->M D
  | a,.non=>ret (.bl (if neg then !isN a else isN a))
  | _,_=>BE
theorem Jn {K:PySem.W.Frag} {ι:Nat->Addr} {k:Nat} {H:Hp} {a:D} {x:V} (h:Is K ι k H a x):decide (x=V.non)=isN a:=by
  cases a with
  | non=>unfold Is at h; subst h; rfl
  | bl b=>unfold Is at h; subst h; rfl
  | int b=>unfold Is at h; subst h; rfl
  | str b=>unfold Is at h; subst h; rfl
  | ty b=>unfold Is at h; subst h; rfl
  | scr ns=>unfold Is at h; obtain ⟨p,rfl,_⟩:=h; rfl
  | tup ns=>unfold Is at h; obtain ⟨p,o,rfl,_⟩:=h; rfl
  | lst ns=>unfold Is at h; obtain ⟨p,o,rfl,_⟩:=h; rfl
  | ref ns=>unfold Is at h; obtain ⟨_,rfl⟩:=h; rfl
theorem KZ:OpR X (compareOp .Is) (rM X.K (DS false)):=OpR.wk PU fun x y H Q h=>by
  obtain ⟨ι,μ,a,b,d,μ',R,ia,ib,e,q⟩:=h
  cases b with
  | non=>cases e; exact ⟨Ic ib,by rw [Jn ia]; exact q ι H R.ext0 R _ (ofB _)⟩
  | _=>cases e
theorem JU:OpR X (compareOp .IsNot) (rM X.K (DS true)):=OpR.wk No fun x y H Q h=>by
  obtain ⟨ι,μ,a,b,d,μ',R,ia,ib,e,q⟩:=h
  cases b with
  | non=>cases e; exact ⟨Ic ib,by rw [Jn ia]; exact q ι H R.ext0 R _ (ofB _)⟩
  | _=>cases e
def He:D->Option V
  | .non=>some .non
  | .bl b=>some (.bl b)
  | .int i=>some (.int i)
  | .str x=>some (.str x)
  | _=>none
def ER:List D->Option (List V)
  | []=>some []
  | d :: ds=>(He d).bind fun v=>(ER ds).map (v :: ·)
section
variable {K:PySem.W.Frag} {ι:Nat->Addr} {H:Hp} {k:Nat}
theorem Hd {d:D} {v x:V} (h:Is K ι k H d x) (e:He d=some v):x=v /\ DZ v=true:=by
  cases d with
  | non=>cases e; unfold Is at h; exact ⟨h,rfl⟩
  | bl b=>cases e; unfold Is at h; exact ⟨h,rfl⟩
  | int b=>cases e; unfold Is at h; exact ⟨h,rfl⟩
  | str b=>cases e; unfold Is at h; exact ⟨h,rfl⟩
  | _=>cases e
theorem GI:∀ {ds:List D} {vs xs:List V},IsL K ι k H ds xs->ER ds=some vs->xs=vs /\ vs.all DZ=true
  | [],_,_,h,e=>by cases e; unfold IsL at h; exact ⟨h,rfl⟩
  | d :: ds,_,_,h,e=>by
    unfold IsL at h
    obtain ⟨v,vs',rfl,h1,h2⟩:=h
    unfold ER at e
    cases q:He d with
    | none=>rw [q] at e; cases e
    | some w=>
      rw [q] at e
      cases q2:ER ds with
      | none=>rw [q2] at e; cases e
      | some ws=>
        rw [q2] at e; cases e
        obtain ⟨rfl,f1⟩:=Hd h1 q
        obtain ⟨rfl,f2⟩:=GI h2 q2
        exact ⟨rfl,by rw [List.all_cons,f1,f2]; rfl⟩
end
def BQ:D->M (List D)
  | .tup ds=>ret ds
  | d=>Bf d
theorem DR {K:PySem.W.Frag} {ι:Nat->Addr} {μ μ':Mh} {H:Hp} {d:D} {v:V} {ds:List D} (R:RelH K ι μ H) (i:Is K ι μ.length H d v) (e:BQ d μ=some (ds,μ')):μ'=μ /\ ∃ p vs,v=.ref p /\ (SqL K H p vs ∨ SqT K H p vs) /\ IsL K ι μ.length H ds vs:=by
  cases d with
  | tup es=>
    cases e
    unfold Is at i
    obtain ⟨p,vs,rfl,h1,h2⟩:=i
    exact ⟨rfl,p,vs,rfl,.inr h1,h2⟩
  | lst es=>obtain ⟨h,p,vs,a,b,c⟩:=CF R i e; exact ⟨h,p,vs,a,.inl b,c⟩
  | scr es=>obtain ⟨h,p,vs,a,b,c⟩:=CF R i e; exact ⟨h,p,vs,a,.inl b,c⟩
  | ref es=>obtain ⟨h,p,vs,a,b,c⟩:=CF R i e; exact ⟨h,p,vs,a,.inl b,c⟩
  | _=>cases e
def Jo (neg:Bool) (a b:D):M D:=bnd (BQ b) fun ds=>fun μ=>match He a,ER ds with
  | some x,some xs=>some (.bl (if neg then !inV x xs else inV x xs),μ)
  | _,_=>none
def FF (neg:Bool):D->D->M D
  | .str i,.str j=>ret (.bl (if neg then !(!(Builtin.Str.occurrences j i 0 j.length 1).isEmpty) else !(Builtin.Str.occurrences j i 0 j.length 1).isEmpty))
  | a,b=>Jo neg a b
theorem LZ {K:PySem.W.Frag} {neg:Bool} {x y:V} {H:Hp} {Q:VK} {ι:Nat->Addr} {μ μ':Mh} {a b d:D} (R:RelH K ι μ H) (ia:Is K ι μ.length H a x) (ib:Is K ι μ.length H b y) (e:Jo neg a b μ=some (d,μ')) (q:Aft K ι μ H μ' fun ι' H'=>∀ v,Is K ι' μ'.length H' d v->Q v H'):rIn K neg x y H Q:=by
  obtain ⟨ds,μ1,e1,e2⟩:=AE e
  obtain ⟨hm,p,vs,rfl,h1,h2⟩:=DR R ib e1
  subst hm
  split at e2
  . rename_i w ws q1 q2
    cases e2
    obtain ⟨rfl,f1⟩:=Hd ia q1
    obtain ⟨rfl,f2⟩:=GI h2 q2
    exact ⟨p,_,rfl,h1,f1,f2,q ι H R.ext0 R _ (ofB _)⟩
  . cases e2
theorem Rb:OpR X (compareOp .In) (rM X.K (FF false)):=fun pins s σ H x y v u Q I rx ry h=>by
  obtain ⟨ι,μ,a,b,d,μ',R,ia,ib,e,q⟩:=h
  unfold FF at e
  split at e
  . cases e
    cases Cp ia
    cases Cp ib
    exact KU pins s σ H _ _ v u Q I rx ry ⟨_,_,rfl,rfl,q ι H R.ext0 R _ (ofB _)⟩
  . exact KW pins s σ H _ _ v u Q I rx ry (LZ R ia ib e q)
theorem JS:OpR X (compareOp .NotIn) (rM X.K (FF true)):=fun pins s σ H x y v u Q I rx ry h=>by
  obtain ⟨ι,μ,a,b,d,μ',R,ia,ib,e,q⟩:=h
  unfold FF at e
  split at e
  . cases e
    cases Cp ia
    cases Cp ib
    exact Gj pins s σ H _ _ v u Q I rx ry ⟨_,_,rfl,rfl,q ι H R.ext0 R _ (ofB _)⟩
  . exact Gk pins s σ H _ _ v u Q I rx ry (LZ R ia ib e q)
def ixD (ds:List D) (i:Int):M D:=fun μ=>(atI ds i).map fun d=>(d,μ)
def Ab:D->D->M D
  | .str z,.int i=>fun μ=>if z.length <= sizeLine then (atI z.cps.toList i).map fun c=>(.str ⟨#[c]⟩,μ) else none
  | a,.int i=>bnd (BQ a) fun ds=>ixD ds i
  | _,_=>BE
theorem Aw:IxR X (rM X.K Ab):=fun va sl pins s σ H x y v u Q I rx ry h hsl=>by
  obtain ⟨ι,μ,a,b,d,μ',R,ia,ib,e,q⟩:=h
  unfold Ab at e
  split at e
  . split at e
    . rename_i z i hl
      cases Cp ia
      cases BL ib
      cases qq:atI z.cps.toList i with
      | none=>rw [qq] at e; cases e
      | some c=>
        rw [qq] at e; cases e
        exact Ib va sl pins s σ H _ _ v u Q I rx ry (.inr (.inr ⟨z,i,c,rfl,rfl,hl,qq,q ι H R.ext0 R _ (ofS _)⟩)) hsl
    . cases e
  . cases BL ib
    obtain ⟨ds,μ1,e1,e2⟩:=AE e
    obtain ⟨hm,p,vs,rfl,h1,h2⟩:=DR R ia e1
    subst hm
    rename_i i _
    unfold ixD at e2
    cases qq:atI ds i with
    | none=>rw [qq] at e2; cases e2
    | some c=>
      rw [qq] at e2; cases e2
      obtain ⟨w,ew,iw⟩:=Pz h2 qq
      rcases h1 with h1 | h1
      . exact Ib va sl pins s σ H _ _ v u Q I rx ry (.inl ⟨p,vs,i,w,rfl,rfl,h1,ew,q ι H R.ext0 R _ iw⟩) hsl
      . exact Ib va sl pins s σ H _ _ v u Q I rx ry (.inr (.inl ⟨p,vs,i,w,rfl,rfl,h1,ew,q ι H R.ext0 R _ iw⟩)) hsl
  . cases e
def EH:List D->M D
  | [.str z]=>fun μ=>if z.length <= sizeLine then some (.int z.length,μ) else none
  | [.ref n]=>fun μ=>match μ[n]? with
    | some (.lst ds)=>some (.int ds.length,μ)
    | _=>none
  | [d]=>bnd (BQ d) fun ds=>ret (.int ds.length)
  | _=>BE
theorem GO:B0 X (.builtin "len") (rMA X.K EH):=fun pins s σ H xs us Q I r h=>by
  obtain ⟨ι,μ,as,d,μ',R,ia,e,q⟩:=h
  refine Mp pins s σ H xs us Q I r ?_
  unfold EH at e
  split at e
  . rename_i z
    obtain ⟨v,rfl,i1⟩:=Fw ia
    split at e
    . rename_i hl
      cases e
      cases Cp i1
      exact ⟨_,_,rfl,⟨hl,rfl⟩,q ι H R.ext0 R _ (ofI _)⟩
    . cases e
  . rename_i n
    obtain ⟨v,rfl,i1⟩:=Fw ia
    unfold Is at i1
    obtain ⟨_,rfl⟩:=i1
    split at e
    . rename_i ds hq
      cases e
      obtain ⟨u,h1,vs,rfl,h2⟩:=R.obj n _ hq
      exact ⟨_,_,rfl,.inl ⟨vs,SqL.of h1,rfl⟩,by rw [h2.length]; exact q ι H R.ext0 R _ (ofI _)⟩
    . cases e
  . obtain ⟨v,rfl,i1⟩:=Fw ia
    obtain ⟨ds,μ1,e1,e2⟩:=AE e
    obtain ⟨hm,p,vs,rfl,h1,h2⟩:=DR R i1 e1
    subst hm
    cases e2
    rw [← h2.length] at q
    rcases h1 with h1 | h1
    . exact ⟨_,_,rfl,.inl ⟨vs,h1,rfl⟩,q ι H R.ext0 R _ (ofI _)⟩
    . exact ⟨_,_,rfl,.inr ⟨vs,h1,rfl⟩,q ι H R.ext0 R _ (ofI _)⟩
  . cases e
def CT (ds:List D) (lo hi:Option Int):List D:=(ds.drop (HT.sIx ds.length 0 lo)).take (HT.sIx ds.length ds.length hi - HT.sIx ds.length 0 lo)
def Qa (lo hi:Option Int):D->M D
  | .tup ds=>if HT.sIx ds.length 0 lo=0 /\ HT.sIx ds.length ds.length hi=ds.length then BE else ret (.tup (CT ds lo hi))
  | d=>bnd (Bf d) fun ds=>ret (.lst (CT ds lo hi))
def rMS (K:PySem.W.Frag):V->Option Int->Option Int->Hp->VK->Prop:=fun x lo hi H Q=>∃ ι μ a d μ',RelH K ι μ H /\ Is K ι μ.length H a x /\ Qa lo hi a μ=some (d,μ') /\
  Aft K ι μ H μ' fun ι' H'=>∀ v,Is K ι' μ'.length H' d v->Q v H'
theorem OT {K:PySem.W.Frag} {ι:Nat->Addr} {μ:Mh} {H:Hp} {ds:List D} {vs:List V} {Q:VK} (R:RelH K ι μ H) (i:IsL K ι μ.length H ds vs) (q:Aft K ι μ H μ fun ι' H'=>∀ v,Is K ι' μ.length H' (.lst ds) v->Q v H') (p:Addr) (hp:H p=none):Q (.ref p) (upd H p (.lst vs)):=by
  obtain ⟨E1,R1⟩:=R.laid (.lst vs) hp
  have ho:∀ n,n < μ.length->ι n ≠ p:=fun n hn z=>by
    obtain ⟨o,e,_⟩:=R.muts n hn
    rw [z,hp] at e; cases e
  exact q ι _ E1 R1 _ (by unfold Is; exact ⟨p,vs,rfl,A5,ho,i.ext E1⟩)
theorem Jd {K:PySem.W.Frag} {ι:Nat->Addr} {μ:Mh} {H:Hp} {ds:List D} {vs:List V} {Q:VK} (R:RelH K ι μ H) (i:IsL K ι μ.length H ds vs) (q:Aft K ι μ H μ fun ι' H'=>∀ v,Is K ι' μ.length H' (.tup ds) v->Q v H') (p:Addr) (hp:H p=none):Q (.ref p) (upd H p (.tup vs)):=by
  obtain ⟨E1,R1⟩:=R.laid (.tup vs) hp
  exact q ι _ E1 R1 _ (by unfold Is; exact ⟨p,vs,rfl,SqT.of A5,i.ext E1⟩)
theorem Ra:SlR X (rMS X.K):=fun pins s σ H x v vl vu lo hi sl Q I rx hs pl pu h=>by
  obtain ⟨ι,μ,a,d,μ',R,ia,e,q⟩:=h
  refine (SlR.or NB Os) pins s σ H x v vl vu lo hi sl Q I rx hs pl pu ?_
  unfold Qa at e
  split at e
  . rename_i ds
    unfold Is at ia
    obtain ⟨p,vs,rfl,h1,h2⟩:=ia
    split at e
    . cases e
    . rename_i hc
      cases e
      exact .inr ⟨p,vs,rfl,h1,by rw [h2.length]; exact hc,fun p hp=>Jd R (Mk h2) q p hp⟩
  . obtain ⟨ds,μ1,e1,e2⟩:=AE e
    obtain ⟨hm,p,vs,rfl,h1,h2⟩:=CF R ia e1
    subst hm
    cases e2
    exact .inl ⟨p,vs,rfl,h1,fun p hp=>OT R (Mk h2) q p hp⟩
def Dg:Sl->M (Option Int):=fun _=>ret none
def asI:D->M (Option Int)
  | .int i=>ret (some i)
  | _=>BE
def Dy (m:Sl->M D):Sl->M (Option Int):=fun τ=>bnd (m τ) asI
def tPt (K:PySem.W.Frag) (m:Sl->M (Option Int)):TO:=fun σ H Q=>∃ ι μ τ b μ',RelH K ι μ H /\ RelS K ι μ.length H τ σ /\ m τ μ=some (b,μ') /\ Aft K ι μ H μ' fun _ H'=>Q b H'
structure RO (X:Cx) (e:Option Expr) (m:Sl->M (Option Int)):Prop where
  pe:PO X e (tPt X.K m)
theorem PO.wk {e:Option Expr} {t t':TO} (h:PO X e t) (w:∀ σ H Q,t' σ H Q->t σ H Q):PO X e t':=fun pins s σ H Q I q=>h pins s σ H Q I (w σ H Q q)
theorem RO.wk {e:Option Expr} {m:Sl->M (Option Int)} {t:TO} (h:PO X e t) (w:∀ σ H Q,tPt X.K m σ H Q->t σ H Q):RO X e m:=⟨PO.wk h w⟩
theorem DE:RO X none Dg:=RO.wk Nc fun σ H Q h=>by
  obtain ⟨ι,μ,τ,b,μ',R,S,e,q⟩:=h
  cases e
  exact q ι H R.ext0 R
theorem CN {e:Expr} {m:Sl->M D} (h:RE X e m):RO X (some e) (Dy m):=RO.wk (Nb h.pe) fun σ H Q h=>by
  obtain ⟨ι,μ,τ,b,μ',R,S,e,q⟩:=h
  obtain ⟨x,μ1,e1,e⟩:=AE e
  refine ⟨ι,μ,τ,x,μ1,R,S,e1,fun ι1 H1 E1 R1 v i1=>?_⟩
  cases x with
  | int i=>cases e; exact ⟨i,BL i1,q ι1 H1 E1 R1⟩
  | _=>cases e
def tyD (μ:Mh):D->Option String
  | .non=>some "NoneType"
  | .bl _=>some "bool"
  | .int _=>some "int"
  | .str _=>some "str"
  | .tup _=>some "tuple"
  | .lst _=>some "list"
  | .scr _=>none
  | .ref n=>match μ[n]? with
    | some (.lst _)=>some "list"
    | some (.dK _)=>some "dict"
    | none=>none
  | .ty _=>none
def GB (t T:String):Option Bool:=
  if t ∈ ["NoneType", "bool", "int", "str", "tuple", "list", "dict"] /\ T ∈ ["bool", "int", "str", "tuple", "list", "dict"] then some (t == T || (t == "bool" && T == "int")) else none
theorem N3 {K:PySem.W.Frag} {t T:String} {b:Bool} (h:GB t T=some b):PySem.W.kitOne K (.type t) (.type T)=some b:=by
  unfold GB at h
  split at h
  . rename_i hm
    obtain ⟨h1,h2⟩:=hm
    simp only [List.mem_cons,List.not_mem_nil,or_false] at h1 h2
    rcases h1 with rfl | rfl | rfl | rfl | rfl | rfl | rfl <;> rcases h2 with rfl | rfl | rfl | rfl | rfl | rfl <;> (cases h; kernel_rfl)
  . cases h
def HX:List D->M D
  | [a,.ty T]=>fun μ=>match tyD μ a with
    | some t=>(GB t T).map fun b=>(.bl b,μ)
    | none=>none
  | _=>BE
theorem Px:B0 X (.builtin "isinstance") (rMA X.K HX):=fun pins s σ H xs us Q I r h=>by
  obtain ⟨ι,μ,as,d,μ',R,ia,e,q⟩:=h
  unfold HX at e
  split at e
  . rename_i a T
    obtain ⟨v,v',rfl,i1,i2⟩:=Rh ia
    cases Qv i2
    split at e
    . rename_i t ht
      cases hk:GB t T with
      | none=>rw [hk] at e; cases e
      | some b=>
        rw [hk] at e; cases e
        have kit:=N3 (K:=X.K) hk
        have fin:=q ι H R.ext0 R _ (ofB b)
        have byTy:D8 X.K H v (.type t)->wpAny (model X.prog X.w) X.A (call (.builtin "isinstance") us) (EP X pins σ Q) X.xe s:=fun ty=>
          Hw pins s σ H _ us Q I r ⟨v,T,_,b,rfl,ty,kit,fin⟩
        cases a with
        | non=>cases ht; cases Ic i1; exact byTy .non
        | bl x=>cases ht; cases OX i1; exact byTy (.bl x)
        | int x=>cases ht; cases BL i1; exact byTy (.int x)
        | str x=>cases ht; cases Cp i1; exact byTy (.str x)
        | ty n=>cases ht
        | lst ds=>cases ht; unfold Is at i1; obtain ⟨p,vs,rfl,h1,_⟩:=i1; exact byTy (.lst h1)
        | scr ns=>cases ht
        | ref n=>
          unfold Is at i1
          obtain ⟨_,rfl⟩:=i1
          have ht:(match μ[n]? with | some (.lst _)=>some "list" | some (.dK _)=>some "dict" | none=>none)=some t:=ht
          split at ht
          . rename_i ds hq; cases ht; obtain ⟨u,h1,vs,rfl,h2⟩:=R.obj n _ hq; exact byTy (.lst h1)
          . rename_i ds hq; cases ht; obtain ⟨u,h1,vs,rfl,h2⟩:=R.obj n _ hq; exact byTy (.dK h1)
          . cases ht
        | tup ds=>
          cases ht
          unfold Is at i1
          obtain ⟨p,vs,rfl,h1,h2⟩:=i1
          obtain ⟨its,_,⟨o,g1,g2,_⟩,_⟩:=I.tuple h1
          obtain ⟨u1,u2,rfl,r1,r2⟩:=Vals.two r
          cases r1
          cases r2
          exact PySem.W.kia_one PySem.W.kitx_tuple I.kIn ⟨o,g1,g2⟩ kit (fun z=>nomatch z) fun tk=>⟨.bl b,H,I.tok _,rfl,fin⟩
    . cases e
  . cases e
def MK:List D->M D
  | [.int i]=>ret (.int i)
  | [.bl b]=>ret (.int (if b then 1 else 0))
  | _=>BE
theorem Od:B0 X (.type "int") (rMA X.K MK):=fun pins s σ H xs us Q I r h=>by
  obtain ⟨ι,μ,as,d,μ',R,ia,e,q⟩:=h
  refine Ku pins s σ H xs us Q I r ?_
  unfold MK at e
  split at e
  . obtain ⟨v,rfl,i1⟩:=Fw ia; cases e; cases BL i1; exact .inl ⟨_,rfl,q ι H R.ext0 R _ (ofI _)⟩
  . obtain ⟨v,rfl,i1⟩:=Fw ia; cases e; cases OX i1; exact .inr ⟨_,rfl,q ι H R.ext0 R _ (ofI _)⟩
  . cases e
def BY:List D->M D
  | [.tup ds]=>ret (.tup ds)
  | [d]=>bnd (Bf d) fun ds=>ret (.tup ds)
  | _=>BE
theorem CB:B0 X (.type "tuple") (rMA X.K BY):=fun pins s σ H xs us Q I r h=>by
  obtain ⟨ι,μ,as,d,μ',R,ia,e,q⟩:=h
  unfold BY at e
  split at e
  . obtain ⟨v,rfl,i1⟩:=Fw ia
    cases e
    have i2:=i1
    unfold Is at i1
    obtain ⟨p,vs,rfl,h1,h2⟩:=i1
    exact Hu pins s σ H _ us Q I r ⟨p,vs,rfl,h1,q ι H R.ext0 R _ i2⟩
  . obtain ⟨v,rfl,i1⟩:=Fw ia
    obtain ⟨ds,μ1,e1,e2⟩:=AE e
    obtain ⟨hm,p,vs,rfl,h1,h2⟩:=CF R i1 e1
    subst hm
    cases e2
    obtain ⟨u,rfl,ru⟩:=Vals.one r
    cases ru
    obtain ⟨its,rv,pl,hz⟩:=I.list h1
    refine PySem.call_tuple_list pl.isList (fun h' hk=>?_) (by rw [List.size_toArray,← rv.length]; exact hz)
    have I1:Inv X pins σ H { s with heap:=h' }:=I.kept (t':=s.toks) hk
    have I2:Inv X pins σ (upd H h'.objs.size (.tup vs)) { s with heap:=h'.push { cls:=.type "tuple",data:=.seq its.toArray } }:=I1.laid (t':=s.toks) (o:=.tup vs) (fun b ob q=>Heap.get?_push_of_some _ q) (Nat.le_refl _) ⟨hz,its,rv,PyProof.Rows.IsTup.new _ _⟩
    exact ⟨.ref h'.objs.size,_,I2,rfl,Jd R h2 q _ (I1.hok.fresh (Nat.le_refl _))⟩
  . cases e
end
end Mi
namespace Mi
open PySem L2
section
variable {X:Cx} {e a b c o i f tg:Expr} {es:List Expr} {pos apos cpos:Pos}
theorem NM {x:Str} {n:String} (hm:X.mg x=none) (hv:bootBuiltins x=some (.type n)) (hg:Gl X x:=by rfl) (hn:x ≠ "__name__" := by decide) (hdb:(x == ("__debug__" : Str))=false:=by decide):RE X (.Name x pos) (mC (.ty n)):=
  KG (t:=fun _ _ _=>True) (Nk (v:=.ty n) hg hm hv rfl hn hdb) fun _ _ _=>by unfold Is; rfl
def EM (d:D):M Unit:=bnd (Bf d) fun _=>ret ()
def BG (g:D->List D->M D) (mo:Sl->M D) (ma:Sl->M (List D)):Sl->M D:=fun τ=>bnd (mo τ) fun x=>bnd (EM x) fun _=>bnd (ma τ) fun xs=>g x xs
def rMM (K:PySem.W.Frag) (g:D->List D->M D):V->List V->Hp->VK->Prop:=fun x xs H Q=>∃ ι μ a as d μ',RelH K ι μ H /\ Is K ι μ.length H a x /\ IsL K ι μ.length H as xs /\ g a as μ=some (d,μ') /\
  Aft K ι μ H μ' fun ι' H'=>∀ v,Is K ι' μ'.length H' d v->Q v H'
theorem Ha {K:PySem.W.Frag} {ι:Nat->Addr} {μ μ':Mh} {H:Hp} {d:D} {v:V} {u:Unit} (R:RelH K ι μ H) (i:Is K ι μ.length H d v) (e:EM d μ=some (u,μ')):μ'=μ /\ tyV K "list" v H:=by
  obtain ⟨ds,μ1,e1,ee1⟩:=AE e
  cases ee1
  obtain ⟨hm,p,vs,rfl,h1,h2⟩:=CF R i e1
  exact ⟨hm,.inl ⟨rfl,vs,h1⟩⟩
theorem Kk {μ μ':Mh} {d:D} {u:Unit} (e:EM d μ=some (u,μ')):μ'=μ:=by
  obtain ⟨ds,μ1,e1,ee1⟩:=AE e
  cases ee1
  cases d with
  | lst _=>cases e1; rfl
  | scr _=>cases e1; rfl
  | ref n=>
    have e1:(match μ[n]? with | some (.lst ds)=>some (ds,μ) | _=>none)=some (ds,μ'):=e1
    split at e1
    . cases e1; rfl
    . cases e1
  | _=>cases e1
theorem LA {K:PySem.W.Frag} {g:D->List D->M D} {mo:Sl->M D} {ma:Sl->M (List D)} {σ:St} {H:Hp} {Q:VK} (h:tE K (BG g mo ma) σ H Q):tBM K "list" (rMM K g) (tE K mo) (tL K ma) σ H Q:=by
  obtain ⟨ι,μ,τ,d,μ',R,S,e,q⟩:=h
  obtain ⟨x,μ1,e1,ee1⟩:=AE e
  obtain ⟨u,μ2,e2,ee2⟩:=AE ee1
  obtain ⟨as,μ3,e3,ee3⟩:=AE ee2
  have hm:=Kk e2
  subst hm
  refine ⟨ι,μ,τ,x,_,R,S,e1,fun ι1 H1 E1 R1 v1 i1=>⟨(Ha R1 i1 e2).2,?_⟩⟩
  refine ⟨ι1,_,τ,as,μ3,R1,S.ext E1,e3,fun ι2 H2 E2 R2 vs i2=>?_⟩
  exact ⟨ι2,μ3,x,as,d,μ',R2,i1.ext E2,i2,ee3,fun ι3 H3 E3 R3=>q ι3 H3 ((E1.trans E2).trans E3) R3⟩
theorem CI {name:Str} {id:String} {g:D->List D->M D} {mo:Sl->M D} {ma:Sl->M (List D)} (slot:Slot "list" name id) (hty:typeOf (.builtin id)=pure (.type "method_descriptor")) (hm:MtR X id (rMM X.K g)) (ho:RE X o mo) (ha:RA X (e :: es) ma)
    (hbase:attributeBase o name X.env (eval o X.env)=eval o X.env:=by rfl)
    (hfew:((backTo cpos (starEach (e :: es) X.env)).all (fun x=>!x.1) && (backToKw cpos (keywordEach [] X.env)).all (fun x=>x.1.isSome)
      && decide ((e :: es).length + ([]:List Keyword).length + (if ([]:List Keyword).isEmpty then 0 else 1) < 30))=true:=by rfl)
    (hline:(apos.endLine == cpos.line)=true:=by rfl) (hs:starEach (e :: es) X.env=(false,eval e X.env) :: starEach es X.env:=by exact Ai rfl) (hplain:(backTo cpos (starEach es X.env)).any (·.1)=false:=by exact Bp rfl) :
    RE X (.Call (.Attribute o name apos) (e :: es) [] cpos) (BG g mo ma):=RE.wk (Qi PySem.F.plainAttrs_list slot hty hm ho.pe ha.pe hbase hfew hline hs hplain) fun _ _ _ h=>LA h
def K4 (n:Nat) (k:List D->Option (D × List D)):M D:=fun μ=>match μ[n]? with
  | some (.lst ds)=>(k ds).map fun r=>(r.1,μ.set n (.lst r.2))
  | _=>none
theorem J4 {n:Nat} {k:List D->Option (D × List D)} {μ μ':Mh} {d:D} (e:K4 n k μ=some (d,μ')):∃ ds es,μ[n]? = some (.lst ds) /\ k ds=some (d,es) /\ μ'=μ.set n (.lst es):=by
  unfold K4 at e
  split at e
  . rename_i ds hq
    cases hk:k ds with
    | none=>rw [hk] at e; cases e
    | some r=>rw [hk] at e; cases e; exact ⟨ds,r.2,hq,hk,rfl⟩
  . cases e
theorem M2 {K:PySem.W.Frag} {ι:Nat->Addr} {μ:Mh} {H:Hp} {n:Nat} {d:D} {es:List D} {ws:List V} {v:V} {Q:VK} {ds:List D} (R:RelH K ι μ H) (hn:μ[n]? = some (.lst ds)) (iw:IsL K ι μ.length H es ws) (iv:Is K ι μ.length H d v)
    (q:Aft K ι μ H (μ.set n (.lst es)) fun ι' H'=>∀ v,Is K ι' (μ.set n (.lst es)).length H' d v->Q v H'):Q v (upd H (ι n) (.lst ws)):=by
  have hlt:n < μ.length:=(List.getElem?_eq_some_iff.mp hn).1
  obtain ⟨E1,R1⟩:=R.changed (m:=.lst es) (o:=.lst ws) hlt ⟨ws,rfl,iw⟩
  exact q ι _ E1 R1 v (iv.ext E1)
def C9:D->List D->M D
  | .ref n,[d]=>K4 n fun ds=>if ds.length < sizeLine then some (.non,ds ++ [d]) else none
  | _,_=>BE
theorem CL:MtR X "list.append" (rMM X.K C9):=fun pins s σ H x xs v us Q I rx rs h=>by
  obtain ⟨ι,μ,a,as,d,μ',R,ia,ib,e,q⟩:=h
  unfold C9 at e
  split at e
  . rename_i n y
    obtain ⟨ds,es,h1,h2,rfl⟩:=J4 e
    split at h2
    . rename_i hl
      cases h2
      obtain ⟨w,rfl,iw⟩:=Fw ib
      unfold Is at ia
      obtain ⟨_,rfl⟩:=ia
      obtain ⟨u,g1,vs,rfl,g2⟩:=R.obj n _ h1
      exact Kc pins s σ H _ _ v us Q I rx rs ⟨_,vs,w,rfl,rfl,g1,by rw [g2.length]; exact hl,M2 R h1 (g2.append (.one iw)) ofN q⟩
    . cases h2
  . cases e
def LI:D->D->D->M Unit
  | .ref n,.int k,d=>fun μ=>match μ[n]? with
    | some (.lst ds)=>(ixN ds.length k).map fun j=>((),μ.set n (.lst (ds.set j d)))
    | _=>none
  | _,_,_=>BE
def Mv (mo mi:Sl->M D):D->Sl->M Sl:=fun d τ=>bnd (mo τ) fun x=>bnd (mi τ) fun y=>bnd (LI x y d) fun _=>ret τ
theorem KD {x y d:D} {μ μ':Mh} {u:Unit} (e:LI x y d μ=some (u,μ')):∃ n k ds j,x=.ref n /\ y=.int k /\ μ[n]? = some (.lst ds) /\ ixN ds.length k=some j /\ μ'=μ.set n (.lst (ds.set j d)):=by
  unfold LI at e
  split at e
  . rename_i n k
    split at e
    . rename_i ds hq
      cases hk:ixN ds.length k with
      | none=>rw [hk] at e; cases e
      | some j=>rw [hk] at e; cases e; exact ⟨n,k,ds,j,rfl,rfl,hq,hk,rfl⟩
    . cases e
  . cases e
theorem LT {mo mi:Sl->M D} (ho:RE X o mo) (hi:RE X i mi)
    (ha:∀ v,assign (.Subscript o i pos) X.env v=(do
      let ov ← holding [v] (eval o X.env)
      let iv ← holding [v,ov] (eval i X.env)
      standAt pos
      holding [v,ov,iv] (setItem ov iv v)
      release [v,ov,iv] []):=by intro _; rfl):RG X (.Subscript o i pos) (Mv mo mi):=RG.wk (PB ho.pe hi.pe LF ha) fun v σ H Q h=>by
  obtain ⟨ι,μ,τ,d,τ',μ',R,S,i1,e,q⟩:=h
  obtain ⟨x,μ1,e1,ee1⟩:=AE e
  obtain ⟨y,μ2,e2,ee2⟩:=AE ee1
  obtain ⟨u,μ3,e3,ee3⟩:=AE ee2
  cases ee3
  refine ⟨ι,μ,_,x,μ1,R,S,e1,fun ι1 H1 E1 R1 v1 j1=>⟨ι1,μ1,_,y,μ2,R1,S.ext E1,e2,fun ι2 H2 E2 R2 v2 j2=>?_⟩⟩
  obtain ⟨n,k,ds,j,rfl,rfl,g1,g2,rfl⟩:=KD e3
  have E12:=E1.trans E2
  have j1':=j1.ext E2
  unfold Is at j1'
  obtain ⟨hlt,rfl⟩:=j1'
  cases BL j2
  obtain ⟨w,k1,vs,rfl,k2⟩:=R2.obj n _ g1
  obtain ⟨E3,R3⟩:=R2.changed (m:=.lst (ds.set j d)) (o:=.lst (vs.set j v)) hlt ⟨_,rfl,k2.set (i1.ext E12) j⟩
  exact ⟨_,vs,k,j,rfl,rfl,k1,by rw [k2.length]; exact g2,q ι2 _ (E12.trans E3) R3 σ (S.ext (E12.trans E3))⟩
def MG:D->Option Key
  | .int i=>some (.inl i)
  | .str x=>some (.inr x)
  | _=>none
def Dq:D->M (Nat × List (Key × D))
  | .ref n=>fun μ=>match μ[n]? with
    | some (.dK l)=>some ((n,l),μ)
    | _=>none
  | _=>BE
def Cu (l:List (Key × D)) (k:Key):Option D:=(l.find? fun kv=>decide (kv.1=k)).map (·.2)
def FH (l:List (Key × D)) (k:Key) (d:D):List (Key × D):=
  if (l.any fun kv=>decide (kv.1=k))=true then l.map (fun kv=>if kv.1=k then (kv.1,d) else kv) else l ++ [(k,d)]
section
variable {K:PySem.W.Frag} {ι:Nat->Addr} {k:Nat} {H:Hp}
theorem KVs.val:∀ {l:List (Key × D)} {r:List (Key × V)} (y:Key),KVs K ι k H l r->(Cu l y=none /\ Db r y=none) ∨ ∃ d v,Cu l y=some d /\ Db r y=some v /\ Is K ι k H d v
  | [],_,y,h=>by cases h; exact .inl ⟨rfl,rfl⟩
  | (z,d) :: l,_,y,h=>by
    obtain ⟨v,r',rfl,h1,h2⟩:=h
    by_cases hz:z=y
    . subst hz
      exact .inr ⟨d,v,by simp [Cu],by simp [Db],h1⟩
    . have:=KVs.val y h2
      simpa [Cu,Db,List.find?_cons,hz] using this
theorem KVs.any:∀ {l:List (Key × D)} {r:List (Key × V)} (y:Key),KVs K ι k H l r->(l.any fun kv=>decide (kv.1=y))=(r.any fun kv=>decide (kv.1=y))
  | [],_,y,h=>by cases h; rfl
  | (z,d) :: l,_,y,h=>by
    obtain ⟨v,r',rfl,h1,h2⟩:=h
    rw [List.any_cons,List.any_cons,KVs.any y h2]
theorem KVs.length:∀ {l:List (Key × D)} {r:List (Key × V)},KVs K ι k H l r->r.length=l.length
  | [],_,h=>by cases h; rfl
  | (z,d) :: l,_,h=>by
    obtain ⟨v,r',rfl,h1,h2⟩:=h
    rw [List.length_cons,List.length_cons,KVs.length h2]
theorem KVs.app:∀ {l:List (Key × D)} {r:List (Key × V)} {y:Key} {d:D} {v:V},KVs K ι k H l r->Is K ι k H d v->KVs K ι k H (l ++ [(y,d)]) (r ++ [(y,v)])
  | [],_,y,d,v,h,h1=>by cases h; exact ⟨v,[],rfl,h1,rfl⟩
  | (z,e) :: l,_,y,d,v,h,h1=>by
    obtain ⟨w,r',rfl,h2,h3⟩:=h
    exact ⟨w,_,rfl,h2,KVs.app h3 h1⟩
theorem KVs.mapPut:∀ {l:List (Key × D)} {r:List (Key × V)} {y:Key} {d:D} {v:V},KVs K ι k H l r->Is K ι k H d v->KVs K ι k H (l.map fun kv=>if kv.1=y then (kv.1,d) else kv) (r.map fun kv=>if kv.1=y then (kv.1,v) else kv)
  | [],_,y,d,v,h,h1=>by cases h; rfl
  | (z,e) :: l,_,y,d,v,h,h1=>by
    obtain ⟨w,r',rfl,h2,h3⟩:=h
    rw [List.map_cons,List.map_cons]
    by_cases hz:z=y
    . subst hz
      simp only [if_true]
      exact ⟨v,_,rfl,h1,KVs.mapPut h3 h1⟩
    . simp only [hz,if_false]
      exact ⟨w,_,rfl,h2,KVs.mapPut h3 h1⟩
theorem KVs.put {l:List (Key × D)} {r:List (Key × V)} {y:Key} {d:D} {v:V} (h:KVs K ι k H l r) (h1:Is K ι k H d v):KVs K ι k H (FH l y d) (CP r y v):=by
  unfold FH CP
  rw [h.any y]
  split
  . exact h.mapPut h1
  . exact h.app h1
theorem Ji {d:D} {y:Key} {v:V} (h:Is K ι k H d v) (e:MG d=some y):v=kV y:=by
  cases d with
  | int i=>cases e; unfold Is at h; exact h
  | str i=>cases e; unfold Is at h; exact h
  | _=>cases e
theorem Eb {μ μ':Mh} {d:D} {v:V} {r:Nat × List (Key × D)} (R:RelH K ι μ H) (i:Is K ι μ.length H d v) (e:Dq d μ=some (r,μ')):μ'=μ /\ d=.ref r.1 /\ μ[r.1]? = some (.dK r.2) /\ v=.ref (ι r.1) /\ ∃ kvs,H (ι r.1)=some (.dK kvs) /\ KVs K ι μ.length H r.2 kvs:=by
  cases d with
  | ref n=>
    have e:(match μ[n]? with | some (.dK l)=>some ((n,l),μ) | _=>none)=some (r,μ'):=e
    split at e
    . rename_i l hq
      cases e
      unfold Is at i
      obtain ⟨u,h1,kvs,rfl,h2⟩:=R.obj n _ hq
      exact ⟨rfl,rfl,hq,i.2,kvs,h1,h2⟩
    . cases e
  | _=>cases e
end
def Ar (d y:D):M D:=bnd (Dq d) fun r=>fun μ=>((MG y).bind (Cu r.2)).map fun v=>(v,μ)
theorem Au {mo mi:Sl->M D} {k:Nat} (hr:Room k X.A) (ho:RE X o mo) (hi:RE X i mi) (hs:P2 i:=by exact fun _ _=>rfl):RE X (.Subscript o i pos) (mOp Ar mo mi):=RE.wk (Ng (OZ hr) ho.pe hi.pe hs) fun σ H Q h=>by
  obtain ⟨ι,μ,τ,d,μ',R,S,e,q⟩:=h
  obtain ⟨x,μ1,e1,ee1⟩:=AE e
  obtain ⟨y,μ2,e2,ee2⟩:=AE ee1
  obtain ⟨r,μ3,e3,ee3⟩:=AE ee2
  refine ⟨ι,μ,τ,x,μ1,R,S,e1,fun ι1 H1 E1 R1 v1 i1=>⟨ι1,μ1,τ,y,μ2,R1,S.ext E1,e2,fun ι2 H2 E2 R2 v2 i2=>?_⟩⟩
  obtain ⟨hm,_,g1,rfl,kvs,g2,g3⟩:=Eb R2 (i1.ext E2) e3
  subst hm
  cases hk:MG y with
  | none=>rw [hk] at ee3; cases ee3
  | some ky=>
    rw [hk] at ee3
    cases Ji i2 hk
    rcases g3.val ky with ⟨z1,_⟩ | ⟨dd,vv,z1,z2,z3⟩
    . rw [Option.bind_some,z1] at ee3; cases ee3
    . rw [Option.bind_some,z1] at ee3; cases ee3
      exact ⟨_,vv,rfl,by rw [← z2]; exact DGet.k g2,q ι2 H2 (E1.trans E2) R2 vv z3⟩
def F2 (mo mi mv:Sl->M D):Sl->M (Fl × Sl):=fun τ=>bnd (mv τ) fun v=>bnd (mo τ) fun x=>bnd (mi τ) fun y=>bnd (Dq x) fun r=>fun μ=>match MG y with
  | some k=>if r.2.length < sizeLine then some ((.next,τ),μ.set r.1 (.dK (FH r.2 k v))) else none
  | none=>none
theorem Ga {value:Expr} {pos':Pos} {mo mi mv:Sl->M D} {k:Nat} (hr:Room k X.A) (ho:RE X o mo) (hi:RE X i mi) (hv:RE X value mv) (hs:swapsWith value (some (.Subscript o i pos')) pos.line X.env=pure false:=by rfl):RS X (.Assign [.Subscript o i pos'] value pos) (F2 mo mi mv):=RS.wk (NZ (OZ hr) ho.pe hi.pe hv.pe hs) fun Dn σ H h=>by
  obtain ⟨ι,μ,τ,f,τ',μ',R,S,e,q⟩:=h
  obtain ⟨v,μ1,e1,ee1⟩:=AE e
  obtain ⟨x,μ2,e2,ee2⟩:=AE ee1
  obtain ⟨y,μ3,e3,ee3⟩:=AE ee2
  obtain ⟨r,μ4,e4,ee4⟩:=AE ee3
  refine ⟨ι,μ,τ,v,μ1,R,S,e1,fun ι1 H1 E1 R1 v1 i1=>⟨ι1,μ1,τ,x,μ2,R1,S.ext E1,e2,fun ι2 H2 E2 R2 v2 i2=>⟨ι2,μ2,τ,y,μ3,R2,S.ext (E1.trans E2),e3,fun ι3 H3 E3 R3 v3 i3=>?_⟩⟩⟩
  obtain ⟨hm,hx,g1,hv2,kvs,g2,g3⟩:=Eb R3 (i2.ext E3) e4
  subst hm
  have E13:=(E1.trans E2).trans E3
  cases hk:MG y with
  | none=>rw [hk] at ee4; cases ee4
  | some ky=>
    rw [hk] at ee4
    have ee4:(if r.2.length < sizeLine then some ((Fl.next,τ),List.set μ4 r.1 (MO.dK (FH r.2 ky v))) else none)=some ((f,τ'),μ'):=ee4
    split at ee4
    . rename_i hl
      cases ee4
      cases Ji i3 hk
      have hlt:r.1 < List.length μ4:=(List.getElem?_eq_some_iff.mp g1).1
      obtain ⟨E4,R4⟩:=R3.changed (m:=.dK (FH r.2 ky v)) (o:=.dK (CP kvs ky v1)) hlt ⟨_,rfl,g3.put (i1.ext (E2.trans E3))⟩
      exact ⟨_,_,hv2,DPut.k g2 (by rw [g3.length]; exact hl),q ι3 _ (E13.trans E4) R4 σ (S.ext (E13.trans E4))⟩
    . cases ee4
def CO:Nat->List D->List D
  | _,[]=>[]
  | k,d :: ds=>.tup [.int k,d] :: CO (k + 1) ds
theorem EU:∀ (k:Nat) (ds:List D),(CO k ds).length=ds.length
  | _,[]=>rfl
  | k,_ :: ds=>by unfold CO; simp [EU (k + 1) ds]
theorem GJ:∀ (k:Nat) (ds:List D) (j:Nat),(CO k ds)[j]? = (ds[j]?).map fun d=>.tup [.int ((k + j:Nat):Int),d]
  | _,[],j=>by simp [CO]
  | k,d :: ds,0=>by simp [CO]
  | k,d :: ds,j + 1=>by
    unfold CO
    rw [List.getElem?_cons_succ,List.getElem?_cons_succ,GJ (k + 1) ds j]
    have:k + 1 + j=k + (j + 1):=by omega
    rw [this]
theorem MI {K:PySem.W.Frag} {ι:Nat->Addr} {μ:Mh} {H:Hp} {vs:List V} {ds:List D} {Cond:PySem.W.Frag->Hp->Prop} (st:∀ ι' (μ':Mh) H',Ext ι μ.length H ι' μ'.length H'->RelH K ι' μ' H'->Cond K H') (i:IsL K ι μ.length H ds vs) :
    ItM K (ItP K vs.length (D5 vs) Cond) (CO 0 ds) ι μ H:=by
  intro ι' μ' H' E R
  have h:=st ι' μ' H' E R
  rw [EU,← i.length]
  refine ⟨fun j hj=>⟨hj,h⟩,⟨rfl,h⟩,fun j x H2 d hd y=>?_⟩
  obtain ⟨T,hT,rfl,rfl⟩:=y
  obtain ⟨E2,R2⟩:=R.laid (.tup (D5 vs j)) hT
  refine ⟨E2,R2,?_⟩
  rw [GJ] at hd
  cases q:ds[j]? with
  | none=>rw [q] at hd; cases hd
  | some d0=>
    rw [q] at hd
    cases hd
    obtain ⟨w,ew,iw⟩:=(i.ext E).get q
    have e0:vs.getD j V.non=w:=by simp [List.getD,ew]
    have es:D5 vs j=[.int j,w]:=by unfold D5; rw [e0]
    have key:IsL K ι' (List.length μ') (upd H' T (.tup (D5 vs j))) [.int ((0 + j:Nat):Int),d0] [.int j,w]:=.cons (by unfold Is; simp) (.one (iw.ext E2))
    unfold Is
    exact ⟨T,_,rfl,SqT.of A5,(congrArg (IsL K ι' (List.length μ') (upd H' T (.tup (D5 vs j))) [.int ((0 + j:Nat):Int),d0]) es).mpr key⟩
end
end Mi
namespace Mi
open PySem L2
theorem Cg:bootBuiltins "len" = some (.builtin "len"):=by decide +kernel
theorem Eg:bootBuiltins "isinstance" = some (.builtin "isinstance"):=by decide +kernel
theorem Hy:bootBuiltins "int" = some (.type "int"):=by decide +kernel
theorem At:bootBuiltins "tuple" = some (.type "tuple"):=by decide +kernel
theorem Mr:bootBuiltins "set" = some (.type "set"):=by decide +kernel
def A0:Nat:=1048576
structure Fn (P:Program) (w:World) (K:PySem.W.Frag) (mg:Str->Option Value) (base:Heap) (x:Str) (ps:List Str) (k:Nat) (φ:List D->M D):Prop where
  len:∀ ds μ r,φ ds μ=some r->ds.length=ps.length
  ex:∃ f fd,FnOk P w K mg base CX0 k f fd ps (spM K ps.length φ) /\ mg x=some (.ref f) /\ PySem.W.keepIn K (.ref f)=true /\ Binds K fd ps []
def Glo (K:PySem.W.Frag) (mg:Str->Option Value) (x:Str) (d:D):Prop:=∃ u v,mg x=some u /\ RelV v u /\ ∀ ι k H,Is K ι k H d v
section
variable {X:Cx} {e:Expr} {es:List Expr} {pos p:Pos}
theorem Aj {x:Str} {ps:List Str} {k j:Nat} {φ:List D->M D} {m:Sl->M (List D)} (F:Fn X.prog X.w X.K X.mg X.base x ps k φ) (hr:Room j X.A) (ha:RA X (e :: es) m) (hkj:k <= j:=by decide) (hg:Gl X x:=by rfl) (hdb:(x == ("__debug__" : Str))=false:=by decide)
    (he:starEach (e :: es) X.env=(false,eval e X.env) :: starEach es X.env:=by exact Ai rfl) (hpl:(backTo pos (starEach es X.env)).any (·.1)=false:=by exact Bp rfl):RE X (.Call (.Name x p) (e :: es) [] pos) (AG φ m):=by
  obtain ⟨len,f,fd,F,hm,hk,hb⟩:=F
  exact NL F (hr.mono hkj) hm hk hb len ha hg hdb he hpl
theorem FA {x:Str} {d:D} (h:Glo X.K X.mg x d) (hg:Gl X x:=by rfl) (hdb:(x == ("__debug__" : Str))=false:=by decide):RE X (.Name x pos) (mC d):=by
  obtain ⟨u,v,hm,r,hd⟩:=h
  exact NK hm r hd hg hdb
end
theorem Pq {P:Program} {w:World} {K:PySem.W.Frag} {mg:Str->Option Value} {base:Heap} {x qual:Str} {st:Stmt} {f:Addr} {fd:FuncData} {N ps:List Str} {k:Nat} {φ:List D->M D} {mb:Sl->M (Fl × Sl)} (F:Fun K x qual st f fd) (S:Ad N ps (AF st)) (hm:mg x=some (.ref f)) (hb:Binds K fd ps [])
    (body:∀ (cdv:Value) (A:Around) (outer:List Env) (s:Shared) (H:Hp) (E:XK),Room k (A.deeper (PyProof.Rows.envOfC qual (AF st) s.heap.objs.size f cdv))->RSs (Bl CX0 P w K mg base N qual (AF st) f cdv A outer s H E).nox (AX st) mb)
    (len:∀ ds μ r,φ ds μ=some r->ds.length=ps.length)
    (run:∀ ds μ d μ',φ ds μ=some (d,μ')->∃ fl τ2 μ2,mb (Bo N.length ds) μ=some ((fl,τ2),μ2) /\ (fl=.next ∨ ∃ d,fl=.rt d) /\ Fk μ μ2 μ' (Fp fl) d):Fn P w K mg base x ps (k + 1) φ:=
  ⟨len,f,fd,GG F S rfl body run,hm,F.kp,hb⟩
theorem II {μ g:Mh} {d:D} (h:Cl μ.length d):Fk μ (μ ++ g) μ d d:=⟨⟨g,rfl⟩,Nat.le_refl _,fun _ _ e=>.inl e,.inl ⟨rfl,h⟩⟩
end Mi
namespace Mi
open PySem L2
section
variable {X:Cx} {e a b c o i:Expr} {es:List Expr} {pos p apos cpos:Pos}
end
end Mi
namespace L2
open PySem PySem.Spec PyProof.Rows Sem
section
variable {prog:Program} {w:World} {A:Around} {E:Value->Shared->Prop} {s:Shared}
theorem Da {M:Model} {A:Around} {α:Type} {c:Prop} [Decidable c] {a b:Sem α} {Q:α->Shared->Prop} {E:Value->Shared->Prop} {s:Shared} (h : ¬ c) (hb:wpAny M A b Q E s):wpAny M A (if c then a else b) Q E s:=by
  rw [if_neg h]; exact hb
theorem G5 {it t:Addr} {i:Nat} {items:Array Value} {Q:Value->Shared->Prop} (hh:A.handled=none) (hit:s.heap.IsTupleIter it t i) (ht:s.heap.IsTuple t items)
    (more:∀ x h',items[i]? = some x->h'.IsTupleIter it t (i + 1)->Heap.SameBut it s.heap h'->Q x { s with heap:=h' })
    (over:items[i]? = none->∀ h' e,Heap.ExtBut it s.heap h'->(∃ o,h'.get? e=some o /\ o.cls=.type "StopIteration")->E (.ref e) { s with heap:=h' }) :
    wpAny (model prog w) A (Builtin.SmallTypes.nextOf (.ref it)) Q E s:=by
  have ty:=hit.typeIs
  obtain ⟨o,at_it,hc,hd⟩:=hit
  obtain ⟨ot,at_t,_,n,hdt⟩:=ht
  have put:∀ (k:Nat) (v:Value),(s.heap.update it (Obj.mapFields (fun fs=>fs.set! k v))).get? it=some (Obj.mapFields (fun fs=>fs.set! k v) o):=fun k v=>Heap.get?_update_self _ at_it (Obj.isFreed_of_fields (Obj.data_mapFields hd _))
  unfold Builtin.SmallTypes.nextOf
  refine wpAny_bind (wpAny_callSpecial?_slot ty F.slot_tuple_iterator_next (wpAny_call_entry F.slot_tuple_iterator_next ty F.entry_tuple_iterator_next ?_ (F.args_tuple_iterator_next_1 _)))
  have notNone : ¬ (Value.ref t == Value.none)=true:=Bool.false_ne_true
  refine wpAny_bind (m:=field (.ref it) 0) (wpAny_field at_it hd (x:=.ref t) rfl ?_)
  refine Da notNone ?_
  refine wpAny_bind (m:=field (.ref it) 1) (wpAny_field at_it hd (x:=.int i 0) rfl (wpAny_bind (m:=seqItems? (.ref t)) (wpAny_seqItems at_t hdt ?_)))
  have ei:((i:Int)).toNat=i:=Int.toNat_natCast i
  cases hx:items[i]? with
  | some x=>
    dsimp only
    rw [ei,hx]
    refine wpAny_bind (wpAny_setField at_it hd (by simp) (wpAny_pure ⟨x,rfl,wpAny_pure (more x _ hx ⟨_,put _ _,?_,?_⟩ (Heap.SameBut.update ..))⟩))
    . exact (Obj.cls_mapFields ..).trans hc
    . rw [Obj.data_mapFields hd]
      rfl
  | none=>
    dsimp only
    rw [ei,hx]
    refine wpAny_bind (wpAny_rule (wpAny_bind (wpAny_setField at_it hd (by simp) ?_)))
    have first:firstArgMember (.type "StopIteration") []=pure Value.none:=by first | rfl | (unfold firstArgMember; rfl)
    unfold Builtin.SmallTypes.stopIteration newExc newTuple
    refine wpAny_bind (wpAny_bind (wpAny_newObj_type (wpAny_bind (wpAny_of_eq first (wpAny_newObj_type (wpAny_raiseNew_none hh ?_) (by size_fits)))) (by size_fits)))
    exact over hx _ _ (((Heap.SameBut.update ..).extBut.push _).push _) ⟨_,Heap.get?_push_size _ rfl,rfl⟩
theorem Kp (hh:A.handled=none) (it t:Addr) (hne:t ≠ it) (items:Array Value) :
    Draws prog w A it [it,t] items.size (fun i v=>items[i]? = some v) (fun i h=>h.IsTupleIter it t i /\ h.IsTuple t items):=by
  refine ⟨fun i h st=>?_,fun i h h' st k=>⟨?_,?_⟩,fun i s Q E hi st q=>?_,fun s Q E st q=>?_⟩
  . obtain ⟨⟨o,e,_⟩,_⟩:=st
    exact ⟨o,e⟩
  . obtain ⟨⟨o,e,r⟩,_⟩:=st
    exact ⟨o,k it (by simp) o e,r⟩
  . obtain ⟨_,⟨o,e,r⟩⟩:=st
    exact ⟨o,k t (by simp) o e,r⟩
  . exact G5 hh st.1 st.2 (fun x h' hx st' sb=>q x h' s.toks hx ⟨st',st.2.extBut sb.extBut hne⟩ sb) fun no=>absurd no (by simp [hi])
  . exact G5 hh st.1 st.2 (fun x h' hx=>absurd hx (by simp)) fun _ h' e eb so=>q h' e eb so
abbrev D4 (it:Addr):Obj:={ cls:=.type "enumerate",data:=.fields #[.none,.bool false,.ref it,rawInt 0,.none,.none] }
theorem MX (v:Value) (ob:Obj) (good:Heap->Prop) (hv:∀ (prog:Program) (w:World) (A:Around) (E:Value->Shared->Prop) (s:Shared) (Q:Value->Shared->Prop),good s.heap->Q (.ref s.heap.objs.size) { s with heap:=s.heap.push ob }->wpAny (model prog w) A (pyIter v) Q E s) :
    Meets (Builtin.«enumerate.__new__» ⟨[.type "enumerate",v],[]⟩) (fun _ R s=>good s.heap /\ R (.ok (.ret (.ref (s.heap.push ob).objs.size))) { s with heap:=(s.heap.push ob).push (D4 s.heap.objs.size) }):=by
  refine .of_wp fun prog w A R s ⟨g,q⟩=>?_
  have own:=sub_enumerate
  have walk:∀ (A:Around) (E:Value->Shared->Prop) (Q:Value->Shared->Prop),Q (.ref s.heap.objs.size) { s with heap:=s.heap.push ob }->wpAny (model prog w) A (pyIter v) Q E s:=fun A E Q z=>hv prog w A E s Q g z
  obtain ⟨hp,gs,dr,tk,os⟩:=s
  wp_walk
  refine wpAny_stack_any fun st=>wpAny_pure ?_
  split
  . rename_i c _ _ _ _ _
    cases (c == Value.type "enumerate") <;> (wp_walk using walk; exact ⟨_,rfl,q⟩)
  . wp_walk using walk
    exact ⟨_,rfl,q⟩
end
end L2
namespace L2
open PySem PySem.Spec PyProof.Rows
theorem IG {P:Program} {w:World} {K:PySem.W.Frag} {es:List Expr} {k0:Nat} {pos:Pos} (a e it:Addr) (xs:List V) (hei:e ≠ it) (hea:e ≠ a) (hai:a ≠ it) :
    IA P w K (.Tuple es k0 pos) (ItP K xs.length (D5 xs) fun K H=>SqT K H a xs) [e,it] e (fun i h=>(∃ old,IsEnum h e it i old) /\ h.IsTupleIter it a i):=by
  refine IF (ι:=List Value) (fp:=[e,it,a]) (Mid:=fun its i T h=>(∃ x,IsEnumOut h e it ((i:Int) + 1) x T) /\ (h.IsTupleIter it a (i + 1) /\ h.IsTuple a its.toArray) /\ T ≠ e /\ T ≠ it) (good:=fun its=>Vals xs its) (Pt:=fun its i vals=>∃ t x,its.toArray[i]? = some x /\ vals = #[.int i t,x]) (Sw:=fun its i h=>(∃ old,IsEnum h e it i old) /\ h.IsTupleIter it a i /\ h.IsTuple a its.toArray)
    (fun A hA its r=>?walk) List.mem_cons_self (fun its i vals r h=>Ij r h) (fun i=>(by show 2 <= sizeLine; decide)) (fun i h st=>?obj) (fun i h h' st k=>?keep) (fun X pins σ H s i hP hw hK I hc st=>?into) (fun z i h st=>⟨st.1,st.2.1⟩) (fun A i s Q E st h=>?self)
  case walk=>
    have hl:xs.length=its.toArray.size:=by rw [List.size_toArray]; exact r.length
    have D:=Kp (prog:=P) (w:=w) (A:=A.in1) hA it a hai its.toArray
    rw [hl]
    exact WalksT.enumerateD D e hei (by simp [hei,hea]) (by simp)
  case obj=>
    obtain ⟨o,ho,_,hd⟩:=st.2
    exact Pw st.1 ho ⟨_,hd⟩
  case keep=>
    obtain ⟨⟨old,q⟩,o,ho,r⟩:=st
    exact ⟨⟨old,k e (by simp) _ q⟩,o,k it (by simp) o ho,r⟩
  case into=>
    subst hK
    obtain ⟨its,r,p,_⟩:=I.tuple hc
    exact ⟨its,r,st.1,st.2,p⟩
  case self=>exact OD (f:=fun i h=>h.IsTupleIter it a i) A i s Q E st h
section
variable {X:Cx} {es:List Expr} {k0:Nat} {tpos:Pos}
def Pn (K:PySem.W.Frag) (ta:TA):TI:=fun σ H R=>ta σ H fun vs H1=>∃ a xs,vs=[.ref a] /\ SqT K H1 a xs /\ R (ItP K xs.length (D5 xs) fun K H=>SqT K H a xs) H1
theorem Li {a:Expr} {ta:TA} {p pos:Pos} (hg:Gl X "enumerate") (hm:X.mg "enumerate" = none) (ha:PA X [a] ta) (hs:starEach [a] X.env=[(false,eval a X.env)]:=by rfl):PI X (.Tuple es k0 tpos) (.Call (.Name "enumerate" p) [a] [] pos) (Pn X.K ta):=by
  intro pins s σ H R I h
  refine Call_ (FO I hg hm Kv (PyProof.Rows.callWith_type1 (thn (ha pos pins s σ H _ I h) fun us s1 ⟨vs,H1,I1,r1,q1⟩=>?_) hs rfl))
  obtain ⟨l,xs,ev,hq,q⟩:=q1
  subst ev
  obtain ⟨u,eu,ru⟩:=G0 r1
  subst eu
  cases ru
  obtain ⟨its,rv,pl,hz⟩:=I1.tuple hq
  have lt:l < s1.heap.objs.size:=by obtain ⟨o,e,_⟩:=pl; exact Heap.lt_size e
  have new:=MX (.ref l) { cls:=.type "tuple_iterator",data:=.fields #[.ref l,.int 0 0] } (fun h=>h.IsTuple l its.toArray) (fun _ _ _ _ _ _ g z=>wpAny_pyIter_tuple g z)
  refine callType_new F.called_enumerate (by decide) (F.typeCall_enumerate_1 _) (F.newCall_enumerate_1 _) (fun obj=>F.args_object_init_2 obj _) F.entry_enumerate_new new ⟨pl,?_⟩
  generalize hG:s1.heap.push { cls:=.type "tuple_iterator",data:=.fields #[.ref l,.int 0 0] }=G
  have hsz:G.objs.size=s1.heap.objs.size + 1:=by rw [← hG]; exact Heap.size_push ..
  have at_e:(G.push (D4 s1.heap.objs.size)).get? (s1.heap.objs.size + 1)=some (D4 s1.heap.objs.size):=by rw [← hsz]; exact Heap.get?_push_size _ rfl
  have he:IsEnum (G.push (D4 s1.heap.objs.size)) (s1.heap.objs.size + 1) s1.heap.objs.size 0 .none:=at_e
  have at_i:(G.push (D4 s1.heap.objs.size)).IsTupleIter s1.heap.objs.size l 0:=⟨_,Heap.get?_push_of_some _ (hG ▸ Heap.get?_push_size _ rfl),rfl,rfl⟩
  show _ /\ _
  rw [hsz]
  refine ⟨⟨_,at_e,rfl⟩,wpAny_pyIter_enum he ?_⟩
  refine ⟨s1.heap.objs.size + 1,[s1.heap.objs.size + 1,s1.heap.objs.size],fun i h=>(∃ old,IsEnum h (s1.heap.objs.size + 1) s1.heap.objs.size i old) /\ h.IsTupleIter s1.heap.objs.size l i,_,H1,rfl,I1.kept (t':=s1.toks) fun b o x=>Heap.get?_push_of_some _ (hG ▸ Heap.get?_push_of_some _ x),?_,⟨⟨_,he⟩,at_i⟩,Oh I1,q⟩
  exact IG l _ _ xs (Nat.succ_ne_self _) (Nat.ne_of_gt (Nat.lt_succ_of_lt lt)) (Nat.ne_of_lt lt)
end
end L2
namespace Mi
open PySem L2
section
variable {X:Cx} {a:Expr} {es:List Expr} {pos:Pos}
def K5:List D->M (List D)
  | [.tup ds]=>ret ds
  | _=>BE
def Dj (m:Sl->M (List D)):Sl->M (List D):=fun τ=>bnd (m τ) fun as=>bnd (K5 as) fun ds=>ret (CO 0 ds)
theorem E8 {p tpos:Pos} {k0:Nat} {m:Sl->M (List D)} (hm:X.mg "enumerate" = none) (ha:RA X [a] m) (hg:Gl X "enumerate" := by rfl) (hs:starEach [a] X.env=[(false,eval a X.env)]:=by exact Ai rfl):RI X (.Tuple es k0 tpos) (.Call (.Name "enumerate" p) [a] [] pos) (Dj m):=
  RI.wk (Li hg hm ha.pe hs) fun σ H R q=>by
    obtain ⟨ι,μ,τ,ds,μ',R0,S,e,q⟩:=q
    obtain ⟨xs,μ1,e1,e2⟩:=AE e
    obtain ⟨zs,μ2,e3,e4⟩:=AE e2
    cases e4
    refine ⟨ι,μ,τ,xs,μ1,R0,S,e1,fun ι1 H1 E1 R1 vs i1=>?_⟩
    unfold K5 at e3
    split at e3
    . cases e3
      obtain ⟨v,rfl,i2⟩:=Fw i1
      unfold Is at i2
      obtain ⟨p,ws,rfl,h1,h2⟩:=i2
      exact ⟨p,ws,rfl,h1,q ι1 H1 E1 R1 _ (MI (fun ι' μ' H' E _=>GX E h1) h2)⟩
    . cases e3
end
end Mi
namespace L2
open PySem PySem.Spec PyProof.Rows Sem
section
variable {prog:Program} {w:World} {A:Around} {E:Value->Shared->Prop} {s:Shared}
end
end L2
namespace L2
open PySem PySem.Spec PyProof.Rows
section
variable {X:Cx} {es:List Expr} {k0:Nat} {tpos:Pos}
end
end L2
namespace L2
open PySem PySem.Spec PyProof.Rows
section
variable {X:Cx} {es:List Expr} {k0:Nat} {tpos:Pos}
end
end L2
namespace Mi
open PySem L2
section
variable {X:Cx} {a b:Expr} {es:List Expr} {pos:Pos}
end
end Mi
namespace L2
open PySem PySem.Spec PyProof.Rows Sem
section
variable {prog:Program} {w:World} {A:Around} {E:Value->Shared->Prop} {s:Shared}
end
end L2
namespace L2
open PySem PySem.Spec PyProof.Rows Sem
section
variable {prog:Program} {w:World} {A:Around} {E:Value->Shared->Prop} {s:Shared}
set_option maxHeartbeats 2000000 in
theorem Nw {T nid iid:String} {args:List Value} {Q Q₁:Value->Shared->Prop} (ft:TypeCalled T nid iid) (ok:checkTypeCall T ⟨args,[]⟩=pure ())
    (new:codeAny (model prog w) A.in1 (.call (.builtin nid) ⟨.type T :: args,[]⟩) (wants Q₁ E) s)
    (init:∀ x s₁,Q₁ x s₁->s₁.TypeIs x T /\ codeAny (model prog w) A.in1 (.call (.builtin iid) ⟨x :: args,[]⟩) (wants (fun r s₂=>r=.none /\ Q x s₂) E) s₁) :
    wpAny (model prog w) A (call (.type T) args) Q E s:=by
  have a1:=ft.notType
  have a2:=ft.canCreate
  have a3:=ft.made
  have a4:=ft.sub
  obtain ⟨c,tl,a5⟩:=ft.mro
  have step:codeAny (model prog w) A (.builtin "type.__call__" ⟨.type T :: args,[]⟩) (wants Q E) s:=by
    refine codeAny_builtin F.entry_type_call ?_
    rw [Around.under_plain (weight_type_call_type T args []) rfl]
    unfold Builtin.«type.__call__»
    iterate 3 (any_goals (first | assumption | wp_step))
    first | refine wpAny_of_eq ok ?_ | refine wpAny_bind (wpAny_of_eq ok ?_)
    repeat (any_goals (first | assumption | wp_step))
    refine codeAny_mono new fun r s₁ hr=>?_
    match r,hr with
    | .error e,hr=>exact hr
    | .ok (.ret x),hr=>
      obtain ⟨ty,run⟩:=init x s₁ hr
      have b1:=ft.init.lookup
      have b2:=ft.init.bind x
      repeat (any_goals (first | assumption | wp_step))
      refine codeAny_mono run fun r₂ s₂ hr₂=>?_
      match r₂,hr₂ with
      | .error e,hr₂=>exact hr₂
      | .ok (.ret y),hr₂=>
        obtain ⟨ey,hq⟩:=hr₂
        subst ey
        repeat (any_goals (first | assumption | wp_step))
  exact wpAny_call (codeAny_of_tree (wpAny_pure ⟨Code.quiet_builtin _ (by decide +kernel),step⟩))
abbrev As (led:Bool):Obj:={ cls:=.type "set",data:=.set #[] 0 (.fresh 0 0 led) }
end
section
variable {X:Cx}
end
end L2
namespace Mi
open PySem L2
section
variable {X:Cx} {e:Expr} {pos p p2 pos2:Pos}
end
end Mi
namespace Mi
open PySem L2
inductive How where
  | all | drop | frz
def Nl (μ2:Mh):How->D->D
  | .frz,.ref n=>match μ2[n]? with
    | some (.lst ds)=>.lst ds
    | _=>.ref n
  | _,d=>d
def KS (μ μ2:Mh):How->Mh
  | .all=>μ2
  | _=>μ2.take μ.length
open Classical in
noncomputable def A3 (hw:How) (n ps:Nat) (mb:Sl->M (Fl × Sl)):List D->M D:=fun ds μ=>match mb (Bo n ds) μ with
  | some ((fl,_),μ2)=>if ds.length=ps /\ (fl=.next ∨ ∃ d,fl=.rt d) /\ Fk μ μ2 (KS μ μ2 hw) (Fp fl) (Nl μ2 hw (Fp fl)) then some (Nl μ2 hw (Fp fl),KS μ μ2 hw) else none
  | none=>none
theorem Do {hw:How} {n ps:Nat} {mb:Sl->M (Fl × Sl)} {ds:List D} {μ μ':Mh} {d:D} (h:A3 hw n ps mb ds μ=some (d,μ')) :
    ds.length=ps /\ ∃ fl τ2 μ2,mb (Bo n ds) μ=some ((fl,τ2),μ2) /\ (fl=.next ∨ ∃ d,fl=.rt d) /\ Fk μ μ2 μ' (Fp fl) d:=by
  unfold A3 at h
  split at h
  . rename_i fl τ2 μ2 e
    split at h
    . rename_i c
      cases h
      exact ⟨c.1,fl,τ2,μ2,e,c.2.1,c.2.2⟩
    . cases h
  . cases h
theorem Ff {hw:How} {n ps:Nat} {mb:Sl->M (Fl × Sl)} {ds:List D} {μ μ2:Mh} {fl:Fl} {τ2:Sl} (e:mb (Bo n ds) μ=some ((fl,τ2),μ2)) (hl:ds.length=ps) (hf:fl=.next ∨ ∃ d,fl=.rt d) (t:Fk μ μ2 (KS μ μ2 hw) (Fp fl) (Nl μ2 hw (Fp fl))) :
    A3 hw n ps mb ds μ=some (Nl μ2 hw (Fp fl),KS μ μ2 hw):=by
  unfold A3
  rw [e]
  exact if_pos ⟨hl,hf,t⟩
theorem Aa {n ps:Nat} {mb:Sl->M (Fl × Sl)} {ds:List D} {μ g:Mh} {d:D} {τ2:Sl} (e:mb (Bo n ds) μ=some ((.rt d,τ2),μ ++ g)) (hl:ds.length=ps) (c:Cl μ.length d):A3 .drop n ps mb ds μ=some (d,μ):=by
  have t:KS μ (μ ++ g) .drop=μ:=by show (μ ++ g).take μ.length=μ; rw [List.take_left]
  have h:=Ff (hw:=.drop) e hl (.inr ⟨d,rfl⟩) (by rw [t]; exact II c)
  rw [t] at h
  exact h
theorem Av (hw:How) {P:Program} {w:World} {K:PySem.W.Frag} {mg:Str->Option Value} {base:Heap} {x qual:Str} {st:Stmt} {f:Addr} {fd:FuncData} {N ps:List Str} {k:Nat} {mb:Sl->M (Fl × Sl)} (F:Fun K x qual st f fd) (S:Ad N ps (AF st)) (hm:mg x=some (.ref f)) (hb:Binds K fd ps [])
    (body:∀ (cdv:Value) (A:Around) (outer:List Env) (s:Shared) (H:Hp) (E:XK),Room k (A.deeper (PyProof.Rows.envOfC qual (AF st) s.heap.objs.size f cdv))->RSs (Bl CX0 P w K mg base N qual (AF st) f cdv A outer s H E).nox (AX st) mb) :
    Fn P w K mg base x ps (k + 1) (A3 hw N.length ps.length mb):=
  Pq F S hm hb body (fun ds μ r h=>(Do (d:=r.1) (μ':=r.2) h).1) (fun ds μ d μ' h=>(Do h).2)
theorem FT {P:Program} {w:World} {K:PySem.W.Frag} {mg:Str->Option Value} {base:Heap} {x qual:Str} {st:Stmt} {f:Addr} {fd:FuncData} {ps:List Str} {k:Nat} (F:Fun K x qual st f fd) (hm:mg x=some (.ref f)) (hb:Binds K fd ps []):Fn P w K mg base x ps k (fun _=>BE):=by
  refine ⟨(fun ds μ r h=>absurd (show (none:Option (D × Mh))=some r from h) (by simp)),⟨f,fd,⟨fun vs H Q E h=>?_,fun A outer s H args us vs Q E _ _ _ _ h=>?_⟩,hm,F.kp,hb⟩⟩
  . obtain ⟨_,ι,μ,as,d,μ',_,_,e,_⟩:=h
    cases e
  . obtain ⟨_,ι,μ,as,d,μ',_,_,e,_⟩:=h
    cases e
end Mi
namespace Mi
open PySem L2
section
variable {P:Program} {w:World} {K:PySem.W.Frag} {mg:Str->Option Value} {base h:Heap} {x:Str}
theorem OA {i:Int} {t:Tok} (X:K.In h) (G:h.Ns mainGlobals mg) (a:PySem.W.nsIn K mainGlobals x=some (some (.int i t))):Glo K mg x (.int i):=
  ⟨_,.int i,PySem.W.mg_of X G a,⟨t,rfl⟩,fun _ _ _=>by unfold Is; rfl⟩
structure Df (K:PySem.W.Frag) (x:Str) (st:Stmt) (f:Addr) (fd:FuncData):Prop where
  a:PySem.W.nsIn K mainGlobals x=some (some (.ref f))
  F:Fun K x x st f fd
theorem Q2 {st:Stmt} {f:Addr} {oc:Value} {od an:Option Addr} {osl:Array (Option Value)} {kV doc pm cdv ct:Value} (a:PySem.W.nsIn K mainGlobals x=some (some (.ref f))) (l:K.lookup f=some ⟨oc,od,.func (PySem.W.fnOf x x (D6 st) (AX st) (AF st) .none kV doc pm an cdv ct),osl⟩)
    (c:PySem.W.codeIn K cdv x=true) (k:PySem.W.keepIn K (.ref f)=true):∃ f fd,Df K x st f fd:=⟨f,_,a,Pp l c k⟩
theorem MP (hw:How) {qual:Str} {st:Stmt} {f:Addr} {fd:FuncData} {N ps:List Str} {k:Nat} {mb:Sl->M (Fl × Sl)} (F:Fun K x qual st f fd) (S:Ad N ps (AF st))
    (body:∀ (cdv:Value) (A:Around) (outer:List Env) (s:Shared) (H:Hp) (E:XK),Room k (A.deeper (PyProof.Rows.envOfC qual (AF st) s.heap.objs.size f cdv))->RSs (Bl CX0 P w K mg base N qual (AF st) f cdv A outer s H E).nox (AX st) mb) :
    FnOk P w K mg base CX0 (k + 1) f fd ps (spM K ps.length (A3 hw N.length ps.length mb)):=
  GG F S rfl body (fun ds μ d μ' h=>(Do h).2)
def JJ (K:PySem.W.Frag):Sp:=fun vs H Q _=>∃ (a:Addr) (ns:List Int),vs=[.ref a] /\ ScrAt K H a (ns.map V.int) /\ ns.length <= 63 /\ ∀ H',Q (.bl true) H'
theorem Oj {k:Nat} {f:Addr} {fd:FuncData} {φ:List D->M D} (F:FnOk P w K mg base CX0 k f fd ["_law_script"] (spM K 1 φ)) (hφ:∀ ns:List Int,ns.length <= 63->∃ μ',φ [.scr ns] []=some (.bl true,μ')):FnOk P w K mg base CX0 k f fd ["_law_script"] (JJ K):=
  F.imp fun vs H Q E q=>by
    obtain ⟨a,ns,rfl,s,hl,q⟩:=q
    obtain ⟨μ',e⟩:=hφ ns hl
    refine ⟨rfl,fun _=>a,[],[.scr ns],.bl true,μ',⟨fun i j h=>absurd h (Nat.not_lt_zero _),fun n o e=>by simp at e⟩,.one (by unfold Is; exact ⟨a,rfl,s⟩),e,fun ι2 H2 E2 R2 v i=>?_⟩
    unfold Is at i
    rw [i]
    exact q H2
theorem HE {H:Hp} {a:Addr} {xs:List V} (o:OI H) (s:SqL K H a xs):ScrAt K H a xs:=by
  rcases s with z | z
  . rcases z with z | ⟨p,z⟩
    . rcases o a with q | ⟨p,ys,q⟩
      . rw [q] at z; cases z
      . rw [q] at z; cases z
    . exact .inl ⟨p,z⟩
  . exact .inr z
end
theorem P6 {l:PySem.W.OpenLaw} {q:Program} {loose:List Str} {XP:(Str->Option Value)->Heap->Prop} {YP:World->Heap->Prop} {d:DefRec} {K:Params->PySem.W.Frag} {k:Nat} (hn:l.most=some 63) (hdf:d.params.defaults=[]) (hk:k <= 60)
    (hY:∀ (w:World) (h:Heap),YP w h->(K w.params).In h)
    (F:∀ (w:World) (mg:Str->Option Value) (fa:Addr) (h:Heap),(K w.params).In h->h.Ns mainGlobals mg->mg d.name=some (.ref fa)->
      ∃ fd:FuncData,(∀ (s:Shared) (u:Value),BindsTo s fd ⟨[u],[]⟩ [("_law_script",u)]) /\ ∀ base:Heap,(K w.params).In base->base.Ns mainGlobals mg->FnOk l.prog w (K w.params) mg base CX0 k fa fd ["_law_script"] (JJ (K w.params))) :
    PySem.W.WalkO q loose XP YP l.row.toRowW d [] (fun f vs=>PySem.call f vs):=
  L2.Mz (n:=63) (k:=k) (x := "_law_script") (CX:=fun _=>CX0) (sp:=fun w=>JJ (K w.params)) hn (by decide) hdf (Room.mono (j:=k) (k:=60) ⟨rfl,by decide,by decide⟩ hk) hY F (fun _ _ a ns hl o hS=>⟨a,ns,rfl,HE o hS,hl,fun _=>rfl⟩) fun _ _ _ _ _ z=>z
end Mi
namespace Mi
open PySem L2
def Pu {α:Type} (m:Sl->M α):Prop:=∀ τ μ a μ',m τ μ=some (a,μ')->μ'=μ
def Pu2 (g:D->D->M D):Prop:=∀ x y μ a μ',g x y μ=some (a,μ')->μ'=μ
theorem NU {i:Nat}:Pu (AA i):=fun τ μ a μ' e=>by
  unfold AA at e
  split at e
  . cases e; rfl
  . cases e
theorem Qd {g:D->D->M D} {ma mb:Sl->M D} (hg:Pu2 g) (ha:Pu ma) (hb:Pu mb):Pu (mOp g ma mb):=fun τ μ a μ' e=>by
  obtain ⟨x,μ1,e1,e2⟩:=AE e
  obtain ⟨y,μ2,e3,e4⟩:=AE e2
  rw [hg _ _ _ _ _ e4,hb _ _ _ _ e3,ha _ _ _ _ e1]
theorem NT {m:Sl->M D} (h:Pu m):Pu (AN m):=fun τ μ a μ' e=>by
  obtain ⟨x,μ1,e1,e2⟩:=AE e
  have z:=h _ _ _ _ e1
  cases x with
  | bl b=>cases e2; exact z
  | _=>cases e2
theorem O3 {n:Bool}:Pu2 (DU n):=fun x y μ a μ' e=>by
  unfold DU at e
  split at e
  . split at e
    . cases e; rfl
    . cases e
  . cases e
theorem P4 {d:D} {μ μ':Mh} {ds:List D} (e:Bf d μ=some (ds,μ')):μ'=μ:=by
  cases d with
  | lst _=>cases e; rfl
  | scr _=>cases e; rfl
  | ref n=>
    have e:(match μ[n]? with | some (.lst ds)=>some (ds,μ) | _=>none)=some (ds,μ'):=e
    split at e
    . cases e; rfl
    . cases e
  | _=>cases e
section
variable {X:Cx} {scope:Scope} {tgs:List Str} {ix:List Nat} {e elt tg iter:Expr} {pos:Pos}
def Q5:D->M (List D)
  | .ref n=>fun μ=>match μ[n]? with
    | some (.lst ds)=>some (ds,μ)
    | _=>none
  | _=>BE
def Ja (m:Sl->M D):Sl->M (List D):=fun τ=>bnd (m τ) Q5
def ItP (K:PySem.W.Frag) (J:It) (ds:List D) (ι:Nat->Addr) (μ:Mh) (H:Hp):Prop:=∀ ι' H',Ext ι μ.length H ι' μ.length H'->RelH K ι' μ H'->
  (∀ i,i < ds.length->J.go i H') /\ J.stop ds.length H' /\ ∀ (i:Nat) x H2 d,ds[i]? = some d->J.yld i H' x H2->Ext ι' μ.length H' ι' μ.length H2 /\ RelH K ι' μ H2 /\ Is K ι' μ.length H2 d x
theorem ItP.ext {K:PySem.W.Frag} {J:It} {ds:List D} {ι ι':Nat->Addr} {μ:Mh} {H H':Hp} (h:ItP K J ds ι μ H) (E:Ext ι μ.length H ι' μ.length H'):ItP K J ds ι' μ H':=fun ι2 H2 E2 R2=>h ι2 H2 (E.trans E2) R2
def tIP (K:PySem.W.Frag) (m:Sl->M (List D)):TI:=fun σ H R=>∃ ι μ τ ds μ',RelH K ι μ H /\ RelS K ι μ.length H τ σ /\ m τ μ=some (ds,μ') /\
  Aft K ι μ H μ' fun ι' H'=>∀ J,ItP K J ds ι' μ' H'->R J H'
structure RIP (X:Cx) (tg iter:Expr) (m:Sl->M (List D)):Prop where
  pe:PI X tg iter (tIP X.K m)
theorem Ow {m:Sl->M D} (h:RE X e m):RIP X tg e (Ja m):=⟨PI.wk (Gi h.pe) fun σ H Q q=>by
  obtain ⟨ι,μ,τ,ds,μ',R0,S,e,q⟩:=q
  obtain ⟨x,μ1,e1,e⟩:=AE e
  cases x with
  | ref n=>
    have e:(match μ1[n]? with | some (.lst ds)=>some (ds,μ1) | _=>none)=some (ds,μ'):=e
    split at e
    . rename_i es hn
      cases e
      refine ⟨ι,μ,τ,_,_,R0,S,e1,fun ι1 H1 E1 R1 v i1=>?_⟩
      unfold Is at i1
      obtain ⟨hk,rfl⟩:=i1
      obtain ⟨u,hu,o⟩:=R1.obj n _ hn
      obtain ⟨vs,rfl,iv⟩:=o
      refine ⟨_,rfl,⟨vs,SqL.of hu⟩,q ι1 H1 E1 R1 _ ?_⟩
      intro ι2 H2 E2 R2
      obtain ⟨u2,hu2,o2⟩:=R2.obj n _ hn
      obtain ⟨vs2,rfl,iv2⟩:=o2
      rw [E2.agree n hk] at hu2
      have hl:=iv2.length
      refine ⟨fun j hj=>⟨vs2,vs2[j],SqL.of hu2,by simp⟩,⟨vs2,SqL.of hu2,by omega⟩,fun j x H3 d hd y=>?_⟩
      obtain ⟨z,y⟩:=y
      subst z
      obtain ⟨v,ev,iv3⟩:=iv2.get hd
      have:=y vs2 (SqL.of hu2)
      rw [ev] at this; cases this
      exact ⟨R2.ext0,R2,iv3⟩
    . cases e
  | _=>cases e⟩
end
end Mi
namespace Mi
open PySem L2 PyProof.Rows
section
variable {X:Cx} {e a b c o:Expr} {es:List Expr} {pos apos cpos:Pos}
theorem Ln:OpR X (binaryOp .Add) (fun x y H Q=>∃ a b ys,x=.ref a /\ y=.ref b /\ SqT X.K H a [] /\ SqT X.K H b ys /\ Q (.ref b) H):=by
  intro pins s σ H x y v u Q I rx ry h
  obtain ⟨a,b,ys,rfl,rfl,ha,hb,q⟩:=h
  cases rx
  cases ry
  obtain ⟨its,r1,p1,_⟩:=I.tuple ha
  obtain ⟨its2,r2,p2,_⟩:=I.tuple hb
  cases r1
  obtain ⟨⟨cls,dd,data,sl⟩,ho,hc,n,hd⟩:=p1
  obtain ⟨⟨cls2,dd2,data2,sl2⟩,ho2,hc2,n2,hd2⟩:=p2
  simp only at hc hd hc2 hd2
  subst hc hd hc2 hd2
  exact concat_meets ⟨_,ho,rfl⟩ ⟨_,ho2,rfl⟩ noFill_tuple_add seq_tuple_add PySem.F.slot_tuple_add PySem.F.entry_tuple_add (PySem.F.args_tuple_add_2 _ _) (tuple_addW0 a b _ _ n n2 dd dd2 sl sl2 rfl) ⟨ho,ho2,⟨.ref b,H,I,rfl,q⟩⟩
def AW (a b:D):M D:=match a,b with
  | .tup [],.tup ds=>ret (.tup ds)
  | a,b=>La a b
theorem Ap:OpR X (binaryOp .Add) (rM X.K AW):=fun pins s σ H x y v u Q I rx ry h=>by
  obtain ⟨ι,μ,a,b,d,μ',R,ia,ib,e,q⟩:=h
  unfold AW at e
  split at e
  . rename_i ds
    cases e
    unfold Is at ia
    obtain ⟨p,vs,rfl,h1,h2⟩:=ia
    unfold IsL at h2
    subst h2
    have ib2:=ib
    unfold Is at ib
    obtain ⟨p',vs',rfl,h1',h2'⟩:=ib
    exact Ln pins s σ H _ _ v u Q I rx ry ⟨p,p',vs',rfl,rfl,h1,h1',q ι H R.ext0 R _ ib2⟩
  . exact Qr pins s σ H x y v u Q I rx ry ⟨ι,μ,_,_,d,μ',R,ia,ib,e,q⟩
theorem Fx {prog:Program} {w:World} {A:Around} {E:Value->Shared->Prop} {s:Shared} {t sl:Addr} {items:Array Value} {vl vu:Value} {lo hi:Option Int} {Q:Value->Shared->Prop} (ht:IsTup s.heap t items) (hs:s.heap.IsSliceOf sl vl vu .none) (pl:IsPart vl lo) (pu:IsPart vu hi)
    (h1:HT.sIx items.size 0 lo=0) (h2:HT.sIx items.size items.size hi=items.size) (h:Q (.ref t) s):wpAny (model prog w) A (getItem (.ref t) (.ref sl)) Q E s:=by
  obtain ⟨os,hos,hcs,hds⟩:=id hs
  have hTs:s.TypeIs (.ref sl) "slice" := ⟨os,hos,hcs⟩
  unfold getItem
  try with_reducible refine wpAny_holding ?_
  first | refine wpAny_bind (wpAny_pure ?_) | skip
  refine wpAny_bind (wpAny_sequenceKey ht.typeIs (by decide) ?_)
  refine wpAny_bind (wpAny_callSpecial?_slot (name:=Str.ofString "__getitem__") ht.typeIs PyProof.Rows.slot_tuple_getitem
    (wpAny_call_entry PyProof.Rows.slot_tuple_getitem ht.typeIs entry_tuple_getitem ?_ (args_tuple_getitem _ _)))
  show wpAny _ _ (Builtin.Tuple.tupleItemsOf (.ref t) >>= _) _ _ s
  refine wpAny_bind (tupleItemsOf_ ht ?_)
  refine wpAny_bind (wpAny_typeOf hTs ?_)
  rw [if_pos (by decide)]
  refine wpAny_bind (HT.CW hs pl pu ?_)
  have hyes:((((HT.sIx items.size 0 lo:Nat):Int) == 0 && (1:Int) == 1 && (HT.sIx items.size items.size hi - HT.sIx items.size 0 lo) == items.size)=true):=by rw [h1,h2]; simp
  show wpAny _ _ (if (((HT.sIx items.size 0 lo:Nat):Int) == 0 && (1:Int) == 1 && (HT.sIx items.size items.size hi - HT.sIx items.size 0 lo) == items.size)=true then _ else _) _ _ s
  rw [if_pos hyes]
  refine wpAny_bind (m:=Builtin.Tuple.tupleIsExact (.ref t)) ?_
  unfold Builtin.Tuple.tupleIsExact
  refine wpAny_bind (wpAny_typeOf ht.typeIs (wpAny_pure ?_))
  rw [if_pos (by decide)]
  refine wpAny_bind (wpAny_rule ?_)
  exact wpAny_pure ⟨_,rfl,wpAny_pure h⟩
theorem NA:SlR X (fun x lo hi H Q=>∃ a xs,x=.ref a /\ SqT X.K H a xs /\ HT.sIx xs.length 0 lo=0 /\ HT.sIx xs.length xs.length hi=xs.length /\ Q (.ref a) H):=by
  intro pins s σ H x v vl vu lo hi sl Q I rx hs pl pu h
  obtain ⟨a,xs,rfl,hx,h1,h2,q⟩:=h
  cases rx
  obtain ⟨its,r,ht,hz⟩:=I.tuple hx
  have hlen:its.toArray.size=xs.length:=by rw [List.size_toArray]; exact r.length.symm
  refine ⟨"tuple",_,PyProof.Rows.slot_tuple_getitem.lookup,ht.typeIs,?_⟩
  exact Fx ht hs pl pu (by rw [hlen]; exact h1) (by rw [hlen]; exact h2) ⟨.ref a,H,I,rfl,q⟩
theorem Mm {ds:List D} {lo hi:Option Int} (h1:HT.sIx ds.length 0 lo=0) (h2:HT.sIx ds.length ds.length hi=ds.length):CT ds lo hi=ds:=by
  unfold CT
  rw [h1,h2]; simp
def JP (lo hi:Option Int):D->M D
  | .tup ds=>ret (.tup (CT ds lo hi))
  | d=>bnd (Bf d) fun ds=>ret (.lst (CT ds lo hi))
def RY (K:PySem.W.Frag):V->Option Int->Option Int->Hp->VK->Prop:=fun x lo hi H Q=>∃ ι μ a d μ',RelH K ι μ H /\ Is K ι μ.length H a x /\ JP lo hi a μ=some (d,μ') /\
  Aft K ι μ H μ' fun ι' H'=>∀ v,Is K ι' μ'.length H' d v->Q v H'
theorem Qp:SlR X (RY X.K):=fun pins s σ H x v vl vu lo hi sl Q I rx hs pl pu h=>by
  obtain ⟨ι,μ,a,d,μ',R,ia,e,q⟩:=h
  by_cases c:∃ ds,a=.tup ds /\ HT.sIx ds.length 0 lo=0 /\ HT.sIx ds.length ds.length hi=ds.length
  . obtain ⟨ds,rfl,h1,h2⟩:=c
    have e:some (D.tup (CT ds lo hi),μ)=some (d,μ'):=e
    rw [Mm h1 h2] at e
    cases e
    have ia2:=ia
    unfold Is at ia
    obtain ⟨p,vs,rfl,g1,g2⟩:=ia
    exact NA pins s σ H _ v vl vu lo hi sl Q I rx hs pl pu ⟨p,vs,rfl,g1,by rw [g2.length]; exact h1,by rw [g2.length]; exact h2,q ι H R.ext0 R _ ia2⟩
  . refine Ra pins s σ H x v vl vu lo hi sl Q I rx hs pl pu ⟨ι,μ,a,d,μ',R,ia,?_,q⟩
    cases a with
    | tup ds=>
      show (if HT.sIx ds.length 0 lo=0 /\ HT.sIx ds.length ds.length hi=ds.length then (BE:M D) else ret (D.tup (CT ds lo hi))) μ=_
      rw [if_neg (fun z=>c ⟨ds,rfl,z.1,z.2⟩)]; exact e
    | _=>exact e
def FM (me:Sl->M D) (ml mh:Sl->M (Option Int)):Sl->M D:=fun τ=>bnd (me τ) fun x=>bnd (ml τ) fun l=>bnd (mh τ) fun h=>JP l h x
theorem De {e:Expr} {lo hi:Option Expr} {me:Sl->M D} {ml mh:Sl->M (Option Int)} {pos p2:Pos} (he:RE X e me) (hl:RO X lo ml) (hh:RO X hi mh):RE X (.Subscript e (.Slice lo hi none p2) pos) (FM me ml mh):=RE.wk (Lk Qp he.pe hl.pe hh.pe) fun σ H Q h=>by
  obtain ⟨ι,μ,τ,z,μ',R,S,e,q⟩:=h
  obtain ⟨x,μ1,e1,e⟩:=AE e
  obtain ⟨l,μ2,e2,e⟩:=AE e
  obtain ⟨u,μ3,e3,e⟩:=AE e
  refine ⟨ι,μ,τ,x,μ1,R,S,e1,fun ι1 H1 E1 R1 v i1=>⟨ι1,μ1,τ,l,μ2,R1,S.ext E1,e2,fun ι2 H2 E2 R2=>⟨ι2,μ2,τ,u,μ3,R2,S.ext (E1.trans E2),e3,fun ι3 H3 E3 R3=>?_⟩⟩⟩
  have E23:=E2.trans E3
  exact ⟨ι3,μ3,x,z,μ',R3,i1.ext E23,e,fun ι4 H4 E4 R4=>q ι4 H4 ((E1.trans E23).trans E4) R4⟩
end
end Mi
namespace Mi
open PySem L2
open PyProof.Rows hiding St
section
variable {X:Cx} {e a b c o tg iter elt:Expr} {es:List Expr} {pos apos cpos:Pos} {scope:Scope} {tgs:List Str} {ix:List Nat}
end
end Mi
namespace Mi
open PySem L2
open PyProof.Rows hiding St
section
variable {X:Cx} {e a b c o:Expr} {es:List Expr} {pos apos cpos:Pos}
def EY:List D->Option (List Int)
  | []=>some []
  | .int i :: ds=>(EY ds).map (i :: ·)
  | _=>none
theorem HW {K:PySem.W.Frag} {ι:Nat->Addr} {k:Nat} {H:Hp}:∀ {ds:List D} {vs:List V} {ns:List Int},IsL K ι k H ds vs->EY ds=some ns->vs=ns.map V.int
  | [],_,_,h,e=>by cases e; unfold IsL at h; exact h
  | .int b :: ds,_,_,h,e=>by
    unfold IsL at h
    obtain ⟨v,vs',rfl,h1,h2⟩:=h
    unfold EY at e
    cases q:EY ds with
    | none=>rw [q] at e; cases e
    | some bs=>
      rw [q] at e; cases e
      unfold Is at h1
      rw [h1,HW h2 q]; rfl
  | .non :: _,_,_,_,e=>by cases e
  | .bl _ :: _,_,_,_,e=>by cases e
  | .str _ :: _,_,_,_,e=>by cases e
  | .ty _ :: _,_,_,_,e=>by cases e
  | .scr _ :: _,_,_,_,e=>by cases e
  | .tup _ :: _,_,_,_,e=>by cases e
  | .lst _ :: _,_,_,_,e=>by cases e
  | .ref _ :: _,_,_,_,e=>by cases e
theorem EL:∀ ns:List Int,EY (ns.map D.int)=some ns
  | []=>rfl
  | n :: r=>by show (EY (r.map D.int)).map (n :: ·)=_; rw [EL r]; rfl
end
end Mi
namespace Mi
open PySem L2
open PyProof.Rows hiding St
section
variable {X:Cx} {e a b c o:Expr} {es:List Expr} {pos apos cpos:Pos}
end
end Mi
namespace Mi
open PySem L2
end Mi
local macro_rules | `(tactic| wtm_at "own qpu")=>`(tactic| repeat first | exact Mi.NU | exact Mi.pu_c | exact Mi.pu_true | exact Mi.pu_ix | exact Mi.O3 | exact Mi.pu_nil | exact Mi.pu_inst | exact Mi.pu_len | apply Mi.NT | apply Mi.Qd | apply Mi.pu_cons | apply Mi.pu_disp | apply Mi.pu_or | apply Mi.pu_and | apply Mi.pu_not)
namespace Ht
open PySem PySem.SetTable
abbrev Ris (l:List Nat):Prop:=l.Pairwise (· < ·)
theorem IP {xs:Array Nat} (r:Ris xs.toList) {i k:Nat} (hk:k < xs.size) (h:i < k):xs[i]'(Nat.lt_trans h hk) < xs[k]:=by
  have:=List.pairwise_iff_getElem.mp r i k (by simpa using Nat.lt_trans h hk) (by simpa using hk) h
  simpa using this
theorem LQ {xs:Array Nat} (r:Ris xs.toList) {i k:Nat} (hk:k < xs.size) (h:i <= k):xs[i]'(Nat.lt_of_le_of_lt h hk) <= xs[k]:=by
  rcases Nat.lt_or_eq_of_le h with z | z
  . exact Nat.le_of_lt (IP r hk z)
  . subst z; exact Nat.le_refl _
structure Bel (xs:Array Nat) (j b:Nat):Prop where
  le:b <= xs.size
  lo:∀ i (h:i < xs.size),i < b->xs[i] < j
  hi:∀ i (h:i < xs.size),b <= i->j <= xs[i]
theorem Fh {xs:Array Nat} {j:Nat} (r:Ris xs.toList):∀ A0 lo hi,lo <= hi->hi <= xs.size->hi - lo <= A0->(∀ i (h:i < xs.size),i < lo->xs[i] < j)->(∀ i (h:i < xs.size),hi <= i->j <= xs[i])->Bel xs j (below.go xs j A0 lo hi)
  | 0,lo,hi,h1,h2,h3,h4,h5=>by
    have:lo=hi:=by omega
    subst this
    exact ⟨h2,h4,h5⟩
  | A0 + 1,lo,hi,h1,h2,h3,h4,h5=>by
    unfold below.go
    by_cases z:lo < hi
    . rw [if_pos z]
      have hm:(lo + hi) / 2 < hi:=by omega
      have hm2:lo <= (lo + hi) / 2:=by omega
      have hs:(lo + hi) / 2 < xs.size:=by omega
      have e:xs.getD ((lo + hi) / 2) j=xs[(lo + hi) / 2]:=by simp [Array.getD,hs]
      dsimp only
      rw [e]
      by_cases q:xs[(lo + hi) / 2] < j
      . rw [if_pos q]
        exact Fh r A0 _ hi (by omega) h2 (by omega) (fun i h hi'=>Nat.lt_of_le_of_lt (LQ r hs (by omega)) q) h5
      . rw [if_neg q]
        exact Fh r A0 lo _ hm2 (by omega) (by omega) h4 (fun i h hi'=>Nat.le_trans (Nat.le_of_not_lt q) (LQ r h hi'))
    . rw [if_neg z]
      have:lo=hi:=by omega
      subst this
      exact ⟨h2,h4,h5⟩
theorem Ct {xs:Array Nat} (r:Ris xs.toList) (j:Nat):Bel xs j (below xs j):=
  Fh r _ 0 _ (Nat.zero_le _) (Nat.le_refl _) (by omega) (fun i _ h=>absurd h (by omega)) (fun i h h2=>absurd h2 (by omega))
theorem Mt {xs:Array Nat} (r:Ris xs.toList) {k:Nat} (hk:k < xs.size):below xs xs[k]=k:=by
  have b:=Ct r xs[k]
  rcases Nat.lt_trichotomy (below xs xs[k]) k with z | z | z
  . have h1:=b.hi _ (Nat.lt_trans z hk) (Nat.le_refl _)
    have h2:=IP r hk z
    omega
  . exact z
  . have:=b.lo k hk z
    omega
theorem Ip {xs:Array Nat} (r:Ris xs.toList) {k:Nat} (hk:k < xs.size):below xs (xs[k] + 1)=k + 1:=by
  have b:=Ct r (xs[k] + 1)
  rcases Nat.lt_trichotomy (below xs (xs[k] + 1)) (k + 1) with z | z | z
  . have h1:=b.hi k hk (by omega)
    omega
  . exact z
  . have h1:=b.lo (k + 1) (by have:=b.le; omega) z
    have h2:=IP r (k:=k + 1) (i:=k) (by have:=b.le; omega) (by omega)
    omega
theorem Io {xs:Array Nat} (r:Ris xs.toList):below xs 0=0:=by
  have b:=Ct r 0
  rcases Nat.eq_zero_or_pos (below xs 0) with z | z
  . exact z
  . have:=b.lo 0 (by have:=b.le; omega) z
    omega
theorem LD {t:SetTable} (r:Ris t.place.toList) {j:Nat} (h:j ∈ t.place.toList):∃ i,t.slot j=.live i:=by
  obtain ⟨k,hk,e⟩:=List.getElem_of_mem h
  have hk':k < t.place.size:=by simpa using hk
  have e':t.place[k]=j:=by simpa using e
  refine ⟨k,?_⟩
  unfold slot
  have b:below t.place j=k:=by rw [← e']; exact Mt r hk'
  dsimp only
  rw [b,if_pos (by simp [hk',e'])]
theorem Ck {t:SetTable} (d:t.dummies = #[]) (j:Nat):t.slot j ≠ .dummy:=by
  unfold slot
  dsimp only
  split
  . exact fun h=>by cases h
  . rw [d]
    have:has (#[]:Array Nat) j=false:=by unfold has; simp
    rw [this]
    exact fun h=>by cases h
theorem KA {t:SetTable} {i j:Nat} (h:t.slot j=.live i):j ∈ t.place.toList:=by
  unfold slot at h
  dsimp only at h
  split at h
  . rename_i e
    have e':t.place[below t.place j]? = some j:=by simpa using e
    obtain ⟨hk,e2⟩:=Array.getElem?_eq_some_iff.mp e'
    rw [← e2]
    simp
  . split at h <;> cases h
theorem NH {xs:Array Nat} (r:Ris xs.toList) {j:Nat} (h:j ∉ xs.toList):Ris (insertAt xs (below xs j) j).toList:=by
  have b:=Ct r j
  rw [toList_insertAt]
  refine List.pairwise_append.mpr ⟨List.Pairwise.sublist (List.take_sublist _ _) r,List.pairwise_cons.mpr ⟨fun y hy=>?_,List.Pairwise.sublist (List.drop_sublist _ _) r⟩,fun x hx y hy=>?_⟩
  . obtain ⟨i,hi,e⟩:=List.getElem_of_mem hy
    rw [List.getElem_drop] at e
    have hs:below xs j + i < xs.size:=by simp at hi; omega
    have:=b.hi _ hs (Nat.le_add_right _ _)
    have e2:xs[below xs j + i]=y:=by simpa using e
    have hne:y ≠ j:=fun z=>h (by rw [← z]; exact List.mem_of_mem_drop hy)
    omega
  . have hxj:x < j:=by
      obtain ⟨i,hi,e⟩:=List.getElem_of_mem hx
      rw [List.getElem_take] at e
      have hi2:i < below xs j /\ i < xs.size:=by
        have:i < min (below xs j) xs.size:=by simpa using hi
        omega
      have e2:xs[i]'hi2.2=x:=by simpa using e
      have:=b.lo _ hi2.2 hi2.1
      omega
    rcases List.mem_cons.mp hy with z | z
    . rw [z]; exact hxj
    . obtain ⟨i,hi,e⟩:=List.getElem_of_mem z
      rw [List.getElem_drop] at e
      have hs:below xs j + i < xs.size:=by simp at hi; omega
      have:=b.hi _ hs (Nat.le_add_right _ _)
      have e2:xs[below xs j + i]=y:=by simpa using e
      omega
def lp (mask:Nat):Nat->Nat × Nat->Nat × Nat
  | 0,x=>x
  | n + 1,x=>lp mask n (leap mask x.1 x.2)
theorem L0 (mask:Nat):∀ (a b:Nat) (x:Nat × Nat),lp mask (a + b) x=lp mask b (lp mask a x)
  | 0,b,x=>by rw [Nat.zero_add]; rfl
  | a + 1,b,x=>by
    rw [show a + 1 + b=(a + b) + 1 from by omega]
    exact L0 mask a b _
theorem Lz (mask:Nat):∀ (n:Nat) (x:Nat × Nat),(lp mask n x).2=x.2 / 32 ^ n
  | 0,x=>by simp [lp]
  | n + 1,x=>by
    show (lp mask n (leap mask x.1 x.2)).2=_
    rw [Lz mask n]
    show x.2 / 32 / 32 ^ n=_
    rw [Nat.div_div_eq_div_mul,Nat.pow_succ,Nat.mul_comm]
theorem OS (mask:Nat):∀ (n:Nat) (x:Nat × Nat),x.1 < mask + 1->(lp mask n x).1 < mask + 1
  | 0,x,h=>h
  | n + 1,x,h=>OS mask n _ (Nat.mod_lt _ (by omega))
theorem Ov:∀ i,i < 8->∀ j,j < 8->∃ n,n < 8 /\ (lp 7 n (i,0)).1=j:=by decide +kernel
theorem NG:∀ i,i < 16->∀ j,j < 16->∃ n,n < 16 /\ (lp 15 n (i,0)).1=j:=by decide +kernel
theorem NF:∀ i,i < 32->∀ j,j < 32->∃ n,n < 32 /\ (lp 31 n (i,0)).1=j:=by decide +kernel
abbrev Sm (mask:Nat):Prop:=mask=7 ∨ mask=15 ∨ mask=31
theorem Oc {mask:Nat} (hm:Sm mask) {i p:Nat} (hi:i < mask + 1) (hp:p < 2 ^ 64) {j:Nat} (hj:j < mask + 1):∃ n,n < turns mask /\ (lp mask n (i,p)).1=j:=by
  have h0:(lp mask 13 (i,p)).2=0:=by
    rw [Lz]
    exact Nat.div_eq_of_lt (Nat.lt_trans hp (by decide))
  have h1:=OS mask 13 (i,p) hi
  have e:lp mask 13 (i,p)=((lp mask 13 (i,p)).1,0):=by rw [← h0]
  have:∃ n,n < mask + 1 /\ (lp mask n ((lp mask 13 (i,p)).1,0)).1=j:=by
    rcases hm with z | z | z <;> subst z
    . exact Ov _ h1 j hj
    . exact NG _ h1 j hj
    . exact NF _ h1 j hj
  obtain ⟨n,h2,h3⟩:=this
  refine ⟨13 + n,by unfold turns; omega,?_⟩
  rw [L0,e]
  exact h3
theorem Jv (h:Int):bits h < 2 ^ 64:=by
  unfold bits
  have h1:=Int.emod_nonneg h (show (2 ^ 64:Int) ≠ 0 by decide)
  have h2:=Int.emod_lt_of_pos h (show (0:Int) < 2 ^ 64 by decide)
  omega
abbrev start (t:SetTable) (i pt:Nat):Probe:={ j:=i,more:=runEnd t.mask i - i,i:=i,perturb:=pt,dummy:=none }
theorem F6 {t:SetTable} (d:t.dummies = #[]) {f:Nat->Int} {h:Int} (hf:∀ i,f i ≠ h):∀ (A0:Nat) (p:Probe) (m:Met),p.dummy=none->probe.go t f h A0 p=some m->∃ j,m=.empty j none /\ t.slot j=.empty
  | 0,p,m,hp,e=>by cases e
  | A0 + 1,p,m,hp,e=>by
    unfold probe.go at e
    have hadv:(t.advance p).dummy=none:=by
      unfold advance
      split
      . exact hp
      . exact hp
    split at e
    . rename_i q
      cases e
      exact ⟨p.j,by rw [hp],q⟩
    . rename_i q
      exact absurd q (Ck d _)
    . rename_i i q
      rw [if_neg (by simpa using hf i)] at e
      exact F6 d hf A0 _ m hadv e
theorem HH {t:SetTable} (d:t.dummies = #[]) {f:Nat->Int} {h:Int} (hf:∀ i,f i ≠ h):∀ (more A0 j i pt:Nat),probe.go t f h (A0 + more + 1) { j:=j,more:=more,i:=i,perturb:=pt,dummy:=none }=none->
    t.slot j ≠ .empty /\ probe.go t f h A0 (start t (leap t.mask i pt).1 (leap t.mask i pt).2)=none
  | 0,A0,j,i,pt,e=>by
    unfold probe.go at e
    split at e
    . cases e
    . rename_i q
      exact absurd q (Ck d _)
    . rename_i k q
      rw [if_neg (by simpa using hf k)] at e
      have q':t.slot j=.live k:=q
      refine ⟨by rw [q']; exact fun z=>(by cases z),?_⟩
      have:t.advance { j:=j,more:=0,i:=i,perturb:=pt,dummy:=none }=start t (leap t.mask i pt).1 (leap t.mask i pt).2:=rfl
      rw [this] at e
      exact e
  | more + 1,A0,j,i,pt,e=>by
    rw [show A0 + (more + 1) + 1=(A0 + more + 1) + 1 from by omega] at e
    unfold probe.go at e
    split at e
    . cases e
    . rename_i q
      exact absurd q (Ck d _)
    . rename_i k q
      rw [if_neg (by simpa using hf k)] at e
      have q':t.slot j=.live k:=q
      refine ⟨by rw [q']; exact fun z=>(by cases z),?_⟩
      have:t.advance { j:=j,more:=more + 1,i:=i,perturb:=pt,dummy:=none }={ j:=j + 1,more:=more,i:=i,perturb:=pt,dummy:=none }:=by
        unfold advance
        rw [if_pos (by simp)]
        rfl
      rw [this] at e
      exact (HH d hf more A0 (j + 1) i pt e).2
theorem F3 {t:SetTable} (d:t.dummies = #[]) {f:Nat->Int} {h:Int} (hf:∀ i,f i ≠ h):∀ (m A0 i pt:Nat),10 * m <= A0->probe.go t f h A0 (start t i pt)=none->∀ n,n < m->t.slot (lp t.mask n (i,pt)).1 ≠ .empty
  | 0,_,_,_,_,_,n,hn=>absurd hn (by omega)
  | m + 1,A0,i,pt,hl,e,n,hn=>by
    have hr:runEnd t.mask i - i <= 9:=by unfold runEnd; split <;> omega
    have ef:A0=(A0 - (runEnd t.mask i - i) - 1) + (runEnd t.mask i - i) + 1:=by omega
    rw [ef] at e
    obtain ⟨h1,h2⟩:=HH d hf _ _ _ _ _ e
    cases n with
    | zero=>exact h1
    | succ n=>exact F3 d hf m _ _ _ (by omega) h2 n (by omega)
theorem Dw {α:Type} [DecidableEq α]:∀ {l r:List α},l.Nodup->(∀ x ∈ l,x ∈ r)->l.length <= r.length
  | [],_,_,_=>Nat.zero_le _
  | a :: l,r,hn,hs=>by
    obtain ⟨h1,h2⟩:=List.nodup_cons.mp hn
    have ha:=hs a (List.mem_cons_self ..)
    have:=Dw (r:=r.erase a) h2 fun x hx=>(List.mem_erase_of_ne (fun z=>h1 (by rw [← z]; exact hx))).mpr (hs x (List.mem_cons_of_mem _ hx))
    rw [List.length_erase_of_mem ha] at this
    have hp:=List.length_pos_of_mem ha
    simp only [List.length_cons]
    omega
theorem OB {t:SetTable} (d:t.dummies = #[]) (hm:Sm t.mask) (r:Ris t.place.toList) (hs:t.place.size <= t.mask) (h:Int):∃ j,t.freeSlot h=some (j,false) /\ t.slot j=.empty:=by
  have hf:∀ i:Nat,(fun _:Nat=>h + 1) i ≠ h:=fun i=>by show h + 1 ≠ h; omega
  unfold freeSlot
  cases e:t.probe (fun _=>h + 1) h (t.probeStart h) with
  | some m=>
    obtain ⟨j,rfl,q⟩:=F6 d hf _ _ m rfl e
    exact ⟨j,rfl,q⟩
  | none=>
    exfalso
    have e':probe.go t (fun _=>h + 1) h (10 * turns t.mask) (start t (bits h % (t.mask + 1)) (bits h))=none:=e
    have hv:=F3 d hf (turns t.mask) _ _ _ (Nat.le_refl _) e'
    have all:∀ j ∈ List.range (t.mask + 1),j ∈ t.place.toList:=fun j hj=>by
      obtain ⟨n,h1,h2⟩:=Oc hm (i:=bits h % (t.mask + 1)) (p:=bits h) (Nat.mod_lt _ (by omega)) (Jv h) (List.mem_range.mp hj)
      have h3:=hv n h1
      rw [h2] at h3
      cases q:t.slot j with
      | empty=>exact absurd q h3
      | dummy=>exact absurd q (Ck d _)
      | live i=>exact KA q
    have:=Dw List.nodup_range all
    simp at this
    omega
end Ht
namespace Ht
open PySem PySem.SetTable
theorem FU {α β:Type} {f g:α->Option β}:∀ {l:List α},(∀ x ∈ l,f x=g x)->l.filterMap f=l.filterMap g
  | [],_=>rfl
  | a :: l,h=>by
    have h1:=h a (List.mem_cons_self ..)
    have h2:=FU (l:=l) fun x hx=>h x (List.mem_cons_of_mem _ hx)
    cases q:g a with
    | none=>rw [List.filterMap_cons_none (h1.trans q),List.filterMap_cons_none q,h2]
    | some b=>rw [List.filterMap_cons_some (h1.trans q),List.filterMap_cons_some q,h2]
theorem MQ {β:Type} {f g:Nat->Option β} {j:Nat} {b:β} (hj:f j=none) (hg:g j=some b) (ho:∀ i,i ≠ j->g i=f i):∀ {l:List Nat},l.Nodup->j ∈ l->(l.filterMap g).Perm (b :: l.filterMap f)
  | [],_,h=>by cases h
  | a :: l,hn,h=>by
    obtain ⟨h1,h2⟩:=List.nodup_cons.mp hn
    by_cases e:a=j
    . subst e
      have same:l.filterMap g=l.filterMap f:=FU fun i hi=>ho i fun z=>h1 (by rw [← z]; exact hi)
      rw [List.filterMap_cons_some hg,List.filterMap_cons_none hj,same]
    . have hl:j ∈ l:=(List.mem_cons.mp h).resolve_left fun z=>e z.symm
      have ih:=MQ hj hg ho h2 hl
      cases q:f a with
      | none=>rw [List.filterMap_cons_none ((ho a e).trans q),List.filterMap_cons_none q]; exact ih
      | some c=>
        rw [List.filterMap_cons_some ((ho a e).trans q),List.filterMap_cons_some q]
        exact (ih.cons c).trans (List.Perm.swap b c _)
theorem Hc {mask:Nat} {owner:Array (Option Nat)}:∀ (A0 i pt j:Nat),layClean.free mask owner A0 i pt=some j->owner.getD j (some 0)=none
  | 0,_,_,_,e=>by cases e
  | A0 + 1,i,pt,j,e=>by
    unfold layClean.free at e
    split at e
    . rename_i k q
      cases e
      have:=List.find?_some q
      simpa using this
    . exact Hc A0 _ _ j e
theorem GE {mask:Nat} {owner:Array (Option Nat)}:∀ (m i pt:Nat),layClean.free mask owner m i pt=none->∀ n,n < m->owner.getD (lp mask n (i,pt)).1 (some 0) ≠ none
  | 0,_,_,_,n,hn=>absurd hn (by omega)
  | m + 1,i,pt,e,n,hn=>by
    unfold layClean.free at e
    split at e
    . cases e
    . rename_i q
      cases n with
      | zero=>
        have hr:i <= runEnd mask i:=by unfold runEnd; split <;> omega
        have:=List.find?_eq_none.mp q 0 (List.mem_range.mpr (by omega))
        intro z
        apply this
        show (owner.getD (i + 0) (some 0)).isNone=true
        rw [Nat.add_zero]
        have z':owner.getD i (some 0)=none:=z
        rw [z']; rfl
      | succ n=>exact GE m _ _ e n (by omega)
abbrev own (mask:Nat) (owner:Array (Option Nat)):List Nat:=(List.range (mask + 1)).filterMap fun j=>owner.getD j none
theorem Kl {owner:Array (Option Nat)} {j:Nat} (h:owner.getD j (some 0)=none):j < owner.size /\ owner.getD j none=none:=by
  unfold Array.getD at h ⊢
  split at h
  . rename_i q
    exact ⟨q,by rw [dif_pos q]; exact h⟩
  . cases h
theorem Km {owner:Array (Option Nat)} {j:Nat} (hj:j < owner.size) (h:owner.getD j (some 0) ≠ none):∃ k,owner.getD j none=some k:=by
  unfold Array.getD at h ⊢
  rw [dif_pos hj] at h ⊢
  cases e:owner[j] with
  | none=>exact absurd e h
  | some k=>exact ⟨k,e⟩
theorem OC {mask:Nat} (hm:Sm mask) {owner:Array (Option Nat)} (hs:owner.size=mask + 1) {k:Nat} (hp:(own mask owner).Perm (List.range k)) (hk:k <= mask) (h:Int) :
    ∃ j,layClean.free mask owner (turns mask) (bits h % (mask + 1)) (bits h)=some j:=by
  cases e:layClean.free mask owner (turns mask) (bits h % (mask + 1)) (bits h) with
  | some j=>exact ⟨j,rfl⟩
  | none=>
    exfalso
    have hv:=GE _ _ _ e
    have len:∀ l:List Nat,(∀ j ∈ l,j < mask + 1)->(l.filterMap fun j=>owner.getD j none).length=l.length:=by
      intro l
      induction l with
      | nil=>intro _; rfl
      | cons a l ih=>
        intro ha
        obtain ⟨n,h1,h2⟩:=Oc hm (i:=bits h % (mask + 1)) (p:=bits h) (Nat.mod_lt _ (by omega)) (Jv h) (ha a (List.mem_cons_self ..))
        have h3:=hv n h1
        rw [h2] at h3
        obtain ⟨c,hc⟩:=Km (by rw [hs]; exact ha a (List.mem_cons_self ..)) h3
        rw [List.filterMap_cons_some (f:=fun j=>owner.getD j none) hc,List.length_cons,ih fun j hj=>ha j (List.mem_cons_of_mem _ hj),List.length_cons]
    have h1:=len (List.range (mask + 1)) fun j hj=>List.mem_range.mp hj
    have h2:=hp.length_eq
    simp only [List.length_range] at h1 h2
    have h3:(own mask owner).length=mask + 1:=h1
    omega
def Mq (mask:Nat) (acc:Option (Array (Option Nat) × Nat)) (h:Int):Option (Array (Option Nat) × Nat):=do
  let (owner,k) ← acc
  let j ← layClean.free mask owner (turns mask) (bits h % (mask + 1)) (bits h)
  pure (owner.setIfInBounds j (some k),k + 1)
theorem Hn {mask:Nat} (hm:Sm mask):∀ (l:List Int) (owner:Array (Option Nat)) (k:Nat),owner.size=mask + 1->(own mask owner).Perm (List.range k)->k + l.length <= mask->
    ∃ owner',l.foldl (Mq mask) (some (owner,k))=some (owner',k + l.length) /\ owner'.size=mask + 1 /\ (own mask owner').Perm (List.range (k + l.length))
  | [],owner,k,hs,hp,_=>⟨owner,rfl,hs,hp⟩
  | h :: l,owner,k,hs,hp,hk=>by
    obtain ⟨j,e⟩:=OC hm hs hp (by omega) h
    obtain ⟨hj,hn⟩:=Kl (Hc _ _ _ _ e)
    have st:Mq mask (some (owner,k)) h=some (owner.setIfInBounds j (some k),k + 1):=by
      show ((layClean.free mask owner (turns mask) (bits h % (mask + 1)) (bits h)).bind fun j=>some (owner.setIfInBounds j (some k),k + 1))=_
      rw [e]; rfl
    have hp':(own mask (owner.setIfInBounds j (some k))).Perm (List.range (k + 1)):=by
      have:=MQ (f:=fun j=>owner.getD j none) (g:=fun i=>(owner.setIfInBounds j (some k)).getD i none) (b:=k) hn (by simp [Array.getD,hj]) (fun i hi=>by
        simp only [Array.getD,Array.size_setIfInBounds]
        split
        . rename_i hi2
          show (owner.setIfInBounds j (some k))[i]'(by rw [Array.size_setIfInBounds]; exact hi2)=owner[i]
          rw [Array.getElem_setIfInBounds_ne]; exact hi.symm
        . rfl) (List.nodup_range (n:=mask + 1)) (List.mem_range.mpr (by omega))
      refine this.trans ((hp.cons k).trans ?_)
      rw [List.range_succ]
      exact (List.perm_append_singleton k (List.range k)).symm
    obtain ⟨owner',e1,e2,e3⟩:=Hn hm l (owner.setIfInBounds j (some k)) (k + 1) (by rw [Array.size_setIfInBounds]; exact hs) hp' (by simp at hk; omega)
    refine ⟨owner',?_,e2,?_⟩
    . rw [List.foldl_cons,st,e1]
      simp only [List.length_cons]
      rw [show k + 1 + l.length=k + (l.length + 1) from by omega]
    . rw [show k + (h :: l).length=k + 1 + l.length from by simp only [List.length_cons]; omega]
      exact e3
theorem Mn {mask:Nat} (hm:Sm mask) (hashes:Array Int) (hk:hashes.size <= mask):∃ owner,layClean mask hashes=some owner /\ owner.size=mask + 1 /\ (own mask owner).Perm (List.range hashes.size):=by
  have h0:(own mask (Array.replicate (mask + 1) none)).Perm (List.range 0):=by
    have:own mask (Array.replicate (mask + 1) none)=[]:=by
      unfold own
      rw [List.filterMap_eq_nil_iff]
      intro j hj
      have:=List.mem_range.mp hj
      simp [Array.getD,this]
    rw [this]
    exact List.Perm.refl _
  obtain ⟨owner,e1,e2,e3⟩:=Hn hm hashes.toList (Array.replicate (mask + 1) none) 0 (by simp) h0 (by simpa using hk)
  simp only [Nat.zero_add,Array.length_toList] at e1 e3
  refine ⟨owner,?_,e2,e3⟩
  have:layClean mask hashes=(hashes.foldl (Mq mask) (some (Array.replicate (mask + 1) none,0))).map (·.1):=rfl
  rw [this,← Array.foldl_toList,e1]
  rfl
theorem Nx {mask:Nat} (hm:Sm mask) (hashes:Array Int) (hk:hashes.size <= mask) (finger moves:Nat) (led plain:Bool) :
    ∃ place order,laid mask finger moves led plain hashes=some ({ mask,place,dummies:=#[],finger,led,moves,plain },order) /\ Ris place.toList /\ place.size=hashes.size /\ order.toList.Perm (List.range hashes.size):=by
  obtain ⟨owner,e1,e2,e3⟩:=Mn hm hashes hk
  unfold laid
  rw [e1]
  refine ⟨_,_,rfl,?_,?_,?_⟩
  . simp only []
    rw [List.map_filterMap]
    have:(List.range (mask + 1)).filterMap (fun x=>Option.map (fun x=>x.1) (Option.map (fun x_1=>(x,x_1)) (owner.getD x none)))=(List.range (mask + 1)).filter fun x=>(owner.getD x none).isSome:=by
      induction List.range (mask + 1) with
      | nil=>rfl
      | cons a l ih=>
        cases q:owner.getD a none with
        | none=>rw [List.filterMap_cons_none (by rw [q]; rfl),List.filter_cons_of_neg (by rw [q]; simp),ih]
        | some c=>rw [List.filterMap_cons_some (b:=a) (by rw [q]; rfl),List.filter_cons_of_pos (by rw [q]; rfl),ih]
    rw [this]
    exact List.Pairwise.sublist List.filter_sublist List.pairwise_lt_range
  . have:=e3.length_eq
    rw [List.length_range] at this
    rw [← this]
    simp only [List.size_toArray,List.length_map]
    unfold own
    induction List.range (mask + 1) with
    | nil=>rfl
    | cons a l ih=>
      cases q:owner.getD a none with
      | none=>rw [List.filterMap_cons_none (by rw [q]; rfl),List.filterMap_cons_none (f:=fun j=>owner.getD j none) q,ih]
      | some c=>rw [List.filterMap_cons_some (b:=(a,c)) (by rw [q]; rfl),List.filterMap_cons_some (f:=fun j=>owner.getD j none) q,List.length_cons,List.length_cons,ih]
  . simp only []
    rw [List.map_filterMap]
    have:(List.range (mask + 1)).filterMap (fun x=>Option.map (fun x=>x.2) (Option.map (fun x_1=>(x,x_1)) (owner.getD x none)))=own mask owner:=by
      unfold own
      refine FU fun i _=>?_
      cases owner.getD i none <;> rfl
    rw [this]
    exact e3
structure Tab (t:SetTable) (n:Nat):Prop where
  ris:Ris t.place.toList
  sz:t.place.size=n
  dm:t.dummies = #[]
  mks:(t.mask=7 /\ n <= 4) ∨ (t.mask=31 /\ n <= 18)
  pl:t.plain=true
theorem Tab.sm {t:SetTable} {n:Nat} (h:Tab t n):Sm t.mask:=h.mks.elim (fun z=>.inl z.1) fun z=>.inr (.inr z.1)
theorem J6 (led:Bool):Tab (.fresh 0 0 led) 0:=⟨List.Pairwise.nil,rfl,rfl,.inl ⟨rfl,by omega⟩,rfl⟩
theorem Tab.fits {t:SetTable} {n:Nat} (h:Tab t n):t.fits n=true:=by
  unfold SetTable.fits fill
  rw [h.sz,h.dm]
  rcases h.mks with ⟨a,b⟩ | ⟨a,b⟩ <;> simp [a] <;> omega
theorem Pc {t:SetTable} {es:Array (Int × Value)} (T:Tab t es.size) (hn:es.size + 1 <= 18) (h:Int) (x:Value) :
    ∃ t1 es1,layNew t es h x=(es1,t1,false,false) /\ Ris t1.place.toList /\ t1.place.size=es.size + 1 /\ t1.dummies = #[] /\ t1.mask=t.mask /\ t1.plain=true /\ t1.led=t.led /\ t1.moves=t.moves /\ t1.finger=t.finger /\ es1.toList.Perm (es.toList ++ [(h,x)]):=by
  have hsz:=T.sz
  obtain ⟨j,e,q⟩:=OB T.dm T.sm T.ris (by rcases T.mks with ⟨a,b⟩ | ⟨a,b⟩ <;> omega) h
  have hj:j ∉ t.place.toList:=fun z=>by
    obtain ⟨i,hi⟩:=LD T.ris z
    rw [q] at hi; cases hi
  have hperm:=layNew_perm t es h x
  have hz:(insertAt t.place (below t.place j) j).size=es.size + 1:=by
    have:=(insertAt_perm t.place (below t.place j) j).length_eq
    simp at this
    omega
  have hd:(if has t.dummies j=true then eraseAt t.dummies (below t.dummies j) else t.dummies) = #[]:=by
    rw [T.dm]
    have:has (#[]:Array Nat) j=false:=by unfold has; simp
    rw [this]; rfl
  have hes:(insertAt es (below t.place j) (h,x)).size=es.size + 1:=by
    have:=(insertAt_perm es (below t.place j) (h,x)).length_eq
    simpa using this
  have hfit:(t.put j).1.fits (es.size + 1)=true:=by
    unfold SetTable.fits fill put
    simp only [hd,hz]
    rcases T.mks with ⟨a,b⟩ | ⟨a,b⟩ <;> simp [a] <;> omega
  have hl:layNew t es h x=(insertAt es (below t.place j) (h,x),(t.put j).1,false,false):=by
    unfold layNew
    rw [e]
    show (insertAt es (below t.place j) (h,x),(t.put j).1.orStandIn (insertAt es (below t.place j) (h,x)).size,false,!(t.put j).1.fits (insertAt es (below t.place j) (h,x)).size)=_
    rw [hes,hfit]
    unfold orStandIn
    rw [hfit]
    rfl
  rw [hl] at hperm
  refine ⟨_,_,hl,NH T.ris hj,hz,hd,rfl,T.pl,rfl,rfl,rfl,?_⟩
  rw [Array.toList_push] at hperm
  exact hperm
theorem LU {t:SetTable} {es:Array (Int × Value)} {wanted:Nat} (hw:sizeAbove wanted=32) (hn:es.size <= 18) (hp:t.plain=true) :
    ∃ t1 es1,relayAll t es wanted=(es1,t1,false) /\ Tab t1 es1.size /\ t1.led=t.led /\ es1.toList.Perm es.toList:=by
  have hperm:=relayAll_perm t es wanted
  obtain ⟨place,order,e,r,hs,ho⟩:=Nx (mask:=31) (.inr (.inr rfl)) (es.map (·.1)) (by simp; omega) t.finger (t.movedTo 31) t.led t.plain
  simp only [Array.size_map] at hs ho
  have hsz:(order.filterMap (es[·]?)).size=es.size:=by
    have h1:((order.filterMap (es[·]?)).toList).Perm es.toList:=by
      rw [Array.toList_filterMap]
      exact (ho.filterMap _).trans (by rw [filterMap_getElem?_range])
    have:=h1.length_eq
    rwa [Array.length_toList,Array.length_toList] at this
  have hl:relayAll t es wanted=(order.filterMap (es[·]?),{ mask:=31,place,dummies:=#[],finger:=t.finger,led:=t.led,moves:=t.movedTo 31,plain:=t.plain },false):=by
    unfold relayAll relaid
    rw [hw]
    simp only []
    rw [e]
    simp only []
    have c1:coversAll order es.size=true:=by
      unfold coversAll
      exact List.isPerm_iff.mpr ho
    have c2:SetTable.fits { mask:=31,place,dummies:=#[],finger:=t.finger,led:=t.led,moves:=t.movedTo 31,plain:=t.plain } (order.filterMap (es[·]?)).size=true:=by
      unfold SetTable.fits fill
      rw [hsz]
      simp [hs]
      omega
    rw [c1,c2]
    rfl
  rw [hl] at hperm
  exact ⟨_,_,hl,⟨r,by rw [hsz]; exact hs,rfl,.inr ⟨rfl,by rw [hsz]; exact hn⟩,hp⟩,rfl,hperm⟩
end Ht
namespace Ht
open PySem PySem.SetTable
def Ay (xs:List Int):List Int:=xs.foldl (fun ys x=>if x ∈ ys then ys else ys ++ [x]) []
theorem EF (xs:List Int) (x:Int):Ay (xs ++ [x])=if x ∈ Ay xs then Ay xs else Ay xs ++ [x]:=by
  unfold Ay
  rw [List.foldl_append]
  rfl
theorem JV:∀ (xs ys:List Int),∃ zs,xs.foldl (fun ys x=>if x ∈ ys then ys else ys ++ [x]) ys=ys ++ zs
  | [],ys=>⟨[],by simp⟩
  | x :: xs,ys=>by
    rw [List.foldl_cons]
    obtain ⟨zs,e⟩:=JV xs (if x ∈ ys then ys else ys ++ [x])
    rw [e]
    split
    . exact ⟨zs,rfl⟩
    . exact ⟨x :: zs,by simp⟩
theorem Lv (xs ys:List Int):∃ zs,Ay (xs ++ ys)=Ay xs ++ zs:=by
  unfold Ay
  rw [List.foldl_append]
  exact JV _ _
theorem Ka (xs:List Int) (i:Nat):(Ay (xs.take i)).length <= (Ay xs).length:=by
  obtain ⟨zs,e⟩:=Lv (xs.take i) (xs.drop i)
  rw [List.take_append_drop] at e
  rw [e,List.length_append]
  omega
theorem HB {p:List Int->Prop} (h0:p []) (h1:∀ xs x,p xs->p (xs ++ [x])) (xs:List Int):p xs:=by
  rw [← List.reverse_reverse xs]
  induction xs.reverse with
  | nil=>exact h0
  | cons a l ih=>rw [List.reverse_cons]; exact h1 _ _ ih
theorem HP (xs:List Int) (k:Int):k ∈ Ay xs ↔ k ∈ xs:=by
  refine HB (p:=fun xs=>k ∈ Ay xs ↔ k ∈ xs) (by simp [Ay]) (fun xs x ih=>?_) xs
  rw [EF]
  split
  . rename_i h
    simp only [List.mem_append,List.mem_singleton,← ih]
    exact ⟨.inl,fun z=>z.elim id fun e=>e ▸ h⟩
  . simp only [List.mem_append,List.mem_singleton,ih]
theorem FL (xs:List Int):(Ay xs).Nodup:=by
  refine HB (p:=fun xs=>(Ay xs).Nodup) (by simp [Ay]) (fun xs x ih=>?_) xs
  rw [EF]
  split
  . exact ih
  . rename_i h
    rw [List.nodup_append]
    refine ⟨ih,by simp,fun a ha b hb=>?_⟩
    simp at hb
    subst hb
    exact fun e=>h (e ▸ ha)
open PyProof.Rows
abbrev EN (l:List (Int × Value)) (ks:List Int):Prop:=IntsAre (l.map (·.2)) ks
theorem EK:∀ {vs ws:List Value} (_:vs.Perm ws) {ks:List Int},IntsAre ws ks->∃ ms,IntsAre vs ms /\ ms.Perm ks:=by
  intro vs ws p
  induction p with
  | nil=>intro ks h; cases h; exact ⟨[],.nil,.refl _⟩
  | cons x _ ih=>
    intro ks h
    cases h with
    | cons n t h=>
      obtain ⟨ms,h1,h2⟩:=ih h
      exact ⟨n :: ms,.cons n t h1,h2.cons n⟩
  | swap x y l=>
    intro ks h
    cases h with
    | cons n t h=>
      cases h with
      | cons m u h=>exact ⟨m :: n :: _,.cons m u (.cons n t h),.swap n m _⟩
  | trans _ _ ih1 ih2=>
    intro ks h
    obtain ⟨ms,h1,h2⟩:=ih2 h
    obtain ⟨ls,h3,h4⟩:=ih1 h1
    exact ⟨ls,h3,h4.trans h2⟩
theorem Ma:∀ {l:List (Int × Value)} {ks:List Int},EN l ks->∀ (k:Int),(∃ e ∈ l,Value.isInt k e.2=true) ↔ k ∈ ks
  | [],_,h,k=>by
    have h:IntsAre [] _:=h
    cases h
    simp
  | e :: l,_,h,k=>by
    obtain ⟨a,v⟩:=e
    have h:IntsAre (v :: l.map (·.2)) _:=h
    cases h with
    | cons n t h1=>
      have ih:=Ma (l:=l) h1 k
      constructor
      . rintro ⟨e,he,q⟩
        rcases List.mem_cons.mp he with rfl | he
        . have:Value.isInt k (.int n t)=true:=q
          simp [Value.isInt] at this
          subst this
          exact List.mem_cons_self ..
        . exact List.mem_cons_of_mem _ (ih.mp ⟨e,he,q⟩)
      . intro hk
        rcases List.mem_cons.mp hk with rfl | hk
        . exact ⟨_,List.mem_cons_self ..,by simp [Value.isInt]⟩
        . obtain ⟨e,he,q⟩:=ih.mpr hk
          exact ⟨e,List.mem_cons_of_mem _ he,q⟩
def SetI (prog:Program) (w:World) (h:Heap) (a:Addr) (ks:List Int):Prop:=
  ∃ o es ep t,h.get? a=some o /\ o.ExactSet /\ o.data=.set es ep t /\ ElemsOf (intKind prog w) es.toList /\ (∃ ns,EN es.toList ns /\ ns.Perm ks) /\ Tab t es.size /\ t.led = !(w.params.followText "set-order")
theorem SetI.at {prog:Program} {w:World} {h h':Heap} {a:Addr} {ks:List Int} (z:SetI prog w h a ks) (k:∀ o,h.get? a=some o->h'.get? a=some o):SetI prog w h' a ks:=by
  obtain ⟨o,es,ep,t,e,rest⟩:=z
  exact ⟨o,es,ep,t,k o e,rest⟩
theorem Js {l:Array (Int × Value)} {ns ks:List Int} (h:EN l.toList ns) (p:ns.Perm ks):l.size=ks.length:=by
  have h1:=congrArg List.length h.nums
  rw [List.length_map,List.length_map,Array.length_toList] at h1
  rw [h1,p.length_eq]
section
variable {prog:Program} {w:World} {A:Around} {E:Value->Shared->Prop} {s:Shared}
theorem Jq {h:Heap} {a:Addr} {o:Obj} {es:Array (Int × Value)} {ep:Nat} {t:SetTable} (ho:h.get? a=some o) (hd:o.data=.set es ep t) (es':Array (Int × Value)) (t':SetTable) :
    (h.update a (Obj.putSet es' t')).get? a=some { o with data:=.set es' (ep + 1) t' }:=by
  have:=Heap.get?_update_self (Obj.putSet es' t') ho (by rw [putSet_of es' t' hd]; rfl)
  rw [putSet_of es' t' hd] at this
  exact this
theorem LH {a:Addr} {ks:List Int} {n:Int} {tk:Tok} {Q:Bool->Shared->Prop} (hS:SetI prog w s.heap a ks) (room:(if n ∈ ks then ks else ks ++ [n]).length <= 18)
    (q:∀ b h' tk,Heap.SameBut a s.heap h'->SetI prog w h' a (if n ∈ ks then ks else ks ++ [n])->Q b { s with heap:=h',toks:=tk }) :
    wpAny (model prog w) A (setAdd a (.int n tk)) Q E s:=by
  obtain ⟨o,es,ep,t,ho,hex,hd,hel,⟨ns,hen,hp⟩,T,hled⟩:=hS
  have hsz:=Js hen hp
  have hb:es.size < scanBound:=by rcases T.mks with ⟨_,b⟩ | ⟨_,b⟩ <;> (unfold scanBound; omega)
  unfold setAdd
  refine wpAny_holding (wpAny_bind ((intKind prog w).pyHash (intKind_is prog w n tk) ?_))
  unfold setAddHashed setAddHashedIn
  refine wpAny_holding (wpAny_bind (wpAny_setState_of (s:={ s with toks:=s.toks + 1 }) ho hd T.fits ?_))
  dsimp only
  rw [byScan_of (knd:=intKind prog w) rfl hb hel]
  simp only [↓reduceIte]
  unfold setAddByScan
  refine wpAny_bind ?_
  refine wpAny_bind (wpAny_rule ?_)
  refine wpAny_bind (wpAny_setScan_of (knd:=intKind prog w) (s:={ s with toks:=s.toks + 1 }) (intKind_is prog w n tk) ho hd T.fits hel ?_)
  have mem:=Ma hen n
  rw [hp.mem_iff] at mem
  cases hr:List.findIdx? (fun e=>(intKind prog w).is n e.2) es.toList with
  | some j=>
    dsimp only
    obtain ⟨hj,hpj,_⟩:=List.findIdx?_eq_some_iff_getElem.mp hr
    have hm:n ∈ ks:=mem.mp ⟨es.toList[j],List.getElem_mem hj,hpj⟩
    refine wpAny_pure (wpAny_pure ?_)
    rw [if_pos hm] at q
    exact q _ s.heap _ (Heap.SameBut.refl a s.heap) ⟨o,es,ep,t,ho,hex,hd,hel,⟨ns,hen,hp⟩,T,hled⟩
  | none=>
    dsimp only
    have hm:n ∉ ks:=fun z=>by
      obtain ⟨e,he,hq⟩:=mem.mpr z
      have:=List.findIdx?_eq_none_iff.mp hr e he
      have hq':(intKind prog w).is n e.2=true:=hq
      rw [hq'] at this
      exact Bool.noConfusion this
    rw [if_neg hm,List.length_append,List.length_singleton] at room
    rw [if_neg hm] at q
    obtain ⟨t1,es1,e1,r1,z1,d1,m1,p1,l1,_,_,q1⟩:=Pc T (by omega) ((intKind prog w).hash n) (.int n tk)
    rw [e1]
    dsimp only
    have s1:es1.size=es.size + 1:=by
      have:=q1.length_eq
      simpa using this
    have hel1:ElemsOf (intKind prog w) es1.toList:=(hel.push (intKind_is prog w n tk) rfl).perm q1
    have hen0:EN (es.toList ++ [((intKind prog w).hash n,Value.int n tk)]) (ns ++ [n]):=by
      unfold EN
      rw [List.map_append]
      exact IntsAre.append hen (.cons n tk .nil)
    obtain ⟨ms,hen1,hp1⟩:=EK (q1.map (·.2)) hen0
    have hp2:ms.Perm (ks ++ [n]):=hp1.trans (hp.append_right [n])
    refine wpAny_bind (wpAny_pure ?_)
    rw [p1]
    simp only [↓reduceIte]
    refine wpAny_bind ?_
    rw [hashByValue_scannable 8 (x:=.int n tk) rfl]
    refine wpAny_pure ?_
    simp only [plainKind,↓reduceIte]
    refine wpAny_bind (wpAny_storeSet_of (s:={ s with toks:=s.toks + 1 }) ho hd ?_ (by rw [sizeLine_eq]; omega))
    have ho1:=Jq ho hd es1 t1
    have sb1:=Heap.SameBut.update s.heap a (Obj.putSet es1 t1)
    simp only [Bool.not_false,Bool.true_and]
    by_cases hf:t1.tooFull=true
    . rw [if_pos hf]
      have small:es1.size=5:=by
        unfold SetTable.tooFull SetTable.fill at hf
        rw [z1,d1,m1] at hf
        simp at hf
        rcases T.mks with ⟨a,b⟩ | ⟨a,b⟩ <;> rw [a] at hf <;> omega
      obtain ⟨t2,es2,e2,T2,l2,q2⟩:=LU (t:=t1) (es:=es1) (wanted:=grown es1.size) (by rw [small]; decide +kernel) (by omega) p1
      rw [e2]
      dsimp only
      refine wpAny_bind (wpAny_pure ?_)
      have s2:es2.size=es1.size:=by
        have:=q2.length_eq
        simpa using this
      refine wpAny_bind (wpAny_storeSet_of (s:={ s with heap:=s.heap.update a (Obj.putSet es1 t1),toks:=s.toks + 1 }) ho1 rfl ?_ (by rw [sizeLine_eq]; omega))
      obtain ⟨ls,hen2,hp3⟩:=EK (q2.map (·.2)) hen1
      refine wpAny_pure (wpAny_pure (q _ _ _ (sb1.trans (Heap.SameBut.update _ a _)) ?_))
      exact ⟨_,es2,_,t2,Jq ho1 rfl es2 t2,hex,rfl,hel1.perm q2,⟨ls,hen2,hp3.trans hp2⟩,T2,by rw [l2,l1]; exact hled⟩
    . rw [if_neg hf]
      refine wpAny_pure (wpAny_pure (q _ _ _ sb1 ⟨_,es1,_,t1,ho1,hex,rfl,hel1,⟨ms,hen1,hp2⟩,⟨r1,by omega,d1,?_,p1⟩,by rw [l1]; exact hled⟩))
      rw [m1]
      unfold SetTable.tooFull SetTable.fill at hf
      rw [z1,d1,m1] at hf
      simp at hf
      rcases T.mks with ⟨a,b⟩ | ⟨a,b⟩
      . rw [a] at hf
        exact .inl ⟨a,by omega⟩
      . exact .inr ⟨a,by omega⟩
end
end Ht
namespace Ht
open PySem PySem.Spec PyProof.Rows Sem L2
section
variable {prog:Program} {w:World} {A:Around} {E:Value->Shared->Prop} {s:Shared}
theorem KC {I S:Addr} {ns:List Int} {fp:List Addr} {P:Nat->Value->Prop} {St:Nat->Heap->Prop} (W:Walks prog w A.in1 I fp [I] ns.length P St) (hP:∀ i v,P i v->∃ t,v=.int (ns.getD i 0) t)
    (hSI:S ≠ I) (hSf:S ∉ fp) (room:(Ay ns).length <= 18) {R:Result->Shared->Prop} :
    ∀ (m i:Nat) (s:Shared),ns.length - i=m->i <= ns.length->St i s.heap->SetI prog w s.heap S (Ay (ns.take i))->
      (∀ h' tk,(∀ c o,c ≠ S->c ≠ I->s.heap.get? c=some o->h'.get? c=some o)->SetI prog w h' S (Ay ns)->R (.ok (.ret .none)) { s with heap:=h',toks:=tk })->
      codeAny (model prog w) A (.builtin "set.update.loop" ⟨[.ref S,.ref I],[]⟩) R s:=by
  intro m
  induction m with
  | zero=>
    intro i s hm hi hst hS q
    have ei:i=ns.length:=by omega
    subst ei
    refine codeAny_builtin PyProof.Rows.F.entry_set_update_loop ?_
    rw [Around.under_plainId PyProof.Rows.F.plain_set_update_loop _]
    refine wpAny_bind (m:=pyNext (.ref I)) (W.done s _ _ hst fun h' tk kp=>wpAny_pure ?_)
    rw [List.take_length] at hS
    exact q h' tk (fun c o _ c2 e=>kp c o (by simpa using c2) e) (hS.at fun o e=>kp S o (by simpa using hSI) e)
  | succ m ih=>
    intro i s hm hi hst hS q
    have lt:i < ns.length:=by omega
    refine codeAny_builtin PyProof.Rows.F.entry_set_update_loop ?_
    rw [Around.under_plainId PyProof.Rows.F.plain_set_update_loop _]
    refine wpAny_bind (m:=pyNext (.ref I)) (W.item i s _ _ lt hst fun v h' tk hv st kp=>?_)
    obtain ⟨t,rfl⟩:=hP i v hv
    have eg:ns.getD i 0=ns[i]:=by simp [lt]
    rw [eg]
    have tk1:ns.take i ++ [ns[i]]=ns.take (i + 1):=by rw [List.take_succ,List.getElem?_eq_getElem lt]; rfl
    have nb:(if ns[i] ∈ Ay (ns.take i) then Ay (ns.take i) else Ay (ns.take i) ++ [ns[i]])=Ay (ns.take (i + 1)):=by rw [← tk1,EF]
    have hS1:SetI prog w h' S (Ay (ns.take i)):=hS.at fun o e=>kp S o (by simpa using hSI) e
    refine wpAny_bind (wpAny_holding (LH (s:={ s with heap:=h',toks:=tk }) hS1 (by rw [nb]; exact Nat.le_trans (Ka _ _) room) fun b h2 t2 sb hS2=>?_))
    rw [nb] at hS2
    have k2:∀ c o,c ≠ S->h'.get? c=some o->h2.get? c=some o:=fun c o hc e=>(sb.2 c hc).trans e
    refine wpAny_pure ⟨plainId_quiet PyProof.Rows.F.plain_set_update_loop _,ih (i + 1) _ (by omega) lt (W.frame _ _ _ st fun b hb o e=>k2 b o (fun z=>hSf (z ▸ hb)) e) hS2 fun h3 t3 kp3 hS3=>?_⟩
    exact q h3 t3 (fun c o c1 c2 e=>kp3 c o c1 c2 (k2 c o c1 (kp c o (by simpa using c2) e))) hS3
theorem NC (a:Value) {Q:Value->Shared->Prop} (h:Q (.ref s.heap.objs.size) { s with heap:=s.heap.push (As !(w.params.followText "set-order")) }) :
    codeAny (model prog w) A (.call (.builtin "set.__new__") ⟨[.type "set",a],[]⟩) (wants Q E) s:=by
  refine codeAny_call_builtin (b:=Builtin.«set.__new__») PySem.F.plain_set_new PySem.F.entry_set_new (wpAny_of_eq (PySem.F.newCall_set_1 a) ?_)
  unfold Builtin.«set.__new__» Builtin.Frozenset.newClass
  have z:=sub_set_self
  wp_walk
  refine wpAny_askSetting (wpAny_pure ?_)
  have e:∀ {Q:Value->Shared->Prop} {E:Value->Shared->Prop} (t:SetTable),Q (.ref s.heap.objs.size) { s with heap:=s.heap.push { cls:=.type "set",data:=.set #[] 0 t } }->wpAny (model prog w) A.in1 (newObj (.type "set") (.set #[] 0 t)) Q E s:=fun t z=>by
    unfold newObj
    wp_walk
    first | exact z | exact wpAny_bind (wpAny_alloc (wpAny_pure z)) | trace_state
  exact e _ (wpAny_pure h)
set_option maxHeartbeats 2000000 in
theorem GM {T:String} {l:Addr} {ns:List Int} {Q:Value->Shared->Prop} {fp:Addr->List Addr} {P:Nat->Value->Prop} {St:Addr->Nat->Heap->Prop} {itO:Obj}
    (c1:isSubtype (.type T) (.type "set")=Pure.pure false) (c2:isSubtype (.type T) (.type "frozenset")=Pure.pure false) (c3:(Value.type T == Value.type "dict")=false)
    (tyl:∀ {s':Shared},(∀ o,s.heap.get? l=some o->s'.heap.get? l=some o)->s'.TypeIs (.ref l) T)
    (walk:∀ {s':Shared} {A':Around} {E' Q':Value->Shared->Prop},(∀ o,s.heap.get? l=some o->s'.heap.get? l=some o)->Q' (.ref s'.heap.objs.size) { s' with heap:=s'.heap.push itO }->wpAny (model prog w) A' (pyIter (.ref l)) Q' E' s')
    (W:∀ I,l ≠ I->Walks prog w A.in1.in1.in1 I (fp I) [I] ns.length P (St I)) (hP:∀ i v,P i v->∃ t,v=.int (ns.getD i 0) t) (hfp:∀ I,∀ b ∈ fp I,b=I ∨ b=l) (hl:∃ o,s.heap.get? l=some o)
    (hfr:itO.isFreed=false) (st0:∀ {h:Heap} (I:Addr),h.get? I=some itO->(∀ o,s.heap.get? l=some o->h.get? l=some o)->St I 0 h) (room:(Ay ns).length <= 18)
    (q:∀ h' tk,(∀ c o,s.heap.get? c=some o->h'.get? c=some o)->SetI prog w h' s.heap.objs.size (Ay ns)->Q (.ref s.heap.objs.size) { s with heap:=h',toks:=tk }) :
    wpAny (model prog w) A (call (.type "set") [.ref l]) Q E s:=by
  refine Nw PySem.F.called_set (PySem.F.typeCall_set_1 _) (NC (.ref l) (Q:=fun x s₁=>x=.ref s.heap.objs.size /\ s₁={ s with heap:=s.heap.push (As !(w.params.followText "set-order")) }) ⟨rfl,rfl⟩) ?_
  rintro x s₁ ⟨rfl,rfl⟩
  generalize hled:(!(w.params.followText "set-order"))=led
  have at_S:(s.heap.push (As led)).get? s.heap.objs.size=some (As led):=Heap.get?_push_size _ rfl
  have ty:Shared.TypeIs { s with heap:=s.heap.push (As led) } (.ref s.heap.objs.size) "set" := ⟨_,at_S,rfl⟩
  have lt:l < s.heap.objs.size:=by obtain ⟨o,e⟩:=hl; exact Heap.lt_size e
  have kl:∀ o,s.heap.get? l=some o->(s.heap.push (As led)).get? l=some o:=fun o e=>Heap.get?_push_of_some _ e
  have tyl:=tyl (s':={ s with heap:=s.heap.push (As led) }) kl
  refine ⟨ty,codeAny_call_builtin PySem.F.called_set.init.plain PySem.F.entry_set_init (check_set_init_1 ty ?_)⟩
  unfold Builtin.«set.__init__» noKeywords Builtin.Frozenset.updateFrom
  have walk':∀ (A:Around) (E:Value->Shared->Prop) (Q:Value->Shared->Prop),Q (.ref (s.heap.push (As led)).objs.size) { s with heap:=(s.heap.push (As led)).push itO }->wpAny (model prog w) A (pyIter (.ref l)) Q E { s with heap:=s.heap.push (As led) }:=fun A E Q z=>walk (s':={ s with heap:=s.heap.push (As led) }) kl z
  wp_walk using walk'
  have sz:(s.heap.push (As led)).objs.size=s.heap.objs.size + 1:=Heap.size_push ..
  have ne1:l ≠ (s.heap.push (As led)).objs.size:=by rw [sz]; exact Nat.ne_of_lt (Nat.lt_succ_of_lt lt)
  have ne2:s.heap.objs.size ≠ (s.heap.push (As led)).objs.size:=by rw [sz]; exact Nat.ne_of_lt (Nat.lt_succ_self _)
  have hSf:s.heap.objs.size ∉ fp (s.heap.push (As led)).objs.size:=fun z=>(hfp _ _ z).elim ne2 (Nat.ne_of_gt lt)
  refine KC (A:=A.in1.in1) (W _ ne1) hP ne2 hSf room ns.length 0 _ (Nat.sub_zero _) (Nat.zero_le _) (st0 _ (Heap.get?_push_size _ hfr) fun o e=>Heap.get?_push_of_some _ (kl o e)) ?start fun h' tk kp hS=>?fin
  case start=>
    refine ⟨_,#[],0,_,Heap.get?_push_of_some _ at_S,⟨rfl,rfl,rfl⟩,rfl,?_,⟨[],.nil,.refl _⟩,J6 led,hled.symm⟩
    intro e he
    cases he
  case fin=>
    have ltS:∀ {c:Addr} {o:Obj},s.heap.get? c=some o->c < s.heap.objs.size:=fun e=>Heap.lt_size e
    exact wpAny_pure (wpAny_pure ⟨rfl,q h' tk (fun c o e=>kp c o (Nat.ne_of_lt (ltS e)) (by rw [sz]; exact Nat.ne_of_lt (Nat.lt_succ_of_lt (ltS e))) (Heap.get?_push_of_some _ (Heap.get?_push_of_some _ e))) hS⟩)
theorem G7:isSubtype (.type "tuple") (.type "set")=Pure.pure false:=by rw [isSubtype_type]; kernel_rfl
theorem G8:isSubtype (.type "tuple") (.type "frozenset")=Pure.pure false:=by rw [isSubtype_type]; kernel_rfl
theorem IJ {l:Addr} {its:List Value} {ns:List Int} {Q:Value->Shared->Prop} (hh:A.handled=none) (hl:s.heap.IsList l its.toArray) (rv:IntsAre its ns) (room:(Ay ns).length <= 18)
    (q:∀ h' tk,(∀ c o,s.heap.get? c=some o->h'.get? c=some o)->SetI prog w h' s.heap.objs.size (Ay ns)->Q (.ref s.heap.objs.size) { s with heap:=h',toks:=tk }) :
    wpAny (model prog w) A (call (.type "set") [.ref l]) Q E s:=by
  have len:its.toArray.size=ns.length:=by have:=congrArg List.length rv.nums; rw [List.length_map] at this; simpa using this
  refine GM (T := "list") (l:=l) (ns:=ns) (fp:=fun I=>[I,l]) (P:=fun i v=>its.toArray[i]? = some v) (St:=fun I i h=>h.IsListIter I l i /\ h.IsList l its.toArray) (itO:={ cls:=.type "list_iterator",data:=.fields #[.ref l,.int 0 0] }) PySem.F.sub_list_set PySem.F.sub_list_frozenset (by decide +kernel) (fun k=>(hl.at k).typeIs) (fun k z=>wpAny_pyIter_list (hl.at k) z) (fun I hI=>len ▸ Walks.list (by simp [hh]) I l hI its.toArray) (fun i v e=>?_) (fun I b hb=>by simpa using hb) (by obtain ⟨o,e,_⟩:=hl; exact ⟨o,e⟩) rfl (fun I e k=>⟨⟨_,e,rfl,rfl⟩,hl.at k⟩) room q
  have e':its[i]? = some v:=by simpa using e
  exact rv.int_at i v e'
theorem KB {l:Addr} {its:List Value} {ns:List Int} {Q:Value->Shared->Prop} (hh:A.handled=none) (hl:s.heap.IsTuple l its.toArray) (rv:IntsAre its ns) (room:(Ay ns).length <= 18)
    (q:∀ h' tk,(∀ c o,s.heap.get? c=some o->h'.get? c=some o)->SetI prog w h' s.heap.objs.size (Ay ns)->Q (.ref s.heap.objs.size) { s with heap:=h',toks:=tk }) :
    wpAny (model prog w) A (call (.type "set") [.ref l]) Q E s:=by
  have len:its.toArray.size=ns.length:=by have:=congrArg List.length rv.nums; rw [List.length_map] at this; simpa using this
  refine GM (T := "tuple") (l:=l) (ns:=ns) (fp:=fun I=>[I,l]) (P:=fun i v=>its.toArray[i]? = some v) (St:=fun I i h=>h.IsTupleIter I l i /\ h.IsTuple l its.toArray) (itO:={ cls:=.type "tuple_iterator",data:=.fields #[.ref l,.int 0 0] }) G7 G8 (by decide +kernel) (fun k=>(hl.at k).typeIs) (fun k z=>wpAny_pyIter_tuple (hl.at k) z) (fun I hI=>len ▸ Walks.tuple (by simp [hh]) I l hI its.toArray) (fun i v e=>?_) (fun I b hb=>by simpa using hb) (by obtain ⟨o,e,_⟩:=hl; exact ⟨o,e⟩) rfl (fun I e k=>⟨⟨_,e,rfl,rfl⟩,hl.at k⟩) room q
  have e':its[i]? = some v:=by simpa using e
  exact rv.int_at i v e'
end
end Ht
namespace Ht
open PySem PySem.Spec PyProof.Rows Sem L2 PySem.SetTable
theorem FZ {α:Type}:∀ (l:List α) (i:Nat) (x:α),l[i]? = some x->(x :: l.eraseIdx i).Perm l
  | [],_,_,e=>by cases e
  | a :: l,0,x,e=>by
    simp at e
    subst e
    exact .refl _
  | a :: l,i + 1,x,e=>by
    have e':l[i]? = some x:=by simpa using e
    exact (List.Perm.swap a x _).trans ((FZ l i x e').cons a)
theorem JQ {α:Type} (f:Nat->Nat):∀ (A0 k:Nat) (left:List α) (out:Array α),left.length <= A0->(pickOrder.go f A0 k left out).toList.Perm (out.toList ++ left)
  | 0,k,left,out,h=>by
    have:left=[]:=List.length_eq_zero_iff.mp (by omega)
    subst this
    unfold pickOrder.go
    rw [List.append_nil]
  | A0 + 1,k,left,out,h=>by
    unfold pickOrder.go
    cases e:left[f k % left.length]? with
    | none=>
      simp only []
      have:left=[]:=by
        cases left with
        | nil=>rfl
        | cons a l=>
          exfalso
          have:=List.getElem?_eq_none_iff.mp e
          have:=Nat.mod_lt (f k) (show 0 < (a :: l).length by simp)
          omega
      rw [this,List.append_nil]
    | some x=>
      simp only []
      have hp:=FZ left _ x e
      have hl:=hp.length_eq
      rw [List.length_cons] at hl
      refine (JQ f A0 (k + 1) _ (out.push x) (by omega)).trans ?_
      rw [Array.toList_push,List.append_assoc]
      exact hp.append_left _
theorem KP {α:Type} (f:Nat->Nat) (xs:Array α):(pickOrder f xs).toList.Perm xs.toList:=by
  have:=JQ f xs.size 0 xs.toList #[] (by simp)
  simpa [pickOrder] using this
def wv (w:World) (S:Addr) (ep:Nat) (es:Array (Int × Value)):Array (Int × Value):=if w.params.followText "set-order" = true then pickOrder (w.params.setOrder S ep) es else es
theorem Ix (w:World) (S:Addr) (ep:Nat) (es:Array (Int × Value)):(wv w S ep es).toList.Perm es.toList:=by
  unfold wv
  split
  . exact KP _ _
  . exact .refl _
theorem Eh (w:World) (S:Addr) (ep:Nat) (es:Array (Int × Value)):(wv w S ep es).size=es.size:=by
  have:=(Ix w S ep es).length_eq
  simpa using this
section
variable {prog:Program} {w:World} {A:Around} {E:Value->Shared->Prop} {s:Shared}
theorem HD {S:Addr} {sl i ep:Nat} {es:Array (Int × Value)} {t:SetTable} {o:Obj} {Q:Option (Value × Nat)->Shared->Prop} (ho:s.heap.get? S=some o) (hd:o.data=.set es ep t) (T:Tab t es.size) (hled:t.led = !(w.params.followText "set-order"))
    (hsl:w.params.followText "set-order" = false->below t.place sl=i)
    (h1:∀ e sl',(wv w S ep es)[i]? = some e->(w.params.followText "set-order" = false->below t.place sl'=i + 1)->Q (some (e.2,sl')) s)
    (h2:(wv w S ep es)[i]? = none->Q none s):wpAny (model prog w) A (setNext S sl i ep) Q E s:=by
  unfold setNext
  refine wpAny_bind (wpAny_setState_of ho hd T.fits ?_)
  dsimp only
  unfold setsByText
  refine wpAny_bind (wpAny_bind (wpAny_askSetting (wpAny_pure ?_)))
  dsimp only [model]
  by_cases hb:w.params.followText "set-order" = true
  . rw [if_pos hb]
    have e0:(ep != ep)=false:=by simp
    rw [e0,if_neg Bool.false_ne_true]
    unfold setWalk setsByText
    refine wpAny_bind (wpAny_bind (wpAny_setState_of ho hd T.fits ?_))
    dsimp only
    refine wpAny_bind (wpAny_bind (wpAny_askSetting (wpAny_pure ?_)))
    dsimp only [model]
    rw [if_pos hb]
    refine wpAny_bind (wpAny_askSetting (wpAny_pure (wpAny_pure ?_)))
    dsimp only
    have ew:wv w S ep es=pickOrder (w.params.setOrder S ep) es:=by unfold wv; rw [if_pos hb]
    rw [ew] at h1 h2
    cases q:(pickOrder (w.params.setOrder S ep) es)[i]? with
    | none=>exact h2 q
    | some e=>exact h1 e sl q fun z=>by rw [hb] at z; cases z
  . have hb':w.params.followText "set-order" = false:=by simpa using hb
    rw [if_neg hb]
    have hl:t.led=true:=by rw [hled,hb']; rfl
    have ew:wv w S ep es=es:=by unfold wv; rw [if_neg hb]
    rw [ew] at h1 h2
    have hs:=hsl hb'
    split
    . rename_i z
      have z':(!t.plain && decide (es.size > 1))=true:=z
      rw [T.pl] at z'
      cases z'
    . refine wpAny_bind ?_
      show wpAny _ _ (if (!t.led && !es.isEmpty)=true then PySem.unsupported "set:maker-not-led" else Pure.pure ()) _ _ _
      rw [hl]
      rw [if_neg (by simp)]
      refine wpAny_pure ?_
      refine wpAny_pure ?_
      rw [hs]
      have hsz:=T.sz
      by_cases hi:i < es.size
      . have e1:es[i]? = some es[i]:=by simp [hi]
        have e2:t.place[i]? = some (t.place[i]'(by omega)):=by simp [hsz,hi]
        rw [e1,e2]
        exact h1 es[i] _ e1 fun _=>Ip T.ris (by omega)
      . have e1:es[i]? = none:=by simp; omega
        rw [e1]
        exact h2 e1
end
end Ht
namespace Ht
open PySem PySem.Spec PyProof.Rows Sem L2 PySem.SetTable
theorem si_next:Slot "set_iterator" "__next__" "set_iterator.__next__" :=
  Slot.of (owner := "set_iterator") (n := "__next__") (by rw [typeLookup_type,builtinLookup_eq_fast]; kernel_rfl) (by decide +kernel) (by decide +kernel) (by decide +kernel) (.inl (by decide +kernel)) (by rw [isSubtype_type]; kernel_rfl)
theorem JK:Slot "set_iterator" "__iter__" "set_iterator.__iter__" :=
  Slot.of (owner := "set_iterator") (n := "__iter__") (by rw [typeLookup_type,builtinLookup_eq_fast]; kernel_rfl) (by decide +kernel) (by decide +kernel) (by decide +kernel) (.inl (by decide +kernel)) (by rw [isSubtype_type]; kernel_rfl)
theorem Hh:entryFor table "set_iterator.__next__" = some Builtin.«set_iterator.__next__»:=entryFor_of_tree (by kernel_rfl)
theorem MY:entryFor table "set_iterator.__iter__" = some Builtin.«dict_keyiterator.__iter__»:=entryFor_alias (id' := "dict_keyiterator.__iter__") (by kernel_rfl) rfl (by decide +kernel) (by kernel_rfl)
theorem MZ:entryFor table "set.__iter__" = some Builtin.«frozenset.__iter__»:=entryFor_alias (id' := "frozenset.__iter__") (by kernel_rfl) rfl (by decide +kernel) (by kernel_rfl)
theorem H9 (a:Value):argsOk "set_iterator.__next__" ⟨[a],[]⟩:=by unfold argsOk; kernel_rfl
theorem Mx (a:Value):argsOk "set_iterator.__iter__" ⟨[a],[]⟩:=by unfold argsOk; kernel_rfl
def itO (S:Addr) (sl i n ep:Nat):Obj:={ cls:=.type "set_iterator",data:=.fields #[.int sl 0,.int i 0,.ref S,.int n 0,.int ep 0] }
section
variable {prog:Program} {w:World} {A:Around} {E:Value->Shared->Prop} {s:Shared}
theorem IQ {α:Type} {Q:α->Shared->Prop} (hh:A.handled=none) (h:∀ a h',(∀ b o,s.heap.get? b=some o->h'.get? b=some o)->Shared.TypeIs { s with heap:=h' } (.ref a) "StopIteration" -> E (.ref a) { s with heap:=h' }) :
    wpAny (model prog w) A (newExc (.type "StopIteration") [] >>= fun e=>(raiseNew e:Sem α)) Q E s:=by
  unfold newExc newTuple
  refine wpAny_bind (wpAny_bind (wpAny_newObj_type ?_ (by size_fits)))
  refine wpAny_bind (m:=firstArgMember _ _) (wpAny_of_eq (a:=Value.none) (by kernel_rfl) ?_)
  refine wpAny_newObj_type ?_ (by size_fits)
  unfold raiseNew
  refine wpAny_bind (wpAny_handled ?_)
  rw [hh]
  refine wpAny_bind (wpAny_pure (wpAny_throw (h _ _ (fun b o e=>Heap.get?_push_of_some _ (Heap.get?_push_of_some _ e)) ⟨_,Heap.get?_push_size _ rfl,rfl⟩)))
theorem N8 {I S:Addr} {sl i ep:Nat} {es:Array (Int × Value)} {t:SetTable} {o:Obj} {Q:Option Value->Shared->Prop} {x:Int × Value} (hne:S ≠ I) (hI:s.heap.get? I=some (itO S sl i es.size ep)) (ho:s.heap.get? S=some o) (hd:o.data=.set es ep t) (T:Tab t es.size) (hled:t.led = !(w.params.followText "set-order"))
    (hsl:w.params.followText "set-order" = false->below t.place sl=i) (hx:(wv w S ep es)[i]? = some x)
    (q:∀ h' sl',h'.get? I=some (itO S sl' (i + 1) es.size ep)->(w.params.followText "set-order" = false->below t.place sl'=i + 1)->Heap.SameBut I s.heap h'->Q (some x.2) { s with heap:=h' }) :
    wpAny (model prog w) A (pyNext (.ref I)) Q E s:=by
  have hT:s.TypeIs (.ref I) "set_iterator" := ⟨_,hI,rfl⟩
  unfold pyNext
  refine wpAny_bind (wpAny_attempt (wpAny_callSpecial?_slot (name:=Str.ofString "__next__") hT si_next (wpAny_call_entry si_next hT Hh ?_ (H9 _))))
  unfold Builtin.«set_iterator.__next__»
  refine wpAny_bind (wpAny_of_eq (a:=(Value.ref I,[])) rfl ?_)
  refine wpAny_bind (wpAny_fieldsOf hI rfl ?_)
  dsimp only
  unfold setEntries
  refine wpAny_bind (wpAny_bind (wpAny_setState_of ho hd T.fits (wpAny_pure ?_)))
  dsimp only
  have e0:((es.size:Int) != (es.size:Int))=false:=by simp
  rw [e0,if_neg Bool.false_ne_true]
  simp only [Int.toNat_natCast]
  refine wpAny_bind (HD ho hd T hled hsl (fun e sl' h1 h2=>?_) fun z=>by rw [hx] at z; cases z)
  rw [hx] at h1
  cases h1
  dsimp only
  refine wpAny_bind (wpAny_setField_rec hI (by simp) fun h1 g1 s1=>?_)
  refine wpAny_bind (wpAny_setField_rec g1 (by simp) fun h2' g2 s2=>?_)
  refine wpAny_pure ⟨_,rfl,wpAny_pure (q h2' sl' ?_ h2 (s1.trans s2))⟩
  rw [g2]
  simp [itO,rawInt]
theorem Pm {I S:Addr} {sl i ep:Nat} {es:Array (Int × Value)} {t:SetTable} {o:Obj} {Q:Option Value->Shared->Prop} (hh:A.handled=none) (hI:s.heap.get? I=some (itO S sl i es.size ep)) (ho:s.heap.get? S=some o) (hd:o.data=.set es ep t) (T:Tab t es.size) (hled:t.led = !(w.params.followText "set-order"))
    (hsl:w.params.followText "set-order" = false->below t.place sl=i) (hx:(wv w S ep es)[i]? = none)
    (q:∀ h',(∀ b o,b ≠ I->s.heap.get? b=some o->h'.get? b=some o)->Q none { s with heap:=h' }) :
    wpAny (model prog w) A (pyNext (.ref I)) Q E s:=by
  have hT:s.TypeIs (.ref I) "set_iterator" := ⟨_,hI,rfl⟩
  unfold pyNext
  refine wpAny_bind (wpAny_attempt (wpAny_callSpecial?_slot (name:=Str.ofString "__next__") hT si_next (wpAny_call_entry si_next hT Hh ?_ (H9 _))))
  unfold Builtin.«set_iterator.__next__»
  refine wpAny_bind (wpAny_of_eq (a:=(Value.ref I,[])) rfl ?_)
  refine wpAny_bind (wpAny_fieldsOf hI rfl ?_)
  dsimp only
  unfold setEntries
  refine wpAny_bind (wpAny_bind (wpAny_setState_of ho hd T.fits (wpAny_pure ?_)))
  dsimp only
  have e0:((es.size:Int) != (es.size:Int))=false:=by simp
  rw [e0,if_neg Bool.false_ne_true]
  simp only [Int.toNat_natCast]
  refine wpAny_bind (HD ho hd T hled hsl (fun e sl' h1 h2=>by rw [hx] at h1; cases h1) fun _=>?_)
  dsimp only
  refine wpAny_bind (wpAny_setField_rec hI (by simp) fun h1 g1 s1=>?_)
  refine IQ (A:=A.in1) (s:={ s with heap:=h1 }) hh fun a h' k ty=>?_
  refine wpAny_bind (wpAny_isInstance (T := "StopIteration") (b:=true) ty isSubtype_stop ?_)
  exact wpAny_pure (q h' fun b o hb e=>k b o (s1.extBut b o hb e))
theorem N7 {I S:Addr} {sl i n ep:Nat} {Q:Value->Shared->Prop} (hI:s.heap.get? I=some (itO S sl i n ep)) (h:Q (.ref I) s):wpAny (model prog w) A (pyIter (.ref I)) Q E s:=by
  have hT:s.TypeIs (.ref I) "set_iterator" := ⟨_,hI,rfl⟩
  refine wpAny_pyIter_slot hT JK (wpAny_call_entry JK hT MY ?_ (Mx _))
  exact wpAny_pure ⟨_,rfl, "set_iterator",_,hT,si_next.lookup,h⟩
theorem Pl {S:Addr} {ep:Nat} {es:Array (Int × Value)} {t:SetTable} {o:Obj} {Q:Value->Shared->Prop} (ho:s.heap.get? S=some o) (hex:o.ExactSet) (hd:o.data=.set es ep t) (T:Tab t es.size)
    (h:Q (.ref s.heap.objs.size) { s with heap:=s.heap.push (itO S 0 0 es.size ep) }):wpAny (model prog w) A (pyIter (.ref S)) Q E s:=by
  have hT:s.TypeIs (.ref S) "set" := ⟨_,ho,hex.1⟩
  refine wpAny_pyIter_slot hT PySem.F.slot_set_iter (wpAny_call_entry PySem.F.slot_set_iter hT MZ ?_ (PySem.F.args_set_iter_1 _))
  unfold Builtin.«frozenset.__iter__» Builtin.Frozenset.slot0 Builtin.Frozenset.sizeOf setEntries setDrawn setsByText
  refine wpAny_bind (wpAny_bind (wpAny_of_eq (a:=(Value.ref S,[])) rfl (wpAny_pure ?_)))
  refine wpAny_bind (wpAny_bind (wpAny_bind (wpAny_setState_of ho hd T.fits (wpAny_pure (wpAny_pure ?_)))))
  refine wpAny_bind (wpAny_bind (wpAny_setState_of ho hd T.fits ?_))
  dsimp only
  refine wpAny_bind (wpAny_bind (wpAny_askSetting (wpAny_pure (wpAny_pure ?_))))
  dsimp only
  have e0:∀ b:Bool,(!b && (!t.plain && decide (es.size > 1)))=false:=fun b=>by rw [T.pl]; simp
  split
  . rename_i z
    have z':=(e0 _).symm.trans z
    cases z'
  . refine wpAny_bind (wpAny_pure ?_)
    refine wpAny_bind (wpAny_setEpoch_of ho hd T.fits ?_)
    unfold newFields
    exact wpAny_bind (wpAny_newObj_type (wpAny_pure ⟨_,rfl, "set_iterator",_,⟨_,Heap.get?_push_size _ rfl,rfl⟩,si_next.lookup,h⟩))
end
end Ht
namespace Ht
open PySem PySem.Spec PyProof.Rows Sem L2 PySem.SetTable
section
variable {prog:Program} {w:World} {A:Around} {E:Value->Shared->Prop} {s:Shared}
theorem Oq:splitId "set.__len__" = some ("set", "__len__"):=by decide +kernel
theorem LG {S:Addr} {Q:Bool->Shared->Prop} (hT:s.TypeIs (.ref S) "set") (h:Q false s):wpAny (model prog w) A (Builtin.List.listLengthHint (.ref S)) Q E s:=by
  obtain ⟨id,hid⟩:∃ id,id = "set.__len__" := ⟨_,rfl⟩
  have l:=PySem.F.slot_set_len.lookup
  have z:=sub_set_self
  have sp:=Oq
  rw [← hid] at l sp
  unfold Builtin.List.listLengthHint
  wp_walk
  rw [sp]
  wp_walk
  split
  . wp_walk
    exact h
  . rename_i no
    exact absurd (by rw [hid]; decide +kernel) no
theorem Jx {I S:Addr} {ep:Nat} {es:Array (Int × Value)} {t:SetTable} {o:Obj} (hh:A.handled=none) (hne:S ≠ I) (hd:o.data=.set es ep t) (T:Tab t es.size) (hled:t.led = !(w.params.followText "set-order")) :
    Walks prog w A I [I,S] [I] es.size (fun i v=>∃ e,(wv w S ep es)[i]? = some e /\ v=e.2)
      (fun i h=>(∃ sl:Nat,h.get? I=some (itO S sl i es.size ep) /\ (w.params.followText "set-order" = false->below t.place sl=i)) /\ h.get? S=some o) where
  sub:=fun b hb=>by simp at hb; simp [hb]
  frame:=fun i h h' st k=>by
    obtain ⟨⟨sl,h1,h2⟩,h3⟩:=st
    exact ⟨⟨sl,k I (by simp) _ h1,h2⟩,k S (by simp) _ h3⟩
  item:=fun i s Q E hi st q=>by
    obtain ⟨⟨sl,h1,h2⟩,h3⟩:=st
    obtain ⟨x,hx⟩:∃ x,(wv w S ep es)[i]? = some x:=⟨(wv w S ep es)[i]'(by rw [Eh]; exact hi),by simp [Eh,hi]⟩
    refine N8 hne h1 h3 hd T hled h2 hx fun h' sl' g1 g2 sb=>?_
    exact q x.2 h' s.toks ⟨x,hx,rfl⟩ ⟨⟨sl',g1,g2⟩,(sb.2 S hne).trans h3⟩ fun b o hb e=>(sb.2 b (by simpa using hb)).trans e
  done:=fun s Q E st q=>by
    obtain ⟨⟨sl,h1,h2⟩,h3⟩:=st
    refine Pm hh h1 h3 hd T hled h2 (by simp [Eh]) fun h' k=>?_
    exact q h' s.toks fun b o hb e=>k b o (by simpa using hb) e
  self:=fun i s Q E st h=>by
    obtain ⟨⟨sl,h1,h2⟩,h3⟩:=st
    exact N7 h1 h
theorem M8 {S:Addr} {ep:Nat} {es:Array (Int × Value)} {t:SetTable} {o:Obj} (hex:o.ExactSet) (hd:o.data=.set es ep t) (T:Tab t es.size) (hled:t.led = !(w.params.followText "set-order")) :
    PySem.W.KdlSrc prog w "set" S S es.size (fun i v=>∃ e,(wv w S ep es)[i]? = some e /\ v=e.2) (fun h=>h.get? S=some o) where
  type:=fun s h=>⟨_,h,hex.1⟩
  there:=fun h e=>⟨Heap.lt_size e,Heap.lt_size e⟩
  keep:=fun h h' e k=>k S (.inl rfl) _ e
  notList:=by decide
  notTuple:=by decide
  hint:=fun A E s Q e h=>LG ⟨_,e,hex.1⟩ h
  iter:=fun A s hh e=>⟨itO S 0 0 es.size ep,_,fun E Q h=>Pl e hex hd T h,Jx hh (Nat.ne_of_lt (Heap.lt_size e)) hd T hled,⟨0,Heap.get?_push_size _ rfl,fun _=>Io T.ris⟩,Heap.get?_push_of_some _ e⟩
theorem HA {S:Addr} {ks:List Int} {Q:Value->Shared->Prop} (hh:A.handled=none) (hS:SetI prog w s.heap S ks)
    (q:∀ (h1 h':Heap) tk c (out:Array Value) ms,(∀ b o,s.heap.get? b=some o->h1.get? b=some o)->(∀ b o,h1.get? b=some o->h'.get? b=some o)->h'.get? h1.objs.size=some (seqObj "list" out c)->IntsAre out.toList ms->ms.Perm ks->ms.Pairwise (· <= ·)->Q (.ref h1.objs.size) { s with heap:=h',toks:=tk }) :
    wpAny (model prog w) A (call (.builtin "sorted") [.ref S]) Q E s:=by
  obtain ⟨o,es,ep,t,ho,hex,hd,hel,⟨ns,hen,hp⟩,T,hled⟩:=hS
  have small:es.size <= 18:=by rcases T.mks with ⟨_,b⟩ | ⟨_,b⟩ <;> omega
  refine Calls.call_function_entry kind_sorted plain_sorted entry_sorted (args_sorted1 _) ?_
  unfold Builtin.«sorted»
  refine wpAny_bind (wpAny_of_eq (a:=()) rfl ?_)
  refine wpAny_bind (PySem.W.kdu_collect (A:=A.in1) (M8 (S:=S) hex hd T hled) hh ho (by rw [sizeLine_eq]; omega) fun h1 t1 acc k1 it=>?_)
  have hacc:acc.toList=(wv w S ep es).toList.map (·.2):=by
    refine List.ext_getElem? fun i=>?_
    by_cases hi:i < acc.size
    . obtain ⟨e,h1,h2⟩:=it.2 i acc[i] (by simp [hi])
      have:acc.toList[i]? = some acc[i]:=by simp [hi]
      rw [this,h2,List.getElem?_map,Array.getElem?_toList,h1]
      rfl
    . have h1:=it.1
      have h2:=Eh w S ep es
      rw [List.getElem?_eq_none (by simp; omega),List.getElem?_eq_none (by simp; omega)]
  obtain ⟨ls,hls,hpl⟩:=EK ((Ix w S ep es).map (·.2)) hen
  rw [← hacc] at hls
  have hlen:acc.toList.length=es.size:=by rw [Array.length_toList]; exact it.1
  refine wpAny_bind (wpAny_newList ?_ (by rw [sizeLine_eq]; omega))
  have hL:(h1.push (seqObj "list" acc.toList.toArray 0)).get? h1.objs.size=some (seqObj "list" acc.toList.toArray 0):=Heap.get?_push_size _ rfl
  have kL:∀ b o,h1.get? b=some o->(h1.push (seqObj "list" acc.toList.toArray 0)).get? b=some o:=fun b o e=>Heap.get?_push_of_some _ e
  refine wpAny_bind (wpAny_holding (wpAny_call_entry slot_list_sort ⟨_,hL,rfl⟩ entry_list_sort (list_sort_tree hL hls (by omega) fun out ms a1 a2 a3=>⟨_,rfl,?_⟩) (args_list_sort _)))
  obtain ⟨c,hc⟩:=sortedHeap_at (out:=out) hL
  exact wpAny_pure ⟨_,rfl,q h1 _ _ c out ms k1 (fun b o e=>by rw [sortedHeap_old (Nat.ne_of_lt (Heap.lt_size e)) (Heap.lt_size (kL b o e))]; exact kL b o e) hc a1 ((a2.trans hpl).trans hp) a3⟩
end
end Ht
namespace Ht
def HY (x:Int):List Int->List Int
  | []=>[x]
  | y :: ys=>if x < y then x :: y :: ys else if x=y then y :: ys else y :: HY x ys
def srt (xs:List Int):List Int:=xs.foldr HY []
theorem FS (x k:Int):∀ ys:List Int,k ∈ HY x ys ↔ k=x ∨ k ∈ ys
  | []=>by simp [HY]
  | y :: ys=>by
    unfold HY
    split
    . simp
    . split
      . rename_i e
        subst e
        simp
      . rw [List.mem_cons,FS x k ys,List.mem_cons]
        constructor <;> (intro z; rcases z with z | z | z <;> simp [z])
theorem GC (x:Int):∀ {ys:List Int},ys.Pairwise (· < ·)->(HY x ys).Pairwise (· < ·)
  | [],_=>by simp [HY]
  | y :: ys,h=>by
    obtain ⟨h1,h2⟩:=List.pairwise_cons.mp h
    unfold HY
    split
    . rename_i hx
      exact List.pairwise_cons.mpr ⟨fun z hz=>(List.mem_cons.mp hz).elim (fun e=>e ▸ hx) fun m=>Int.lt_trans hx (h1 z m),h⟩
    . split
      . exact h
      . refine List.pairwise_cons.mpr ⟨fun z hz=>?_,GC x h2⟩
        rcases (FS x z ys).mp hz with rfl | m
        . omega
        . exact h1 z m
theorem Ci (xs:List Int) (k:Int):k ∈ srt xs ↔ k ∈ xs:=by
  unfold srt
  induction xs with
  | nil=>simp
  | cons x xs ih=>rw [List.foldr_cons,FS,ih,List.mem_cons]
theorem Dr (xs:List Int):(srt xs).Pairwise (· < ·):=by
  unfold srt
  induction xs with
  | nil=>exact .nil
  | cons x xs ih=>exact GC x ih
theorem JO:∀ {xs ys:List Int},xs.Pairwise (· < ·)->ys.Pairwise (· < ·)->(∀ k,k ∈ xs ↔ k ∈ ys)->xs=ys
  | [],[],_,_,_=>rfl
  | [],y :: ys,_,_,h=>by have:=(h y).mpr (List.mem_cons_self ..); cases this
  | x :: xs,[],_,_,h=>by have:=(h x).mp (List.mem_cons_self ..); cases this
  | x :: xs,y :: ys,a,b,h=>by
    obtain ⟨a1,a2⟩:=List.pairwise_cons.mp a
    obtain ⟨b1,b2⟩:=List.pairwise_cons.mp b
    have e:x=y:=by
      rcases List.mem_cons.mp ((h x).mp (List.mem_cons_self ..)) with z | z
      . exact z
      . rcases List.mem_cons.mp ((h y).mpr (List.mem_cons_self ..)) with z2 | z2
        . exact z2.symm
        . have:=a1 y z2
          have:=b1 x z
          omega
    subst e
    rw [JO a2 b2 fun k=>?_]
    constructor
    . intro hk
      rcases List.mem_cons.mp ((h k).mp (List.mem_cons_of_mem _ hk)) with z | z
      . have:=a1 k hk; omega
      . exact z
    . intro hk
      rcases List.mem_cons.mp ((h k).mpr (List.mem_cons_of_mem _ hk)) with z | z
      . have:=b1 k hk; omega
      . exact z
theorem Op {ms ns:List Int} (p:ms.Perm (Ay ns)) (h:ms.Pairwise (· <= ·)):ms=srt ns:=by
  have nd:ms.Nodup:=p.nodup_iff.mpr (FL ns)
  have lt:ms.Pairwise (· < ·):=(List.pairwise_and_iff.mpr ⟨h,nd⟩).imp fun z=>by
    have:=z.1
    have:=z.2
    omega
  exact JO lt (Dr ns) fun k=>by rw [p.mem_iff,HP,Ci]
end Ht
namespace L2
open PySem PySem.Spec PyProof.Rows Sem Ht
def ND (P:Program) (w:World) (p:Addr) (ks:List Int):HO:=.ext fun h=>SetI P w h p ks
section
variable {X:Cx}
theorem Ks (hc:X.calm=true):B0 X (.type "set") (fun xs H Q=>∃ a ns,xs=[.ref a] /\ (SqL X.K H a (ns.map V.int) ∨ SqT X.K H a (ns.map V.int)) /\ (Ay ns).length <= 18 /\ ∀ p,H p=none->Q (.ref p) (upd H p (ND X.prog X.w p (Ay ns)))):=by
  intro pins s σ H xs us Q I r h
  obtain ⟨a,ns,rfl,ha,room,q⟩:=h
  obtain ⟨u,rfl,ru⟩:=Vals.one r
  cases ru
  have fin:∀ h' tk,(∀ c o,s.heap.get? c=some o->h'.get? c=some o)->SetI X.prog X.w h' s.heap.objs.size (Ay ns)->EP X pins σ Q (.ref s.heap.objs.size) { s with heap:=h',toks:=tk }:=fun h' tk kp hS=>by
    refine ⟨.ref s.heap.objs.size,_,I.laid (o:=ND X.prog X.w s.heap.objs.size (Ay ns)) kp (Nat.le_refl _) ?_,rfl,q _ (I.hok.fresh (Nat.le_refl _))⟩
    obtain ⟨o,es,ep,t,e,rest⟩:=id hS
    exact ⟨hS,⟨o,e⟩,fun h1 h2 z k=>z.at k⟩
  rcases ha with ha | ha
  . obtain ⟨its,rv,pl,hz⟩:=I.list ha
    exact IJ (I.ok.hd hc) pl.isList (FR rv) room fin
  . obtain ⟨its,rv,pl,hz⟩:=I.tuple ha
    exact KB (I.ok.hd hc) pl (FR rv) room fin
theorem Im (hc:X.calm=true):B0 X (.builtin "sorted") (fun xs H Q=>∃ p ns,xs=[.ref p] /\ H p=some (ND X.prog X.w p (Ay ns)) /\ ∀ l,H l=none->Q (.ref l) (upd H l (.lst ((srt ns).map V.int)))):=by
  intro pins s σ H xs us Q I r h
  obtain ⟨p,ns,rfl,hp,q⟩:=h
  obtain ⟨u,rfl,ru⟩:=Vals.one r
  cases ru
  obtain ⟨hS,_⟩:=I.hok p _ hp
  refine HA (I.ok.hd hc) hS fun h1 h' tk c out ms k1 k2 e1 im pm sm=>?_
  have em:=Op pm sm
  subst em
  have I1:=I.kept (t':=tk) k1
  have rv:=DC im
  refine ⟨.ref h1.objs.size,_,I1.laid (t':=tk) (o:=.lst ((srt ns).map V.int)) k2 (Nat.le_refl _) ⟨?_,out.toList,c,rv,e1⟩,rfl,q _ (I1.hok.fresh (Nat.le_refl _))⟩
  obtain ⟨o,es,ep,t,_,_,_,_,⟨ns',hen,hp'⟩,T,_⟩:=hS
  have hsz:=Js hen (hp'.trans pm.symm)
  rw [List.length_map,sizeLine_eq]
  rcases T.mks with ⟨_,b⟩ | ⟨_,b⟩ <;> omega
end
end L2
namespace Mi
open PySem L2 Ht
def Bh (d:D):M D:=bnd (BQ d) fun ds=>fun μ=>match EY ds with
  | some ns=>if (Ay ns).length <= 18 then some (.lst ((srt ns).map D.int),μ) else none
  | none=>none
theorem FP {K:PySem.W.Frag} {ι:Nat->Addr} {k:Nat} {H:Hp}:∀ ns:List Int,IsL K ι k H (ns.map D.int) (ns.map V.int)
  | []=>IsL.nil
  | n :: r=>by
    rw [List.map_cons,List.map_cons]
    unfold IsL
    exact ⟨_,_,rfl,ofI _,FP r⟩
section
variable {X:Cx} {e:Expr} {pos p p2 pos2:Pos}
theorem Dd {m:Sl->M D} (yl:X.mg "sorted" = none) (ys:X.mg "set" = none) (he:RE X e m) (hc:X.calm=true:=by rfl) (hgl:Gl X "sorted" := by rfl) (hgs:Gl X "set" := by rfl) (hst:EJ e=false:=by rfl) :
    RE X (.Call (.Name "sorted" p) [.Call (.Name "set" p2) [e] [] pos2] [] pos) (mUn Bh m):=by
  have hs:PE X (.Call (.Name "set" p2) [e] [] pos2) _:=DH (Ks hc) hgs ys Mi.Mr (Dv he.pe FI (Ai hst)) (by decide) (by decide) (Ai hst) rfl
  refine RE.wk (HN (Im hc) hgl yl PyProof.Rows.boot_sorted (Dv hs FI (Ai rfl)) (by decide) (by decide) (Ai rfl) rfl) fun σ H Q h=>?_
  obtain ⟨ι,μ,τ,d,μ',R,S,ev,q⟩:=h
  obtain ⟨x,μ1,e1,e2⟩:=AE ev
  obtain ⟨ds,μ2,e3,e4⟩:=AE e2
  refine ⟨ι,μ,τ,x,μ1,R,S,e1,fun ι1 H1 E1 R1 v1 i1=>?_⟩
  obtain ⟨hm,a,vs,rfl,h1,h2⟩:=DR R1 i1 e3
  subst hm
  cases hx:EY ds with
  | none=>rw [hx] at e4; cases e4
  | some ns=>
    rw [hx] at e4
    have e5:(if (Ay ns).length <= 18 then some (D.lst ((srt ns).map D.int),μ2) else none)=some (d,μ'):=e4
    split at e5
    . rename_i room
      cases e5
      have ev:=HW h2 hx
      subst ev
      refine ⟨a,ns,rfl,h1,room,fun p hp=>?_⟩
      obtain ⟨E2,R2⟩:=R1.laid (ND X.prog X.w p (Ay ns)) hp
      exact ⟨p,ns,rfl,A5,fun l hl=>OT R2 (FP _) (fun ι' H' E' R'=>q ι' H' ((E1.trans E2).trans E') R') l hl⟩
    . cases e5
end
end Mi
namespace L2
open PySem PySem.Spec PyProof.Rows Sem Ht
section
variable {prog:Program} {w:World} {A:Around} {E:Value->Shared->Prop} {s:Shared}
theorem LE {n:Nat}:Builtin.Range.rangeSize 0 n 1=(n:Int):=by rw [rangeSize_one]; split <;> omega
theorem J9 {n:Nat} (h:n <= 1000):Builtin.Range.small 0 n 1=true:=small_one (by omega) (by omega) (by omega) (by omega)
theorem Hm {r:Addr} {n:Nat} {t u v:Tok} {Q:List Value->Shared->Prop} (hh:A.handled=none) (hr:IsRange s.heap r 0 n 1 t u v) (hn:n <= 1000)
    (q:∀ h' tk (acc:List Value),(∀ b o,s.heap.get? b=some o->h'.get? b=some o)->IntsAre acc ((List.range n).map Int.ofNat)->Q acc { s with heap:=h',toks:=tk }) :
    wpAny (model prog w) A (collect (.ref r)) Q E s:=by
  unfold collect
  refine wpAny_bind (wpAny_runValue (codeAny_builtin entry_proto_collect' ?_))
  rw [Around.under_plainId PySem.F.plain_proto_collect _]
  unfold Builtin.«proto.collect»
  refine wpAny_bind (wpAny_newList ?_)
  refine wpAny_pure ⟨plainId_quiet PySem.F.plain_list_iadd _,codeAny_builtin entry_list_iadd' ?_⟩
  rw [Around.under_plainId PySem.F.plain_list_iadd _]
  have got:∀ (acc:Array Value) (c:Nat) (h':Heap) (tk:Nat),(∀ b o,s.heap.get? b=some o->h'.get? b=some o)->h'.get? s.heap.objs.size=some { cls:=.type "list",dict:=none,data:=.seq acc c,slots:=#[] }->ItemsOf (fun i v=>∃ t,v=.int (0 + (i:Int) * 1) t) acc n->
      wpAny (model prog w) A (load s.heap.objs.size >>= fun o=>match o.data with | .seq xs _=>Pure.pure xs.toList | _=>PySem.unsupported "internal:collect") Q E { s with heap:=h',toks:=tk }:=fun acc c h' tk k e it=>by
    refine wpAny_bind (wpAny_load e (wpAny_pure (q h' tk acc.toList k ?_)))
    have im:=intsAre_map acc.toList fun v hv=>by
      obtain ⟨i,hi,rfl⟩:=List.getElem_of_mem hv
      obtain ⟨t,e⟩:=it.2 i _ (Array.getElem?_eq_getElem (by simpa using hi))
      exact ⟨_,t,by simpa using e⟩
    have en:acc.toList.map numOf=(List.range n).map Int.ofNat:=by
      refine List.ext_getElem? fun i=>?_
      rw [List.getElem?_map,List.getElem?_map]
      by_cases hi:i < n
      . have hi':i < acc.size:=by rw [it.1]; exact hi
        obtain ⟨t,e⟩:=it.2 i _ (Array.getElem?_eq_getElem hi')
        rw [Array.getElem?_toList,Array.getElem?_eq_getElem hi',e,List.getElem?_range hi]
        simp [numOf]
      . rw [List.getElem?_eq_none (by rw [Array.length_toList,it.1]; omega),List.getElem?_eq_none (by simp; omega)]
        rfl
    rwa [en] at im
  have key:=wpAny_extend_range (prog:=prog) (w:=w) (A:=A) (s:={ s with heap:=s.heap.push { cls:=.type "list",data:=.seq ([]:List Value).toArray } })
    (R:=fun (z:Result) (s':Shared)=>∃ (h':Heap) (tk:Nat) (acc:Array Value) (c:Nat),z=.ok (.ret (.ref s.heap.objs.size)) /\ s'={ s with heap:=h',toks:=tk } /\
      (∀ b o,s.heap.get? b=some o->h'.get? b=some o) /\ h'.get? s.heap.objs.size=some { cls:=.type "list",dict:=none,data:=.seq acc c,slots:=#[] } /\ ItemsOf (fun i v=>∃ t,v=.int (0 + (i:Int) * 1) t) acc n)
    (n:=n) hh (Heap.get?_push_of_some _ hr) (J9 hn) LE (by omega) s.heap.objs.size (.ref s.heap.objs.size) 0 (Heap.get?_push_size _ rfl)
    (fun h' tk acc c k e it=>⟨h',tk,acc,c,rfl,rfl,fun b o z=>k b o (Nat.ne_of_lt (Heap.lt_size z)) (Heap.get?_push_of_some _ z),e,it⟩)
  refine wpAny_mono key (fun fin s' z=>?_) fun e s' z=>by obtain ⟨_,_,_,_,y,_⟩:=z; cases y
  cases fin with
  | done f=>
    obtain ⟨h',tk,acc,c,y,rfl,k,e,it⟩:=z
    cases y
    exact got acc c h' tk k e it
  | again c=>
    refine ⟨z.1,codeAny_mono z.2 fun f s2 y=>?_⟩
    obtain ⟨h',tk,acc,c,rfl,rfl,k,e,it⟩:=y
    exact got acc c h' tk k e it
end
section
variable {X:Cx}
theorem Kt:B0 X (.type "range") (fun xs H Q=>∃ n:Nat,xs=[.int n] /\ ∀ p,H p=none->Q (.ref p) (upd H p (.rng 0 n))):=by
  intro pins s σ H xs us Q I r h
  obtain ⟨n,rfl,q⟩:=h
  obtain ⟨u,rfl,t,rfl⟩:=Vals.one r
  refine call_range_1 ⟨.ref s.heap.objs.size,_,I.laid (o:=.rng 0 n) (fun b o e=>Heap.get?_push_of_some _ e) (Nat.le_refl _) ⟨_,_,_,Heap.get?_push_size _ rfl⟩,rfl,q _ (I.hok.fresh (Nat.le_refl _))⟩
abbrev JX (n:Nat):List V:=((List.range n).map Int.ofNat).map V.int
theorem Kb (n:Nat):(JX n).length=n:=by simp
theorem Hv (hc:X.calm=true):B0 X (.type "tuple") (fun xs H Q=>∃ p n,xs=[.ref p] /\ H p=some (.rng 0 (n:Nat)) /\ n <= 1000 /\ ∀ l,H l=none->Q (.ref l) (upd H l (.tup (JX n)))):=by
  intro pins s σ H xs us Q I r h
  obtain ⟨p,n,rfl,hp,hn,q⟩:=h
  obtain ⟨u,rfl,ru⟩:=Vals.one r
  cases ru
  obtain ⟨t,u,v,e⟩:=I.hok p _ hp
  refine callType_codes PySem.F.called_tuple (PySem.F.typeCall_tuple_1 (.ref p)) PySem.F.entry_object_init (Q₁:=fun x s₁=>s₁.TypeIs x "tuple" /\ EP X pins σ Q x s₁) ?_ (fun x s₁ z=>And.intro z.1 (And.intro (PySem.F.args_object_init_2 x (.ref p)) ?_))
  . refine codeAny_call_builtin PySem.F.plain_tuple_new PySem.F.entry_tuple_new (wpAny_of_eq (PySem.F.newCall_tuple_1 _) ?_)
    have a1:=sub_tuple_self
    have a2:=init_tuple_lookup
    have a3:=madeHere_tuple
    have a4:s.TypeIs (.ref p) "range" := ⟨_,e,rfl⟩
    unfold Builtin.«tuple.__new__»
    have go:∀ (A:Around) (Q:List Value->Shared->Prop) (E:Value->Shared->Prop),A.handled=none->(∀ h' tk (acc:List Value),(∀ b o,s.heap.get? b=some o->h'.get? b=some o)->IntsAre acc ((List.range n).map Int.ofNat)->Q acc { s with heap:=h',toks:=tk })->wpAny (model X.prog X.w) A (collect (.ref p)) Q E s:=fun A Q E hh z=>Hm hh e hn z
    wp_walk using go
    . exact I.ok.hd hc
    . intro h' tk acc k im
      have hl:acc.length=n:=by
        have:=congrArg List.length im.nums
        simpa using this
      refine wpAny_bind (wpAny_pure ?_)
      unfold Builtin.Tuple.tupleExact
      refine wpAny_bind (wpAny_newObj_type ?_ (by show acc.toArray.size <= sizeLine; rw [sizeLine_eq]; simp; omega))
      have I1:=I.kept (t':=tk) k
      refine wpAny_pure ⟨⟨_,Heap.get?_push_size _ rfl,rfl⟩,.ref h'.objs.size,_,I1.laid (t':=tk) (o:=.tup (JX n)) (fun b o z=>Heap.get?_push_of_some _ z) (Nat.le_refl _) ⟨by rw [Kb,sizeLine_eq]; omega,acc,DC im,IsTup.new _ _⟩,rfl,q _ (I1.hok.fresh (Nat.le_refl _))⟩
  . exact object_init_meets PySem.F.called_tuple.init.lookup PySem.F.called_tuple.made (by decide) X.prog X.w X.A.in1 (wants (fun r s₂=>r=.none /\ EP X pins σ Q x s₂) X.xe) s₁ (And.intro z.1 (And.intro rfl z.2))
end
end L2
namespace Mi
open PySem L2 Ht
def JY (n:Nat):List D:=((List.range n).map Int.ofNat).map D.int
def F4 (how:List D->D) (d:D):M D:=match d with
  | .int j=>fun μ=>if 0 <= j /\ j <= 1000 then some (how (JY j.toNat),μ) else none
  | _=>BE
section
variable {X:Cx} {e:Expr} {pos p p2 pos2:Pos}
theorem NJ {T:String} {f:List D->D} {how:List V->HO} {m:Sl->M D} (call:X.calm=true->B0 X (.type T) (fun xs H Q=>∃ p n,xs=[.ref p] /\ H p=some (.rng 0 (n:Nat)) /\ n <= 1000 /\ ∀ l,H l=none->Q (.ref l) (upd H l (how (JX n)))))
    (fin:∀ {ι:Nat->Addr} {μ:Mh} {H:Hp} {Q:VK} {ds:List D} {vs:List V},RelH X.K ι μ H->IsL X.K ι μ.length H ds vs->(Aft X.K ι μ H μ fun ι' H'=>∀ v,Is X.K ι' μ.length H' (f ds) v->Q v H')->∀ l,H l=none->Q (.ref l) (upd H l (how vs)))
    (yl:X.mg T=none) (ys:X.mg "range" = none) (bt:bootBuiltins T=some (.type T)) (he:RE X e m) (hc:X.calm=true:=by rfl) (hgl:Gl X T:=by rfl) (hgs:Gl X "range" := by rfl) (hst:EJ e=false:=by rfl) (n1:(T:Str) ≠ "__name__" := by decide) (n2:((T:Str) == ("__debug__" : Str))=false:=by decide) :
    RE X (.Call (.Name T p) [.Call (.Name "range" p2) [e] [] pos2] [] pos) (mUn (F4 f) m):=by
  have hs:PE X (.Call (.Name "range" p2) [e] [] pos2) _:=DH Kt hgs ys PyProof.Rows.boot_range (Dv he.pe FI (Ai hst)) (by decide) (by decide) (Ai hst) rfl
  refine RE.wk (DH (call hc) hgl yl bt (Dv hs FI (Ai rfl)) n1 n2 (Ai rfl) rfl) fun σ H Q h=>?_
  obtain ⟨ι,μ,τ,d,μ',R,S,ev,q⟩:=h
  obtain ⟨x,μ1,e1,e2⟩:=AE ev
  refine ⟨ι,μ,τ,x,μ1,R,S,e1,fun ι1 H1 E1 R1 v1 i1=>?_⟩
  cases x with
  | int j=>
    have e3:(if 0 <= j /\ j <= 1000 then some (f (JY j.toNat),μ1) else none)=some (d,μ'):=e2
    split at e3
    . rename_i hj
      cases e3
      have z:=BL i1
      subst z
      have ej:j=((j.toNat:Nat):Int):=by omega
      refine ⟨j.toNat,by rw [← ej],fun p hp=>?_⟩
      obtain ⟨E2,R2⟩:=R1.laid (.rng 0 (j.toNat:Nat)) hp
      exact ⟨p,j.toNat,rfl,A5,by omega,fun l hl=>fin R2 (FP _) (fun ι' H' E' R'=>q ι' H' ((E1.trans E2).trans E') R') l hl⟩
    . cases e3
  | _=>cases e2
theorem EC {m:Sl->M D} (yl:X.mg "tuple" = none) (ys:X.mg "range" = none) (he:RE X e m) (hc:X.calm=true:=by rfl) (hgl:Gl X "tuple" := by rfl) (hgs:Gl X "range" := by rfl) (hst:EJ e=false:=by rfl) :
    RE X (.Call (.Name "tuple" p) [.Call (.Name "range" p2) [e] [] pos2] [] pos) (mUn (F4 D.tup) m):=NJ (T := "tuple") (how:=HO.tup) Hv Jd yl ys Mi.At he hc hgl hgs hst
end
end Mi
namespace L2
open PySem PySem.Spec PyProof.Rows Sem Ht
theorem M3:fillsNumberSlot (.type "tuple") "mul" = Pure.pure false:=PySem.fillsNumberSlot_seq (id := "tuple.__mul__") (r:=some (.builtin "tuple.__rmul__")) PySem.F.slot_tuple_mul.lookup (by decide +kernel) PySem.F.slot_tuple_rmul.lookup (by decide +kernel)
theorem Ol:seqRepeat? (.type "tuple")=Pure.pure (some (.builtin "tuple.__mul__")):=by
  unfold seqRepeat?
  rw [PySem.seqSlot_of (T := "tuple") (name := "__mul__") PySem.F.slot_tuple_mul.lookup (by decide +kernel),PySem.seqSlot_of (T := "tuple") (name := "__rmul__") PySem.F.slot_tuple_rmul.lookup (by decide +kernel)]
  rfl
section
variable {prog:Program} {w:World} {A:Around} {E:Value->Shared->Prop} {s:Shared}
theorem On (a:Int) (t:Tok) (l:Addr) (items:Array Value):Meets (Builtin.«int.__rmul__» ⟨[.int a t,.ref l],[]⟩) (fun _ R s=>IsTup s.heap l items /\ R (.ok (.ret Value.notImplemented)) s):=
  .of_wp fun prog w A R s h=>by
    obtain ⟨⟨o,ho,hc,n,hd⟩,h⟩:=h
    have hT:s.TypeIs (.ref l) "tuple" := ⟨o,ho,hc⟩
    have z:=PySem.F.sub_tuple_int
    wp_walk
    rw [hd]
    wp_walk
    exact ⟨_,rfl,h⟩
theorem Om (l:Addr) (items:Array Value) (k:Int) (t:Tok) (h0:items.isEmpty=false) (h1:1 <= k) (h2:k <= 1000) (h3:items.size <= 1000) :
    Meets (Builtin.«tuple.__mul__» ⟨[.ref l,.int k t],[]⟩) (fun _ R s=>IsTup s.heap l items /\ (k=1->R (.ok (.ret (.ref l))) s) /\ (k ≠ 1->R (.ok (.ret (.ref s.heap.objs.size))) { s with heap:=s.heap.push { cls:=.type "tuple",data:=.seq ((List.replicate k.toNat items).foldl (· ++ ·) #[]) } })):=
  .of_wp fun prog w A R s h=>by
    obtain ⟨⟨o,ho,hc,n,hd⟩,q1,q2⟩:=h
    have hT:s.TypeIs (.ref l) "tuple" := ⟨o,ho,hc⟩
    have b1:(items.size:Int) * k <= 1000000:=by
      have:=Int.mul_le_mul (show (items.size:Int) <= 1000 by omega) h2 (by omega) (by omega)
      omega
    have c1:(decide (k < -2 ^ 63) || decide (k ≥ 2 ^ 63))=false:=by simp; omega
    have c3:(decide (k <= 0) || items.isEmpty)=false:=by rw [h0]; simp; omega
    have c5:Builtin.Tuple.tupleTooMany ((items.size:Int) * k)=false:=by
      unfold Builtin.Tuple.tupleTooMany
      simp [sizeLine_eq]
      omega
    unfold Builtin.«tuple.__mul__»
    wp_walk
    rw [c1,if_neg Bool.false_ne_true]
    refine wpAny_bind ?_
    unfold Builtin.Tuple.tupleItemsOf
    refine wpAny_bind (wpAny_seqItems ho hd (wpAny_pure ?_))
    rw [h0]
    by_cases hk:k=1
    . have c2:(false || k == 1)=true:=by simp [hk]
      rw [c2]
      simp only [↓reduceIte]
      wp_walk
      exact ⟨_,rfl,q1 hk⟩
    . have c2:(false || k == 1)=false:=by simp [hk]
      rw [c2]
      simp only [Bool.false_eq_true,↓reduceIte]
      rw [Bool.or_false,decide_eq_false (show ¬ k <= 0 by omega)]
      simp only [Bool.false_eq_true,↓reduceIte]
      rw [if_neg (show ¬ (items.size:Int) * k > (2 ^ 63 - 1) / 8 by omega),c5]
      simp only [Bool.false_eq_true,↓reduceIte]
      unfold Builtin.Tuple.tupleExact
      refine wpAny_bind (wpAny_newObj_type (wpAny_pure ⟨_,rfl,q2 hk⟩) ?_)
      show ((List.replicate k.toNat items).foldl (· ++ ·) #[]).size <= sizeLine
      have sz:∀ (m:Nat) (z:Array Value),((List.replicate m items).foldl (· ++ ·) z).size=z.size + m * items.size:=by
        intro m
        induction m with
        | zero=>intro z; simp
        | succ m ih=>intro z; rw [List.replicate_succ,List.foldl_cons,ih,Array.size_append,Nat.succ_mul]; omega
      rw [sz,sizeLine_eq]
      have:((k.toNat * items.size:Nat):Int)=(items.size:Int) * k:=by
        rw [Int.natCast_mul,Int.toNat_of_nonneg (by omega),Int.mul_comm]
      simp
      omega
end
theorem Dl (its:List Value):∀ (m:Nat) (z:List Value),(List.replicate m its.toArray).foldl (· ++ ·) z.toArray=(z ++ (List.replicate m its).flatten).toArray
  | 0,z=>by simp
  | m + 1,z=>by
    rw [List.replicate_succ,List.foldl_cons,List.append_toArray,Dl its m,List.replicate_succ,List.flatten_cons,List.append_assoc]
theorem Vals.reps {vs:List V} {us:List Value} (r:Vals vs us):∀ m:Nat,Vals (List.replicate m vs).flatten (List.replicate m us).flatten
  | 0=>.nil
  | m + 1=>by
    rw [List.replicate_succ,List.flatten_cons,List.replicate_succ,List.flatten_cons]
    exact r.append (Vals.reps r m)
section
variable {X:Cx}
theorem Nm:OpR X (binaryOp .Mult) (fun x y H Q=>∃ l k xs,x=.ref l /\ y=.int k /\ SqT X.K H l xs /\ xs ≠ [] /\ xs.length <= 1000 /\ 1 <= k /\ k <= 1000 /\ (k=1->Q (.ref l) H) /\ (k ≠ 1->∀ p,H p=none->Q (.ref p) (upd H p (.tup (List.replicate k.toNat xs).flatten)))):=by
  intro pins s σ H x y v u Q I rx ry h
  obtain ⟨l,k,xs,rfl,rfl,ha,hx,hz,k1,k2,q1,q2⟩:=h
  cases rx
  obtain ⟨t,rfl⟩:=ry
  obtain ⟨its,r,p,_⟩:=I.tuple ha
  have hlen:=r.length
  have hT:s.TypeIs (.ref l) "tuple" := by obtain ⟨o,e,c,_⟩:=p; exact ⟨o,e,c⟩
  have he:its.toArray.isEmpty=false:=by
    cases its with
    | nil=>exact absurd (List.length_eq_zero_iff.mp (by simpa using hlen)) hx
    | cons a b=>rfl
  refine wpAny_binaryOp_repeat_ref (T := "tuple") (U := "int") (by decide) hT (fun s'=>typeIs_int s' k t) M3 PySem.F.fills_int_mul PySem.F.slot_int_rmul Ol PySem.F.slot_int_index.lookup ?_
  refine call_meets PySem.F.slot_int_rmul (typeIs_int s k t) PySem.F.entry_int_rmul (PySem.F.args_int_rmul_2 _ _) (On k t l its.toArray) ⟨p,rfl,hT,?_⟩
  refine call_meets PySem.F.slot_tuple_mul hT PySem.F.entry_tuple_mul (PySem.F.args_tuple_mul_2 _ _) (Om l its.toArray k t he k1 k2 (by rw [List.size_toArray]; omega)) ⟨p,fun z=>⟨.ref l,H,I,rfl,q1 z⟩,fun z=>?_⟩
  have ef:=Dl its k.toNat []
  rw [List.nil_append] at ef
  rw [ef]
  refine ⟨.ref s.heap.objs.size,_,I.laid (t':=s.toks) (o:=.tup (List.replicate k.toNat xs).flatten) (fun b ob q=>Heap.get?_push_of_some _ q) (Nat.le_refl _) ⟨?_,_,r.reps _,IsTup.new _ _⟩,rfl,q2 z _ (I.hok.fresh (Nat.le_refl _))⟩
  rw [Go,sizeLine_eq]
  have:k.toNat * xs.length <= 1000 * 1000:=Nat.mul_le_mul (by omega) hz
  omega
end
end L2
namespace Mi
open PySem L2 Ht
def Gg (a b:D):M D:=match a,b with
  | .tup ds,.int k=>fun μ=>if ds ≠ [] /\ ds.length <= 1000 /\ 1 <= k /\ k <= 1000 then some (.tup (List.replicate k.toNat ds).flatten,μ) else none
  | a,b=>FE a b
section
variable {X:Cx}
theorem Lu:OpR X (binaryOp .Mult) (rM X.K Gg):=fun pins s σ H x y v u Q I rx ry h=>by
  obtain ⟨ι,μ,a,b,d,μ',R,ia,ib,e,q⟩:=h
  unfold Gg at e
  split at e
  . rename_i ds k
    split at e
    . rename_i hc
      obtain ⟨c1,c2,c3,c4⟩:=hc
      cases e
      have zb:=BL ib
      subst zb
      unfold Is at ia
      obtain ⟨p,vs,rfl,h1,h2⟩:=ia
      have hl:=h2.length
      refine Nm pins s σ H _ _ v u Q I rx ry ⟨p,k,vs,rfl,rfl,h1,fun z=>c1 (List.length_eq_zero_iff.mp (by rw [← hl,z]; rfl)),by omega,c3,c4,fun z=>?_,fun z=>?_⟩
      . subst z
        refine q ι H R.ext0 R _ ?_
        unfold Is
        exact ⟨p,vs,rfl,h1,by simpa using h2⟩
      . exact Jd R (h2.rep _) q
    . cases e
  . exact JT pins s σ H _ _ v u Q I rx ry ⟨ι,μ,a,b,d,μ',R,ia,ib,e,q⟩
end
end Mi
namespace Mi
open PySem L2 Ht
section
variable {X:Cx} {e:Expr} {pos pos':Pos}
def Gy (as:List D) (n:Nat):M D:=fun μ=>match μ[n]? with
  | some (.lst b)=>BN (as ++ b) μ
  | _=>none
def IS (a b:D):M D:=match a,b with
  | .lst as,.ref n=>Gy as n
  | a,b=>AW a b
theorem PZ:OpR X (binaryOp .Add) (rM X.K IS):=fun pins s σ H x y v u Q I rx ry h=>by
  obtain ⟨ι,μ,a,b,d,μ',R,ia,ib,e,q⟩:=h
  unfold IS at e
  split at e
  . rename_i as n
    unfold Gy at e
    split at e
    . rename_i bs hn
      obtain ⟨w,hu,o⟩:=R.obj n _ hn
      obtain ⟨vs,rfl,iv⟩:=o
      unfold Is at ia ib
      obtain ⟨hk,rfl⟩:=ib
      obtain ⟨p',vs',rfl,h1',hn',h2'⟩:=ia
      obtain ⟨hl,w⟩:=B6 R (h2'.append iv) e q
      exact Lo pins s σ H _ _ v u Q I rx ry ⟨p',_,vs',vs,rfl,rfl,h1',hu,by rw [← List.length_append]; exact hl,w⟩
    . cases e
  . exact Ap pins s σ H _ _ v u Q I rx ry ⟨ι,μ,a,b,d,μ',R,ia,ib,e,q⟩
end
end Mi
namespace K13
open PySem L2 Mi
def B3:D:=.int (-1)
def Bu  : Sl->M (Fl × Sl):=
    (AU (Ah (mOp EX (AG EH (AD (mOp Ab (AA 0) (mC (.int 4))) AK)) (mC (.int 1))) (AO 1))
    (AU (sIf (AN (mOp A9 (mOp Ab (AA 0) (mC (.int 0))) (mC (.str "whole")))) (An (AG A4 (AD (AG A4 (AD (mOp Ab (AA 0) (mC (.int 2))) (AD (mC B3) (AD (mOp Gg (AG A4 (AD (mC B3) AK)) (AA 1)) AK)))) AK))) BJ)
    (An (AG A4 (AD (mOp Ab (AA 0) (mC (.int 2))) (AD (mC B3) (AD (mOp Gg (AG A4 (AD (mC .non) AK)) (AA 1)) AK)))))))
def Bk (φ_case_begun:List D->M D) (φ_closed:List D->M D) (φ_beside:List D->M D):Sl->M (Fl × Sl):=
    (AU (sIf (AN (mOp A9 (mOp Ab (AA 0) (mC (.int 0))) (mC (.str "whole")))) (An (AG φ_closed (AD (Bn 1 [2] (Di (AA 1)) (AO 0) DV (AG φ_case_begun (AD (AA 0) (AD (mC (.int 0)) (AD (AA 1) AK)))) BN) AK))) BJ)
    (AU (Ah (Bn 1 [0,2] (Di (mOp Ab (AA 1) (mC (.int 2)))) (AO 0) DV (mIf (AN (mOp (DS false) (AA 0) (mC .non))) (AA 0) (AG φ_beside (AD (mOp Ab (AA 1) (mC (.int 0))) (AD (mOp Ab (AA 1) (mC (.int 1))) (AD (AA 0) (AD (AA 2) AK)))))) BN) (AO 3))
    (An (AG A4 (AD (mOp Ab (AA 1) (mC (.int 0))) (AD (AA 2) (AD (AG BY (AD (AA 3) AK)) AK)))))))
def BU (φ_cases_ended:List D->M D) (φ_closed:List D->M D):Sl->M (Fl × Sl):=
    (AU (sIf (AN (mOp A9 (mOp Ab (AA 0) (mC (.int 0))) (mC (.str "whole")))) (An (AG φ_closed (AD (AG φ_cases_ended (AD (AA 1) (AD (mC (.int 0)) (AD (mC B3) AK)))) AK))) BJ)
    (An (AG A4 (AD (mOp Ab (AA 1) (mC (.int 1))) (AD (mC B3) (AD (mOp Ab (AA 1) (mC (.int 2))) AK))))))
def Bt (φ_case_begun:List D->M D) (φ_closed:List D->M D) (φ_beside:List D->M D) (φ_with_thing:List D->M D):Sl->M (Fl × Sl):=
    (AU (sIf (AN (mOp A9 (mOp Ab (AA 0) (mC (.int 0))) (mC (.str "whole")))) (An (AG φ_closed (AD (Bn 1 [2] (Di (AA 1)) (AO 0) DV (AG φ_case_begun (AD (AA 0) (AD (mOp AW (AA 1) (mC (.int 1))) (AD (mC B3) AK)))) BN) AK))) BJ)
    (AU (Ah (AG A4 (AD (mOp Ab (AA 1) (mC (.int 0))) AK)) (AO 3))
    (AU (sIf (AN (mOp Bq (mOp Ab (AA 1) (mC (.int 1))) (mC B3))) (Ah (AG φ_beside (AD (mOp Ab (AA 0) (mC (.int 0))) (AD (mOp Ab (AA 0) (mC (.int 1))) (AD (AA 3) (AD (mOp Ab (AA 1) (mC (.int 1))) AK))))) (AO 3)) BJ)
    (An (AG A4 (AD (mOp Ab (AA 1) (mC (.int 0))) (AD (mOp Ab (AA 1) (mC (.int 1))) (AD (AG φ_with_thing (AD (mOp Ab (AA 1) (mC (.int 2))) (AD (AA 2) (AD (AA 3) AK)))) AK))))))))
def B8 (φ_cases_ended:List D->M D) (φ_closed:List D->M D) (φ_with_thing:List D->M D):Sl->M (Fl × Sl):=
    (AU (sIf (AN (mOp A9 (mOp Ab (AA 0) (mC (.int 0))) (mC (.str "whole")))) (AU (Ah (AG φ_cases_ended (AD (AA 1) (AD (mOp AW (AA 2) (mC (.int 1))) (AD (AA 3) AK)))) (AO 4))
    (An (mIf (AN (AA 4)) (AG φ_closed (AD (AA 4) AK)) (mC .non)))) BJ)
    (AU (sIf (AN (mOp (FF true) (AA 3) (mOp Ab (mOp Ab (AA 1) (mC (.int 2))) (AA 2)))) (An (mC .non)) BJ)
    (An (AG A4 (AD (mOp Ab (AA 1) (mC (.int 0))) (AD (mOp Ab (AA 1) (mC (.int 1))) (AD (AG φ_with_thing (AD (mOp Ab (AA 1) (mC (.int 2))) (AD (AA 2) (AD (mC .non) AK)))) AK)))))))
def Dx  : Sl->M (Fl × Sl):=
    (AU (sIf (AN (mOp A9 (AA 0) (mC (.str "safe")))) (An (mUn (F4 D.tup) (AA 1))) BJ)
    (An (AG BY (AD (mUn Bh (mOp AW (AA 2) (AG A4 (AD (AA 3) AK)))) AK))))
def B7  : Sl->M (Fl × Sl):=
    (An (mOp AW (mOp AW (FM (AA 0) Dg (Dy (AA 1))) (AG A4 (AD (AA 2) AK))) (FM (AA 0) (Dy (mOp AW (AA 1) (mC (.int 1)))) Dg)))
def Co  : Sl->M (Fl × Sl):=
    (AU (sIf (AN (mOp KN (AA 1) (AG EH (AD (AA 0) AK)))) (An (mOp Ab (AA 0) (AA 1))) BJ)
    (An (mC (.int 0))))
def DJ  : Sl->M (Fl × Sl):=
    (AU (Ah (AG Ft AK) (AO 2))
    (AU (Ah (mOp Ae (AA 0) (mC (.int 2))) (AO 3))
    (AU (IK A0 (Fv (AN (mOp A9 (mOp Ak (AA 0) (mC (.int 2))) (mC (.int 0)))) (Fv (AN (mOp NQ (AA 3) (mC (.int 0)))) (AN (mOp KN (AG EH (AD (AA 2) AK)) (AA 1))))) (AU (Bw (BG C9 (AA 2) (AD (mOp Ak (AA 3) (mOp F5 (mC (.int 10)) (mC (.int 9)))) AK)))
    (Ah (mOp Ae (AA 3) (mOp F5 (mC (.int 10)) (mC (.int 9)))) (AO 3))))
    (AU (Ah (mOp Ak (mOp FE (mOp AW (mOp Ae (AA 0) (mC (.int 2))) (mC (.int 7919))) (mC (.int 48271))) (mC (.int 2147483647))) (AO 3))
    (AU (EB (DW (AD (AA 1) AK)) (AO 4) (AU (Ah (mOp Ak (mOp FE (AA 3) (mOp AW (mOp AW (mOp Ae (AA 3) (mC (.int 1009))) (mC (.int 69621))) (AA 4))) (mC (.int 2147483647))) (AO 3))
    (AU (Bw (BG C9 (AA 2) (AD (mOp Ak (mOp FE (AA 3) (mOp AW (mOp Ae (AA 3) (mC (.int 127))) (mC (.int 40009)))) (mC (.int 2147483629))) AK)))
    (Ah (mOp AW (AA 3) (mC (.int 1))) (AO 3)))))
    (An (FM (AA 2) Dg (Dy (AA 1)))))))))
def DL  : Sl->M (Fl × Sl):=
    (AU (Ah (mOp AW (mC (.int 2)) (mOp Ak (mOp Ae (AA 0) (mC (.int 4))) (mC (.int 9)))) (AO 2))
    (AU (Ah (mOp Ab (AG BN (AD (AG BN (AD (mC (.str "w")) (AD (mC (.str "r")) (AD (mC (.str "s")) (AD (mC (.str "t")) AK))))) (AD (AG BN (AD (mC (.str "writer")) (AD (mC (.str "a")) (AD (mC (.str "ab")) (AD (mC (.str "b")) AK))))) (AD (AG BN (AD (mC (.str "z")) (AD (mC (.str "zz")) (AD (mC (.str "zzzzzzzz")) (AD (mC (.str "begin")) AK))))) AK)))) (mOp Ak (mOp Ae (AA 0) (mC (.int 36))) (mC (.int 3)))) (AO 3))
    (AU (Ah (mOp AW (mC (.int 1)) (mOp Ak (mOp Ae (AA 0) (mC (.int 108))) (mC (.int 3)))) (AO 4))
    (AU (Ah (Bn 1 [] (Di (FM (AA 3) Dg (Dy (mOp AW (mC (.int 1)) (AA 4))))) (AO 0) DV (AG A4 (AD (AA 0) (AD (mC (.int 0)) (AD (AG A4 AK) AK)))) BN) (AO 5))
    (An (AG A4 (AD (AA 1) (AD (AA 2) (AD (mOp Ak (mOp Ae (AA 0) (mC (.int 324))) (AA 2)) (AD (AG A4 AK) (AD (AG BY (AD (AA 5) AK)) AK)))))))))))
end K13
namespace K13
open PySem L2 Mi
noncomputable def Dm:List D->M D:=A3 .drop 2 2 (Co)
noncomputable def ES:List D->M D:=A3 .drop 6 2 (DL)
noncomputable def DO:List D->M D:=A3 .drop 5 2 (DJ)
noncomputable def CQ:List D->M D:=A3 .drop 2 1 (Bu)
noncomputable def Cr:List D->M D:=fun _=>BE
noncomputable def C5:List D->M D:=fun _=>BE
noncomputable def C6:List D->M D:=A3 .drop 4 4 (Dx)
noncomputable def BM:List D->M D:=A3 .drop 4 3 (Bk Cr C5 C6)
noncomputable def CS:List D->M D:=fun _=>BE
noncomputable def BF:List D->M D:=A3 .drop 2 2 (BU CS C5)
noncomputable def BO:List D->M D:=A3 .drop 3 3 (B7)
noncomputable def BT:List D->M D:=A3 .drop 4 3 (Bt Cr C5 C6 BO)
noncomputable def BP:List D->M D:=A3 .drop 5 4 (B8 CS C5 BO)
end K13
namespace L2
open PySem PySem.Spec PyProof.Rows
section
variable {X:Cx} {scope:Scope} {tgs:List Str} {ix:List Nat}
def G6 (P:Program) (w:World) (A:Around):Option Expr->Env->(Bool->Shared->Prop)->(Value->Shared->Prop)->Shared->Prop
  | none,_,Q,_,s=>Q true s
  | some c,env,Q,E,s=>wpAny (model P w) A (isTrue c env (eval c env)) Q E s
theorem K6 {P:Program} {w:World} {A:Around} {env:Env} {Q Q':Bool->Shared->Prop} {E:Value->Shared->Prop} {s:Shared}:∀ {co:Option Expr},G6 P w A co env Q (fun _ _=>False) s->(∀ b s,Q b s->Q' b s)->G6 P w A co env Q' E s
  | none,h,k=>k _ _ h
  | some _,h,k=>EV h k
def Oi (P:Program) (w:World) (A:Around) (tg elt:Expr) (co:Option Expr) (it acc:Value) (env:Env) (R:Result->Shared->Prop) (G:Shared->Prop) (r:Option Value) (s1:Shared):Prop:=match r with
  | none=>R (.ok .next) s1
  | some v=>wpAny (model P w) A (letOwnedTupleGo tg it v) (fun _ s0=>wpAny (model P w) A (assign tg env v) (fun _ s2=>
      G6 P w A co env (fun ok s3=>if ok=true then wpAny (model P w) A (eval elt env) (fun x s4=>wpAny (model P w) A (call (.builtin "list.append") [acc,x]) (fun _ s5=>G s5) (notedBy (model P w) A env fun e s'=>R (.error e) s') s4) (notedBy (model P w) A env fun e s'=>R (.error e) s') s3 else G s3)
        (notedBy (model P w) A env fun e s'=>R (.error e) s') s2) (notedBy (model P w) A env fun e s'=>R (.error e) s') s0) (notedBy (model P w) A env fun e s'=>R (.error e) s') s1
theorem L1 {P:Program} {w:World} {A:Around} {tg elt iter:Expr} {pos:Pos} {it acc:Value} {env:Env} {R:Result->Shared->Prop} {s:Shared} (I:Nat->Shared->Prop):∀ (co:Option Expr),
    (∀ n s,I n s->wpAny (model P w) A (pyNext it) (Oi P w A tg elt co it acc env R fun s5=>∃ m,m < n /\ I m s5) (notedBy (model P w) A env fun e s'=>R (.error e) s') s)->∀ n,I n s->
    codeAny (model P w) A (.compLoop (.ListComp elt [⟨tg,iter,co.toList,0⟩] scope pos) 0 it acc env) R s
  | none,turn,n,h=>PySem.W.kcp_loop I (fun n s hI=>wpAny_mono (turn n s hI) (fun r s1 q=>match r,q with
      | none,q=>q
      | some v,q=>wpAny_mono q (fun _ _ q=>wpAny_mono q (fun _ _ q=>by
          have q':=q
          dsimp only [G6] at q'
          rw [if_pos rfl] at q'
          exact q') fun _ _ x=>x) fun _ _ x=>x) fun _ _ x=>x) n h
  | some c,turn,n,h=>PySem.W.kct_loop I (fun n s hI=>wpAny_mono (turn n s hI) (fun r s1 q=>match r,q with
      | none,q=>q
      | some v,q=>q) fun _ _ x=>x) n h
def My (X:Cx) (co:Option Expr) (tc:TT):Prop:=
  ∀ (pins:List (Addr × Obj)) (s:Shared) (σ:St) (H:Hp) (Q:Bool->Hp->Prop),Inv X pins σ H s->tc σ H Q->G6 X.prog X.w X.A co X.env (TP X pins σ Q) X.xe s
theorem Hb {n:Nat}:∀ {is:List Nat},(∀ i ∈ is,i < n)->∀ vs σ H (Q:St->Hp->Prop),Mi.Cq is vs σ H Q->Mi.Cq is vs σ H fun σ2 H2=>Q σ2 H2 /\ σ2.length=σ.length /\ σ2.drop n=σ.drop n
  | [],_,vs,σ,H,Q,h=>⟨h.1,h.2,rfl,rfl⟩
  | i :: is,hi,vs,σ,H,Q,h=>by
    obtain ⟨v,vr,rfl,h⟩:=h
    refine ⟨v,vr,rfl,?_⟩
    have z:=Hb (is:=is) (fun j hj=>hi j (List.mem_cons_of_mem _ hj)) vr _ H Q h
    have e1:(σ.set i (some v)).length=σ.length:=by simp
    have e2:(σ.set i (some v)).drop n=σ.drop n:=by rw [List.drop_set_of_lt (hi i (by simp))]
    rw [e1,e2] at z
    exact z
theorem MN {n k:Nat} {is:List Nat} {K:PySem.W.Frag} (h:∀ i ∈ is,i < n):GK n (Po K k (Mi.Cq is)):=fun x σ H Q q=>by
  obtain ⟨a,xs,e,h1,h2,h3⟩:=q
  exact ⟨a,xs,e,h1,h2,Hb h _ _ _ _ h3⟩
theorem Hl {elt tg iter:Expr} {co:Option Expr} {pos:Pos} {g:TG} {tc:TT} {te:TE} {pins:List (Addr × Obj)} {σ:St} {H2:Hp} {s2:Shared} {it:Addr} {fp:List Addr} {tn:Nat->Heap->Prop} {J:It} {Q:VK}
    (S:BScope X scope tgs ix) (hc:X.calm=true) (hg:∀ fp C s H,PG (cxB X scope tgs fp C s H) tg g) (hgk:GK tgs.length g) (hi:∀ fp C s H,My (cxB X scope tgs fp C s H) co tc) (he:∀ fp C s H,PE (cxB X scope tgs fp C s H) elt te)
    (I2:Inv X pins σ H2 s2) (T:IA X.prog X.w X.K tg J fp it tn) (t0:tn 0 s2.heap) (hf:∀ b ∈ fp,DB X pins H2 b)
    (W:Nat->Nat->List V->Hp->Prop) (w0:∃ m,W 0 m [] H2)
    (turn:∀ i m ys H,W i m ys H->(J.stop i H /\ ys.length <= sizeLine /\ ∀ p,H p=none->Q (.ref p) (upd H p (.lst ys))) ∨
      (J.go i H /\ ys.length < sizeLine /\ ∃ N:List V->Hp->Prop,(∀ ys' H',N ys' H'->∃ m',m' < m /\ W (i + 1) m' ys' H') /\ ∀ x H',J.yld i H x H'->g x (BZ tgs ix σ) H' fun σ2 H2=>tc σ2 H2 fun b H3=>
        if b=true then te σ2 H3 fun v H4=>N (ys ++ [v]) H4 else N ys H3))
    {RR:Value->Addr->Result->Shared->Prop}
    (fin:∀ (D C:Addr) (s':Shared) (H':Hp) (m:Str->Option Value),Inv X pins σ H' s'->Q (.ref D) H'->s'.heap.Ns C m->DB X pins H' C->RR (.ref D) C (.ok .next) s') :
    wpAny (model X.prog X.w) X.A (newList []) (fun acc s₃=>wpAny (model X.prog X.w) X.A (newFunctionEnv scope X.env.globals (CU X.env scope.names []) [] X.env.qual none .none (some X.env)) (fun cenv s₄=>
      codeAny (model X.prog X.w) X.A (.compStart (.ListComp elt [⟨tg,iter,co.toList,0⟩] scope pos) 0 (.ref it) acc { cenv with scope:=relabel scope X.env }) (RR acc cenv.locals) s₄) X.xe s₃) X.xe s2:=by
  refine wpAny_newObj_type (wpAny_newFunctionEnv S.nocell (by intro y hy; simp at hy) (fun h₁ hns₁ hsb₁=>?_) S.kind)
  dsimp only at hns₁ hsb₁ ⊢
  generalize hH2:s2.heap.push { cls:=.type "list",dict:=none,data:=.seq ([]:List Value).toArray }=G2 at hns₁ hsb₁ ⊢
  have hC:G2.objs.size=s2.heap.objs.size + 1:=by rw [← hH2,Heap.size_push]
  have hCle:s2.heap.objs.size <= G2.objs.size:=by rw [hC]; exact Nat.le_succ _
  have hDC:s2.heap.objs.size ≠ G2.objs.size:=by rw [hC]; exact Nat.ne_of_lt (Nat.lt_succ_self _)
  have below:∀ b,b < s2.heap.objs.size->b ≠ G2.objs.size /\ b ≠ s2.heap.objs.size:=fun b hb=>⟨by rw [hC]; exact Nat.ne_of_lt (Nat.lt_succ_of_lt hb),Nat.ne_of_lt hb⟩
  have old:∀ b o,s2.heap.get? b=some o->h₁.get? b=some o:=fun b o e=>hsb₁.extBut b o (below b (Heap.lt_size e)).1 (Heap.get?_push_of_some _ (hH2 ▸ Heap.get?_push_of_some _ e))
  have hacc:h₁.get? s2.heap.objs.size=some (Cv [] 0):=hsb₁.extBut _ _ hDC (Heap.get?_push_of_some _ (hH2 ▸ Heap.get?_push_size _ rfl))
  have hfo:∀ b ∈ fp,b < s2.heap.objs.size:=fun b hb=>let ⟨o,e,_⟩:=T.obj 0 _ t0 b hb; Heap.lt_size e
  have ok:=Ik (tgs:=tgs) (ix:=ix) (C:=G2.objs.size) S I2 hf hfo hCle
  have sub:∀ x c,(CU X.env scope.names []).lookup x=some c->X.env.cells.lookup x=some c:=Cf scope.names [] (fun _ _ z=>by simp at z)
  have nDfs:s2.heap.objs.size ∉ frs X.stack:=fun hz=>by
    rcases List.mem_cons.mp (I2.stkSub _ hz) with z | z
    . exact absurd I2.lt (by rw [← z]; exact Nat.lt_irrefl _)
    . exact I2.nofs (Nat.le_refl _) z
  have nDcell:∀ x c,(CU X.env scope.names []).lookup x=some c->c ≠ s2.heap.objs.size:=fun x c e=>Nat.ne_of_lt (I2.cellLt (sub x c e))
  have ncell:∀ (its:List Value) (k:Nat) (v:Option Value),(Cv its k).data ≠ .cell v:=fun its k v z=>by cases z
  have stat:∀ {Hx:Hp} {o:Obj},(∀ b ∈ fp,Hx b=none)->∀ b ∈ fp,DB (cxB X scope tgs fp G2.objs.size s2 H2) [(s2.heap.objs.size,o)] Hx b:=fun {Hx o} hn b hb=>
    ⟨hn b hb,(ok.exf b hb).1,ok.exfs b hb,.inl hb,(ok.exf b hb).2,fun p hp z=>by
      have e:p=(s2.heap.objs.size,o):=by simpa [cxB] using hp
      subst e
      exact absurd (hfo b hb) (by rw [← z]; exact Nat.lt_irrefl _)⟩
  have loop:∀ s₃:Shared,s₃={ s2 with heap:=h₁,toks:=s2.toks + ([]:List (Str × Value)).length }->
      codeAny (model X.prog X.w) X.A (.compLoop (.ListComp elt [⟨tg,iter,co.toList,0⟩] scope pos) 0 (.ref it) (.ref s2.heap.objs.size) (compEnvC scope (CU X.env scope.names []) G2.objs.size X.env)) (RR (.ref s2.heap.objs.size) G2.objs.size) s₃:=by
    rintro s₃ rfl
    obtain ⟨m0,w0⟩:=w0
    refine L1 (fun n s=>∃ i ys its k H,Inv (cxB X scope tgs fp G2.objs.size s2 H2) [(s2.heap.objs.size,Cv its k)] (BZ tgs ix σ) H s /\ tn i s.heap /\ (∀ b ∈ fp,H b=none) /\ Vals ys its /\ W i n ys H) co ?_ m0
      ⟨0,[],[],0,H2,FQ S I2 hf hfo hCle (Nat.le_refl _) hDC hns₁ old rfl rfl hacc (ncell _ _),T.keep 0 _ _ t0 fun b _ o e=>old b o e,fun b hb=>(hf b hb).1,.nil,w0⟩
    rintro n s ⟨i,ys,its,k,H,I,st,fr,rv,w⟩
    rcases turn i n ys H w with ⟨stop,hz,q⟩ | ⟨go,hz8,N,hN,step⟩
    . refine thn (T.done (cxB X scope tgs fp G2.objs.size s2 H2) rfl rfl rfl hc i _ s _ H _ I (stat fr) st stop) fun r s1 ⟨hr,I1⟩=>?_
      subst hr
      obtain ⟨pe,pn,_⟩:=I1.pin (s2.heap.objs.size,Cv its k) (List.mem_append_right _ (by simp))
      have J0:Inv X pins σ H s1:=I2.call' I1.os I1.base I1.hok I1.bare fun b hb=>⟨(hf b hb).2.2.2.1,(hf b hb).2.1,(hf b hb).2.2.2.2.1,(hf b hb).2.2.2.2.2⟩
      have J1:Inv X pins σ (upd H s2.heap.objs.size (.lst ys)) s1:=J0.track (I2.fpOk (Nat.le_refl _) pn) ⟨hz,its,k,rv,pe⟩
      obtain ⟨m,hn,_⟩:=I1.loc
      exact fin _ _ s1 _ m J1 (q _ pn) hn (I2.fpOk hCle (by rw [Ag (Ne.symm hDC)]; exact I1.free))
    . refine thn (T.item (cxB X scope tgs fp G2.objs.size s2 H2) rfl rfl rfl hc i _ s _ H _ I (stat fr) st go) fun r s1 ⟨u,hr,h1⟩=>?_
      subst hr
      refine thn h1 fun _ s5 ⟨x,H5,I5,r5,y5,st5,fr5⟩=>?_
      have I5':=I5.pinned (stat fr5) (T.obj _ _ st5)
      refine EV (hg fp G2.objs.size s2 H2 _ s5 _ H5 x u _ I5' r5 (hgk _ _ _ _ (step x H5 y5))) fun _ s6 ⟨σ6,H6,I6,q6,l6,d6⟩=>?_
      refine K6 (hi fp G2.objs.size s2 H2 _ s6 σ6 H6 _ I6 q6) fun okb s7 ⟨H7,I7,q7⟩=>?_
      cases okb with
      | false=>
        rw [if_neg Bool.false_ne_true] at q7 ⊢
        obtain ⟨m',hm,w7⟩:=hN _ _ q7
        refine ⟨m',hm,i + 1,ys,its,k,H7,Iy I7.unpinned l6 d6,T.keep _ _ _ st5 fun b hb o e=>(I7.pin (b,o) (List.mem_append_right _ (List.mem_append_right _ (A1 hb e)))).1,fun b hb=>?_,rv,w7⟩
        obtain ⟨o,e,_⟩:=T.obj _ _ st5 b hb
        exact (I7.pin (b,o) (List.mem_append_right _ (List.mem_append_right _ (A1 hb e)))).2.1
      | true=>
        rw [if_pos rfl] at q7 ⊢
        refine EV (he fp G2.objs.size s2 H2 _ s7 σ6 H7 _ I7 q7) fun xv s8 ⟨v,H8,I8,rv8,q8⟩=>?_
        obtain ⟨m',hm,w8⟩:=hN _ _ q8
        obtain ⟨pe,pn,_⟩:=I8.pin (s2.heap.objs.size,Cv its k) (List.mem_append_right _ (List.mem_append_left _ (by simp)))
        have hlen:=rv.length
        refine call_meets PySem.F.slot_list_append ⟨_,pe,rfl⟩ PySem.F.entry_list_append (PySem.F.args_list_append_2 _ _) (PySem.list_append s2.heap.objs.size its.toArray k xv (by rw [List.size_toArray]; omega)) ⟨pe,?_⟩
        have hp:its.toArray.push xv=(its ++ [xv]).toArray:=by simp
        have q':∃ k',(s8.heap.update s2.heap.objs.size (Obj.mapSeq (fun a=>a.push xv))).get? s2.heap.objs.size=some (Cv (its ++ [xv]) k'):=⟨_,by
          unfold Cv
          rw [← hp]
          exact PySem.IsL.update pe (fun a=>a.push xv)⟩
        obtain ⟨k',q'⟩:=q'
        have I9:Inv (cxB X scope tgs fp G2.objs.size s2 H2) [] σ6 H8 { s8 with heap:=s8.heap.update s2.heap.objs.size (Obj.mapSeq (fun a=>a.push xv)) }:=
          (I8.pins_of (pins':=[]) (fun p hp=>absurd hp (by simp))).turned (t':=s8.toks) (fun b o hb e=>(Heap.get?_update_other s8.heap (Obj.mapSeq (fun a=>a.push xv)) (Ne.symm hb)).trans e) pn hDC (.inr (Nat.le_refl _)) nDcell (fun p hp=>absurd hp (by simp [cxB]))
        have I10:Inv (cxB X scope tgs fp G2.objs.size s2 H2) [(s2.heap.objs.size,Cv (its ++ [xv]) k')] σ6 H8 { s8 with heap:=s8.heap.update s2.heap.objs.size (Obj.mapSeq (fun a=>a.push xv)) }:=
          I9.pins_of fun p hp=>by
            have e:p=(s2.heap.objs.size,Cv (its ++ [xv]) k'):=by simpa using hp
            subst e
            exact ⟨q',pn,hDC,nDfs,ncell _ _⟩
        refine ⟨m',hm,i + 1,ys ++ [v],its ++ [xv],k',H8,Iy I10 l6 d6,T.keep _ _ _ st5 fun b hb o e=>?_,fun b hb=>?_,rv.append (.cons rv8 .nil),w8⟩
        . exact (Heap.get?_update_other s8.heap (Obj.mapSeq (fun a=>a.push xv)) (Ne.symm (below b (hfo b hb)).2)).trans (I8.pin (b,o) (List.mem_append_right _ (List.mem_append_right _ (A1 hb e)))).1
        . obtain ⟨o,e,_⟩:=T.obj _ _ st5 b hb
          exact (I8.pin (b,o) (List.mem_append_right _ (List.mem_append_right _ (A1 hb e)))).2.1
  exact codeAny_compStart_list (loop _ rfl) (T.self _ 0 _ _ _ (T.keep 0 _ _ t0 fun b _ o e=>old b o e) (loop _ rfl))
theorem HM {elt tg iter:Expr} (co:Option Expr) {pos:Pos} {wi:TI} {g:TG} {tc:TT} {te:TE} (S:BScope X scope tgs ix) (hc:X.calm=true) (hi:PI X tg iter wi) (hg:∀ fp C s H,PG (cxB X scope tgs fp C s H) tg g) (hgk:GK tgs.length g)
    (hif:∀ fp C s H,My (cxB X scope tgs fp C s H) co tc) (he:∀ fp C s H,PE (cxB X scope tgs fp C s H) elt te) (hs:∀ x,foldedSetIterable iter X.env x=pure x:=by intro _; rfl) :
    PE X (.ListComp elt [⟨tg,iter,co.toList,0⟩] scope pos) (F0 tgs ix wi g tc te):=by
  intro pins s σ H Q I h
  rw [eval_ListComp]
  refine wpAny_comprehension_free (use:=none) rfl hs (Bs (S.cells I.ok)) S.kind S.loc ?_
  show wpAny _ _ (eval iter X.env) _ _ s
  refine thn (hi pins s σ H _ I h) fun v s1 h1=>thn h1 fun itv s2 h2=>?_
  obtain ⟨it,fp,tn,J,H2,e,I2,T,t0,f2,W,w0,turn⟩:=h2
  subst e
  refine Hl (RR:=fun acc C=>compPost (model X.prog X.w) X.A X.xe none (EP X pins σ Q) acc C) S hc hg hgk hif he I2 T t0 f2 W w0 turn ?_
  intro D C s' H' m J1 q hn fC
  obtain ⟨f0,f1,f2,f3,f4,f5⟩:=fC
  exact ⟨m,hn,fun h' sb=>⟨.ref D,H',J1.turned (t':=s'.toks) (fun b o hb e=>(sb.2 b hb).trans e) f0 f1 f3 f4 f5,rfl,q⟩⟩
end
end L2
namespace Mi
open PySem L2
section
variable {X:Cx} {scope:Scope} {tgs:List Str} {ix:List Nat} {elt tg iter:Expr} {pos:Pos}
theorem HK {c:Expr} {mc:Sl->M Bool} (h:RT X c mc):My X (some c) (tT X.K mc):=fun pins s σ H Q I hq=>h.pe pins s σ H Q I hq
theorem LB {K:PySem.W.Frag} {n:Nat} {src:Sl->M (List D)} {bf:D->Sl->M Sl} {g:TG} {mc:Sl->M Bool} {me:Sl->M D} {fin:List D->M D} {σ:St} {H:Hp} {Q:VK} (hn:tgs.length=n) (hg:∀ v σ H Q,tG K bf v σ H Q->g v σ H Q) (hf:∀ ι μ μ' H ds vs d (Q:VK),RelH K ι μ H->IsL K ι μ.length H ds vs->fin ds μ=some (d,μ')->(Aft K ι μ H μ' fun ι' H'=>∀ v,Is K ι' μ'.length H' d v->Q v H')->
      vs.length <= sizeLine /\ ∀ p,H p=none->Q (.ref p) (upd H p (.lst vs)))
    (h:tE K (Bn n ix src bf mc me fin) σ H Q):F0 tgs ix (tI K src) g (tT K mc) (tE K me) σ H Q:=by
  subst hn
  obtain ⟨ι,μ,τ,d,μ',R,S,e,q⟩:=h
  obtain ⟨ds,μ1,e1,e5⟩:=AE e
  obtain ⟨u,μ2,e2,e6⟩:=AE e5
  obtain ⟨zs,μ3,e3,e7⟩:=AE e6
  obtain ⟨hl,e4⟩:=By e2
  clear e e5 e6
  subst e4
  refine ⟨ι,μ,τ,ds,_,R,S,e1,fun ι1 H1 E1 R1 J it=>?_⟩
  refine ⟨fun i' m ys H=>m=ds.length - i' /\ i' <= ds.length /\ ys.length <= i' /\ ∃ (ι:Nat->Addr) (μ:Mh) (as:List D),RelH K ι μ H /\ RelS K ι μ.length H τ σ /\ ItM K J ds ι μ H /\ IsL K ι μ.length H as ys /\ Br bf mc me (Bg tgs.length ix τ) (ds.drop i') as μ=some (zs,μ3) /\
    Aft K ι μ H μ' fun ι' H'=>∀ v,Is K ι' μ'.length H' d v->Q v H',⟨ds.length,by simp,Nat.zero_le _,Nat.le_refl _,ι1,_,[],R1,S.ext E1,it,.nil,e3,fun ι2 H2 E2 R2=>q ι2 H2 (E1.trans E2) R2⟩,?_⟩
  rintro i' m ys H ⟨hm,hil,hyl,ι,μ,as,R,S,it,ia,e3,q⟩
  obtain ⟨go,stop,yl⟩:=it ι μ H R.ext0 R
  by_cases hlt:i' < ds.length
  . refine .inr ⟨go i' hlt,by omega,fun ys' H'=>ys'.length <= i' + 1 /\ ∃ (ι:Nat->Addr) (μ:Mh) (as:List D),RelH K ι μ H' /\ RelS K ι μ.length H' τ σ /\ ItM K J ds ι μ H' /\ IsL K ι μ.length H' as ys' /\ Br bf mc me (Bg tgs.length ix τ) (ds.drop (i' + 1)) as μ=some (zs,μ3) /\
      Aft K ι μ H' μ' fun ι' H'=>∀ v,Is K ι' μ'.length H' d v->Q v H',fun ys' H' z=>⟨_,(by omega:ds.length - (i' + 1) < m),rfl,hlt,z⟩,fun x H2 y=>?_⟩
    have hd:ds[i']? = some ds[i']:=by simp [hlt]
    obtain ⟨E2,R2,ix2⟩:=yl i' x H2 _ hd y
    rw [List.drop_eq_getElem_cons hlt] at e3
    obtain ⟨τ1,μ1,e1,e5⟩:=AE e3
    clear e3
    obtain ⟨cc,μ2,e2,e6⟩:=AE e5
    clear e5
    have S2:=(S.ext E2).block (tgs:=tgs) (ix:=ix)
    refine hg _ _ _ _ ⟨ι,_,_,_,τ1,μ1,R2,S2,ix2,e1,fun ι0 H0 E0 R0 σ0 S0=>?_⟩
    have E20:=E2.trans E0
    refine ⟨ι0,_,_,cc,μ2,R0,S0,e2,fun ι3 H3 E3 R3=>?_⟩
    have E13:=E20.trans E3
    cases cc with
    | false=>
      exact ⟨by omega,ι3,μ2,as,R3,S.ext E13,it.ext E13,ia.ext E13,e6,fun ι5 H5 E5 R5=>q ι5 H5 (E13.trans E5) R5⟩
    | true=>
      obtain ⟨y',μ4,e4,e8⟩:=AE e6
      refine ⟨ι3,μ2,_,y',μ4,R3,S0.ext E3,e4,fun ι4 H4 E4 R4 v iv=>?_⟩
      have E14:=E13.trans E4
      exact ⟨by simp; omega,ι4,μ4,as ++ [y'],R4,S.ext E14,it.ext E14,(ia.ext E14).append (.one iv),e8,fun ι5 H5 E5 R5=>q ι5 H5 (E14.trans E5) R5⟩
  . have hi':i'=ds.length:=by omega
    subst hi'
    rw [List.drop_length] at e3
    cases e3
    obtain ⟨z1,z2⟩:=hf ι _ μ' H _ ys d Q R ia e7 q
    exact .inl ⟨stop,z1,z2⟩
theorem J7 {K:PySem.W.Frag} {n:Nat} {src:Sl->M (List D)} {bf:D->Sl->M Sl} {g:TG} {mc:Sl->M Bool} {me:Sl->M D} {fin:List D->M D} {σ:St} {H:Hp} {Q:VK} (pb:∀ d τ τ' μ μ',bf d τ μ=some (τ',μ')->μ'=μ) (pc:Pu mc) (pm:Pu me) (hn:tgs.length=n) (hg:∀ v σ H Q,tG K bf v σ H Q->g v σ H Q) (hf:∀ ι μ μ' H ds vs d (Q:VK),RelH K ι μ H->IsL K ι μ.length H ds vs->fin ds μ=some (d,μ')->(Aft K ι μ H μ' fun ι' H'=>∀ v,Is K ι' μ'.length H' d v->Q v H')->
      vs.length <= sizeLine /\ ∀ p,H p=none->Q (.ref p) (upd H p (.lst vs)))
    (h:tE K (Bn n ix src bf mc me fin) σ H Q):F0 tgs ix (tIP K src) g (tT K mc) (tE K me) σ H Q:=by
  subst hn
  obtain ⟨ι,μ,τ,d,μ',R,S,e,q⟩:=h
  obtain ⟨ds,ν,e1,e5⟩:=AE e
  obtain ⟨u,μ2,e2,e6⟩:=AE e5
  obtain ⟨zs,μ3,e3,e7⟩:=AE e6
  obtain ⟨hl,e4⟩:=By e2
  clear e e5 e6
  subst e4
  refine ⟨ι,μ,τ,ds,_,R,S,e1,fun ι1 H1 E1 R1 J it=>?_⟩
  refine ⟨fun i' m ys H=>m=ds.length - i' /\ i' <= ds.length /\ ys.length <= i' /\ ∃ (ι:Nat->Addr) (as:List D),RelH K ι μ2 H /\ RelS K ι μ2.length H τ σ /\ ItP K J ds ι μ2 H /\ IsL K ι μ2.length H as ys /\ Br bf mc me (Bg tgs.length ix τ) (ds.drop i') as μ2=some (zs,μ3) /\
    Aft K ι μ2 H μ' fun ι' H'=>∀ v,Is K ι' μ'.length H' d v->Q v H',⟨ds.length,by simp,Nat.zero_le _,Nat.le_refl _,ι1,[],R1,S.ext E1,it,.nil,e3,fun ι2 H2 E2 R2=>q ι2 H2 (E1.trans E2) R2⟩,?_⟩
  rintro i' m ys H ⟨hm,hil,hyl,ι,as,R,S,it,ia,e3,q⟩
  obtain ⟨go,stop,yl⟩:=it ι H R.ext0 R
  by_cases hlt:i' < ds.length
  . refine .inr ⟨go i' hlt,by omega,fun ys' H'=>ys'.length <= i' + 1 /\ ∃ (ι:Nat->Addr) (as:List D),RelH K ι μ2 H' /\ RelS K ι μ2.length H' τ σ /\ ItP K J ds ι μ2 H' /\ IsL K ι μ2.length H' as ys' /\ Br bf mc me (Bg tgs.length ix τ) (ds.drop (i' + 1)) as μ2=some (zs,μ3) /\
      Aft K ι μ2 H' μ' fun ι' H'=>∀ v,Is K ι' μ'.length H' d v->Q v H',fun ys' H' z=>⟨_,(by omega:ds.length - (i' + 1) < m),rfl,hlt,z⟩,fun x H2 y=>?_⟩
    have hd:ds[i']? = some ds[i']:=by simp [hlt]
    obtain ⟨E2,R2,ix2⟩:=yl i' x H2 _ hd y
    rw [List.drop_eq_getElem_cons hlt] at e3
    obtain ⟨τ1,μ1,e1,e5⟩:=AE e3
    clear e3
    obtain ⟨cc,μ5,ec,e6⟩:=AE e5
    clear e5
    have z1:=pb _ _ _ _ _ e1
    subst z1
    have z5:=pc _ _ _ _ ec
    subst z5
    have S2:=(S.ext E2).block (tgs:=tgs) (ix:=ix)
    refine hg _ _ _ _ ⟨ι,_,_,_,τ1,_,R2,S2,ix2,e1,fun ι0 H0 E0 R0 σ0 S0=>?_⟩
    have E20:=E2.trans E0
    refine ⟨ι0,_,_,cc,_,R0,S0,ec,fun ι3 H3 E3 R3=>?_⟩
    have E13:=E20.trans E3
    cases cc with
    | false=>
      exact ⟨by omega,ι3,as,R3,S.ext E13,it.ext E13,ia.ext E13,e6,fun ι5 H5 E5 R5=>q ι5 H5 (E13.trans E5) R5⟩
    | true=>
      obtain ⟨y',μ4,e4,e8⟩:=AE e6
      have z4:=pm _ _ _ _ e4
      subst z4
      refine ⟨ι3,_,_,y',_,R3,S0.ext E3,e4,fun ι4 H4 E4 R4 v iv=>?_⟩
      have E14:=E13.trans E4
      exact ⟨by simp; omega,ι4,as ++ [y'],R4,S.ext E14,it.ext E14,(ia.ext E14).append (.one iv),e8,fun ι5 H5 E5 R5=>q ι5 H5 (E14.trans E5) R5⟩
  . have hi':i'=ds.length:=by omega
    subst hi'
    rw [List.drop_length] at e3
    cases e3
    obtain ⟨z1,z2⟩:=hf ι _ μ' H _ ys d Q R ia e7 q
    exact .inl ⟨stop,z1,z2⟩
theorem K9 {K:PySem.W.Frag} {is:List Nat} {v:V} {σ:St} {H:Hp} {Q:St->Hp->Prop} (h:tG K (Ch is) v σ H Q):Po K is.length (Cq is) v σ H Q:=by
  obtain ⟨ι,μ,τ,d,τ',μ',R,S,i1,e,q⟩:=h
  cases d with
  | tup ds=>
    unfold Is at i1
    obtain ⟨p,vs,rfl,h1,h2⟩:=i1
    have e':(if ds.length=is.length then Dp is ds τ else BE) μ=some (τ',μ'):=e
    by_cases hl:ds.length=is.length
    . rw [if_pos hl] at e'
      refine ⟨p,vs,rfl,h1,by rw [h2.length,hl],EO R S h2 e' fun z σ' S'=>?_⟩
      subst z
      exact q ι H R.ext0 R σ' S'
    . rw [if_neg hl] at e'; cases e'
  | _=>cases e
theorem OH {is:List Nat} (d:D) (τ τ':Sl) (μ μ':Mh) (e:Ch is d τ μ=some (τ',μ')):μ'=μ:=by
  cases d with
  | tup ds=>
    have e':(if ds.length=is.length then Dp is ds τ else BE) μ=some (τ',μ'):=e
    by_cases hl:ds.length=is.length
    . rw [if_pos hl] at e'; exact GT e'
    . rw [if_neg hl] at e'; cases e'
  | _=>cases e
theorem LW (co:Option Expr) {n:Nat} {es:List Expr} {kk:Nat} {tp:Pos} {is:List Nat} {src:Sl->M (List D)} {mc:Sl->M Bool} {me:Sl->M D} (S:BScope X scope tgs ix) (hc:X.calm=true) (hi:RI X (.Tuple es kk tp) iter src) (hg:∀ fp C s H,PGs (cxB X scope tgs fp C s H) es (Cq is)) (hif:∀ fp C s H,My (cxB X scope tgs fp C s H) co (tT X.K mc)) (he:∀ fp C s H,RE (cxB X scope tgs fp C s H) elt me)
    (hlen:∀ fp C s H,(assignEach es (cxB X scope tgs fp C s H).env).length=is.length:=by intro _ _ _ _; rfl) (hst:∀ fp C s H,(assignEach es (cxB X scope tgs fp C s H).env).findIdx? (·.1)=none:=by intro _ _ _ _; rfl)
    (hin:∀ i ∈ is,i < tgs.length:=by decide) (hn:tgs.length=n:=by rfl) (hs:∀ x,foldedSetIterable iter X.env x=pure x:=by intro _; rfl):RE X (.ListComp elt [⟨.Tuple es kk tp,iter,co.toList,0⟩] scope pos) (Bn n ix src (Ch is) mc me BN):=
  RE.wk (HM co (te:=tE X.K me) S hc hi.pe (fun fp C s H=>IV (X:=cxB X scope tgs fp C s H) hc (hg fp C s H) (hlen fp C s H) (hst fp C s H)) (MN hin) hif (fun fp C s H=>(he fp C s H).pe) hs) fun _ _ _ h=>LB hn (fun _ _ _ _ h=>K9 h) (fun _ _ _ _ _ _ _ _ R i e q=>B6 R i e q) h
theorem KF (co:Option Expr) {n:Nat} {es:List Expr} {kk:Nat} {tp:Pos} {is:List Nat} {src:Sl->M (List D)} {mc:Sl->M Bool} {me:Sl->M D} (pc:Pu mc) (pm:Pu me) (S:BScope X scope tgs ix) (hc:X.calm=true) (hi:RIP X (.Tuple es kk tp) iter src) (hg:∀ fp C s H,PGs (cxB X scope tgs fp C s H) es (Cq is)) (hif:∀ fp C s H,My (cxB X scope tgs fp C s H) co (tT X.K mc)) (he:∀ fp C s H,RE (cxB X scope tgs fp C s H) elt me)
    (hlen:∀ fp C s H,(assignEach es (cxB X scope tgs fp C s H).env).length=is.length:=by intro _ _ _ _; rfl) (hst:∀ fp C s H,(assignEach es (cxB X scope tgs fp C s H).env).findIdx? (·.1)=none:=by intro _ _ _ _; rfl)
    (hin:∀ i ∈ is,i < tgs.length:=by decide) (hn:tgs.length=n:=by rfl) (hs:∀ x,foldedSetIterable iter X.env x=pure x:=by intro _; rfl):RE X (.ListComp elt [⟨.Tuple es kk tp,iter,co.toList,0⟩] scope pos) (Bn n ix src (Ch is) mc me BN):=
  RE.wk (HM co (te:=tE X.K me) S hc hi.pe (fun fp C s H=>IV (X:=cxB X scope tgs fp C s H) hc (hg fp C s H) (hlen fp C s H) (hst fp C s H)) (MN hin) hif (fun fp C s H=>(he fp C s H).pe) hs) fun _ _ _ h=>J7 OH pc pm hn (fun _ _ _ _ h=>K9 h) (fun _ _ _ _ _ _ _ _ R i e q=>B6 R i e q) h
end
end Mi
namespace L2
open PySem PySem.Spec PyProof.Rows
section
variable {X:Cx}
theorem Nn:OpR X (binaryOp .Mult) (fun x y H Q=>∃ l k xs,x=.ref l /\ y=.int k /\ H l=some (.lst xs) /\ xs ≠ [] /\ xs.length <= 1000 /\ 0 <= k /\ k <= 1000 /\ ∀ p,H p=none->Q (.ref p) (upd H p (.lst (List.replicate k.toNat xs).flatten))):=by
  intro pins s σ H x y v u Q I rx ry h
  obtain ⟨l,k,xs,rfl,rfl,ha,hx,hz,k1,k2,q⟩:=h
  cases rx
  obtain ⟨t,rfl⟩:=ry
  obtain ⟨z,its,nn,r,hl2,e2⟩:=I.lstM ha
  have hlen:=r.length
  have he:its.toArray.isEmpty=false:=by
    cases its with
    | nil=>exact absurd (List.length_eq_zero_iff.mp (by simpa using hlen)) hx
    | cons a b=>rfl
  have hb:its.toArray.size * k.toNat <= 1000 * 1000:=Nat.mul_le_mul (by rw [List.size_toArray]; omega) (by omega)
  refine wpAny_binaryOp_repeat_ref (T := "list") (U := "int") (by decide) ⟨_,e2,rfl⟩ (fun s'=>typeIs_int s' k t) noFill_list_mul PySem.F.fills_int_mul PySem.F.slot_int_rmul repeat_list PySem.F.slot_int_index.lookup ?_
  refine call_meets PySem.F.slot_int_rmul (typeIs_int s k t) PySem.F.entry_int_rmul (PySem.F.args_int_rmul_2 _ _) (PySem.int___rmul___int_list k t l its.toArray nn) ⟨e2,rfl,⟨_,e2,rfl⟩,?_⟩
  refine call_meets PySem.F.slot_list_mul ⟨_,e2,rfl⟩ PySem.F.entry_list_mul (PySem.F.args_list_mul_2 _ _) (PySem.AutoListH.list___mul___list_int_3 l its.toArray nn k t (by simp [PySem.Builtin.List.listFitsIndex]; omega) (by omega) (by simp [PySem.Builtin.List.listTooLong,PySem.sizeLine] at hb ⊢; omega)) ⟨e2,?_⟩
  rw [he,if_neg Bool.false_ne_true]
  have ef:=Dl its k.toNat []
  rw [List.nil_append] at ef
  have ef':List.foldl (fun x1 x2=>x1 ++ x2) #[] (List.replicate k.toNat its.toArray)=(List.replicate k.toNat its).flatten.toArray:=ef
  rw [ef']
  refine ⟨.ref s.heap.objs.size,_,I.laid (t':=s.toks) (o:=.lst (List.replicate k.toNat xs).flatten) (fun b ob q=>Heap.get?_push_of_some _ q) (Nat.le_refl _) ⟨?_,_,_,r.reps _,Heap.get?_push_size _ rfl⟩,rfl,q _ (I.hok.fresh (Nat.le_refl _))⟩
  rw [Go,sizeLine_eq]
  have:k.toNat * xs.length <= 1000 * 1000:=Nat.mul_le_mul (by omega) hz
  omega
end
end L2
namespace Mi
open PySem L2 Ht
section
variable {X:Cx} {e tg iter:Expr} {body:List Stmt} {pos:Pos}
def FD (a b:D):M D:=match a,b with
  | .lst ds,.int k=>fun μ=>if ds ≠ [] /\ ds.length <= 1000 /\ 0 <= k /\ k <= 1000 then some (.ref μ.length,μ ++ [.lst (List.replicate k.toNat ds).flatten]) else none
  | _,_=>BE
theorem Ls:OpR X (binaryOp .Mult) (rM X.K FD):=fun pins s σ H x y v u Q I rx ry h=>by
  obtain ⟨ι,μ,a,b,d,μ',R,ia,ib,e,q⟩:=h
  unfold FD at e
  split at e
  . rename_i ds k
    split at e
    . rename_i hc
      obtain ⟨c1,c2,c3,c4⟩:=hc
      cases e
      have zb:=BL ib
      subst zb
      unfold Is at ia
      obtain ⟨p,vs,rfl,h1,_,h2⟩:=ia
      have hl:=h2.length
      refine Nn pins s σ H _ _ v u Q I rx ry ⟨p,k,vs,rfl,rfl,h1,fun z=>c1 (List.length_eq_zero_iff.mp (by rw [← hl,z]; rfl)),by omega,c3,c4,fun p2 hp=>?_⟩
      obtain ⟨ι',E1,R1,e0⟩:=R.grown (m:=.lst (List.replicate k.toNat ds).flatten) hp ⟨_,rfl,h2.rep _⟩
      exact q ι' _ E1 R1 _ (by unfold Is; exact ⟨by simp,by rw [e0]⟩)
    . cases e
  . cases e
def tPk (K:PySem.W.Frag) (ks:List Key) (m:Sl->M (List D)) (σ:St) (H:Hp) (Q:List (V × V)->Hp->Prop):Prop:=∃ ι μ τ ds μ',RelH K ι μ H /\ RelS K ι μ.length H τ σ /\ m τ μ=some (ds,μ') /\
  Aft K ι μ H μ' fun ι' H'=>∀ vs,IsL K ι' μ'.length H' ds vs->Q ((ks.map kV).zip vs) H'
structure RP (X:Cx) (pos:Pos) (keys:List (Option Expr)) (values:List Expr) (ks:List Key) (m:Sl->M (List D)):Prop where
  pe:∃ trs,PPs X pos keys values trs /\ ∀ σ H Q,tPk X.K ks m σ H Q->GV trs σ H Q
theorem LO:RP X pos [] [] [] AK:=⟨[],Na,fun σ H Q h=>by
  obtain ⟨ι,μ,τ,ds,μ',R,S,e,q⟩:=h
  cases e
  exact q ι H R.ext0 R [] .nil⟩
theorem Du {k:Str} {n:Nat} {p:Pos} {v:Expr} {keys:List (Option Expr)} {values:List Expr} {ks:List Key} {mv:Sl->M D} {m:Sl->M (List D)} (h:RE X v mv) (r:RP X pos keys values ks m):RP X pos (some (.Constant (.str k) n p) :: keys) (v :: values) (.inr k :: ks) (AD mv m):=by
  obtain ⟨trs,pp,hh⟩:=r.pe
  refine ⟨(tC (.str k),tE X.K mv) :: trs,Le Lj h.pe pp,fun σ H Q h=>?_⟩
  obtain ⟨ι,μ,τ,ds,μ',R,S,e,q⟩:=h
  obtain ⟨x,μ1,e1,e2⟩:=AE e
  obtain ⟨xs,μ2,e3,e4⟩:=AE e2
  cases e4
  refine ⟨ι,μ,τ,x,μ1,R,S,e1,fun ι1 H1 E1 R1 v1 i1=>hh _ _ _ ⟨ι1,μ1,τ,xs,_,R1,S.ext E1,e3,fun ι2 H2 E2 R2 vs i2=>?_⟩⟩
  exact q ι2 H2 (E1.trans E2) R2 (v1 :: vs) (.cons (i1.ext E2) i2)
def EG (ks:List Key) (m:Sl->M (List D)):Sl->M D:=fun τ μ=>match m τ (μ ++ [.dK []]) with
  | some (ds,μ1)=>match μ1[μ.length]? with
    | some (.dK [])=>if ds.length=ks.length then some (.ref μ.length,μ1.set μ.length (.dK (ks.zip ds))) else none
    | _=>none
  | none=>none
theorem Jh {K:PySem.W.Frag} {ι:Nat->Addr} {k:Nat} {H:Hp}:∀ {ks:List Key} {ds:List D} {vs:List V},IsL K ι k H ds vs->ds.length=ks.length->KVs K ι k H (ks.zip ds) (ks.zip vs)
  | [],[],_,i,_=>by unfold IsL at i; subst i; rfl
  | [],_ :: _,_,_,h=>by simp at h
  | _ :: _,[],_,_,h=>by simp at h
  | _ :: ks,_ :: ds,_,i,h=>by
    unfold IsL at i
    obtain ⟨v,vs',rfl,i1,i2⟩:=i
    exact ⟨v,_,rfl,i1,Jh i2 (by simpa using h)⟩
theorem NS {kvs:List (Key × V)} {k:Key} {v:V} (h:∀ p ∈ kvs,p.1 ≠ k):CP kvs k v=kvs ++ [(k,v)]:=by
  unfold CP
  rw [if_neg]
  intro z
  obtain ⟨p,hp,e⟩:=List.any_eq_true.mp z
  exact h p hp (of_decide_eq_true e)
theorem HU:∀ {more kvs:List (Key × V)},((kvs ++ more).map (·.1)).Nodup->C1 kvs more=kvs ++ more
  | [],kvs,_=>by simp [C1]
  | (k,v) :: r,kvs,h=>by
    have hp:∀ p ∈ kvs,p.1 ≠ k:=fun p hp z=>by
      rw [List.map_append,List.nodup_append] at h
      exact h.2.2 p.1 (List.mem_map.mpr ⟨p,hp,rfl⟩) k (by simp) z
    show C1 (CP kvs k v) r=_
    rw [NS hp,HU (by simpa using h)]
    simp
theorem Es:∀ {ks:List Key} {vs:List V},(ks.map kV).zip vs=(ks.zip vs).map fun kv=>(kV kv.1,kv.2)
  | [],_=>rfl
  | _ :: _,[]=>rfl
  | k :: ks,v :: vs=>by simp [Es (ks:=ks) (vs:=vs)]
theorem HJ {keys:List (Option Expr)} {values:List Expr} {ks:List Key} {m:Sl->M (List D)} (h:RP X pos keys values ks m) (nd:ks.Nodup:=by decide +kernel) (hall:keys.all (·.isSome)=true:=by rfl) (hl:keys.length=values.length:=by rfl) (h0:keys ≠ []:=by simp) (h15:keys.length <= 15:=by simp) (hks:ks.length <= 15:=by simp):RE X (.Dict keys values pos) (EG ks m):=by
  obtain ⟨trs,pp,hh⟩:=h.pe
  refine RE.wk (Nf pp hall hl h0 h15) fun σ H Q h=>?_
  obtain ⟨ι,μ,τ,d,μ',R,S,e,q⟩:=h
  intro p hp
  obtain ⟨ι0,E0,R0,e0⟩:=R.grown (m:=.dK []) (o:=.dK []) hp ⟨[],rfl,rfl⟩
  unfold EG at e
  split at e
  . rename_i ds μ1 em
    split at e
    . rename_i en
      split at e
      . rename_i hlen
        cases e
        refine hh _ _ _ ⟨ι0,μ ++ [.dK []],τ,ds,μ1,R0,S.ext E0,em,fun ι1 H1 E1 R1 vs iv=>?_⟩
        have hn:μ.length < μ1.length:=(List.getElem?_eq_some_iff.mp en).1
        obtain ⟨u,hu,r,rfl,hr⟩:=R1.obj μ.length _ en
        have hr':r=[]:=hr
        subst hr'
        have ei:ι1 μ.length=p:=by rw [E1.agree μ.length (by simp),e0]
        rw [ei] at hu
        have hvl:=iv.length
        have hnd:((ks.zip vs).map (·.1)).Nodup:=by
          rw [List.map_fst_zip (by omega)]; exact nd
        refine ⟨hu,ks.zip vs,Es,by rw [List.length_zip]; omega,?_⟩
        rw [HU (kvs:=[]) (by simpa using hnd),List.nil_append]
        obtain ⟨E2,R2⟩:=R1.changed (n:=μ.length) (o:=.dK (ks.zip vs)) (m:=.dK (ks.zip ds)) hn ⟨_,rfl,Jh iv hlen⟩
        rw [ei] at E2 R2
        have E01:Ext ι μ.length H ι1 (μ1.set μ.length (.dK (ks.zip ds))).length (upd H1 p (.dK (ks.zip vs))):=(E0.trans E1).trans E2
        refine q ι1 _ E01 R2 _ ?_
        unfold Is
        exact ⟨by simpa using hn,by rw [ei]⟩
      . cases e
    . cases e
  . cases e
def EQ (n:Nat) (bf:D->Sl->M Sl) (mb:Sl->M (Fl × Sl)):Nat->Nat->Sl->M (Fl × Sl)
  | 0,_,_=>BE
  | f + 1,i,τ=>fun μ=>match μ[n]? with
    | some (.lst ds)=>match ds[i]? with
      | some x=>(bnd (bf x τ) fun τ1=>bnd (mb τ1) fun r=>match r.1 with
        | .next=>EQ n bf mb f (i + 1) r.2
        | .cont=>EQ n bf mb f (i + 1) r.2
        | .brk=>ret (.next,r.2)
        | .rt d=>ret (.rt d,r.2)) μ
      | none=>some ((.next,τ),μ)
    | _=>none
def LK (A0:Nat) (m:Sl->M D) (bf:D->Sl->M Sl) (mb:Sl->M (Fl × Sl)):Sl->M (Fl × Sl):=fun τ=>bnd (m τ) fun x=>match x with
  | .ref n=>EQ n bf mb A0 0 τ
  | _=>BE
theorem NE (A0:Nat) {m:Sl->M D} {bf:D->Sl->M Sl} {mb:Sl->M (Fl × Sl)} (hp:PassesOwn (model X.prog X.w) X.A X.env X.xe) (hc:X.calm=true) (hi:RE X iter m) (hg:RG X tg bf) (hb:RSs X body mb)
    (hs:∀ x,foldedSetIterable iter X.env x=pure x:=by intro _; rfl):RS X (.For tg iter body [] pos) (LK A0 m bf mb):=RS.wk (Ld hp hc (Gi hi.pe) hg.pe hb.pe hs) fun Dn σ H h=>by
  obtain ⟨ι,μ,τ,f,τ',μ',R,S,e,q⟩:=h
  obtain ⟨x,μ1,e1,e2⟩:=AE e
  refine ⟨ι,μ,τ,x,μ1,R,S,e1,fun ι1 H1 E1 R1 v i1=>?_⟩
  cases x with
  | ref n=>
    unfold Is at i1
    obtain ⟨hk,rfl⟩:=i1
    have hn0:∃ ds,μ1[n]? = some (.lst ds):=by
      cases A0 with
      | zero=>cases e2
      | succ f=>
        have e3:EQ n bf mb (f + 1) 0 τ μ1=some ((_,τ'),μ'):=e2
        unfold EQ at e3
        split at e3
        . rename_i ds hd; exact ⟨ds,hd⟩
        . cases e3
    obtain ⟨ds0,hn0⟩:=hn0
    obtain ⟨u,hu,o⟩:=R1.obj n _ hn0
    obtain ⟨vs0,rfl,iv0⟩:=o
    refine ⟨_,rfl,⟨vs0,SqL.of hu⟩,?_⟩
    let W:Nat->Nat->St->Hp->Prop:=fun i m σ H=>∃ ι μ τ f τ' μ',RelH X.K ι μ H /\ RelS X.K ι μ.length H τ σ /\ n < μ.length /\ ι n=ι1 n /\ EQ n bf mb m i τ μ=some ((f,τ'),μ') /\
      Aft X.K ι μ H μ' fun ι' H'=>∀ σ',RelS X.K ι' μ'.length H' τ' σ'->FlP X.K Dn ι' μ'.length H' τ' σ' f
    refine ⟨W,⟨A0,ι1,μ1,τ,f,τ',μ',R1,S.ext E1,hk,rfl,e2,fun ι2 H2 E2 R2=>q ι2 H2 (E1.trans E2) R2⟩,?_⟩
    rintro i m σ H ⟨ι,μ,τ,f,τ',μ',R,S,hn,en,e,q⟩
    cases m with
    | zero=>cases e
    | succ m=>
      unfold EQ at e
      split at e
      . rename_i ds hd
        obtain ⟨u,hu,o⟩:=R.obj n _ hd
        obtain ⟨vs,rfl,iv⟩:=o
        rw [en] at hu
        have hl:=iv.length
        split at e
        . rename_i x hx
          obtain ⟨xv,hxv,ixv⟩:=iv.get hx
          refine .inr ⟨⟨vs,xv,SqL.of hu,hxv⟩,fun σ' H'=>W (i + 1) m σ' H',fun σ' H' z=>⟨_,Nat.lt_succ_self _,z⟩,fun y H2 yl=>?_⟩
          obtain ⟨z,yl⟩:=yl
          subst z
          have:=yl vs (SqL.of hu)
          rw [hxv] at this
          cases this
          obtain ⟨τ1,μ2,e1,ea⟩:=AE e
          obtain ⟨⟨f2,τ2⟩,μ3,e2,eb⟩:=AE ea
          refine ⟨ι,μ,τ,_,τ1,μ2,R,S,ixv,e1,fun ι3 H3 E3 R3 σ3 S3=>?_⟩
          refine ⟨ι3,μ2,τ1,f2,τ2,μ3,R3,S3,e2,fun ι4 H4 E4 R4 σ4 S4=>?_⟩
          have E14:=E3.trans E4
          have hn4:n < μ3.length:=Nat.lt_of_lt_of_le hn E14.le
          have en4:ι4 n=ι1 n:=(E14.agree n hn).trans en
          cases f2 with
          | next=>exact ⟨ι4,μ3,τ2,f,τ',μ',R4,S4,hn4,en4,eb,fun ι5 H5 E5 R5=>q ι5 H5 (E14.trans E5) R5⟩
          | cont=>exact ⟨ι4,μ3,τ2,f,τ',μ',R4,S4,hn4,en4,eb,fun ι5 H5 E5 R5=>q ι5 H5 (E14.trans E5) R5⟩
          | brk=>cases eb; exact q ι4 H4 E14 R4 σ4 S4
          | rt d=>cases eb; exact q ι4 H4 E14 R4 σ4 S4
        . rename_i hx
          cases e
          have hle:ds.length <= i:=by simpa using hx
          exact .inl ⟨⟨vs,SqL.of hu,by omega⟩,q ι H R.ext0 R σ S⟩
      . cases e
  | _=>cases e2
end
end Mi
namespace K11
open PySem L2 Mi K13
def Gm  : Sl->M (Fl × Sl):=
    (AU (Ah (mOp IS (AG BN (AD (mOp Ar (AA 1) (mC (.str "first"))) AK)) (mOp Ar (AA 1) (mC (.str "beside")))) (AO 2))
    (AU (sIf (Fv (AN (mOp A9 (mOp Ab (AA 0) (mC (.int 0))) (mC (.str "safe")))) (AN (mOp Bq (mOp Ar (AA 1) (mC (.str "beside"))) (AG BN AK)))) (An (mUn (F4 D.tup) (mOp Ab (AA 0) (mC (.int 1))))) BJ)
    (An (AG BY (AD (mUn Bh (AA 2)) AK)))))
def Gn (φ_Lmay:List D->M D):Sl->M (Fl × Sl):=
    (AU (Ah (AG Ft AK) (AO 2))
    (AU (EB (DW (AD (mOp EX (AG EH (AD (mOp Ab (AA 0) (mC (.int 4))) AK)) (mC (.int 1))) AK)) (AO 3) (AU (Ah (mOp Ab (mOp Ar (AA 1) (mC (.str "readers"))) (AA 3)) (AO 4))
    (sIf (AN (mOp (DS false) (AA 4) (mC .non))) (Bw (BG C9 (AA 2) (AD (mC .non) AK))) (Bw (BG C9 (AA 2) (AD (AG φ_Lmay (AD (AA 0) (AD (AA 4) AK))) AK))))))
    (An (AG A4 (AD (mOp Ar (AA 1) (mC (.str "worth"))) (AD (mOp Ar (AA 1) (mC (.str "coming"))) (AD (AG BY (AD (AA 2) AK)) AK)))))))
def DI (φ_claim_writes:List D->M D) (φ_claim_written:List D->M D):Sl->M (Fl × Sl):=
    (AU (sIf (AN (mOp A9 (mOp Ar (AA 2) (mC (.str "coming"))) (mUn CK (mC (.int 1))))) (AU (F2 (AA 2) (mC (.str "coming")) (mOp Ak (AA 3) (mOp Ab (AA 0) (mC (.int 1)))))
    (AU (LK 1000 (mOp Ar (AA 2) (mC (.str "readers"))) (AO 4) (sIf (AN (mOp (DS true) (AA 4) (mC .non))) (Bw (BG C9 (mOp Ar (AA 4) (mC (.str "beside"))) (AD (mOp Ar (AA 2) (mC (.str "coming"))) AK))) BJ))
    (An (AG φ_claim_writes (AD (AA 0) (AD (AA 1) (AD (mOp Ar (AA 2) (mC (.str "coming"))) AK))))))) BJ)
    (AU (F2 (AA 2) (mC (.str "worth")) (mOp Ar (AA 2) (mC (.str "coming"))))
    (AU (F2 (AA 2) (mC (.str "coming")) (mUn CK (mC (.int 1))))
    (An (AG φ_claim_written (AD (AA 0) (AD (AA 1) AK)))))))
def DK (φ_claim_reads:List D->M D) (φ_Lmay:List D->M D) (φ_claim_told:List D->M D):Sl->M (Fl × Sl):=
    (AU (Ah (mOp Ab (mOp Ar (AA 2) (mC (.str "readers"))) (AA 3)) (AO 5))
    (AU (sIf (AN (mOp (DS false) (AA 5) (mC .non))) (AU (Ah (mOp FD (AG BN (AD (mOp Ar (AA 2) (mC (.str "coming"))) AK)) (AG MK (AD (mOp Bq (mOp Ar (AA 2) (mC (.str "coming"))) (mUn CK (mC (.int 1)))) AK))) (AO 6))
    (AU (Ah (EG [.inr "first",.inr "beside"] (AD (mOp Ar (AA 2) (mC (.str "worth"))) (AD (AA 6) AK))) (Mv (mOp Ar (AA 2) (mC (.str "readers"))) (AA 3)))
    (An (AG φ_claim_reads (AD (AA 0) (AD (AA 1) (AD (AA 3) AK))))))) BJ)
    (AU (Ah (AG φ_Lmay (AD (AA 0) (AD (AA 5) AK))) (AO 7))
    (AU (EB (DW (AD (mOp Ab (AA 0) (mC (.int 1))) AK)) (AO 8) (sIf (AN (mOp Bq (mOp (DS false) (AG φ_claim_told (AD (AA 0) (AD (AA 1) (AD (AA 3) (AD (AA 8) AK))))) (mC .non)) (mOp (FF true) (AA 8) (AA 7)))) (An (mC .non)) BJ))
    (AU (Ah (mC .non) (Mv (mOp Ar (AA 2) (mC (.str "readers"))) (AA 3)))
    (An (AG φ_claim_told (AD (AA 0) (AD (AA 1) (AD (AA 3) (AD (mOp Ab (AA 7) (mOp Ak (AA 4) (AG EH (AD (AA 7) AK)))) AK)))))))))))
def El  : Sl->M (Fl × Sl):=
    (An (mOp AW (mOp AW (FM (AA 0) Dg (Dy (AA 1))) (AG A4 (AD (AA 2) AK))) (FM (AA 0) (Dy (mOp AW (AA 1) (mC (.int 1)))) Dg)))
def Em  : Sl->M (Fl × Sl):=
    (AU (sIf (AN (mOp (DS false) (AA 1) (mC .non))) (An (mC .non)) BJ)
    (AU (sIf (AN (mOp A9 (mOp Ab (AA 0) (mC (.int 0))) (mC (.str "safe")))) (An (mUn (F4 D.tup) (mOp Ab (AA 0) (mC (.int 1))))) BJ)
    (An (AG BY (AD (mUn Bh (mOp AW (AA 1) (AG A4 (AD (AA 2) AK)))) AK)))))
def BV (φ_Lmore:List D->M D) (φ_claim_writes:List D->M D) (φ_claim_written:List D->M D) (φ_claim_reads:List D->M D) (φ_Lwith:List D->M D) (φ_claim_told:List D->M D):Sl->M (Fl × Sl):=
    (AU (Ah (AA 1) (Ch [3,4,5]))
    (AU (Ah (mOp Ak (AA 2) (mOp Ab (AA 0) (mC (.int 1)))) (AO 6))
    (AU (sIf (AN (mOp A9 (AA 4) (mUn CK (mC (.int 1))))) (AU (Ah (AG A4 (AD (AA 3) (AD (AA 6) (AD (AG BY (AD (Bn 1 [0,6] (Di (AA 5)) (AO 0) DV (AG φ_Lmore (AD (AA 1) (AD (AA 0) (AD (AA 2) AK)))) BN) AK)) AK)))) (AO 7))
    (sIf (AN (mOp Bq (AG φ_claim_writes (AD (AA 0) (AD (AA 1) (AD (AA 6) AK)))) (AA 7))) (An (mC (.bl false))) BJ)) (sIf (AN (mOp Bq (AG φ_claim_written (AD (AA 0) (AD (AA 1) AK))) (AG A4 (AD (AA 4) (AD (mUn CK (mC (.int 1))) (AD (AA 5) AK)))))) (An (mC (.bl false))) BJ))
    (AU (EB (Dj (AD (AA 5) AK)) (Ch [8,9]) (sIf (AN (mOp (DS false) (AA 9) (mC .non))) (AU (Ah (AG A4 (AD (AA 3) AK)) (AO 10))
    (AU (sIf (AN (mOp Bq (AA 4) (mUn CK (mC (.int 1))))) (Ah (AG φ_Lmore (AD (AA 0) (AD (AA 10) (AD (AA 4) AK)))) (AO 10)) BJ)
    (sIf (AN (mOp Bq (AG φ_claim_reads (AD (AA 0) (AD (AA 1) (AD (AA 8) AK)))) (AG A4 (AD (AA 3) (AD (AA 4) (AD (AG φ_Lwith (AD (AA 5) (AD (AA 8) (AD (AA 10) AK)))) AK)))))) (An (mC (.bl false))) BJ))) (EB (DW (AD (mOp Ab (AA 0) (mC (.int 1))) AK)) (AO 11) (AU (Ah (mOp Ab (AG BN (AD (mC .non) (AD (AG A4 (AD (AA 3) (AD (AA 4) (AD (AG φ_Lwith (AD (AA 5) (AD (AA 8) (AD (mC .non) AK)))) AK)))) AK))) (AG MK (AD (mOp (FF false) (AA 11) (AA 9)) AK))) (AO 7))
    (sIf (AN (mOp Bq (AG φ_claim_told (AD (AA 0) (AD (AA 1) (AD (AA 8) (AD (AA 11) AK))))) (AA 7))) (An (mC (.bl false))) BJ)))))
    (An (mC (.bl true)))))))
def DM  : Sl->M (Fl × Sl):=
    (AU (Ah (AA 0) (Ch [2,3,4]))
    (AU (Ah (AG Ft AK) (AO 5))
    (AU (EB (Dj (AD (AA 4) AK)) (Ch [6,7]) (AU (sIf (AN (mOp (DS true) (AA 7) (mC .non))) (Ah (AG BY (AD (Bn 2 [6,1] (Dj (AD (AA 7) AK)) (Ch [0,1]) (AN (mOp A9 (mOp Ak (mOp Ae (AA 3) (mOp AW (mOp AW (mC (.int 3)) (AA 0)) (AA 2))) (mC (.int 3))) (mC (.int 1)))) (AA 1) BN) AK)) (AO 7)) BJ)
    (Bw (BG C9 (AA 5) (AD (AA 7) AK)))))
    (An (AG A4 (AD (AA 2) (AD (AA 3) (AD (AG BY (AD (AA 5) AK)) AK))))))))
def JZ (φ_Lcell_at:List D->M D) (φ_Lmaking:List D->M D) (φ_claim_begun:List D->M D) (φ_Ldue:List D->M D) (φ_Lstream:List D->M D) (φ_Llesser:List D->M D) (φ_Llesser_right:List D->M D) (φ_Lwriter:List D->M D) (φ_Lreader:List D->M D):Sl->M (Fl × Sl):=
    (AU (Ah (AG φ_Lcell_at (AD (AA 0) (AD (mC (.int 0)) AK))) (AO 1))
    (AU (Ah (AG φ_Lmaking (AD (mOp Ae (AA 1) (mC (.int 2))) (AD (mOp Ab (AG BN (AD (mC (.str "safe")) (AD (mC (.str "steady")) AK))) (mOp Ak (AA 1) (mC (.int 2)))) AK))) (AO 2))
    (AU (Ah (mOp EX (AG EH (AD (mOp Ab (AA 2) (mC (.int 4))) AK)) (mC (.int 1))) (AO 3))
    (AU (Ah (EG [.inr "worth",.inr "coming",.inr "readers"] (AD (mOp Ab (AA 2) (mC (.int 2))) (AD (mUn CK (mC (.int 1))) (AD (mOp FD (AG BN (AD (mC .non) AK)) (AA 3)) AK)))) (AO 4))
    (AU (Ah (AG φ_claim_begun (AD (AA 2) AK)) (AO 5))
    (AU (Ah (AG Ft AK) (AO 6))
    (AU (EB (Di (mOp AW (AG BN (AD (mC (.int 0)) AK)) (FM (AA 0) (Dy (mC (.int 1))) (Dy (mC (.int 41)))))) (AO 7) (AU (sIf (mOr (AN (mOp Bq (AA 5) (AG φ_Ldue (AD (AA 2) (AD (AA 4) AK))))) (IY (AN (AG HX (AD (AA 5) (AD (mC (.ty "tuple")) AK)))))) (An (mC (.bl false))) BJ)
    (AU (Bw (BG C9 (AA 6) (AD (AG A4 (AD (AA 5) (AD (AG φ_Ldue (AD (AA 2) (AD (AA 4) AK))) AK))) AK)))
    (AU (Ah (mOp Ab (AG φ_Lstream (AD (AA 7) (AD (mC (.int 1)) AK))) (mC (.int 0))) (AO 8))
    (AU (EB (Di (AG A4 (AD (AA 5) (AD (AG φ_Llesser (AD (AA 5) (AD (AA 8) AK))) AK)))) (AO 9) (sIf (IY (AN (AG φ_Llesser_right (AD (AA 2) (AD (AA 9) (AD (mOp Ae (AA 8) (mC (.int 64))) AK)))))) (An (mC (.bl false))) BJ))
    (sIf (mOr (AN (mOp A9 (mOp Ak (AA 8) (mOp AW (mC (.int 1)) (AA 3))) (mC (.int 0)))) (AN (mOp A9 (mOp Ak (mOp Ae (AA 8) (mC (.int 4))) (mC (.int 4))) (mC (.int 0))))) (Ah (AG φ_Lwriter (AD (AA 2) (AD (AA 5) (AD (AA 4) (AD (mOp Ae (AA 8) (mC (.int 16))) AK))))) (AO 5)) (Ah (AG φ_Lreader (AD (AA 2) (AD (AA 5) (AD (AA 4) (AD (mOp EX (mOp Ak (AA 8) (mOp AW (mC (.int 1)) (AA 3))) (mC (.int 1))) (AD (mOp Ae (AA 8) (mC (.int 16))) AK)))))) (AO 5))))))))
    (An (Jb (mOp A9 (AA 5) (AG φ_Ldue (AD (AA 2) (AD (AA 4) AK)))) (mOp A9 (Bn 2 [] (Ja (AA 6)) (Ch [0,1]) (AN (mOp Bq (AA 0) (AA 1))) (AA 0) BN) (AG BN AK)))))))))))
end K11
namespace K11
open PySem L2 Mi K13
def top (i:Nat):Stmt:=PySem.Challenge.pw_strongboxes_k11_claims_of_weak_boxes.main.body.getD i (.Pass ⟨0,0,0,0⟩)
section
variable {P:Program} {w:World} {K:PySem.W.Frag} {mg:Str->Option Value} {base:Heap}
abbrev LJ:Stmt:=top 14
abbrev GZ:Stmt:=top 11
abbrev Fo:Stmt:=top 13
abbrev BS:Stmt:=top 4
theorem sc_claim_begun:Ad ["making", "readers"] ["making"] (AF BS):=⟨rfl,rfl,rfl,by decide +kernel,rfl,by decide +kernel,by decide +kernel⟩
theorem Fs  {k:Nat} {f:Addr} (y_len:mg "len" = none) (g_NONE:Glo K mg "NONE" B3) (cdv:Value) (A:Around) (outer:List Env) (s:Shared) (H:Hp) (E:XK) (hr:Room k (A.deeper (PyProof.Rows.envOfC "claim_begun" (AF BS) s.heap.objs.size f cdv))) :
    RSs (Bl CX0 P w K mg base ["making", "readers"] "claim_begun" (AF BS) f cdv A outer s H E).nox (AX BS) (Bu):=by
  have nd:=sc_claim_begun.nd
  exact (AJ (AZ 1 nd (AR JR (CJ GO y_len Mi.Cg (AC (Ac Aw (AB 0) AI) AH)) AI))
      (AJ (A2 (AY (DT hr) (Ac Aw (AB 0) AI) AS) (AM (AV (Al (AC (Al (AC (Ac Aw (AB 0) AI) (AC (FA g_NONE) (AC (AR Lu (Al (AC (FA g_NONE) AH)) (AB 1)) AH)))) AH)))) Af)
      (AM (AV (Al (AC (Ac Aw (AB 0) AI) (AC (FA g_NONE) (AC (AR Lu (Al (AC A8 AH)) (AB 1)) AH))))))))
abbrev BK:Stmt:=top 5
theorem sc_claim_writes:Ad ["making", "claim", "worth", "tells"] ["making", "claim", "worth"] (AF BK):=⟨rfl,rfl,rfl,by decide +kernel,rfl,by decide +kernel,by decide +kernel⟩
theorem FC {φ_case_begun:List D->M D} {k_case_begun:Nat} {φ_closed:List D->M D} {k_closed:Nat} {φ_beside:List D->M D} {k_beside:Nat} {k:Nat} {f:Addr} (F_case_begun:Fn P w K mg base "case_begun" ["case", "hand", "worth"] k_case_begun φ_case_begun) (hk_case_begun:k_case_begun <= k) (F_closed:Fn P w K mg base "closed" ["cases"] k_closed φ_closed) (hk_closed:k_closed <= k) (F_beside:Fn P w K mg base "beside" ["kind", "size", "worths", "coming"] k_beside φ_beside) (hk_beside:k_beside <= k) (y_tuple:mg "tuple" = none) (cdv:Value) (A:Around) (outer:List Env) (s:Shared) (H:Hp) (E:XK) (hr:Room k (A.deeper (PyProof.Rows.envOfC "claim_writes" (AF BK) s.heap.objs.size f cdv))) :
    RSs (Bl CX0 P w K mg base ["making", "claim", "worth", "tells"] "claim_writes" (AF BK) f cdv A outer s H E).nox (AX BK) (Bk φ_case_begun φ_closed φ_beside):=by
  have nd:=sc_claim_writes.nd
  exact (AJ (A2 (AY (DT hr) (Ac Aw (AB 0) AI) AS) (AM (AV (Aj (hkj:=hk_closed) F_closed hr (AC (Gd (tgs:=["case"]) (ix:=[2]) (i:=0) (n:=1) ⟨rfl,by decide +kernel,by decide +kernel,⟨Or.inl rfl,trivial⟩,rfl,by decide +kernel⟩ rfl (Dc (AB 1)) (fun _ _ _ _=>Ao (i:=0) (show List.Nodup (["case", "worth"]:List Str) from by decide +kernel) rfl (Or.inl rfl)) (fun _ _ _ _=>Cz) (fun _ _ _ _=>(Aj (hkj:=hk_case_begun) F_case_begun hr (AC (AB 0) (AC AI (AC (AB 1) AH)))))) AH)))) Af)
      (AJ (E7 3 (tgs:=["told"]) (ix:=[0,2]) (i:=0) (n:=1) nd ⟨rfl,by decide +kernel,by decide +kernel,⟨Or.inl rfl,Or.inl rfl,trivial⟩,rfl,by decide +kernel⟩ rfl (Dc (Ac Aw (AB 1) AI)) (fun _ _ _ _=>Ao (i:=0) (show List.Nodup (["told", "making", "worth"]:List Str) from by decide +kernel) rfl (Or.inl rfl)) (fun _ _ _ _=>Cz) (fun _ _ _ _=>(OO (AY KZ (AB 0) A8) (AB 0) (Aj (hkj:=hk_beside) F_beside hr (AC (Ac Aw (AB 1) AI) (AC (Ac Aw (AB 1) AI) (AC (AB 0) (AC (AB 2) AH))))))) (fun _ _ _ _ _ _ _ _ R i e q=>B6 R i e q))
      (AM (AV (Al (AC (Ac Aw (AB 1) AI) (AC (AB 2) (AC (A6 CB y_tuple Mi.At (AC (AB 3) AH)) AH))))))))
abbrev BC:Stmt:=top 6
theorem sc_claim_written:Ad ["making", "claim"] ["making", "claim"] (AF BC):=⟨rfl,rfl,rfl,by decide +kernel,rfl,by decide +kernel,by decide +kernel⟩
theorem Ed {φ_cases_ended:List D->M D} {k_cases_ended:Nat} {φ_closed:List D->M D} {k_closed:Nat} {k:Nat} {f:Addr} (F_cases_ended:Fn P w K mg base "cases_ended" ["cases", "hand", "worth"] k_cases_ended φ_cases_ended) (hk_cases_ended:k_cases_ended <= k) (F_closed:Fn P w K mg base "closed" ["cases"] k_closed φ_closed) (hk_closed:k_closed <= k) (g_NONE:Glo K mg "NONE" B3) (cdv:Value) (A:Around) (outer:List Env) (s:Shared) (H:Hp) (E:XK) (hr:Room k (A.deeper (PyProof.Rows.envOfC "claim_written" (AF BC) s.heap.objs.size f cdv))) :
    RSs (Bl CX0 P w K mg base ["making", "claim"] "claim_written" (AF BC) f cdv A outer s H E).nox (AX BC) (BU φ_cases_ended φ_closed):=by
  have nd:=sc_claim_written.nd
  exact (AJ (A2 (AY (DT hr) (Ac Aw (AB 0) AI) AS) (AM (AV (Aj (hkj:=hk_closed) F_closed hr (AC (Aj (hkj:=hk_cases_ended) F_cases_ended hr (AC (AB 1) (AC AI (AC (FA g_NONE) AH)))) AH)))) Af)
      (AM (AV (Al (AC (Ac Aw (AB 1) AI) (AC (FA g_NONE) (AC (Ac Aw (AB 1) AI) AH)))))))
abbrev BR:Stmt:=top 7
theorem sc_claim_reads:Ad ["making", "claim", "reader", "told"] ["making", "claim", "reader"] (AF BR):=⟨rfl,rfl,rfl,by decide +kernel,rfl,by decide +kernel,by decide +kernel⟩
theorem Fq {φ_case_begun:List D->M D} {k_case_begun:Nat} {φ_closed:List D->M D} {k_closed:Nat} {φ_beside:List D->M D} {k_beside:Nat} {φ_with_thing:List D->M D} {k_with_thing:Nat} {k:Nat} {f:Addr} (F_case_begun:Fn P w K mg base "case_begun" ["case", "hand", "worth"] k_case_begun φ_case_begun) (hk_case_begun:k_case_begun <= k) (F_closed:Fn P w K mg base "closed" ["cases"] k_closed φ_closed) (hk_closed:k_closed <= k) (F_beside:Fn P w K mg base "beside" ["kind", "size", "worths", "coming"] k_beside φ_beside) (hk_beside:k_beside <= k) (F_with_thing:Fn P w K mg base "with_thing" ["things", "place", "thing"] k_with_thing φ_with_thing) (hk_with_thing:k_with_thing <= k) (g_NONE:Glo K mg "NONE" B3) (cdv:Value) (A:Around) (outer:List Env) (s:Shared) (H:Hp) (E:XK) (hr:Room k (A.deeper (PyProof.Rows.envOfC "claim_reads" (AF BR) s.heap.objs.size f cdv))) :
    RSs (Bl CX0 P w K mg base ["making", "claim", "reader", "told"] "claim_reads" (AF BR) f cdv A outer s H E).nox (AX BR) (Bt φ_case_begun φ_closed φ_beside φ_with_thing):=by
  have nd:=sc_claim_reads.nd
  exact (AJ (A2 (AY (DT hr) (Ac Aw (AB 0) AI) AS) (AM (AV (Aj (hkj:=hk_closed) F_closed hr (AC (Gd (tgs:=["case"]) (ix:=[2]) (i:=0) (n:=1) ⟨rfl,by decide +kernel,by decide +kernel,⟨Or.inl rfl,trivial⟩,rfl,by decide +kernel⟩ rfl (Dc (AB 1)) (fun _ _ _ _=>Ao (i:=0) (show List.Nodup (["case", "reader"]:List Str) from by decide +kernel) rfl (Or.inl rfl)) (fun _ _ _ _=>Cz) (fun _ _ _ _=>(Aj (hkj:=hk_case_begun) F_case_begun hr (AC (AB 0) (AC (AR Ap (AB 1) AI) (AC (FA g_NONE) AH)))))) AH)))) Af)
      (AJ (AZ 3 nd (Al (AC (Ac Aw (AB 1) AI) AH)))
      (AJ (A2 (AY (FK hr) (Ac Aw (AB 1) AI) (FA g_NONE)) (AM (AZ 3 nd (Aj (hkj:=hk_beside) F_beside hr (AC (Ac Aw (AB 0) AI) (AC (Ac Aw (AB 0) AI) (AC (AB 3) (AC (Ac Aw (AB 1) AI) AH))))))) Af)
      (AM (AV (Al (AC (Ac Aw (AB 1) AI) (AC (Ac Aw (AB 1) AI) (AC (Aj (hkj:=hk_with_thing) F_with_thing hr (AC (Ac Aw (AB 1) AI) (AC (AB 2) (AC (AB 3) AH)))) AH)))))))))
abbrev Bj:Stmt:=top 8
theorem sc_claim_told:Ad ["making", "claim", "reader", "worth", "left"] ["making", "claim", "reader", "worth"] (AF Bj):=⟨rfl,rfl,rfl,by decide +kernel,rfl,by decide +kernel,by decide +kernel⟩
theorem Gf {φ_cases_ended:List D->M D} {k_cases_ended:Nat} {φ_closed:List D->M D} {k_closed:Nat} {φ_with_thing:List D->M D} {k_with_thing:Nat} {k:Nat} {f:Addr} (F_cases_ended:Fn P w K mg base "cases_ended" ["cases", "hand", "worth"] k_cases_ended φ_cases_ended) (hk_cases_ended:k_cases_ended <= k) (F_closed:Fn P w K mg base "closed" ["cases"] k_closed φ_closed) (hk_closed:k_closed <= k) (F_with_thing:Fn P w K mg base "with_thing" ["things", "place", "thing"] k_with_thing φ_with_thing) (hk_with_thing:k_with_thing <= k) (cdv:Value) (A:Around) (outer:List Env) (s:Shared) (H:Hp) (E:XK) (hr:Room k (A.deeper (PyProof.Rows.envOfC "claim_told" (AF Bj) s.heap.objs.size f cdv))) :
    RSs (Bl CX0 P w K mg base ["making", "claim", "reader", "worth", "left"] "claim_told" (AF Bj) f cdv A outer s H E).nox (AX Bj) (B8 φ_cases_ended φ_closed φ_with_thing):=by
  have nd:=sc_claim_told.nd
  exact (AJ (A2 (AY (DT hr) (Ac Aw (AB 0) AI) AS) (AJ (AZ 4 nd (Aj (hkj:=hk_cases_ended) F_cases_ended hr (AC (AB 1) (AC (AR Ap (AB 2) AI) (AC (AB 3) AH)))))
      (AM (AV (OO (IM (AB 4)) (Aj (hkj:=hk_closed) F_closed hr (AC (AB 4) AH)) A8)))) Af)
      (AJ (A2 (AY JS (AB 3) (Ac Aw (Ac Aw (AB 1) AI) (AB 2))) (AM (AV A8)) Af)
      (AM (AV (Al (AC (Ac Aw (AB 1) AI) (AC (Ac Aw (AB 1) AI) (AC (Aj (hkj:=hk_with_thing) F_with_thing hr (AC (Ac Aw (AB 1) AI) (AC (AB 2) (AC A8 AH)))) AH))))))))
abbrev Cw:Stmt:=top 9
theorem sc_beside:Ad ["kind", "size", "worths", "coming"] ["kind", "size", "worths", "coming"] (AF Cw):=⟨rfl,rfl,rfl,by decide +kernel,rfl,by decide +kernel,by decide +kernel⟩
theorem LY  {k:Nat} {f:Addr} (y_tuple:mg "tuple" = none) (y_range:mg "range" = none) (y_sorted:mg "sorted" = none) (y_set:mg "set" = none) (cdv:Value) (A:Around) (outer:List Env) (s:Shared) (H:Hp) (E:XK) (hr:Room k (A.deeper (PyProof.Rows.envOfC "beside" (AF Cw) s.heap.objs.size f cdv))) :
    RSs (Bl CX0 P w K mg base ["kind", "size", "worths", "coming"] "beside" (AF Cw) f cdv A outer s H E).nox (AX Cw) (Dx):=by
  have nd:=sc_beside.nd
  exact (AJ (A2 (AY (DT hr) (AB 0) AS) (AM (AV (EC y_tuple y_range (AB 1)))) Af)
      (AM (AV (A6 CB y_tuple Mi.At (AC (Dd y_sorted y_set (AR Ap (AB 2) (Al (AC (AB 3) AH)))) AH)))))
abbrev Bi:Stmt:=top 10
theorem sc_with_thing:Ad ["things", "place", "thing"] ["things", "place", "thing"] (AF Bi):=⟨rfl,rfl,rfl,by decide +kernel,rfl,by decide +kernel,by decide +kernel⟩
theorem Ge  {k:Nat} {f:Addr}  (cdv:Value) (A:Around) (outer:List Env) (s:Shared) (H:Hp) (E:XK) (hr:Room k (A.deeper (PyProof.Rows.envOfC "with_thing" (AF Bi) s.heap.objs.size f cdv))) :
    RSs (Bl CX0 P w K mg base ["things", "place", "thing"] "with_thing" (AF Bi) f cdv A outer s H E).nox (AX Bi) (B7):=by
  have nd:=sc_with_thing.nd
  exact (AM (AV (AR Ap (AR Ap (De (AB 0) DE (CN (AB 1))) (Al (AC (AB 2) AH))) (De (AB 0) (CN (AR Ap (AB 1) AI)) DE))))
abbrev CG:Stmt:=top 18
theorem sc_Lcell_at:Ad ["_law_script", "_law_k"] ["_law_script", "_law_k"] (AF CG):=⟨rfl,rfl,rfl,by decide +kernel,rfl,by decide +kernel,by decide +kernel⟩
theorem IR  {k:Nat} {f:Addr} (y_len:mg "len" = none) (cdv:Value) (A:Around) (outer:List Env) (s:Shared) (H:Hp) (E:XK) (hr:Room k (A.deeper (PyProof.Rows.envOfC "_law_cell_at" (AF CG) s.heap.objs.size f cdv))) :
    RSs (Bl CX0 P w K mg base ["_law_script", "_law_k"] "_law_cell_at" (AF CG) f cdv A outer s H E).nox (AX CG) (Co):=by
  have nd:=sc_Lcell_at.nd
  exact (AJ (A2 (AY Qq (AB 1) (CJ GO y_len Mi.Cg (AC (AB 0) AH))) (AM (AV (Ac Aw (AB 0) (AB 1)))) Af)
      (AM (AV AI)))
abbrev CZ:Stmt:=top 19
theorem sc_Lstream:Ad ["_law_cell", "_law_many", "_law_found", "_law_number", "_law_k"] ["_law_cell", "_law_many"] (AF CZ):=⟨rfl,rfl,rfl,by decide +kernel,rfl,by decide +kernel,by decide +kernel⟩
theorem KJ  {k:Nat} {f:Addr} (y_len:mg "len" = none) (y_range:mg "range" = none) (cdv:Value) (A:Around) (outer:List Env) (s:Shared) (H:Hp) (E:XK) (hr:Room k (A.deeper (PyProof.Rows.envOfC "_law_stream" (AF CZ) s.heap.objs.size f cdv))) :
    RSs (Bl CX0 P w K mg base ["_law_cell", "_law_many", "_law_found", "_law_number", "_law_k"] "_law_stream" (AF CZ) f cdv A outer s H E).nox (AX CZ) (DJ):=by
  have nd:=sc_Lstream.nd
  exact (AJ (AZ 2 nd (Ek AH))
      (AJ (AZ 3 nd (AR Ba (AB 0) AI))
      (AJ (LN A0 PassesOwn.never (RW.rt (IL (AY (DT hr) (AR Bx (AB 0) AI) AI) (IL (AY Re (AB 3) AI) (JM (AY Qq (CJ GO y_len Mi.Cg (AC (AB 2) AH)) (AB 1)))))) (AJ (Cm (CI PySem.F.slot_list_append PySem.F.type_list_append CL (AB 2) (AC (AR Bx (AB 3) (AR OR AI AI)) AH)))
      (AM (AZ 3 nd (AR Ba (AB 3) (AR OR AI AI))))))
      (AJ (AZ 3 nd (AR Bx (AR JT (AR Ap (AR Ba (AB 0) AI) AI) AI) AI))
      (AJ (Cy PassesOwn.never rfl (DF y_range (AC (AB 1) AH)) (Cn 4 nd) (AJ (AZ 3 nd (AR Bx (AR JT (AB 3) (AR Ap (AR Ap (AR Ba (AB 3) AI) AI) (AB 4))) AI))
      (AJ (Cm (CI PySem.F.slot_list_append PySem.F.type_list_append CL (AB 2) (AC (AR Bx (AR JT (AB 3) (AR Ap (AR Ba (AB 3) AI) AI)) AI) AH)))
      (AM (AZ 3 nd (AR Ap (AB 3) AI))))))
      (AM (AV (De (AB 2) DE (CN (AB 1))))))))))
abbrev Cb:Stmt:=top 20
theorem sc_Lmaking:Ad ["_law_x", "_law_kind", "_law_size", "_law_names", "_law_readers", "_law_hands"] ["_law_x", "_law_kind"] (AF Cb):=⟨rfl,rfl,rfl,by decide +kernel,rfl,by decide +kernel,by decide +kernel⟩
theorem KL  {k:Nat} {f:Addr} (y_tuple:mg "tuple" = none) (cdv:Value) (A:Around) (outer:List Env) (s:Shared) (H:Hp) (E:XK) (hr:Room k (A.deeper (PyProof.Rows.envOfC "_law_making" (AF Cb) s.heap.objs.size f cdv))) :
    RSs (Bl CX0 P w K mg base ["_law_x", "_law_kind", "_law_size", "_law_names", "_law_readers", "_law_hands"] "_law_making" (AF Cb) f cdv A outer s H E).nox (AX Cb) (DL):=by
  have nd:=sc_Lmaking.nd
  exact (AJ (AZ 2 nd (AR Ap AI (AR Bx (AR Ba (AB 0) AI) AI)))
      (AJ (AZ 3 nd (Ac Aw (B1 (AC (B1 (AC AS (AC AS (AC AS (AC AS AH))))) (AC (B1 (AC AS (AC AS (AC AS (AC AS AH))))) (AC (B1 (AC AS (AC AS (AC AS (AC AS AH))))) AH)))) (AR Bx (AR Ba (AB 0) AI) AI)))
      (AJ (AZ 4 nd (AR Ap AI (AR Bx (AR Ba (AB 0) AI) AI)))
      (AJ (E7 5 (tgs:=["_law_name"]) (ix:=[]) (i:=0) (n:=1) nd ⟨rfl,by decide +kernel,by decide +kernel,trivial,rfl,by decide +kernel⟩ rfl (Dc (De (AB 3) DE (CN (AR Ap AI (AB 4))))) (fun _ _ _ _=>Ao (i:=0) (show List.Nodup (["_law_name"]:List Str) from by decide +kernel) rfl (Or.inl rfl)) (fun _ _ _ _=>Cz) (fun _ _ _ _=>(Al (AC (AB 0) (AC AI (AC (Al AH) AH))))) (fun _ _ _ _ _ _ _ _ R i e q=>B6 R i e q))
      (AM (AV (Al (AC (AB 1) (AC (AB 2) (AC (AR Bx (AR Ba (AB 0) AI) (AB 2)) (AC (Al AH) (AC (A6 CB y_tuple Mi.At (AC (AB 5) AH)) AH))))))))))))
abbrev Ez:Stmt:=top 23
theorem sc_Lmay:Ad ["_law_making_here", "_law_record", "_law_found"] ["_law_making_here", "_law_record"] (AF Ez):=⟨rfl,rfl,rfl,by decide +kernel,rfl,by decide +kernel,by decide +kernel⟩
theorem Oz  {k:Nat} {f:Addr} (y_tuple:mg "tuple" = none) (y_range:mg "range" = none) (y_sorted:mg "sorted" = none) (y_set:mg "set" = none) (cdv:Value) (A:Around) (outer:List Env) (s:Shared) (H:Hp) (E:XK) (hr:Room k (A.deeper (PyProof.Rows.envOfC "_law_may" (AF Ez) s.heap.objs.size f cdv))) :
    RSs (Bl CX0 P w K mg base ["_law_making_here", "_law_record", "_law_found"] "_law_may" (AF Ez) f cdv A outer s H E).nox (AX Ez) (Gm):=by
  have nd:=sc_Lmay.nd
  exact (AJ (AZ 2 nd (AR PZ (B1 (AC (Au hr (AB 1) AS) AH)) (Au hr (AB 1) AS)))
      (AJ (A2 (RW.rt (IL (AY (DT hr) (Ac Aw (AB 0) AI) AS) (JM (AY (FK hr) (Au hr (AB 1) AS) (B1 AH))))) (AM (AV (EC y_tuple y_range (Ac Aw (AB 0) AI)))) Af)
      (AM (AV (A6 CB y_tuple Mi.At (AC (Dd y_sorted y_set (AB 2)) AH))))))
abbrev E6:Stmt:=top 24
theorem sc_Ldue:Ad ["_law_making_here", "_law_state", "_law_tells", "_law_k", "_law_record"] ["_law_making_here", "_law_state"] (AF E6):=⟨rfl,rfl,rfl,by decide +kernel,rfl,by decide +kernel,by decide +kernel⟩
theorem O0 {φ_Lmay:List D->M D} {k_Lmay:Nat} {k:Nat} {f:Addr} (F_Lmay:Fn P w K mg base "_law_may" ["_law_making_here", "_law_record"] k_Lmay φ_Lmay) (hk_Lmay:k_Lmay <= k) (y_range:mg "range" = none) (y_len:mg "len" = none) (y_tuple:mg "tuple" = none) (cdv:Value) (A:Around) (outer:List Env) (s:Shared) (H:Hp) (E:XK) (hr:Room k (A.deeper (PyProof.Rows.envOfC "_law_due" (AF E6) s.heap.objs.size f cdv))) :
    RSs (Bl CX0 P w K mg base ["_law_making_here", "_law_state", "_law_tells", "_law_k", "_law_record"] "_law_due" (AF E6) f cdv A outer s H E).nox (AX E6) (Gn φ_Lmay):=by
  have nd:=sc_Ldue.nd
  exact (AJ (AZ 2 nd (Ek AH))
      (AJ (Cy PassesOwn.never rfl (DF y_range (AC (AR JR (CJ GO y_len Mi.Cg (AC (Ac Aw (AB 0) AI) AH)) AI) AH)) (Cn 3 nd) (AJ (AZ 4 nd (Ac Aw (Au hr (AB 1) AS) (AB 3)))
      (AM (A2 (AY KZ (AB 4) A8) (AM (Cm (CI PySem.F.slot_list_append PySem.F.type_list_append CL (AB 2) (AC A8 AH)))) (AM (Cm (CI PySem.F.slot_list_append PySem.F.type_list_append CL (AB 2) (AC (Aj (hkj:=hk_Lmay) F_Lmay hr (AC (AB 0) (AC (AB 4) AH))) AH))))))))
      (AM (AV (Al (AC (Au hr (AB 1) AS) (AC (Au hr (AB 1) AS) (AC (A6 CB y_tuple Mi.At (AC (AB 2) AH)) AH))))))))
abbrev CY:Stmt:=top 25
theorem sc_Lwriter:Ad ["_law_making_here", "_law_claim", "_law_state", "_law_x", "_law_record"] ["_law_making_here", "_law_claim", "_law_state", "_law_x"] (AF CY):=⟨rfl,rfl,rfl,by decide +kernel,rfl,by decide +kernel,by decide +kernel⟩
theorem KI {φ_claim_writes:List D->M D} {k_claim_writes:Nat} {φ_claim_written:List D->M D} {k_claim_written:Nat} {k:Nat} {f:Addr} (F_claim_writes:Fn P w K mg base "claim_writes" ["making", "claim", "worth"] k_claim_writes φ_claim_writes) (hk_claim_writes:k_claim_writes <= k) (F_claim_written:Fn P w K mg base "claim_written" ["making", "claim"] k_claim_written φ_claim_written) (hk_claim_written:k_claim_written <= k) (cdv:Value) (A:Around) (outer:List Env) (s:Shared) (H:Hp) (E:XK) (hr:Room k (A.deeper (PyProof.Rows.envOfC "_law_writer" (AF CY) s.heap.objs.size f cdv))) :
    RSs (Bl CX0 P w K mg base ["_law_making_here", "_law_claim", "_law_state", "_law_x", "_law_record"] "_law_writer" (AF CY) f cdv A outer s H E).nox (AX CY) (DI φ_claim_writes φ_claim_written):=by
  have nd:=sc_Lwriter.nd
  exact (AJ (A2 (AY (DT hr) (Au hr (AB 2) AS) (E9 FJ AI)) (AJ (Ga hr (AB 2) AS (AR Bx (AB 3) (Ac Aw (AB 0) AI)))
      (AJ (NE 1000 PassesOwn.never rfl (Au hr (AB 2) AS) (Cn 4 nd) (AM (A2 (AY JU (AB 4) A8) (AM (Cm (CI PySem.F.slot_list_append PySem.F.type_list_append CL (Au hr (AB 4) AS) (AC (Au hr (AB 2) AS) AH)))) Af)))
      (AM (AV (Aj (hkj:=hk_claim_writes) F_claim_writes hr (AC (AB 0) (AC (AB 1) (AC (Au hr (AB 2) AS) AH)))))))) Af)
      (AJ (Ga hr (AB 2) AS (Au hr (AB 2) AS))
      (AJ (Ga hr (AB 2) AS (E9 FJ AI))
      (AM (AV (Aj (hkj:=hk_claim_written) F_claim_written hr (AC (AB 0) (AC (AB 1) AH))))))))
abbrev Ca:Stmt:=top 26
theorem sc_Lreader:Ad ["_law_making_here", "_law_claim", "_law_state", "_law_k", "_law_x", "_law_record", "_law_some", "_law_may_here", "_law_worth_here"] ["_law_making_here", "_law_claim", "_law_state", "_law_k", "_law_x"] (AF Ca):=⟨rfl,rfl,rfl,by decide +kernel,rfl,by decide +kernel,by decide +kernel⟩
theorem KK {φ_claim_reads:List D->M D} {k_claim_reads:Nat} {φ_Lmay:List D->M D} {k_Lmay:Nat} {φ_claim_told:List D->M D} {k_claim_told:Nat} {k:Nat} {f:Addr} (F_claim_reads:Fn P w K mg base "claim_reads" ["making", "claim", "reader"] k_claim_reads φ_claim_reads) (hk_claim_reads:k_claim_reads <= k) (F_Lmay:Fn P w K mg base "_law_may" ["_law_making_here", "_law_record"] k_Lmay φ_Lmay) (hk_Lmay:k_Lmay <= k) (F_claim_told:Fn P w K mg base "claim_told" ["making", "claim", "reader", "worth"] k_claim_told φ_claim_told) (hk_claim_told:k_claim_told <= k) (y_int:mg "int" = none) (y_range:mg "range" = none) (y_len:mg "len" = none) (cdv:Value) (A:Around) (outer:List Env) (s:Shared) (H:Hp) (E:XK) (hr:Room k (A.deeper (PyProof.Rows.envOfC "_law_reader" (AF Ca) s.heap.objs.size f cdv))) :
    RSs (Bl CX0 P w K mg base ["_law_making_here", "_law_claim", "_law_state", "_law_k", "_law_x", "_law_record", "_law_some", "_law_may_here", "_law_worth_here"] "_law_reader" (AF Ca) f cdv A outer s H E).nox (AX Ca) (DK φ_claim_reads φ_Lmay φ_claim_told):=by
  have nd:=sc_Lreader.nd
  exact (AJ (AZ 5 nd (Ac Aw (Au hr (AB 2) AS) (AB 3)))
      (AJ (A2 (AY KZ (AB 5) A8) (AJ (AZ 6 nd (AR Ls (B1 (AC (Au hr (AB 2) AS) AH)) (A6 Od y_int Mi.Hy (AC (ED (FK hr) (Au hr (AB 2) AS) (E9 FJ AI)) AH))))
      (AJ (Gb (HJ (Du (Au hr (AB 2) AS) (Du (AB 6) LO))) (LT (Au hr (AB 2) AS) (AB 3)))
      (AM (AV (Aj (hkj:=hk_claim_reads) F_claim_reads hr (AC (AB 0) (AC (AB 1) (AC (AB 3) AH)))))))) Af)
      (AJ (AZ 7 nd (Aj (hkj:=hk_Lmay) F_Lmay hr (AC (AB 0) (AC (AB 5) AH))))
      (AJ (Cy PassesOwn.never rfl (DF y_range (AC (Ac Aw (AB 0) AI) AH)) (Cn 8 nd) (AM (A2 (AY (FK hr) (ED KZ (Aj (hkj:=hk_claim_told) F_claim_told hr (AC (AB 0) (AC (AB 1) (AC (AB 3) (AC (AB 8) AH))))) A8) (ED JS (AB 8) (AB 7))) (AM (AV A8)) Af)))
      (AJ (Gb A8 (LT (Au hr (AB 2) AS) (AB 3)))
      (AM (AV (Aj (hkj:=hk_claim_told) F_claim_told hr (AC (AB 0) (AC (AB 1) (AC (AB 3) (AC (Ac Aw (AB 7) (AR Bx (AB 4) (CJ GO y_len Mi.Cg (AC (AB 7) AH)))) AH))))))))))))
abbrev Ds:Stmt:=top 27
theorem sc_Lwith:Ad ["_law_tells", "_law_k", "_law_thing"] ["_law_tells", "_law_k", "_law_thing"] (AF Ds):=⟨rfl,rfl,rfl,by decide +kernel,rfl,by decide +kernel,by decide +kernel⟩
theorem NN  {k:Nat} {f:Addr}  (cdv:Value) (A:Around) (outer:List Env) (s:Shared) (H:Hp) (E:XK) (hr:Room k (A.deeper (PyProof.Rows.envOfC "_law_with" (AF Ds) s.heap.objs.size f cdv))) :
    RSs (Bl CX0 P w K mg base ["_law_tells", "_law_k", "_law_thing"] "_law_with" (AF Ds) f cdv A outer s H E).nox (AX Ds) (El):=by
  have nd:=sc_Lwith.nd
  exact (AM (AV (AR Ap (AR Ap (De (AB 0) DE (CN (AB 1))) (Al (AC (AB 2) AH))) (De (AB 0) (CN (AR Ap (AB 1) AI)) DE))))
abbrev Dt:Stmt:=top 28
theorem sc_Lmore:Ad ["_law_making_here", "_law_may_here", "_law_worth_here"] ["_law_making_here", "_law_may_here", "_law_worth_here"] (AF Dt):=⟨rfl,rfl,rfl,by decide +kernel,rfl,by decide +kernel,by decide +kernel⟩
theorem NO  {k:Nat} {f:Addr} (y_tuple:mg "tuple" = none) (y_range:mg "range" = none) (y_sorted:mg "sorted" = none) (y_set:mg "set" = none) (cdv:Value) (A:Around) (outer:List Env) (s:Shared) (H:Hp) (E:XK) (hr:Room k (A.deeper (PyProof.Rows.envOfC "_law_more" (AF Dt) s.heap.objs.size f cdv))) :
    RSs (Bl CX0 P w K mg base ["_law_making_here", "_law_may_here", "_law_worth_here"] "_law_more" (AF Dt) f cdv A outer s H E).nox (AX Dt) (Em):=by
  have nd:=sc_Lmore.nd
  exact (AJ (A2 (AY KZ (AB 1) A8) (AM (AV A8)) Af)
      (AJ (A2 (AY (DT hr) (Ac Aw (AB 0) AI) AS) (AM (AV (EC y_tuple y_range (Ac Aw (AB 0) AI)))) Af)
      (AM (AV (A6 CB y_tuple Mi.At (AC (Dd y_sorted y_set (AR Ap (AB 1) (Al (AC (AB 2) AH)))) AH))))))
abbrev BD:Stmt:=top 29
theorem sc_Llesser_right:Ad ["_law_making_here", "_law_claim", "_law_x", "_law_worth_here", "_law_coming", "_law_tells", "_law_new", "_law_due_here", "_law_k", "_law_may_here", "_law_found", "_law_one"] ["_law_making_here", "_law_claim", "_law_x"] (AF BD):=⟨rfl,rfl,rfl,by decide +kernel,rfl,by decide +kernel,by decide +kernel⟩
theorem Ee {φ_Lmore:List D->M D} {k_Lmore:Nat} {φ_claim_writes:List D->M D} {k_claim_writes:Nat} {φ_claim_written:List D->M D} {k_claim_written:Nat} {φ_claim_reads:List D->M D} {k_claim_reads:Nat} {φ_Lwith:List D->M D} {k_Lwith:Nat} {φ_claim_told:List D->M D} {k_claim_told:Nat} {k:Nat} {f:Addr} (F_Lmore:Fn P w K mg base "_law_more" ["_law_making_here", "_law_may_here", "_law_worth_here"] k_Lmore φ_Lmore) (hk_Lmore:k_Lmore <= k) (F_claim_writes:Fn P w K mg base "claim_writes" ["making", "claim", "worth"] k_claim_writes φ_claim_writes) (hk_claim_writes:k_claim_writes <= k) (F_claim_written:Fn P w K mg base "claim_written" ["making", "claim"] k_claim_written φ_claim_written) (hk_claim_written:k_claim_written <= k) (F_claim_reads:Fn P w K mg base "claim_reads" ["making", "claim", "reader"] k_claim_reads φ_claim_reads) (hk_claim_reads:k_claim_reads <= k) (F_Lwith:Fn P w K mg base "_law_with" ["_law_tells", "_law_k", "_law_thing"] k_Lwith φ_Lwith) (hk_Lwith:k_Lwith <= k) (F_claim_told:Fn P w K mg base "claim_told" ["making", "claim", "reader", "worth"] k_claim_told φ_claim_told) (hk_claim_told:k_claim_told <= k) (y_tuple:mg "tuple" = none) (y_enumerate:mg "enumerate" = none) (y_range:mg "range" = none) (y_int:mg "int" = none) (cdv:Value) (A:Around) (outer:List Env) (s:Shared) (H:Hp) (E:XK) (hr:Room k (A.deeper (PyProof.Rows.envOfC "_law_lesser_right" (AF BD) s.heap.objs.size f cdv))) :
    RSs (Bl CX0 P w K mg base ["_law_making_here", "_law_claim", "_law_x", "_law_worth_here", "_law_coming", "_law_tells", "_law_new", "_law_due_here", "_law_k", "_law_may_here", "_law_found", "_law_one"] "_law_lesser_right" (AF BD) f cdv A outer s H E).nox (AX BD) (BV φ_Lmore φ_claim_writes φ_claim_written φ_claim_reads φ_Lwith φ_claim_told):=by
  have nd:=sc_Llesser_right.nd
  exact (AJ (Gb (AB 1) (Gc (is:=[3,4,5]) rfl (Ax (Ao (i:=3) nd rfl (by first | exact Or.inl rfl | exact Or.inr rfl)) (Ax (Ao (i:=4) nd rfl (by first | exact Or.inl rfl | exact Or.inr rfl)) (Ax (Ao (i:=5) nd rfl (by first | exact Or.inl rfl | exact Or.inr rfl)) DG)))))
      (AJ (AZ 6 nd (AR Bx (AB 2) (Ac Aw (AB 0) AI)))
      (AJ (A2 (AY (DT hr) (AB 4) (E9 FJ AI)) (AJ (AZ 7 nd (Al (AC (AB 3) (AC (AB 6) (AC (A6 CB y_tuple Mi.At (AC (Gd (tgs:=["_law_may_here"]) (ix:=[0,6]) (i:=0) (n:=1) ⟨rfl,by decide +kernel,by decide +kernel,⟨Or.inl rfl,Or.inl rfl,trivial⟩,rfl,by decide +kernel⟩ rfl (Dc (AB 5)) (fun _ _ _ _=>Ao (i:=0) (show List.Nodup (["_law_may_here", "_law_making_here", "_law_new"]:List Str) from by decide +kernel) rfl (Or.inl rfl)) (fun _ _ _ _=>Cz) (fun _ _ _ _=>(Aj (hkj:=hk_Lmore) F_Lmore hr (AC (AB 1) (AC (AB 0) (AC (AB 2) AH)))))) AH)) AH)))))
      (AM (A2 (AY (FK hr) (Aj (hkj:=hk_claim_writes) F_claim_writes hr (AC (AB 0) (AC (AB 1) (AC (AB 6) AH)))) (AB 7)) (AM (AV FB)) Af))) (AM (A2 (AY (FK hr) (Aj (hkj:=hk_claim_written) F_claim_written hr (AC (AB 0) (AC (AB 1) AH))) (Al (AC (AB 4) (AC (E9 FJ AI) (AC (AB 5) AH))))) (AM (AV FB)) Af)))
      (AJ (Cy PassesOwn.never rfl (E8 y_enumerate (AC (AB 5) AH)) (Gc (is:=[8,9]) rfl (Ax (Ao (i:=8) nd rfl (by first | exact Or.inl rfl | exact Or.inr rfl)) (Ax (Ao (i:=9) nd rfl (by first | exact Or.inl rfl | exact Or.inr rfl)) DG))) (AM (A2 (AY KZ (AB 9) A8) (AJ (AZ 10 nd (Al (AC (AB 3) AH)))
      (AJ (A2 (AY (FK hr) (AB 4) (E9 FJ AI)) (AM (AZ 10 nd (Aj (hkj:=hk_Lmore) F_Lmore hr (AC (AB 0) (AC (AB 10) (AC (AB 4) AH)))))) Af)
      (AM (A2 (AY (FK hr) (Aj (hkj:=hk_claim_reads) F_claim_reads hr (AC (AB 0) (AC (AB 1) (AC (AB 8) AH)))) (Al (AC (AB 3) (AC (AB 4) (AC (Aj (hkj:=hk_Lwith) F_Lwith hr (AC (AB 5) (AC (AB 8) (AC (AB 10) AH)))) AH))))) (AM (AV FB)) Af)))) (AM (Cy PassesOwn.never rfl (DF y_range (AC (Ac Aw (AB 0) AI) AH)) (Cn 11 nd) (AJ (AZ 7 nd (Ac Aw (B1 (AC A8 (AC (Al (AC (AB 3) (AC (AB 4) (AC (Aj (hkj:=hk_Lwith) F_Lwith hr (AC (AB 5) (AC (AB 8) (AC A8 AH)))) AH)))) AH))) (A6 Od y_int Mi.Hy (AC (ED Rb (AB 11) (AB 9)) AH))))
      (AM (A2 (AY (FK hr) (Aj (hkj:=hk_claim_told) F_claim_told hr (AC (AB 0) (AC (AB 1) (AC (AB 8) (AC (AB 11) AH))))) (AB 7)) (AM (AV FB)) Af))))))))
      (AM (AV FB))))))
abbrev Cc:Stmt:=top 30
theorem sc_Llesser:Ad ["_law_claim", "_law_x", "_law_worth_here", "_law_coming", "_law_tells", "_law_found", "_law_k", "_law_may_here"] ["_law_claim", "_law_x"] (AF Cc):=⟨rfl,rfl,rfl,by decide +kernel,rfl,by decide +kernel,by decide +kernel⟩
theorem KM  {k:Nat} {f:Addr} (y_enumerate:mg "enumerate" = none) (y_tuple:mg "tuple" = none) (cdv:Value) (A:Around) (outer:List Env) (s:Shared) (H:Hp) (E:XK) (hr:Room k (A.deeper (PyProof.Rows.envOfC "_law_lesser" (AF Cc) s.heap.objs.size f cdv))) :
    RSs (Bl CX0 P w K mg base ["_law_claim", "_law_x", "_law_worth_here", "_law_coming", "_law_tells", "_law_found", "_law_k", "_law_may_here"] "_law_lesser" (AF Cc) f cdv A outer s H E).nox (AX Cc) (DM):=by
  have nd:=sc_Llesser.nd
  exact (AJ (Gb (AB 0) (Gc (is:=[2,3,4]) rfl (Ax (Ao (i:=2) nd rfl (by first | exact Or.inl rfl | exact Or.inr rfl)) (Ax (Ao (i:=3) nd rfl (by first | exact Or.inl rfl | exact Or.inr rfl)) (Ax (Ao (i:=4) nd rfl (by first | exact Or.inl rfl | exact Or.inr rfl)) DG)))))
      (AJ (AZ 5 nd (Ek AH))
      (AJ (Cy PassesOwn.never rfl (E8 y_enumerate (AC (AB 4) AH)) (Gc (is:=[6,7]) rfl (Ax (Ao (i:=6) nd rfl (by first | exact Or.inl rfl | exact Or.inr rfl)) (Ax (Ao (i:=7) nd rfl (by first | exact Or.inl rfl | exact Or.inr rfl)) DG))) (AJ (A2 (AY JU (AB 7) A8) (AM (AZ 7 nd (A6 CB y_tuple Mi.At (AC (LW (some _) (tgs:=["_law_j", "_law_one"]) (ix:=[6,1]) (is:=[0,1]) (n:=2)  ⟨rfl,by decide +kernel,by decide +kernel,⟨Or.inl rfl,Or.inl rfl,trivial⟩,rfl,by decide +kernel⟩ rfl (E8 y_enumerate (AC (AB 7) AH)) (fun _ _ _ _=>(Ax (Ao (i:=0) (show List.Nodup (["_law_j", "_law_one", "_law_k", "_law_x"]:List Str) from by decide +kernel) rfl (Or.inl rfl)) (Ax (Ao (i:=1) (show List.Nodup (["_law_j", "_law_one", "_law_k", "_law_x"]:List Str) from by decide +kernel) rfl (Or.inl rfl)) DG))) (fun _ _ _ _=>HK (AY (DT hr) (AR Bx (AR Ba (AB 3) (AR Ap (AR Ap AI (AB 0)) (AB 2))) AI) AI)) (fun _ _ _ _=>(AB 1))) AH)))) Af)
      (AM (Cm (CI PySem.F.slot_list_append PySem.F.type_list_append CL (AB 5) (AC (AB 7) AH))))))
      (AM (AV (Al (AC (AB 2) (AC (AB 3) (AC (A6 CB y_tuple Mi.At (AC (AB 5) AH)) AH)))))))))
abbrev HF:Stmt:=top 31
theorem sc_law:Ad ["_law_script", "_law_first", "_law_making_here", "_law_readers", "_law_state", "_law_claim", "_law_kept", "_law_cell", "_law_x", "_law_some"] ["_law_script"] (AF HF):=⟨rfl,rfl,rfl,by decide +kernel,rfl,by decide +kernel,by decide +kernel⟩
theorem QU {φ_Lcell_at:List D->M D} {k_Lcell_at:Nat} {φ_Lmaking:List D->M D} {k_Lmaking:Nat} {φ_claim_begun:List D->M D} {k_claim_begun:Nat} {φ_Ldue:List D->M D} {k_Ldue:Nat} {φ_Lstream:List D->M D} {k_Lstream:Nat} {φ_Llesser:List D->M D} {k_Llesser:Nat} {φ_Llesser_right:List D->M D} {k_Llesser_right:Nat} {φ_Lwriter:List D->M D} {k_Lwriter:Nat} {φ_Lreader:List D->M D} {k_Lreader:Nat} {k:Nat} {f:Addr} (F_Lcell_at:Fn P w K mg base "_law_cell_at" ["_law_script", "_law_k"] k_Lcell_at φ_Lcell_at) (hk_Lcell_at:k_Lcell_at <= k) (F_Lmaking:Fn P w K mg base "_law_making" ["_law_x", "_law_kind"] k_Lmaking φ_Lmaking) (hk_Lmaking:k_Lmaking <= k) (F_claim_begun:Fn P w K mg base "claim_begun" ["making"] k_claim_begun φ_claim_begun) (hk_claim_begun:k_claim_begun <= k) (F_Ldue:Fn P w K mg base "_law_due" ["_law_making_here", "_law_state"] k_Ldue φ_Ldue) (hk_Ldue:k_Ldue <= k) (F_Lstream:Fn P w K mg base "_law_stream" ["_law_cell", "_law_many"] k_Lstream φ_Lstream) (hk_Lstream:k_Lstream <= k) (F_Llesser:Fn P w K mg base "_law_lesser" ["_law_claim", "_law_x"] k_Llesser φ_Llesser) (hk_Llesser:k_Llesser <= k) (F_Llesser_right:Fn P w K mg base "_law_lesser_right" ["_law_making_here", "_law_claim", "_law_x"] k_Llesser_right φ_Llesser_right) (hk_Llesser_right:k_Llesser_right <= k) (F_Lwriter:Fn P w K mg base "_law_writer" ["_law_making_here", "_law_claim", "_law_state", "_law_x"] k_Lwriter φ_Lwriter) (hk_Lwriter:k_Lwriter <= k) (F_Lreader:Fn P w K mg base "_law_reader" ["_law_making_here", "_law_claim", "_law_state", "_law_k", "_law_x"] k_Lreader φ_Lreader) (hk_Lreader:k_Lreader <= k) (y_len:mg "len" = none) (y_tuple:mg "tuple" = none) (y_isinstance:mg "isinstance" = none) (cdv:Value) (A:Around) (outer:List Env) (s:Shared) (H:Hp) (E:XK) (hr:Room k (A.deeper (PyProof.Rows.envOfC "law" (AF HF) s.heap.objs.size f cdv))) :
    RSs (Bl CX0 P w K mg base ["_law_script", "_law_first", "_law_making_here", "_law_readers", "_law_state", "_law_claim", "_law_kept", "_law_cell", "_law_x", "_law_some"] "law" (AF HF) f cdv A outer s H E).nox (AX HF) (JZ φ_Lcell_at φ_Lmaking φ_claim_begun φ_Ldue φ_Lstream φ_Llesser φ_Llesser_right φ_Lwriter φ_Lreader):=by
  have nd:=sc_law.nd
  exact (AJ (AZ 1 nd (Aj (hkj:=hk_Lcell_at) F_Lcell_at hr (AC (AB 0) (AC AI AH))))
      (AJ (AZ 2 nd (Aj (hkj:=hk_Lmaking) F_Lmaking hr (AC (AR Ba (AB 1) AI) (AC (Ac Aw (B1 (AC AS (AC AS AH))) (AR Bx (AB 1) AI)) AH))))
      (AJ (AZ 3 nd (AR JR (CJ GO y_len Mi.Cg (AC (Ac Aw (AB 2) AI) AH)) AI))
      (AJ (AZ 4 nd (HJ (Du (Ac Aw (AB 2) AI) (Du (E9 FJ AI) (Du (AR Ls (B1 (AC A8 AH)) (AB 3)) LO)))))
      (AJ (AZ 5 nd (Aj (hkj:=hk_claim_begun) F_claim_begun hr (AC (AB 2) AH)))
      (AJ (AZ 6 nd (Ek AH))
      (AJ (Cy PassesOwn.never rfl (Dc (AR Ap (B1 (AC AI AH)) (De (AB 0) (CN AI) (CN AI)))) (Cn 7 nd) (AJ (A2 (RW.rt (ON (AY (FK hr) (AB 5) (Aj (hkj:=hk_Ldue) F_Ldue hr (AC (AB 2) (AC (AB 4) AH)))) (LL (LM (IM (CJ Px y_isinstance Mi.Eg (AC (AB 5) (AC (NM y_tuple Mi.At) AH)))))))) (AM (AV FB)) Af)
      (AJ (Cm (CI PySem.F.slot_list_append PySem.F.type_list_append CL (AB 6) (AC (Al (AC (AB 5) (AC (Aj (hkj:=hk_Ldue) F_Ldue hr (AC (AB 2) (AC (AB 4) AH))) AH))) AH)))
      (AJ (AZ 8 nd (Ac Aw (Aj (hkj:=hk_Lstream) F_Lstream hr (AC (AB 7) (AC AI AH))) AI))
      (AJ (Cy PassesOwn.never rfl (Dc (Al (AC (AB 5) (AC (Aj (hkj:=hk_Llesser) F_Llesser hr (AC (AB 5) (AC (AB 8) AH))) AH)))) (Cn 9 nd) (AM (A2 (LM (IM (Aj (hkj:=hk_Llesser_right) F_Llesser_right hr (AC (AB 2) (AC (AB 9) (AC (AR Ba (AB 8) AI) AH)))))) (AM (AV FB)) Af)))
      (AM (A2 (RW.rt (ON (AY (DT hr) (AR Bx (AB 8) (AR Ap AI (AB 3))) AI) (LL (AY (DT hr) (AR Bx (AR Ba (AB 8) AI) AI) AI)))) (AM (AZ 5 nd (Aj (hkj:=hk_Lwriter) F_Lwriter hr (AC (AB 2) (AC (AB 5) (AC (AB 4) (AC (AR Ba (AB 8) AI) AH))))))) (AM (AZ 5 nd (Aj (hkj:=hk_Lreader) F_Lreader hr (AC (AB 2) (AC (AB 5) (AC (AB 4) (AC (AR JR (AR Bx (AB 8) (AR Ap AI (AB 3))) AI) (AC (AR Ba (AB 8) AI) AH)))))))))))))))
      (AM (AV (Oy (ED (DT hr) (AB 5) (Aj (hkj:=hk_Ldue) F_Ldue hr (AC (AB 2) (AC (AB 4) AH)))) (Ox (ED (DT hr) (KF (some _) (tgs:=["_law_one", "_law_due_here"]) (ix:=[]) (is:=[0,1]) (n:=2)  (by wtm_at "own qpu") (by wtm_at "own qpu") ⟨rfl,by decide +kernel,by decide +kernel,trivial,rfl,by decide +kernel⟩ rfl (Ow (AB 6)) (fun _ _ _ _=>(Ax (Ao (i:=0) (show List.Nodup (["_law_one", "_law_due_here"]:List Str) from by decide +kernel) rfl (Or.inl rfl)) (Ax (Ao (i:=1) (show List.Nodup (["_law_one", "_law_due_here"]:List Str) from by decide +kernel) rfl (Or.inl rfl)) DG))) (fun _ _ _ _=>HK (AY (FK hr) (AB 0) (AB 1))) (fun _ _ _ _=>(AB 0))) (B1 AH)))))))))))))
end
end K11
namespace K11
open PySem L2 Mi K13
noncomputable def FW:List D->M D:=A3 .drop 3 2 (Gm)
noncomputable def FX:List D->M D:=A3 .drop 5 2 (Gn FW)
noncomputable def DQ:List D->M D:=A3 .drop 8 2 (DM)
noncomputable def DP:List D->M D:=A3 .drop 3 3 (Em)
noncomputable def DN:List D->M D:=A3 .drop 3 3 (El)
noncomputable def BW:List D->M D:=A3 .drop 12 3 (BV DP BM BF BT DN BP)
noncomputable def CC:List D->M D:=A3 .drop 5 4 (DI BM BF)
noncomputable def CD:List D->M D:=A3 .all 9 5 (DK BT FW BP)
noncomputable def MS:List D->M D:=A3 .drop 10 1 (JZ Dm ES CQ FX DO DQ BW CC CD)
end K11
namespace K11
open PySem L2 Mi K13
theorem P0 {l:PySem.W.OpenLaw} {w:World} {K:PySem.W.Frag} {h:Heap} {mg:Str->Option Value} {fa:Addr} (hφ:∀ ns:List Int,ns.length <= 63->∃ μ',MS [.scr ns] []=some (.bl true,μ')) (X:K.In h) (G:h.Ns mainGlobals mg) (hfa:mg "law" = some (.ref fa))
    (e_Lcell_at:∃ f fd,Df K "_law_cell_at" CG f fd)
    (e_Lmaking:∃ f fd,Df K "_law_making" Cb f fd)
    (e_claim_begun:∃ f fd,Df K "claim_begun" BS f fd)
    (e_Lmay:∃ f fd,Df K "_law_may" Ez f fd)
    (e_Ldue:∃ f fd,Df K "_law_due" E6 f fd)
    (e_Lstream:∃ f fd,Df K "_law_stream" CZ f fd)
    (e_Llesser:∃ f fd,Df K "_law_lesser" Cc f fd)
    (e_Lmore:∃ f fd,Df K "_law_more" Dt f fd)
    (e_case_begun:∃ f fd,Df K "case_begun" GZ f fd)
    (e_closed:∃ f fd,Df K "closed" LJ f fd)
    (e_beside:∃ f fd,Df K "beside" Cw f fd)
    (e_claim_writes:∃ f fd,Df K "claim_writes" BK f fd)
    (e_cases_ended:∃ f fd,Df K "cases_ended" Fo f fd)
    (e_claim_written:∃ f fd,Df K "claim_written" BC f fd)
    (e_with_thing:∃ f fd,Df K "with_thing" Bi f fd)
    (e_claim_reads:∃ f fd,Df K "claim_reads" BR f fd)
    (e_Lwith:∃ f fd,Df K "_law_with" Ds f fd)
    (e_claim_told:∃ f fd,Df K "claim_told" Bj f fd)
    (e_Llesser_right:∃ f fd,Df K "_law_lesser_right" BD f fd)
    (e_Lwriter:∃ f fd,Df K "_law_writer" CY f fd)
    (e_Lreader:∃ f fd,Df K "_law_reader" Ca f fd)
    (e_law:∃ f fd,Df K "law" HF f fd)
    (z_enumerate:PySem.W.nsIn K mainGlobals "enumerate" = some none)
    (z_int:PySem.W.nsIn K mainGlobals "int" = some none)
    (z_isinstance:PySem.W.nsIn K mainGlobals "isinstance" = some none)
    (z_len:PySem.W.nsIn K mainGlobals "len" = some none)
    (z_range:PySem.W.nsIn K mainGlobals "range" = some none)
    (z_set:PySem.W.nsIn K mainGlobals "set" = some none)
    (z_sorted:PySem.W.nsIn K mainGlobals "sorted" = some none)
    (z_tuple:PySem.W.nsIn K mainGlobals "tuple" = some none)
    (g_NONE:Glo K mg "NONE" B3) :
    ∃ fd:FuncData,(∀ (s:Shared) (v:Value),BindsTo s fd ⟨[v],[]⟩ [("_law_script",v)]) /\ ∀ base:Heap,K.In base->base.Ns mainGlobals mg->FnOk l.prog w K mg base CX0 4 fa fd ["_law_script"] (JJ K):=by
  have y_enumerate:=PySem.W.mg_none_of X G z_enumerate
  have y_int:=PySem.W.mg_none_of X G z_int
  have y_isinstance:=PySem.W.mg_none_of X G z_isinstance
  have y_len:=PySem.W.mg_none_of X G z_len
  have y_range:=PySem.W.mg_none_of X G z_range
  have y_set:=PySem.W.mg_none_of X G z_set
  have y_sorted:=PySem.W.mg_none_of X G z_sorted
  have y_tuple:=PySem.W.mg_none_of X G z_tuple
  obtain ⟨fa_Lcell_at,fd_Lcell_at,d_Lcell_at⟩:=e_Lcell_at
  have Co:=PySem.W.mg_of X G d_Lcell_at.a
  have b_Lcell_at:=d_Lcell_at.F.binds (ps:=["_law_script", "_law_k"]) fun _ _ _ _ _ _ us hl=>match us,hl with | [_,_],_=>rfl
  obtain ⟨fa_Lmaking,fd_Lmaking,d_Lmaking⟩:=e_Lmaking
  have DL:=PySem.W.mg_of X G d_Lmaking.a
  have b_Lmaking:=d_Lmaking.F.binds (ps:=["_law_x", "_law_kind"]) fun _ _ _ _ _ _ us hl=>match us,hl with | [_,_],_=>rfl
  obtain ⟨fa_claim_begun,fd_claim_begun,d_claim_begun⟩:=e_claim_begun
  have Bu:=PySem.W.mg_of X G d_claim_begun.a
  have b_claim_begun:=d_claim_begun.F.binds (ps:=["making"]) fun _ _ _ _ _ _ us hl=>match us,hl with | [_],_=>rfl
  obtain ⟨fa_Lmay,fd_Lmay,d_Lmay⟩:=e_Lmay
  have Gm:=PySem.W.mg_of X G d_Lmay.a
  have b_Lmay:=d_Lmay.F.binds (ps:=["_law_making_here", "_law_record"]) fun _ _ _ _ _ _ us hl=>match us,hl with | [_,_],_=>rfl
  obtain ⟨fa_Ldue,fd_Ldue,d_Ldue⟩:=e_Ldue
  have Gn:=PySem.W.mg_of X G d_Ldue.a
  have b_Ldue:=d_Ldue.F.binds (ps:=["_law_making_here", "_law_state"]) fun _ _ _ _ _ _ us hl=>match us,hl with | [_,_],_=>rfl
  obtain ⟨fa_Lstream,fd_Lstream,d_Lstream⟩:=e_Lstream
  have DJ:=PySem.W.mg_of X G d_Lstream.a
  have b_Lstream:=d_Lstream.F.binds (ps:=["_law_cell", "_law_many"]) fun _ _ _ _ _ _ us hl=>match us,hl with | [_,_],_=>rfl
  obtain ⟨fa_Llesser,fd_Llesser,d_Llesser⟩:=e_Llesser
  have DM:=PySem.W.mg_of X G d_Llesser.a
  have b_Llesser:=d_Llesser.F.binds (ps:=["_law_claim", "_law_x"]) fun _ _ _ _ _ _ us hl=>match us,hl with | [_,_],_=>rfl
  obtain ⟨fa_Lmore,fd_Lmore,d_Lmore⟩:=e_Lmore
  have Em:=PySem.W.mg_of X G d_Lmore.a
  have b_Lmore:=d_Lmore.F.binds (ps:=["_law_making_here", "_law_may_here", "_law_worth_here"]) fun _ _ _ _ _ _ us hl=>match us,hl with | [_,_,_],_=>rfl
  obtain ⟨fa_case_begun,fd_case_begun,d_case_begun⟩:=e_case_begun
  have m_case_begun:=PySem.W.mg_of X G d_case_begun.a
  have b_case_begun:=d_case_begun.F.binds (ps:=["case", "hand", "worth"]) fun _ _ _ _ _ _ us hl=>match us,hl with | [_,_,_],_=>rfl
  obtain ⟨fa_closed,fd_closed,d_closed⟩:=e_closed
  have m_closed:=PySem.W.mg_of X G d_closed.a
  have b_closed:=d_closed.F.binds (ps:=["cases"]) fun _ _ _ _ _ _ us hl=>match us,hl with | [_],_=>rfl
  obtain ⟨fa_beside,fd_beside,d_beside⟩:=e_beside
  have Dx:=PySem.W.mg_of X G d_beside.a
  have b_beside:=d_beside.F.binds (ps:=["kind", "size", "worths", "coming"]) fun _ _ _ _ _ _ us hl=>match us,hl with | [_,_,_,_],_=>rfl
  obtain ⟨fa_claim_writes,fd_claim_writes,d_claim_writes⟩:=e_claim_writes
  have Bk:=PySem.W.mg_of X G d_claim_writes.a
  have b_claim_writes:=d_claim_writes.F.binds (ps:=["making", "claim", "worth"]) fun _ _ _ _ _ _ us hl=>match us,hl with | [_,_,_],_=>rfl
  obtain ⟨fa_cases_ended,fd_cases_ended,d_cases_ended⟩:=e_cases_ended
  have m_cases_ended:=PySem.W.mg_of X G d_cases_ended.a
  have b_cases_ended:=d_cases_ended.F.binds (ps:=["cases", "hand", "worth"]) fun _ _ _ _ _ _ us hl=>match us,hl with | [_,_,_],_=>rfl
  obtain ⟨fa_claim_written,fd_claim_written,d_claim_written⟩:=e_claim_written
  have BU:=PySem.W.mg_of X G d_claim_written.a
  have b_claim_written:=d_claim_written.F.binds (ps:=["making", "claim"]) fun _ _ _ _ _ _ us hl=>match us,hl with | [_,_],_=>rfl
  obtain ⟨fa_with_thing,fd_with_thing,d_with_thing⟩:=e_with_thing
  have B7:=PySem.W.mg_of X G d_with_thing.a
  have b_with_thing:=d_with_thing.F.binds (ps:=["things", "place", "thing"]) fun _ _ _ _ _ _ us hl=>match us,hl with | [_,_,_],_=>rfl
  obtain ⟨fa_claim_reads,fd_claim_reads,d_claim_reads⟩:=e_claim_reads
  have Bt:=PySem.W.mg_of X G d_claim_reads.a
  have b_claim_reads:=d_claim_reads.F.binds (ps:=["making", "claim", "reader"]) fun _ _ _ _ _ _ us hl=>match us,hl with | [_,_,_],_=>rfl
  obtain ⟨fa_Lwith,fd_Lwith,d_Lwith⟩:=e_Lwith
  have El:=PySem.W.mg_of X G d_Lwith.a
  have b_Lwith:=d_Lwith.F.binds (ps:=["_law_tells", "_law_k", "_law_thing"]) fun _ _ _ _ _ _ us hl=>match us,hl with | [_,_,_],_=>rfl
  obtain ⟨fa_claim_told,fd_claim_told,d_claim_told⟩:=e_claim_told
  have B8:=PySem.W.mg_of X G d_claim_told.a
  have b_claim_told:=d_claim_told.F.binds (ps:=["making", "claim", "reader", "worth"]) fun _ _ _ _ _ _ us hl=>match us,hl with | [_,_,_,_],_=>rfl
  obtain ⟨fa_Llesser_right,fd_Llesser_right,d_Llesser_right⟩:=e_Llesser_right
  have BV:=PySem.W.mg_of X G d_Llesser_right.a
  have b_Llesser_right:=d_Llesser_right.F.binds (ps:=["_law_making_here", "_law_claim", "_law_x"]) fun _ _ _ _ _ _ us hl=>match us,hl with | [_,_,_],_=>rfl
  obtain ⟨fa_Lwriter,fd_Lwriter,d_Lwriter⟩:=e_Lwriter
  have DI:=PySem.W.mg_of X G d_Lwriter.a
  have b_Lwriter:=d_Lwriter.F.binds (ps:=["_law_making_here", "_law_claim", "_law_state", "_law_x"]) fun _ _ _ _ _ _ us hl=>match us,hl with | [_,_,_,_],_=>rfl
  obtain ⟨fa_Lreader,fd_Lreader,d_Lreader⟩:=e_Lreader
  have DK:=PySem.W.mg_of X G d_Lreader.a
  have b_Lreader:=d_Lreader.F.binds (ps:=["_law_making_here", "_law_claim", "_law_state", "_law_k", "_law_x"]) fun _ _ _ _ _ _ us hl=>match us,hl with | [_,_,_,_,_],_=>rfl
  obtain ⟨fa_law,fd_law,d_law⟩:=e_law
  have JZ:=PySem.W.mg_of X G d_law.a
  have b_law:=d_law.F.binds (ps:=["_law_script"]) fun _ _ _ _ _ _ us hl=>match us,hl with | [_],_=>rfl
  have e:=hfa.symm.trans JZ
  cases e
  refine ⟨fd_law,fun s v=>?_,fun base _ _=>?_⟩
  . obtain ⟨oc,od,kV,doc,pm,an,cdv,ct,osl,rfl,lk,hcd⟩:=d_law.F.ex
    exact .of_eq rfl
  have F_Lcell_at:Fn l.prog w K mg base "_law_cell_at" ["_law_script", "_law_k"] 1 Dm:=Av (k:=0) .drop d_Lcell_at.F sc_Lcell_at Co b_Lcell_at (IR y_len)
  have F_Lmaking:Fn l.prog w K mg base "_law_making" ["_law_x", "_law_kind"] 1 ES:=Av (k:=0) .drop d_Lmaking.F sc_Lmaking DL b_Lmaking (KL y_tuple)
  have F_claim_begun:Fn l.prog w K mg base "claim_begun" ["making"] 1 CQ:=Av (k:=0) .drop d_claim_begun.F sc_claim_begun Bu b_claim_begun (Fs y_len g_NONE)
  have F_Lmay:Fn l.prog w K mg base "_law_may" ["_law_making_here", "_law_record"] 1 FW:=Av (k:=0) .drop d_Lmay.F sc_Lmay Gm b_Lmay (Oz y_tuple y_range y_sorted y_set)
  have F_Ldue:Fn l.prog w K mg base "_law_due" ["_law_making_here", "_law_state"] 2 FX:=Av (k:=1) .drop d_Ldue.F sc_Ldue Gn b_Ldue (O0 F_Lmay (by decide) y_range y_len y_tuple)
  have F_Lstream:Fn l.prog w K mg base "_law_stream" ["_law_cell", "_law_many"] 1 DO:=Av (k:=0) .drop d_Lstream.F sc_Lstream DJ b_Lstream (KJ y_len y_range)
  have F_Llesser:Fn l.prog w K mg base "_law_lesser" ["_law_claim", "_law_x"] 1 DQ:=Av (k:=0) .drop d_Llesser.F sc_Llesser DM b_Llesser (KM y_enumerate y_tuple)
  have F_Lmore:Fn l.prog w K mg base "_law_more" ["_law_making_here", "_law_may_here", "_law_worth_here"] 1 DP:=Av (k:=0) .drop d_Lmore.F sc_Lmore Em b_Lmore (NO y_tuple y_range y_sorted y_set)
  have F_case_begun:Fn l.prog w K mg base "case_begun" ["case", "hand", "worth"] 1 Cr:=FT d_case_begun.F m_case_begun b_case_begun
  have F_closed:Fn l.prog w K mg base "closed" ["cases"] 1 C5:=FT d_closed.F m_closed b_closed
  have F_beside:Fn l.prog w K mg base "beside" ["kind", "size", "worths", "coming"] 1 C6:=Av (k:=0) .drop d_beside.F sc_beside Dx b_beside (LY y_tuple y_range y_sorted y_set)
  have F_claim_writes:Fn l.prog w K mg base "claim_writes" ["making", "claim", "worth"] 2 BM:=Av (k:=1) .drop d_claim_writes.F sc_claim_writes Bk b_claim_writes (FC F_case_begun (by decide) F_closed (by decide) F_beside (by decide) y_tuple)
  have F_cases_ended:Fn l.prog w K mg base "cases_ended" ["cases", "hand", "worth"] 1 CS:=FT d_cases_ended.F m_cases_ended b_cases_ended
  have F_claim_written:Fn l.prog w K mg base "claim_written" ["making", "claim"] 2 BF:=Av (k:=1) .drop d_claim_written.F sc_claim_written BU b_claim_written (Ed F_cases_ended (by decide) F_closed (by decide) g_NONE)
  have F_with_thing:Fn l.prog w K mg base "with_thing" ["things", "place", "thing"] 1 BO:=Av (k:=0) .drop d_with_thing.F sc_with_thing B7 b_with_thing Ge
  have F_claim_reads:Fn l.prog w K mg base "claim_reads" ["making", "claim", "reader"] 2 BT:=Av (k:=1) .drop d_claim_reads.F sc_claim_reads Bt b_claim_reads (Fq F_case_begun (by decide) F_closed (by decide) F_beside (by decide) F_with_thing (by decide) g_NONE)
  have F_Lwith:Fn l.prog w K mg base "_law_with" ["_law_tells", "_law_k", "_law_thing"] 1 DN:=Av (k:=0) .drop d_Lwith.F sc_Lwith El b_Lwith NN
  have F_claim_told:Fn l.prog w K mg base "claim_told" ["making", "claim", "reader", "worth"] 2 BP:=Av (k:=1) .drop d_claim_told.F sc_claim_told B8 b_claim_told (Gf F_cases_ended (by decide) F_closed (by decide) F_with_thing (by decide))
  have F_Llesser_right:Fn l.prog w K mg base "_law_lesser_right" ["_law_making_here", "_law_claim", "_law_x"] 3 BW:=Av (k:=2) .drop d_Llesser_right.F sc_Llesser_right BV b_Llesser_right (Ee F_Lmore (by decide) F_claim_writes (by decide) F_claim_written (by decide) F_claim_reads (by decide) F_Lwith (by decide) F_claim_told (by decide) y_tuple y_enumerate y_range y_int)
  have F_Lwriter:Fn l.prog w K mg base "_law_writer" ["_law_making_here", "_law_claim", "_law_state", "_law_x"] 3 CC:=Av (k:=2) .drop d_Lwriter.F sc_Lwriter DI b_Lwriter (KI F_claim_writes (by decide) F_claim_written (by decide))
  have F_Lreader:Fn l.prog w K mg base "_law_reader" ["_law_making_here", "_law_claim", "_law_state", "_law_k", "_law_x"] 3 CD:=Av (k:=2) .all d_Lreader.F sc_Lreader DK b_Lreader (KK F_claim_reads (by decide) F_Lmay (by decide) F_claim_told (by decide) y_int y_range y_len)
  exact Oj (φ:=MS) (MP (k:=3) .drop d_law.F sc_law (QU F_Lcell_at (by decide) F_Lmaking (by decide) F_claim_begun (by decide) F_Ldue (by decide) F_Lstream (by decide) F_Llesser (by decide) F_Llesser_right (by decide) F_Lwriter (by decide) F_Lreader (by decide) y_len y_tuple y_isinstance)) hφ
end K11
namespace Mi
open PySem L2
section
variable {τ τ1 τ2:Sl} {μ μ1 μ2 μ3 μ4:Mh} {d x y z:D} {ds:List D} {ma mb mc me:Sl->M D} {tc tb:Sl->M Bool} {b:Bool} {m1 m2:Sl->M (Fl × Sl)} {g g':D->D->M D} {r:Fl × Sl}
theorem BX {i:Nat} (h:τ[i]? = some (some d)):AA i τ μ=some (d,μ):=by unfold AA; rw [h]
theorem FY (h1:ma τ μ=some (x,μ1)) (h2:mb τ μ1=some (y,μ2)) (h3:g x y μ2=some (d,μ3)):mOp g ma mb τ μ=some (d,μ3):=by unfold mOp; rw [AL h1,AL h2,h3]
theorem Jr {u:D->M D} (h1:ma τ μ=some (x,μ1)) (h3:u x μ1=some (d,μ3)):mUn u ma τ μ=some (d,μ3):=by unfold mUn; rw [AL h1,h3]
theorem Ce {as:Sl->M (List D)} (h1:ma τ μ=some (x,μ1)) (h2:as τ μ1=some (ds,μ2)):AD ma as τ μ=some (x :: ds,μ2):=by unfold AD; rw [AL h1,AL h2]; rfl
theorem BI {f:List D->M D} {as:Sl->M (List D)} (h1:as τ μ=some (ds,μ1)) (h2:f ds μ1=some (d,μ2)):AG f as τ μ=some (d,μ2):=by unfold AG; rw [AL h1,h2]
theorem Ep {f:D->List D->M D} {as:Sl->M (List D)} {u:Unit} (h1:ma τ μ=some (x,μ1)) (h0:EM x μ1=some (u,μ2)) (h2:as τ μ2=some (ds,μ3)) (h3:f x ds μ3=some (d,μ4)):BG f ma as τ μ=some (d,μ4):=by unfold BG; rw [AL h1,AL h0,AL h2,h3]
theorem AQ (h:ma τ μ=some (.bl b,μ1)):AN ma τ μ=some (b,μ1):=by unfold AN; rw [AL h]; rfl
theorem MV (h:tc τ μ=some (b,μ1)):IY tc τ μ=some (!b,μ1):=by unfold IY; rw [AL h]; rfl
theorem CA (h1:tc τ μ=some (true,μ1)) (h2:tb τ μ1=some (b,μ2)):Fv tc tb τ μ=some (b,μ2):=by unfold Fv; rw [AL h1,if_pos rfl,h2]
theorem D3 (h1:tc τ μ=some (false,μ1)):Fv tc tb τ μ=some (false,μ1):=by unfold Fv; rw [AL h1]; rfl
theorem MU (h1:tc τ μ=some (true,μ1)):mOr tc tb τ μ=some (true,μ1):=by unfold mOr; rw [AL h1]; rfl
theorem Ii (h1:tc τ μ=some (false,μ1)) (h2:tb τ μ1=some (b,μ2)):mOr tc tb τ μ=some (b,μ2):=by unfold mOr; rw [AL h1,if_neg (by decide),h2]
theorem Hf (h1:ma τ μ=some (.bl true,μ1)) (h2:mb τ μ1=some (d,μ2)):Jb ma mb τ μ=some (d,μ2):=by
  unfold Jb; rw [AL h1,AL (show asB (.bl true) μ1=some (true,μ1) from rfl),if_pos rfl,h2]
theorem AT (h1:m1 τ μ=some ((.next,τ1),μ1)) (h2:m2 τ1 μ1=some (r,μ2)):AU m1 m2 τ μ=some (r,μ2):=by unfold AU; rw [AL h1]; exact h2
theorem B9 (h1:m1 τ μ=some ((.rt d,τ1),μ1)):AU m1 m2 τ μ=some ((.rt d,τ1),μ1):=by unfold AU; rw [AL h1]; rfl
theorem Er (h1:ma τ μ=some (d,μ1)):Bw ma τ μ=some ((.next,τ),μ1):=by unfold Bw; rw [AL h1]; rfl
theorem B2 (h1:ma τ μ=some (d,μ1)):An ma τ μ=some ((.rt d,τ),μ1):=by unfold An; rw [AL h1]; rfl
theorem Cs (h1:tc τ μ=some (true,μ1)) (h2:m1 τ μ1=some (r,μ2)):sIf tc m1 m2 τ μ=some (r,μ2):=by unfold sIf; rw [AL h1,if_pos rfl,h2]
theorem ET (h1:tc τ μ=some (false,μ1)) (h2:m2 τ μ1=some (r,μ2)):sIf tc m1 m2 τ μ=some (r,μ2):=by unfold sIf; rw [AL h1,if_neg (by decide),h2]
theorem Be {bf:D->Sl->M Sl} (h1:ma τ μ=some (d,μ1)) (h2:bf d τ μ1=some (τ1,μ2)):Ah ma bf τ μ=some ((.next,τ1),μ2):=by unfold Ah; rw [AL h1,AL h2]; rfl
theorem Ih {u:Unit} (h1:ma τ μ=some (x,μ1)) (h2:mb τ μ1=some (y,μ2)) (h3:LI x y d μ2=some (u,μ3)):Mv ma mb d τ μ=some (τ,μ3):=by unfold Mv; rw [AL h1,AL h2,AL h3]; rfl
theorem C7 {src:Sl->M (List D)} {bf:D->Sl->M Sl} (h1:src τ μ=some (ds,μ1)) (h2:Cd bf m1 ds τ μ1=some (r,μ2)):EB src bf m1 τ μ=some (r,μ2):=by unfold EB; rw [AL h1,h2]
theorem Bz {i j:Int} (h:0 < j):Ak (.int i) (.int j) μ=some (.int (i % j),μ):=by show (if 0 < j then some (D.int (i % j),μ) else none)=_; rw [if_pos h]
theorem Bc {i j:Int} (h:0 < j) (h2:j < 1073741824):Ae (.int i) (.int j) μ=some (.int (i / j),μ):=by show (if 0 < j /\ j < 1073741824 then some (D.int (i / j),μ) else none)=_; rw [if_pos ⟨h,h2⟩]
theorem Jf {i j:Int} (h:(-(2 ^ 64) < i /\ i < 2 ^ 64) ∨ (-(2 ^ 64) < j /\ j < 2 ^ 64)):FE (.int i) (.int j) μ=some (.int (i * j),μ):=by show (if (-(2 ^ 64) < i /\ i < 2 ^ 64) ∨ (-(2 ^ 64) < j /\ j < 2 ^ 64) then some (D.int (i * j),μ) else none)=_; rw [if_pos h]
theorem F8 {ds:List D}:HX [.tup ds,.ty "tuple"] μ=some (.bl true,μ):=by
  show (GB "tuple" "tuple").map (fun b=>(D.bl b,μ))=_; rw [show GB "tuple" "tuple" = some true from by decide]; rfl
theorem En {n:Nat} {ds:List D} {i:Int} (h:μ[n]? = some (.lst ds)) (h2:atI ds i=some d):Ab (.ref n) (.int i) μ=some (d,μ):=by
  show bnd (BQ (.ref n)) (fun ds=>ixD ds i) μ=_
  rw [AL (show BQ (.ref n) μ=some (ds,μ) from by show (match μ[n]? with | some (.lst ds)=>some (ds,μ) | _=>none)=_; rw [h])]
  unfold ixD; rw [h2]; rfl
theorem MC {ds:List D} {i:Int} (h2:atI ds i=some d):Ab (.tup ds) (.int i) μ=some (d,μ):=by
  show bnd (BQ (.tup ds)) (fun ds=>ixD ds i) μ=_
  rw [AL (show BQ (.tup ds) μ=some (ds,μ) from rfl)]
  unfold ixD; rw [h2]; rfl
theorem Jg {ds:List D} {i:Int} (h2:atI ds i=some d):Ab (.lst ds) (.int i) μ=some (d,μ):=by
  show bnd (BQ (.lst ds)) (fun ds=>ixD ds i) μ=_
  rw [AL (show BQ (.lst ds) μ=some (ds,μ) from rfl)]
  unfold ixD; rw [h2]; rfl
theorem L9 {n j:Nat} {k:Int} {ds:List D} (h:μ[n]? = some (.lst ds)) (h2:ixN ds.length k=some j):LI (.ref n) (.int k) d μ=some ((),μ.set n (.lst (ds.set j d))):=by
  show (match μ[n]? with | some (.lst ds)=>(ixN ds.length k).map fun j=>((),μ.set n (.lst (ds.set j d))) | _=>none)=_
  rw [h]; show (ixN ds.length k).map _=_; rw [h2]; rfl
end
end Mi
local macro_rules | `(tactic| wtm_at "own qleaf")=>`(tactic| first | rfl | assumption)
local macro_rules | `(tactic| wtm_at "own qev")=>`(tactic| first
  | (with_reducible apply Mi.ev_nil) | (with_reducible apply Mi.ev_nilA) | (with_reducible apply Mi.ev_c) | (with_reducible apply Mi.ev_noPart) | (with_reducible apply Mi.ev_retN)
  | ((with_reducible apply Mi.BX); first | rfl | assumption)
  | ((with_reducible apply Mi.B9); wtm_at "own qev")
  | ((with_reducible apply Mi.AT); (wtm_at "own qev"); (wtm_at "own qev"))
  | ((with_reducible apply Mi.Be); (wtm_at "own qev"); (wtm_at "own qev"))
  | ((with_reducible apply Mi.ev_name); rfl)
  | ((with_reducible apply Mi.Ih); (wtm_at "own qev"); (wtm_at "own qev"); (wtm_at "own qev"))
  | ((with_reducible apply Mi.Er); wtm_at "own qev")
  | ((with_reducible apply Mi.B2); wtm_at "own qev")
  | ((with_reducible apply Mi.Cs); (wtm_at "own qev"); (wtm_at "own qev"))
  | ((with_reducible apply Mi.ET); (wtm_at "own qev"); (wtm_at "own qev"))
  | ((with_reducible apply Mi.FY); (wtm_at "own qev"); (wtm_at "own qev"); (wtm_at "own qev"))
  | ((with_reducible apply Mi.Jr); (wtm_at "own qev"); (wtm_at "own qev"))
  | ((with_reducible apply Mi.BI); (wtm_at "own qev"); (wtm_at "own qev"))
  | ((with_reducible apply Mi.Ce); (wtm_at "own qev"); (wtm_at "own qev"))
  | ((with_reducible apply Mi.Ep); (wtm_at "own qev"); (wtm_at "own qev"); (wtm_at "own qev"); (wtm_at "own qev"))
  | ((with_reducible apply Mi.AQ); wtm_at "own qev")
  | ((with_reducible apply Mi.ev_notT); wtm_at "own qev")
  | ((with_reducible apply Mi.ev_notF); wtm_at "own qev")
  | ((with_reducible apply Mi.CA); (wtm_at "own qev"); (wtm_at "own qev"))
  | ((with_reducible apply Mi.D3); wtm_at "own qev")
  | ((with_reducible apply Mi.Ii); (wtm_at "own qev"); (wtm_at "own qev"))
  | ((with_reducible apply Mi.MU); wtm_at "own qev")
  | ((with_reducible apply Mi.Hf); (wtm_at "own qev"); (wtm_at "own qev"))
  | ((with_reducible apply Mi.ev_andVF); wtm_at "own qev")
  | ((with_reducible apply Mi.ev_orVF); (wtm_at "own qev"); (wtm_at "own qev"))
  | ((with_reducible apply Mi.ev_orVT); wtm_at "own qev")
  | ((with_reducible apply Mi.ev_notVT); wtm_at "own qev")
  | ((with_reducible apply Mi.ev_notVF); wtm_at "own qev")
  | ((with_reducible apply Mi.ev_chainT); (wtm_at "own qev"); (wtm_at "own qev"); (wtm_at "own qev"); (wtm_at "own qev"); (wtm_at "own qev"))
  | ((with_reducible apply Mi.ev_chainF); (wtm_at "own qev"); (wtm_at "own qev"); (wtm_at "own qev"))
  | ((with_reducible apply Mi.ev_part); wtm_at "own qev")
  | ((with_reducible apply Mi.ev_sl); (wtm_at "own qev"); (wtm_at "own qev"); (wtm_at "own qev"); (wtm_at "own qev"))
  | wtm_at "own qleaf")
local macro_rules | `(tactic| wtm_at "own qnums")=>`(tactic| first | assumption | decide | omega)
local macro_rules | `(tactic| wtm_at "own qleaf")=>`(tactic| first
  | ((with_reducible apply Mi.l_le); wtm_at "own qnums") | ((with_reducible apply Mi.l_leF); wtm_at "own qnums") | ((with_reducible apply Mi.l_lt); wtm_at "own qnums") | ((with_reducible apply Mi.l_ltF); wtm_at "own qnums") | ((with_reducible apply Mi.l_gt); wtm_at "own qnums") | ((with_reducible apply Mi.l_gtF); wtm_at "own qnums")
  | (with_reducible apply Mi.l_inst_ii) | (with_reducible apply Mi.l_inst_ib) | (with_reducible apply Mi.l_inst_ss) | (with_reducible apply Mi.F8) | (with_reducible apply Mi.l_add) | (with_reducible apply Mi.l_sub) | ((with_reducible apply Mi.Bz); wtm_at "own qnums") | ((with_reducible apply Mi.Bc); (wtm_at "own qnums"); (wtm_at "own qnums")) | ((with_reducible apply Mi.Jf); first | (left; omega) | (right; omega))
  | ((with_reducible apply Mi.MC); rfl) | ((with_reducible apply Mi.Jg); rfl) | ((with_reducible apply Mi.En); (first | assumption | rfl); (rfl)) | ((with_reducible apply Mi.L9); (first | assumption | rfl); (rfl)))
set_option maxHeartbeats 4000000
namespace K13
open PySem L2 Mi Ht
def kdS:Bool->Str
  | true => "safe"
  | false => "steady"
def hdD (n:Str):D:=.tup [.str n,.int 0,.tup []]
def mkD (sf:Bool) (sz bg:Int) (ns:List Str):D:=.tup [.str (kdS sf),.int sz,.int bg,.tup [],.tup (ns.map hdD)]
def tD:Option (List Int)->D
  | none=>.non
  | some l=>.tup (l.map D.int)
def clD (w c:Int) (ts:List (Option (List Int))):D:=.tup [.int w,.int c,.tup (ts.map tD)]
def Fu (n:Nat):List Int:=(List.range n).map Int.ofNat
def bsd (sf:Bool) (sz:Int) (l:List Int) (v:Int):List Int:=if sf then Fu sz.toNat else srt (l ++ [v])
theorem Bv {α:Type} {f:α->D} {k:Nat} (h:∀ a,Cl k (f a)):∀ xs:List α,ClL k (xs.map f)
  | []=>by unfold ClL; trivial
  | x :: xs=>by
    rw [List.map_cons]
    unfold ClL
    exact ⟨h x,Bv h xs⟩
theorem C8 (k:Nat) (i:Int):Cl k (.int i):=by unfold Cl; trivial
theorem Ea (k:Nat):∀ t,Cl k (tD t)
  | none=>by unfold tD Cl; trivial
  | some l=>by unfold tD Cl; exact Bv (C8 k) l
theorem CM (k:Nat) (w c:Int) (ts:List (Option (List Int))):Cl k (clD w c ts):=by
  unfold clD Cl ClL
  refine ⟨C8 _ _,?_⟩
  unfold ClL
  refine ⟨C8 _ _,?_⟩
  unfold ClL
  refine ⟨by unfold Cl; exact Bv (Ea k) ts,by unfold ClL; trivial⟩
section
variable {μ μ1 μ2 μ3 μ4 μ':Mh} {τ τ1:Sl} {x0 d:D} {ds es:List D} {n:Nat}
theorem Am (h:ds.length <= sizeLine):A4 ds μ=some (.tup ds,μ):=by
  unfold A4; rw [AL (show lim ds.length μ=some ((),μ) from by unfold lim; rw [if_pos h])]; rfl
theorem Aq (h:ds.length <= sizeLine):BN ds μ=some (.lst ds,μ):=by
  unfold BN; rw [AL (show lim ds.length μ=some ((),μ) from by unfold lim; rw [if_pos h])]; rfl
theorem MT {ma:Sl->M D} {l h:Sl->M (Option Int)} {a b:Option Int} (h1:ma τ μ=some (x0,μ1)) (h2:l τ μ1=some (a,μ2)) (h3:h τ μ2=some (b,μ3)) (h4:JP a b x0 μ3=some (d,μ4)):FM ma l h τ μ=some (d,μ4):=by unfold FM; rw [AL h1,AL h2,AL h3,h4]
theorem Eo (h:ds.length + es.length <= sizeLine):AW (.tup ds) (.tup es) μ=some (.tup (ds ++ es),μ):=by
  cases ds with
  | nil=>rfl
  | cons a as=>exact Am (by simp at h ⊢; omega)
theorem N2 (h:ds.length + es.length <= sizeLine):AW (.lst ds) (.lst es) μ=some (.lst (ds ++ es),μ):=Aq (by simpa using h)
theorem Ey {x:Str} (h:PyData.strOk x=true):SeqAt.shaped (.str x)=true:=by
  show (PyData.strOk x && decide ((PyData.str x).depth <= 64))=true
  rw [h]; rfl
theorem OV {x y:Str} (h1:PyData.strOk x=true) (h2:PyData.strOk y=true):A9 (.str x) (.str y) μ=some (.bl (x == y),μ):=by
  show (if SeqAt.shaped (.str x)=true /\ SeqAt.shaped (.str y)=true then some (D.bl (x == y),μ) else none)=_
  rw [if_pos ⟨Ey h1,Ey h2⟩]
theorem OW:∀ sf,PyData.strOk (kdS sf)=true:=by decide +kernel
theorem MH:∀ sf,(kdS sf == ("whole" : Str))=false:=by decide +kernel
theorem N4:∀ sf,(kdS sf == ("safe" : Str))=sf:=by decide +kernel
theorem Ny {sf:Bool}:A9 (.str (kdS sf)) (.str "whole") μ=some (.bl false,μ):=by rw [OV (OW sf) (by decide +kernel),MH]
theorem Gp {sf:Bool}:A9 (.str (kdS sf)) (.str "safe") μ=some (.bl sf,μ):=by rw [OV (OW sf) (by decide +kernel),N4]
theorem B5:sizeLine=16777216:=by decide
theorem Je {l:List Int} (h:(Ay l).length <= 18):Bh (.tup (l.map D.int)) μ=some (.lst ((srt l).map D.int),μ):=by
  unfold Bh
  rw [AL (show BQ (.tup (l.map D.int)) μ=some (l.map D.int,μ) from rfl)]
  simp only [EL]
  rw [if_pos h]
theorem Nz {l:List Int} (h:(Ay l).length <= 18):Bh (.lst (l.map D.int)) μ=some (.lst ((srt l).map D.int),μ):=by
  unfold Bh
  rw [AL (show BQ (.lst (l.map D.int)) μ=some (l.map D.int,μ) from rfl)]
  simp only [EL]
  rw [if_pos h]
theorem G4 {sf:Bool} {sz v:Int} {l:List Int} (h0:0 <= sz) (h1:sz <= 1000) (hl:l.length <= 1000) (hr:(Ay (l ++ [v])).length <= 18) :
    C6 [.str (kdS sf),.int sz,.tup (l.map D.int),.int v] μ=some (.tup ((bsd sf sz l v).map D.int),μ):=by
  have hz:=B5
  refine Aa (g:=[]) (τ2:=Bo 4 [.str (kdS sf),.int sz,.tup (l.map D.int),.int v]) ?_ rfl (by unfold Cl; exact Bv (C8 _) _)
  rw [List.append_nil]
  cases sf with
  | true=>
    refine B9 (Cs (AQ (FY (x:=.str (kdS true)) (y:=.str "safe") rfl rfl Gp)) (B2 (Jr (x:=.int sz) rfl ?_)))
    show (if 0 <= sz /\ sz <= 1000 then some (D.tup (JY sz.toNat),μ) else none)=_
    rw [if_pos ⟨h0,h1⟩]
    rfl
  | false=>
    refine AT (ET (AQ (FY (x:=.str (kdS false)) (y:=.str "safe") rfl rfl Gp)) rfl) (B2 (BI (ds:=[.lst ((srt (l ++ [v])).map D.int)]) (Ce (ds:=[]) (Jr (x:=.tup ((l ++ [v]).map D.int)) (FY (x:=.tup (l.map D.int)) (y:=.tup [.int v]) rfl rfl ?_) (Je hr)) rfl) rfl))
    rw [Eo (by simp; omega),List.map_append]
    rfl
section
variable {ma mb mc:Sl->M D} {x y:D} {g:D->D->M D} {as:Sl->M (List D)} {tc tb:Sl->M Bool} {b:Bool} {m1 m2:Sl->M (Fl × Sl)} {r:Fl × Sl}
theorem po (h1:ma τ μ=some (x,μ)) (h2:mb τ μ=some (y,μ)) (h3:g x y μ=some (d,μ)):mOp g ma mb τ μ=some (d,μ):=FY h1 h2 h3
theorem pn {u:D->M D} (h1:ma τ μ=some (x,μ)) (h3:u x μ=some (d,μ)):mUn u ma τ μ=some (d,μ):=Jr h1 h3
theorem pc (h1:ma τ μ=some (x,μ)) (h2:as τ μ=some (ds,μ)):AD ma as τ μ=some (x :: ds,μ):=Ce h1 h2
theorem pd {f:List D->M D} (h1:as τ μ=some (ds,μ)) (h2:f ds μ=some (d,μ)):AG f as τ μ=some (d,μ):=BI h1 h2
theorem p2 {l h:Sl->M (Option Int)} {a b:Option Int} (h1:ma τ μ=some (x,μ)) (h2:l τ μ=some (a,μ)) (h3:h τ μ=some (b,μ)) (h4:JP a b x μ=some (d,μ)):FM ma l h τ μ=some (d,μ):=MT h1 h2 h3 h4
theorem pq (h1:m1 τ μ=some ((.next,τ1),μ)) (h2:m2 τ1 μ=some (r,μ)):AU m1 m2 τ μ=some (r,μ):=AT h1 h2
theorem pa {bf:D->Sl->M Sl} (h1:ma τ μ=some (d,μ)) (h2:bf d τ μ=some (τ1,μ)):Ah ma bf τ μ=some ((.next,τ1),μ):=Be h1 h2
theorem piT (h1:tc τ μ=some (true,μ)) (h2:m1 τ μ=some (r,μ)):sIf tc m1 m2 τ μ=some (r,μ):=Cs h1 h2
theorem piF (h1:tc τ μ=some (false,μ)) (h2:m2 τ μ=some (r,μ)):sIf tc m1 m2 τ μ=some (r,μ):=ET h1 h2
theorem pr (h1:ma τ μ=some (d,μ)):An ma τ μ=some ((.rt d,τ),μ):=B2 h1
theorem peT (h1:tc τ μ=some (true,μ)) (h2:ma τ μ=some (d,μ)):mIf tc ma mb τ μ=some (d,μ):=by unfold mIf; rw [AL h1,if_pos rfl,h2]
theorem peF (h1:tc τ μ=some (false,μ)) (h2:mb τ μ=some (d,μ)):mIf tc ma mb τ μ=some (d,μ):=by unfold mIf; rw [AL h1,if_neg (by decide),h2]
end
theorem Mj {α:D} {j:Nat} (h:j <= ds.length):CT ds none (some (j:Int))=ds.take j:=by
  unfold CT
  rw [HT.HG,HT.Ej,Nat.min_eq_left h]
  simp
theorem Ml {j:Nat} (h:j <= ds.length):CT ds (some (j:Int)) none=ds.drop j:=by
  unfold CT
  rw [HT.HG,HT.Ej,Nat.min_eq_left h]
  exact List.take_of_length_le (by simp)
theorem IB {j:Nat} {x:D} (hj:j < ds.length) (hl:ds.length <= 1000) (hc:∀ k,ClL k ds) (hx:∀ k,Cl k x):BO [.tup ds,.int j,x] μ=some (.tup (ds.set j x),μ):=by
  have hz:=B5
  have hcs:∀ (k j:Nat) (ds:List D),ClL k ds->ClL k (ds.set j x):=by
    intro k j ds
    induction ds generalizing j with
    | nil=>intro h; exact h
    | cons a as ih=>
      intro h
      unfold ClL at h
      cases j with
      | zero=>show ClL k (x :: as); unfold ClL; exact ⟨hx k,h.2⟩
      | succ j=>show ClL k (a :: as.set j x); unfold ClL; exact ⟨h.1,ih j h.2⟩
  refine Aa (g:=[]) (τ2:=Bo 3 [.tup ds,.int j,x]) ?_ rfl (by unfold Cl; exact hcs _ _ _ (hc _))
  rw [List.append_nil]
  refine pr (po (x:=.tup (ds.take j ++ [x])) (y:=.tup (ds.drop (j + 1))) (po (x:=.tup (ds.take j)) (y:=.tup [x]) (p2 (x:=.tup ds) (a:=none) (b:=some (j:Int)) rfl rfl rfl ?_) rfl (Eo (by simp; omega))) (p2 (x:=.tup ds) (a:=some ((j:Int) + 1)) (b:=none) rfl rfl rfl ?_) ?_)
  . show some (D.tup (CT ds none (some (j:Int))),μ)=_
    rw [Mj (α:=x) (by omega)]
  . show some (D.tup (CT ds (some ((j:Int) + 1)) none),μ)=_
    rw [show ((j:Int) + 1)=((j + 1:Nat):Int) by omega,Ml (by omega)]
  . rw [Eo (by simp; omega),List.append_assoc]
    rw [List.set_eq_take_append_cons_drop,if_pos hj]
    rfl
end
end K13
set_option maxHeartbeats 4000000
namespace K13
open PySem L2 Mi Ht
section
variable {μ μ1 μ2 μ3 μ4 μ':Mh} {τ τ1:Sl} {x0 d:D} {ds es:List D} {n:Nat}
theorem Fb {α:Type} {me:Sl->M D} {mc:Sl->M Bool} {τ0:Sl} {f F:α->D} {p:α->Bool}:∀ {xs:List α} {ys:List D},(∀ a ∈ xs,mc (τ0.set 0 (some (f a))) μ=some (p a,μ))->(∀ a ∈ xs,p a=true->me (τ0.set 0 (some (f a))) μ=some (F a,μ))->Br (AO 0) mc me τ0 (xs.map f) ys μ=some (ys ++ (xs.filter p).map F,μ)
  | [],ys,_,_=>by show some (ys,μ)=_; simp
  | z :: xs,ys,hc,h=>by
    show bnd (AO 0 (f z) τ0) _ μ=_
    rw [AL (show AO 0 (f z) τ0 μ=some (τ0.set 0 (some (f z)),μ) from rfl),AL (hc z (by simp))]
    cases q:p z with
    | true=>
      rw [if_pos rfl,AL (h z (by simp) q),Fb (fun w hw=>hc w (by simp [hw])) (fun w hw=>h w (by simp [hw]))]
      simp [q]
    | false=>
      rw [if_neg (by decide),Fb (fun w hw=>hc w (by simp [hw])) (fun w hw=>h w (by simp [hw]))]
      simp [q]
theorem D2 {N:Nat} {ix:List Nat} {src:Sl->M (List D)} {bf:D->Sl->M Sl} {mc:Sl->M Bool} {me:Sl->M D} {fin:List D->M D} (h1:src τ μ=some (ds,μ)) (hl:ds.length <= sizeLine) (h2:Br bf mc me (Bg N ix τ) ds [] μ=some (es,μ)) (h3:fin es μ=some (d,μ')):Bn N ix src bf mc me fin τ μ=some (d,μ'):=by
  unfold Bn
  rw [AL h1,AL (show lim ds.length μ=some ((),μ) from by unfold lim; rw [if_pos hl]),AL h2,h3]
theorem Fi {α:Type} (xs:List α):xs.filter (fun _=>true)=xs:=by simp
theorem GW {ma:Sl->M D} (h:ma τ μ=some (.tup ds,μ)):Di ma τ μ=some (ds,μ):=by unfold Di; rw [AL h]; rfl
theorem JI {ma:Sl->M D} (h:ma τ μ=some (.lst ds,μ)):Di ma τ μ=some (ds,μ):=by unfold Di; rw [AL h]; rfl
theorem C0 {sf:Bool} {sz bg:Int} {ns:List Str} {m1:Sl->M (Fl × Sl)} (h:τ[0]? = some (some (mkD sf sz bg ns))):sIf (AN (mOp A9 (mOp Ab (AA 0) (mC (.int 0))) (mC (.str "whole")))) m1 BJ τ μ=some ((.next,τ),μ):=
  piF (AQ (po (x:=.str (kdS sf)) (y:=.str "whole") (po (x:=mkD sf sz bg ns) (y:=.int 0) (BX h) rfl rfl) rfl Ny)) rfl
theorem FV {α:Type} (a:α):∀ k:Nat,(List.replicate k [a]).flatten=List.replicate k a
  | 0=>rfl
  | k + 1=>by rw [List.replicate_succ,List.flatten_cons,FV a k]; rfl
variable {sf:Bool} {sz bg:Int} {ns:List Str}
theorem M1 (h:ns.length <= 1000) (h2:2 <= ns.length):CQ [mkD sf sz bg ns] μ=some (clD bg (-1) (List.replicate (ns.length - 1) none),μ):=by
  have hz:=B5
  refine Aa (g:=[]) (τ2:=[some (mkD sf sz bg ns),some (.int ((ns.length:Int) - 1))]) ?_ rfl (CM _ _ _ _)
  rw [List.append_nil]
  refine pq (pa (d:=.int ((ns.length:Int) - 1)) (po (x:=.int ns.length) (y:=.int 1) (pd (ds:=[.tup (ns.map hdD)]) rfl ?_) rfl rfl) rfl) (pq (C0 rfl) (pr (pd (ds:=[.int bg,.int (-1),.tup ((List.replicate (ns.length - 1) none).map tD)]) (pc (x:=.int bg) rfl (pc (x:=.int (-1)) rfl (pc (po (x:=.tup [.non]) (y:=.int ((ns.length:Int) - 1)) rfl rfl ?_) rfl))) (Am (by simp; omega)))))
  . show some (D.int (((ns.map hdD).length:Nat):Int),μ)=_
    rw [List.length_map]
  . show (if [D.non] ≠ [] /\ [D.non].length <= 1000 /\ 1 <= ((ns.length:Int) - 1) /\ ((ns.length:Int) - 1) <= 1000 then some (D.tup (List.replicate ((ns.length:Int) - 1).toNat [D.non]).flatten,μ) else none)=_
    rw [if_pos ⟨by simp,by simp,by omega,by omega⟩,FV,List.map_replicate,show ((ns.length:Int) - 1).toNat=ns.length - 1 by omega]
    rfl
theorem Fy {w c:Int} {ts:List (Option (List Int))}:BF [mkD sf sz bg ns,clD w c ts] μ=some (clD c (-1) ts,μ):=by
  have hz:=B5
  refine Aa (g:=[]) (τ2:=[some (mkD sf sz bg ns),some (clD w c ts)]) ?_ rfl (CM _ _ _ _)
  rw [List.append_nil]
  exact pq (C0 rfl) (pr (pd (ds:=[.int c,.int (-1),.tup (ts.map tD)]) rfl (Am (by simp; omega))))
def D9 (l:List Int):Prop:=l.length <= 100 /\ ∀ x ∈ l,0 <= x /\ x < 10
theorem Cj {l:List Int} (h:∀ x ∈ l,0 <= x /\ x < 10):(Ay l).length <= 18:=by
  have h1:=Dw (r:=(List.range 10).map Int.ofNat) (FL l) fun x hx=>by
    obtain ⟨a,b⟩:=h x ((HP l x).mp hx)
    exact List.mem_map.mpr ⟨x.toNat,List.mem_range.mpr (by omega),by show ((x.toNat:Nat):Int)=x; omega⟩
  simp at h1
  omega
theorem G3 {w c v:Int} {ts:List (Option (List Int))} (h0:0 <= sz) (h1:sz <= 10) (hv:0 <= v /\ v < 10) (hl:ts.length <= 1000) (hs:∀ l,some l ∈ ts->D9 l) :
    BM [mkD sf sz bg ns,clD w c ts,.int v] μ=some (clD w v (ts.map (Option.map fun l=>bsd sf sz l v)),μ):=by
  have hz:=B5
  refine Aa (g:=[]) (τ2:=[some (mkD sf sz bg ns),some (clD w c ts),some (.int v),some (.lst ((ts.map (Option.map fun l=>bsd sf sz l v)).map tD))]) ?_ rfl (CM _ _ _ _)
  rw [List.append_nil]
  refine pq (C0 rfl) (pq (pa (d:=.lst ((ts.map (Option.map fun l=>bsd sf sz l v)).map tD)) (D2 (ds:=ts.map tD) (es:=(ts.map (Option.map fun l=>bsd sf sz l v)).map tD) (GW rfl) (by rw [List.length_map]; omega) ?_ (Aq (by rw [List.length_map,List.length_map]; omega))) rfl) (pr (pd (ds:=[.int w,.int v,.tup ((ts.map (Option.map fun l=>bsd sf sz l v)).map tD)]) rfl (Am (by simp; omega)))))
  have:=Fb (μ:=μ) (mc:=DV) (me:=(mIf (AN (mOp (DS false) (AA 0) (mC .non))) (AA 0) (AG C6 (AD (mOp Ab (AA 1) (mC (.int 0))) (AD (mOp Ab (AA 1) (mC (.int 1))) (AD (AA 0) (AD (AA 2) AK))))))) (τ0:=[none,some (mkD sf sz bg ns),some (.int v)]) (f:=tD) (F:=fun t=>tD (Option.map (fun l=>bsd sf sz l v) t)) (p:=fun _=>true) (xs:=ts) (ys:=[]) (fun _ _=>rfl) (fun t ht _=>?_)
  . rw [Fi,List.nil_append] at this
    rw [List.map_map]
    exact this
  . cases t with
    | none=>exact peT (AQ (po (x:=.non) (y:=.non) rfl rfl rfl)) rfl
    | some l=>
      obtain ⟨s1,s2⟩:=hs l ht
      refine peF (AQ (po (x:=.tup (l.map D.int)) (y:=.non) rfl rfl rfl)) (pd (ds:=[.str (kdS sf),.int sz,.tup (l.map D.int),.int v]) rfl (G4 h0 (by omega) (by omega) (Cj fun x hx=>?_)))
      rcases List.mem_append.mp hx with z | z
      . exact s2 x z
      . rw [List.mem_singleton] at z; subst z; exact hv
def CV (sf:Bool) (sz w c:Int):List Int:=if c = -1 then [w] else bsd sf sz [w] c
theorem IH {ts:List (Option (List Int))} {r:Nat} {t:Option (List Int)}:(ts.map tD).set r (tD t)=(ts.set r t).map tD:=by rw [List.map_set]
theorem MB {i j:Int}:Bq (.int i) (.int j) μ=some (.bl (!(i == j)),μ):=rfl
theorem Iz {w c:Int} {r:Nat} {ts:List (Option (List Int))} (h0:0 <= sz) (h1:sz <= 10) (hw:0 <= w /\ w < 10) (hc:c ≠ -1->0 <= c /\ c < 10) (hl:ts.length <= 1000) (hr:r < ts.length) :
    BT [mkD sf sz bg ns,clD w c ts,.int r] μ=some (clD w c (ts.set r (some (CV sf sz w c))),μ):=by
  have hz:=B5
  refine Aa (g:=[]) (τ2:=[some (mkD sf sz bg ns),some (clD w c ts),some (.int r),some (tD (some (CV sf sz w c)))]) ?_ rfl (CM _ _ _ _)
  rw [List.append_nil]
  have fin:An (AG A4 (AD (mOp Ab (AA 1) (mC (.int 0))) (AD (mOp Ab (AA 1) (mC (.int 1))) (AD (AG BO (AD (mOp Ab (AA 1) (mC (.int 2))) (AD (AA 2) (AD (AA 3) AK)))) AK)))) [some (mkD sf sz bg ns),some (clD w c ts),some (.int r),some (tD (some (CV sf sz w c)))] μ=some ((.rt (clD w c (ts.set r (some (CV sf sz w c)))),[some (mkD sf sz bg ns),some (clD w c ts),some (.int r),some (tD (some (CV sf sz w c)))]),μ):=by
    refine pr (pd (ds:=[.int w,.int c,.tup ((ts.set r (some (CV sf sz w c))).map tD)]) (pc (x:=.int w) rfl (pc (x:=.int c) rfl (pc (pd (ds:=[.tup (ts.map tD),.int r,tD (some (CV sf sz w c))]) rfl ?_) rfl))) (Am (by simp; omega)))
    rw [IB (by rw [List.length_map]; exact hr) (by rw [List.length_map]; exact hl) (fun k=>Bv (Ea k) ts) (fun k=>Ea k _),IH]
  refine pq (C0 rfl) (pq (τ1:=[some (mkD sf sz bg ns),some (clD w c ts),some (.int r),some (tD (some [w]))]) (pa (d:=tD (some [w])) (pd (ds:=[.int w]) rfl (Am (by simp; omega))) rfl) (pq (τ1:=[some (mkD sf sz bg ns),some (clD w c ts),some (.int r),some (tD (some (CV sf sz w c)))]) ?_ fin))
  have ht:AN (mOp Bq (mOp Ab (AA 1) (mC (.int 1))) (mC B3)) [some (mkD sf sz bg ns),some (clD w c ts),some (.int r),some (tD (some [w]))] μ=some (!(c == -1),μ):=AQ (po (x:=.int c) (y:=.int (-1)) rfl rfl MB)
  by_cases e:c = -1
  . have eb:CV sf sz w c=[w]:=if_pos e
    rw [eb]
    refine piF (by rw [ht,e]; rfl) rfl
  . have eb:CV sf sz w c=bsd sf sz [w] c:=if_neg e
    rw [eb]
    refine piT (by rw [ht,beq_eq_false_iff_ne.mpr e]; rfl) (pa (d:=tD (some (bsd sf sz [w] c))) (pd (ds:=[.str (kdS sf),.int sz,.tup ([w].map D.int),.int c]) rfl (G4 h0 (by omega) (by simp) (Cj fun x hx=>?_))) rfl)
    simp at hx
    rcases hx with z | z
    . subst z; exact hw
    . subst z; exact hc e
theorem GH:∀ xs:List Int,ER (xs.map D.int)=some (xs.map V.int)
  | []=>rfl
  | x :: r=>by show (He (.int x)).bind _=_; rw [GH r]; rfl
theorem HZ {x:Int}:∀ xs:List Int,inV (.int x) (xs.map V.int)=decide (x ∈ xs)
  | []=>rfl
  | y :: r=>by
    have h:=HZ (x:=x) r
    unfold inV at h ⊢
    rw [List.map_cons,List.any_cons,h]
    show ((y == x) || decide (x ∈ r))=_
    by_cases e:x=y
    . subst e; simp
    . have:(y == x)=false:=beq_eq_false_iff_ne.mpr fun z=>e z.symm
      rw [this,Bool.false_or]; simp [e]
theorem MD {neg:Bool} {c:D} {x:Int} {xs:List Int} (h:BQ c μ=some (xs.map D.int,μ)):FF neg (.int x) c μ=some (.bl (if neg then !decide (x ∈ xs) else decide (x ∈ xs)),μ):=by
  show Jo neg (.int x) c μ=_
  unfold Jo
  rw [AL h]
  simp only [GH]
  show some (D.bl (if neg then !inV (.int x) (xs.map V.int) else inV (.int x) (xs.map V.int)),μ)=_
  rw [HZ]
theorem EW {ds:List D} {r:Nat} {x:D} (h:ds[r]? = some x):atI ds (r:Int)=some x:=by
  have hr:r < ds.length:=(List.getElem?_eq_some_iff.mp h).1
  unfold atI ixN
  rw [if_pos (by omega),if_pos (by omega)]
  simpa using h
theorem IC {w c v:Int} {r:Nat} {ts:List (Option (List Int))} {l:List Int} (hl:ts.length <= 1000) (hr:ts[r]? = some (some l)) :
    BP [mkD sf sz bg ns,clD w c ts,.int r,.int v] μ=some (if v ∈ l then clD w c (ts.set r none) else .non,μ):=by
  have hz:=B5
  have hrl:r < ts.length:=(List.getElem?_eq_some_iff.mp hr).1
  refine Aa (g:=[]) (τ2:=[some (mkD sf sz bg ns),some (clD w c ts),some (.int r),some (.int v),none]) ?_ rfl (by split; exact CM _ _ _ _; unfold Cl; trivial)
  rw [List.append_nil]
  have ht:AN (mOp (FF true) (AA 3) (mOp Ab (mOp Ab (AA 1) (mC (.int 2))) (AA 2))) [some (mkD sf sz bg ns),some (clD w c ts),some (.int r),some (.int v),none] μ=some (!decide (v ∈ l),μ):=
    AQ (po (x:=.int v) (y:=.tup (l.map D.int)) rfl (po (x:=.tup (ts.map tD)) (y:=.int r) rfl rfl (MC (EW (by rw [List.getElem?_map,hr]; rfl)))) (MD rfl))
  refine pq (τ1:=[some (mkD sf sz bg ns),some (clD w c ts),some (.int r),some (.int v),none]) (C0 rfl) ?_
  by_cases e:v ∈ l
  . rw [if_pos e]
    refine pq (piF (by rw [ht,decide_eq_true e]; rfl) rfl) (pr (pd (ds:=[.int w,.int c,.tup ((ts.set r none).map tD)]) (pc (x:=.int w) rfl (pc (x:=.int c) rfl (pc (pd (ds:=[.tup (ts.map tD),.int r,tD none]) rfl ?_) rfl))) (Am (by simp; omega))))
    rw [IB (by rw [List.length_map]; exact hrl) (by rw [List.length_map]; exact hl) (fun k=>Bv (Ea k) ts) (fun k=>Ea k _),IH]
  . rw [if_neg e]
    exact B9 (piT (by rw [ht,decide_eq_false e]; rfl) (pr rfl))
end
end K13
set_option maxHeartbeats 4000000
namespace K13
open PySem L2 Mi Ht
structure Ns (ns:List Str):Prop where
  ok:∀ n ∈ ns,PyData.strOk n=true
  nd:ns.Nodup
  lo:2 <= ns.length
  hi:ns.length <= 4
section
variable {μ μ1 μ2 μ3 μ4 μ':Mh} {τ τ1:Sl} {x0 d:D} {ds es:List D} {n:Nat}
variable {sf:Bool} {sz bg:Int} {ns:List Str}
theorem l_eqI {i j:Int}:A9 (.int i) (.int j) μ=some (.bl (i == j),μ):=rfl
end
end K13
set_option maxHeartbeats 4000000
namespace K13
open PySem L2 Mi Ht
section
variable {μ μ1 μ2 μ3 μ4 μ':Mh} {τ τ1:Sl} {x0 d:D} {ds es:List D} {n:Nat}
variable {sf:Bool} {sz bg:Int} {ns:List Str}
theorem EI (h:μ[n]? = some (.lst ds)):EM (.ref n) μ=some ((),μ):=by
  unfold EM
  rw [AL (show Bf (.ref n) μ=some (ds,μ) from by unfold Bf; dsimp only; rw [h])]
  rfl
theorem Gq (h:μ[n]? = some (.lst ds)) (hl:ds.length < sizeLine):C9 (.ref n) [d] μ=some (.non,μ.set n (.lst (ds ++ [d]))):=by
  show K4 n _ μ=_
  unfold K4
  rw [h]
  show Option.map _ (if ds.length < sizeLine then some (D.non,ds ++ [d]) else none)=_
  rw [if_pos hl]
  rfl
theorem BB {bf:D->Sl->M Sl} {m1:Sl->M (Fl × Sl)} {x:D} {τ2:Sl} {r:Fl × Sl} (h1:bf x τ μ=some (τ1,μ1)) (h2:m1 τ1 μ1=some ((.next,τ2),μ2)) (h3:Cd bf m1 ds τ2 μ2=some (r,μ3)):Cd bf m1 (x :: ds) τ μ=some (r,μ3):=by
  show bnd (bf x τ) _ μ=_
  rw [AL h1,AL h2]
  exact h3
end
end K13
set_option maxHeartbeats 4000000
namespace K13
open PySem L2 Mi Ht
section
variable {μ μ1 μ2 μ3 μ4 μ':Mh} {τ τ1:Sl} {x0 d:D} {ds:List D} {n:Nat}
variable {sf:Bool} {sz bg:Int} {ns:List Str}
end
end K13
set_option maxHeartbeats 4000000
namespace K13
open PySem L2 Mi Ht
section
variable {μ μ1 μ2 μ3 μ4 μ':Mh} {τ τ1:Sl} {x0 d a c:D} {ds:List D} {n:Nat}
variable {sf:Bool} {sz bg:Int} {ns:List Str}
theorem ME {neg:Bool} {p q:PyData} (e1:Ec μ a=some p) (e2:Ec μ c=some q) (s1:SeqAt.shaped p=true) (s2:SeqAt.shaped q=true):DU neg a c μ=some (.bl (if neg then !PyData.eqv p q else PyData.eqv p q),μ):=by
  unfold DU
  rw [e1,e2]
  exact if_pos ⟨s1,s2⟩
theorem EA:∀ xs:List Int,Bm μ (xs.map D.int)=some (xs.map PyData.int)
  | []=>by unfold Bm; rfl
  | x :: r=>by
    rw [List.map_cons]
    unfold Bm
    rw [EA r]
    rfl
theorem Dz:∀ xs:List Int,PyData.canLayAll0 (xs.map PyData.int)=true /\ PyData.depthAll (xs.map PyData.int)=0
  | []=>⟨rfl,rfl⟩
  | x :: r=>by
    obtain ⟨h1,h2⟩:=Dz r
    refine ⟨?_,?_⟩
    . show (true && PyData.canLayAll0 (r.map PyData.int))=true
      rw [h1]; rfl
    . show max 0 (PyData.depthAll (r.map PyData.int))=0
      rw [h2]; rfl
theorem Ei (xs:List Int):SeqAt.shaped (.list (xs.map PyData.int))=true:=by
  obtain ⟨h1,h2⟩:=Dz xs
  show (PyData.canLayAll0 (xs.map PyData.int) && decide (PyData.depthAll (xs.map PyData.int) + 1 <= 64))=true
  rw [h1,h2]; rfl
theorem N0 {xs:List Int} (h:Ec μ a=some (.list (xs.map PyData.int))):Bq a (.lst []) μ=some (.bl (!xs.isEmpty),μ):=by
  have h2:Ec μ (.lst [])=some (.list (([]:List Int).map PyData.int)):=by
    show toP μ (.lst [])=_
    unfold toP Bm; rfl
  have:=ME (μ:=μ) (neg:=true) h h2 (Ei xs) (Ei [])
  show DU true _ _ μ=_
  rw [this]
  cases xs <;> rfl
theorem K7 {xs:List Int} (h:μ[n]? = some (.lst (xs.map D.int))):Ec μ (.ref n)=some (.list (xs.map PyData.int)):=by
  show (match μ[n]? with | some (.lst ds)=>(Bm μ ds).map PyData.list | _=>none)=_
  rw [h]
  show (Bm μ (xs.map D.int)).map PyData.list=_
  rw [EA]; rfl
theorem RN (k:Nat):IN 0 (k:Int)=(List.range k).map fun j:Nat=>D.int j:=by
  unfold IN
  simp
theorem g1 {b:MO}:(μ ++ [b])[μ.length]? = some b:=by rw [List.getElem?_append_right (Nat.le_refl _)]; simp
theorem s1 {b c:MO}:(μ ++ [b]).set μ.length c=μ ++ [c]:=by rw [List.set_append_right _ _ (Nat.le_refl _)]; simp
end
end K13
set_option maxHeartbeats 4000000
namespace K13
open PySem L2 Mi Ht
section
variable {μ μ1 μ2 μ3 μ4 μ':Mh} {τ τ1:Sl} {x0 d a c:D} {ds:List D} {n:Nat}
variable {sf:Bool} {sz bg:Int} {ns:List Str}
end
end K13
set_option maxHeartbeats 4000000
namespace K13
open PySem L2 Mi Ht
end K13
set_option maxHeartbeats 4000000
namespace K13
open PySem L2 Mi Ht
end K13
set_option maxHeartbeats 4000000
namespace K13
open PySem L2 Mi Ht
section
variable {μ μ1 μ2 μ3 μ4 μ':Mh} {τ τ1:Sl} {x0 d:D} {ds es:List D} {n:Nat}
theorem OU:F5 (.int 10) (.int 9) μ=some (.int 1000000000,μ):=by
  show (if (0:Int) <= 9 /\ (9:Int) <= 1000000 /\ (10:Int).natAbs < 2 ^ 64 then some (D.int ((10:Int) ^ (9:Int).toNat),μ) else none)=_
  rw [if_pos (by decide)]; rfl
theorem Pf (h:μ[n]? = some (.lst ds)):EH [.ref n] μ=some (.int ds.length,μ):=by
  unfold EH
  simp only [h]
theorem Ps {mc:Sl->M Bool} {mb:Sl->M (Fl × Sl)} {r:Fl × Sl} {τ2:Sl} {k:Nat} (h1:mc τ μ=some (true,μ)) (h2:mb τ μ=some ((.next,τ2),μ2)) (h3:Et mc mb k τ2 μ2=some (r,μ3)):Et mc mb (k + 1) τ μ=some (r,μ3):=by
  unfold Et
  rw [AL h1,if_pos rfl,AL h2]
  exact h3
theorem Gv {mc:Sl->M Bool} {mb:Sl->M (Fl × Sl)} {k:Nat} (h1:mc τ μ=some (false,μ)):Et mc mb (k + 1) τ μ=some ((.next,τ),μ):=by
  unfold Et
  rw [AL h1]
  rfl
noncomputable abbrev QQ:Sl->M Bool:=(Fv (AN (mOp A9 (mOp Ak (AA 0) (mC (.int 2))) (mC (.int 0)))) (Fv (AN (mOp NQ (AA 3) (mC (.int 0)))) (AN (mOp KN (AG EH (AD (AA 2) AK)) (AA 1)))))
noncomputable abbrev QR:Sl->M (Fl × Sl):=(AU (Bw (BG C9 (AA 2) (AD (mOp Ak (AA 3) (mOp F5 (mC (.int 10)) (mC (.int 9)))) AK)))
    (Ah (mOp Ae (AA 3) (mOp F5 (mC (.int 10)) (mC (.int 9)))) (AO 3)))
theorem Kw {x:D} {S:Sl} {k:Nat} {me:Sl->M D} (h:S[k]? = some (some (.ref μ.length))) (hl:ds.length <= 1000) (he:me S (μ ++ [.lst ds])=some (x,μ ++ [.lst ds])):Bw (BG C9 (AA k) (AD me AK)) S (μ ++ [.lst ds])=some ((.next,S),μ ++ [.lst (ds ++ [x])]):=by
  have hz:=B5
  refine Er (d:=.non) (Ep (x:=.ref μ.length) (ds:=[x]) (μ1:=μ ++ [.lst ds]) (μ2:=μ ++ [.lst ds]) (μ3:=μ ++ [.lst ds]) (BX h) (EI g1) (pc he rfl) ?_)
  rw [Gq g1 (by omega),s1]
theorem J8 {c:Int}:∃ (m:Int) (fs:List Int),fs.length <= 1 /\ (∀ x ∈ fs,0 <= x) /\ IK A0 QQ QR [some (.int c),some (.int 1),some (.ref μ.length),some (.int (c / 2)),none] (μ ++ [.lst []])=some ((.next,[some (.int c),some (.int 1),some (.ref μ.length),some (.int m),none]),μ ++ [.lst (fs.map D.int)]):=by
  have hf:A0=1048574 + 1 + 1:=rfl
  have ta:∀ (m:Int) (M:Mh),AN (mOp A9 (mOp Ak (AA 0) (mC (.int 2))) (mC (.int 0))) [some (.int c),some (.int 1),some (.ref μ.length),some (.int m),none] M=some (c % 2 == 0,M):=fun m M=>AQ (po (x:=.int (c % 2)) (y:=.int 0) (po (x:=.int c) (y:=.int 2) rfl rfl (Bz (by decide))) rfl l_eqI)
  have tb:∀ (m:Int) (M:Mh),AN (mOp NQ (AA 3) (mC (.int 0))) [some (.int c),some (.int 1),some (.ref μ.length),some (.int m),none] M=some (decide (0 < m),M):=fun m M=>AQ (po (x:=.int m) (y:=.int 0) rfl rfl rfl)
  have tc:∀ (m:Int) (fs:List D),AN (mOp KN (AG EH (AD (AA 2) AK)) (AA 1)) [some (.int c),some (.int 1),some (.ref μ.length),some (.int m),none] (μ ++ [.lst fs])=some (decide ((fs.length:Int) < 1),μ ++ [.lst fs]):=fun m fs=>AQ (po (x:=.int fs.length) (y:=.int 1) (pd (ds:=[.ref μ.length]) rfl (Pf g1)) rfl rfl)
  show ∃ m fs,_ /\ _ /\ Et QQ QR A0 _ _=_
  rw [hf]
  by_cases h2:c % 2=0
  . have ta':∀ (m:Int) (M:Mh),AN (mOp A9 (mOp Ak (AA 0) (mC (.int 2))) (mC (.int 0))) [some (.int c),some (.int 1),some (.ref μ.length),some (.int m),none] M=some (true,M):=fun m M=>(ta m M).trans (by rw [h2]; rfl)
    by_cases h3:0 < c / 2
    . refine ⟨c / 2 / 1000000000,[c / 2 % 1000000000],by simp,fun x hx=>by rw [List.mem_singleton] at hx; subst hx; exact Int.emod_nonneg _ (by decide),?_⟩
      refine Ps (μ2:=μ ++ [.lst [.int (c / 2 % 1000000000)]]) (τ2:=[some (.int c),some (.int 1),some (.ref μ.length),some (.int (c / 2 / 1000000000)),none]) (CA (ta' _ _) (CA ((tb _ _).trans (by rw [decide_eq_true h3])) (tc _ _))) (AT (Kw (ds:=[]) (x:=.int (c / 2 % 1000000000)) rfl (by simp) (po (x:=.int (c / 2)) (y:=.int 1000000000) rfl (po (x:=.int 10) (y:=.int 9) rfl rfl OU) (Bz (by decide)))) (pa (po (x:=.int (c / 2)) (y:=.int 1000000000) rfl (po (x:=.int 10) (y:=.int 9) rfl rfl OU) (Bc (by decide) (by decide))) rfl)) ?_
      by_cases h4:0 < c / 2 / 1000000000
      . exact Gv (CA (ta' _ _) (CA ((tb _ _).trans (by rw [decide_eq_true h4])) (tc _ _)))
      . exact Gv (CA (ta' _ _) (D3 ((tb _ _).trans (by rw [decide_eq_false h4]))))
    . exact ⟨c / 2,[],by simp,by simp,Gv (CA (ta' _ _) (D3 ((tb _ _).trans (by rw [decide_eq_false h3]))))⟩
  . exact ⟨c / 2,[],by simp,by simp,Gv (D3 ((ta _ _).trans (by rw [beq_eq_false_iff_ne.mpr h2])))⟩
theorem K0 {c:Int}:∃ x:Int,0 <= x /\ DO [.int c,.int 1] μ=some (.lst [.int x],μ):=by
  have hz:=B5
  obtain ⟨m,fs,h1,h2,wh⟩:=J8 (μ:=μ) (c:=c)
  let s0:Int:=(c / 2 + 7919) * 48271 % 2147483647
  have q0:s0=(c / 2 + 7919) * 48271 % 2147483647:=rfl
  have p0:0 <= s0:=Int.emod_nonneg _ (by decide)
  have p1:s0 < 2147483647:=Int.emod_lt_of_pos _ (by decide)
  generalize s0=s0 at q0 p0 p1
  let s1':Int:=s0 * (s0 / 1009 + 69621 + 0) % 2147483647
  have q1:s1'=s0 * (s0 / 1009 + 69621 + 0) % 2147483647:=rfl
  have r0:0 <= s1':=Int.emod_nonneg _ (by decide)
  have r1:s1' < 2147483647:=Int.emod_lt_of_pos _ (by decide)
  generalize s1'=s1' at q1 r0 r1
  let x1:Int:=s1' * (s1' / 127 + 40009) % 2147483629
  have q2:x1=s1' * (s1' / 127 + 40009) % 2147483629:=rfl
  have x0:0 <= x1:=Int.emod_nonneg _ (by decide)
  generalize x1=x1 at q2 x0
  have hx:∃ x:Int,0 <= x /\ CT ((fs ++ [x1]).map D.int) none (some 1)=[.int x]:=by
    cases fs with
    | nil=>exact ⟨x1,x0,rfl⟩
    | cons y ys=>
      have hl:ys.length=0:=by rw [List.length_cons] at h1; omega
      have:ys=[]:=List.length_eq_zero_iff.mp hl
      subst this
      exact ⟨y,h2 y (by simp),rfl⟩
  obtain ⟨x,hx0,hcut⟩:=hx
  refine ⟨x,hx0,Aa (g:=[.lst ((fs ++ [x1]).map D.int)]) (τ2:=[some (.int c),some (.int 1),some (.ref μ.length),some (.int (s1' + 1)),some (.int 0)]) ?_ rfl (by simp [Cl,ClL])⟩
  refine AT (μ1:=μ ++ [.lst []]) (τ1:=[some (.int c),some (.int 1),some (.ref μ.length),none,none]) (Be (d:=.ref μ.length) (μ1:=μ ++ [.lst []]) (BI (ds:=[]) (μ1:=μ) rfl ?_) rfl) ?_
  . unfold Ft
    rw [AL (show lim ([]:List D).length μ=some ((),μ) from by unfold lim; rw [if_pos (by simp)])]
  refine AT (τ1:=[some (.int c),some (.int 1),some (.ref μ.length),some (.int (c / 2)),none]) (pa (po (x:=.int c) (y:=.int 2) rfl rfl (Bc (by decide) (by decide))) rfl) (AT wh ?_)
  refine AT (τ1:=[some (.int c),some (.int 1),some (.ref μ.length),some (.int s0),none]) (pa (d:=.int s0) (po (x:=.int ((c / 2 + 7919) * 48271)) (y:=.int 2147483647) (po (x:=.int (c / 2 + 7919)) (y:=.int 48271) (po (x:=.int (c / 2)) (y:=.int 7919) (po (x:=.int c) (y:=.int 2) rfl rfl (Bc (by decide) (by decide))) rfl rfl) rfl (Jf (.inr (by decide)))) rfl ?_) rfl) ?_
  . rw [Bz (by decide),q0]
  have fr:DW (AD (AA 1) AK) [some (.int c),some (.int 1),some (.ref μ.length),some (.int s0),none] (μ ++ [.lst (fs.map D.int)])=some ([.int 0],μ ++ [.lst (fs.map D.int)]):=by
    unfold DW
    rw [AL (show AD (AA 1) AK [some (.int c),some (.int 1),some (.ref μ.length),some (.int s0),none] (μ ++ [.lst (fs.map D.int)])=some ([.int 1],μ ++ [.lst (fs.map D.int)]) from rfl)]
    unfold JN
    dsimp only
    rw [if_pos (by decide)]
    rfl
  refine AT (μ1:=μ ++ [.lst ((fs ++ [x1]).map D.int)]) (τ1:=[some (.int c),some (.int 1),some (.ref μ.length),some (.int (s1' + 1)),some (.int 0)]) (C7 fr (BB (τ1:=[some (.int c),some (.int 1),some (.ref μ.length),some (.int s0),some (.int 0)]) (μ1:=μ ++ [.lst (fs.map D.int)]) rfl ?_ rfl)) ?_
  . refine AT (μ1:=μ ++ [.lst (fs.map D.int)]) (τ1:=[some (.int c),some (.int 1),some (.ref μ.length),some (.int s1'),some (.int 0)]) (pa (d:=.int s1') (po (x:=.int (s0 * (s0 / 1009 + 69621 + 0))) (y:=.int 2147483647) (po (x:=.int s0) (y:=.int (s0 / 1009 + 69621 + 0)) rfl (po (x:=.int (s0 / 1009 + 69621)) (y:=.int 0) (po (x:=.int (s0 / 1009)) (y:=.int 69621) (po (x:=.int s0) (y:=.int 1009) rfl rfl (Bc (by decide) (by decide))) rfl rfl) rfl rfl) (Jf (.inl ⟨by omega,by omega⟩))) rfl ?_) rfl) (AT (μ1:=μ ++ [.lst ((fs ++ [x1]).map D.int)]) (τ1:=[some (.int c),some (.int 1),some (.ref μ.length),some (.int s1'),some (.int 0)]) ?_ (pa (po (x:=.int s1') (y:=.int 1) rfl rfl rfl) rfl))
    . rw [Bz (by decide),q1]
    . rw [List.map_append]
      refine Kw (ds:=fs.map D.int) (x:=.int x1) rfl (by rw [List.length_map]; omega) (po (x:=.int (s1' * (s1' / 127 + 40009))) (y:=.int 2147483629) (po (x:=.int s1') (y:=.int (s1' / 127 + 40009)) rfl (po (x:=.int (s1' / 127)) (y:=.int 40009) (po (x:=.int s1') (y:=.int 127) rfl rfl (Bc (by decide) (by decide))) rfl rfl) (Jf (.inl ⟨by omega,by omega⟩))) rfl ?_)
      rw [Bz (by decide),q2]
  . refine B2 (MT (x0:=.ref μ.length) (a:=none) (b:=some 1) (μ1:=μ ++ [.lst ((fs ++ [x1]).map D.int)]) (μ2:=μ ++ [.lst ((fs ++ [x1]).map D.int)]) (μ3:=μ ++ [.lst ((fs ++ [x1]).map D.int)]) rfl rfl rfl ?_)
    show bnd (Bf (.ref μ.length)) (fun ds=>Mi.ret (D.lst (CT ds none (some 1)))) (μ ++ [MO.lst ((fs ++ [x1]).map D.int)])=_
    rw [AL (show Bf (.ref μ.length) (μ ++ [.lst ((fs ++ [x1]).map D.int)])=some ((fs ++ [x1]).map D.int,μ ++ [.lst ((fs ++ [x1]).map D.int)]) from by unfold Bf; dsimp only; rw [g1])]
    show some (D.lst (CT ((fs ++ [x1]).map D.int) none (some 1)),_)=_
    rw [hcut]
end
end K13
set_option maxHeartbeats 4000000
namespace K13
open PySem L2 Mi Ht
section
variable {μ μ1 μ2 μ3 μ4 μ':Mh} {τ τ1:Sl} {x0 d:D} {ds es:List D} {n:Nat}
variable {sf:Bool} {sz bg:Int} {ns:List Str}
abbrev nL0:List Str:=["w", "r", "s", "t"]
abbrev nL1:List Str:=["writer", "a", "ab", "b"]
abbrev nL2:List Str:=["z", "zz", "zzzzzzzz", "begin"]
theorem Nt {L:List Str} (h1:∀ n ∈ L,PyData.strOk n=true) (h2:L.Nodup) (h3:L.length=4) {j:Nat} (a:2 <= j) (b:j <= 4):Ns (L.take j):=
  ⟨fun n hn=>h1 n (List.mem_of_mem_take hn),h2.sublist (List.take_sublist _ _),by rw [List.length_take]; omega,by rw [List.length_take]; omega⟩
theorem QE {x:Int}:∃ L:List Str,L.length=4 /\ (∀ n ∈ L,PyData.strOk n=true) /\ L.Nodup /\ ∀ M:Mh,Ab (.lst [.lst (nL0.map D.str),.lst (nL1.map D.str),.lst (nL2.map D.str)]) (.int (x % 3)) M=some (.lst (L.map D.str),M):=by
  have h0:0 <= x % 3:=Int.emod_nonneg _ (by decide)
  have h1:x % 3 < 3:=Int.emod_lt_of_pos _ (by decide)
  rcases (show x % 3=0 ∨ x % 3=1 ∨ x % 3=2 by omega) with h | h | h <;> rw [h]
  . exact ⟨nL0,rfl,by decide +kernel,by decide +kernel,fun M=>rfl⟩
  . exact ⟨nL1,rfl,by decide +kernel,by decide +kernel,fun M=>rfl⟩
  . exact ⟨nL2,rfl,by decide +kernel,by decide +kernel,fun M=>rfl⟩
theorem Q3 {k:Nat}:Cl k (mkD sf sz bg ns):=by
  have:=Bv (k:=k) (f:=hdD) (fun n=>by simp [hdD,Cl,ClL]) ns
  simp [mkD,Cl,ClL,this]
theorem K2 {x:Int}:∃ (sz bg:Int) (ns:List Str),2 <= sz /\ sz <= 10 /\ 0 <= bg /\ bg < sz /\ Ns ns /\ ES [.int x,.str (kdS sf)] μ=some (mkD sf sz bg ns,μ):=by
  have hz:=B5
  let s:Int:=2 + x / 4 % 9
  have qs:s=2 + x / 4 % 9:=rfl
  have s0:2 <= s:=by have:=Int.emod_nonneg (x / 4) (show (9:Int) ≠ 0 by decide); omega
  have s1:s <= 10:=by have:=Int.emod_lt_of_pos (x / 4) (show (0:Int) < 9 by decide); omega
  generalize s=s at qs s0 s1
  have b0:0 <= x / 324 % s:=Int.emod_nonneg _ (by omega)
  have b1:x / 324 % s < s:=Int.emod_lt_of_pos _ (by omega)
  obtain ⟨L,l4,lok,lnd,lix⟩:=QE (x:=x / 36)
  have t0:0 <= x / 108 % 3:=Int.emod_nonneg _ (by decide)
  have t1:x / 108 % 3 < 3:=Int.emod_lt_of_pos _ (by decide)
  let j:Nat:=(1 + (1 + x / 108 % 3)).toNat
  have qj:(j:Int)=1 + (1 + x / 108 % 3):=by show (((1 + (1 + x / 108 % 3)).toNat:Nat):Int)=_; omega
  generalize j=j at qj
  refine ⟨s,x / 324 % s,L.take j,s0,s1,b0,b1,Nt lok lnd l4 (by omega) (by omega),?_⟩
  refine Aa (g:=[]) (τ2:=[some (.int x),some (.str (kdS sf)),some (.int s),some (.lst (L.map D.str)),some (.int (1 + x / 108 % 3)),some (.lst ((L.take j).map hdD))]) ?_ rfl Q3
  rw [List.append_nil]
  refine pq (τ1:=[some (.int x),some (.str (kdS sf)),some (.int s),none,none,none]) (pa (d:=.int s) (po (x:=.int 2) (y:=.int (x / 4 % 9)) rfl (po (x:=.int (x / 4)) (y:=.int 9) (po (x:=.int x) (y:=.int 4) rfl rfl (Bc (by decide) (by decide))) rfl (Bz (by decide))) (by rw [qs]; rfl)) rfl) ?_
  refine pq (τ1:=[some (.int x),some (.str (kdS sf)),some (.int s),some (.lst (L.map D.str)),none,none]) (pa (po (x:=.lst [.lst (nL0.map D.str),.lst (nL1.map D.str),.lst (nL2.map D.str)]) (y:=.int (x / 36 % 3)) ?_ (po (x:=.int (x / 36)) (y:=.int 3) (po (x:=.int x) (y:=.int 36) rfl rfl (Bc (by decide) (by decide))) rfl (Bz (by decide))) (lix μ)) rfl) ?_
  . exact pd (ds:=[.lst (nL0.map D.str),.lst (nL1.map D.str),.lst (nL2.map D.str)]) (pc (pd (ds:=nL0.map D.str) rfl (Aq (by simp; omega))) (pc (pd (ds:=nL1.map D.str) rfl (Aq (by simp; omega))) (pc (pd (ds:=nL2.map D.str) rfl (Aq (by simp; omega))) rfl))) (Aq (by simp; omega))
  refine pq (τ1:=[some (.int x),some (.str (kdS sf)),some (.int s),some (.lst (L.map D.str)),some (.int (1 + x / 108 % 3)),none]) (pa (po (x:=.int 1) (y:=.int (x / 108 % 3)) rfl (po (x:=.int (x / 108)) (y:=.int 3) (po (x:=.int x) (y:=.int 108) rfl rfl (Bc (by decide) (by decide))) rfl (Bz (by decide))) rfl) rfl) ?_
  refine pq (τ1:=[some (.int x),some (.str (kdS sf)),some (.int s),some (.lst (L.map D.str)),some (.int (1 + x / 108 % 3)),some (.lst ((L.take j).map hdD))]) (pa (D2 (ds:=(L.take j).map D.str) (es:=(L.take j).map hdD) (JI (p2 (x:=.lst (L.map D.str)) (a:=none) (b:=some (1 + (1 + x / 108 % 3))) rfl rfl rfl ?_)) (by simp; omega) ?_ (Aq (by simp; omega))) rfl) ?_
  . show some (D.lst (CT (L.map D.str) none (some (1 + (1 + x / 108 % 3)))),μ)=_
    rw [← qj,Mj (α:=.non) (by rw [List.length_map]; omega),List.map_take]
  . have:=Fb (μ:=μ) (mc:=DV) (me:=(AG A4 (AD (AA 0) (AD (mC (.int 0)) (AD (AG A4 AK) AK))))) (τ0:=[none]) (f:=D.str) (F:=hdD) (p:=fun _=>true) (xs:=L.take j) (ys:=[]) (fun _ _=>rfl) (fun t _ _=>pd (ds:=[.str t,.int 0,.tup []]) (pc rfl (pc rfl (pc (pd (ds:=[]) rfl (Am (by simp))) rfl))) (Am (by simp; omega)))
    rw [Fi,List.nil_append] at this
    exact this
  . exact pr (pd (ds:=[.str (kdS sf),.int s,.int (x / 324 % s),.tup [],.tup ((L.take j).map hdD)]) (pc rfl (pc rfl (pc (po (x:=.int (x / 324)) (y:=.int s) (po (x:=.int x) (y:=.int 324) rfl rfl (Bc (by decide) (by decide))) rfl (Bz (by omega))) (pc (pd (ds:=[]) rfl (Am (by simp))) (pc rfl rfl))))) (Am (by simp; omega)))
end
end K13
set_option maxHeartbeats 4000000
namespace K11
open PySem L2 Mi Ht K13
theorem HI:∀ {a b:List Int},a.Pairwise (· < ·)->b.Pairwise (· < ·)->(∀ x,x ∈ a ↔ x ∈ b)->a=b
  | [],[],_,_,_=>rfl
  | [],y :: b,_,_,h=>absurd ((h y).mpr (by simp)) (by simp)
  | x :: a,[],_,_,h=>absurd ((h x).mp (by simp)) (by simp)
  | x :: a,y :: b,ha,hb,h=>by
    rw [List.pairwise_cons] at ha hb
    have e:x=y:=by
      rcases List.mem_cons.mp ((h x).mp (by simp)) with z | z
      . exact z
      . rcases List.mem_cons.mp ((h y).mpr (by simp)) with z' | z'
        . exact z'.symm
        . have:=hb.1 x z
          have:=ha.1 y z'
          omega
    subst e
    rw [HI ha.2 hb.2 fun z=>?_]
    constructor
    . intro hz
      rcases List.mem_cons.mp ((h z).mp (List.mem_cons_of_mem _ hz)) with q | q
      . have:=ha.1 z hz; omega
      . exact q
    . intro hz
      rcases List.mem_cons.mp ((h z).mpr (List.mem_cons_of_mem _ hz)) with q | q
      . have:=hb.1 z hz; omega
      . exact q
theorem M7 {a b:List Int} (h:∀ x,x ∈ a ↔ x ∈ b):srt a=srt b:=HI (Dr a) (Dr b) fun x=>by rw [Ci,Ci]; exact h x
abbrev Rc:=Int × List Int
def A7 (sf:Bool) (sz:Int) (r:Rc):List Int:=if sf=true /\ r.2 ≠ [] then Fu sz.toNat else srt (r.1 :: r.2)
structure DA (sz:Int) (r:Rc):Prop where
  f:0 <= r.1 /\ r.1 < sz
  l:∀ x ∈ r.2,0 <= x /\ x < sz
  n:r.2.length <= 60
section
variable {sf:Bool} {sz bg:Int} {ns:List Str}
theorem OG {r:Rc} {v:Int}:bsd sf sz (A7 sf sz r) v=A7 sf sz (r.1,r.2 ++ [v]):=by
  cases sf with
  | true=>
    unfold bsd A7
    rw [if_pos rfl,if_pos ⟨rfl,by simp⟩]
  | false=>
    unfold bsd A7
    rw [if_neg (by decide),if_neg (by simp),if_neg (by simp)]
    refine M7 fun x=>?_
    rw [List.mem_append,Ci]
    simp [or_assoc]
theorem Mu {w c:Int}:CV sf sz w c=A7 sf sz (w,if c = -1 then [] else [c]):=by
  unfold CV
  by_cases h:c = -1
  . rw [if_pos h,if_pos h]
    unfold A7
    rw [if_neg (by simp)]
    rfl
  . rw [if_neg h,if_neg h]
    unfold A7 bsd
    cases sf with
    | true=>rw [if_pos rfl,if_pos ⟨rfl,by simp⟩]
    | false=>rw [if_neg (by decide),if_neg (by simp)]; rfl
theorem nats_mem {n:Nat} {x:Int}:x ∈ Fu n ↔ 0 <= x /\ x < n:=by
  unfold Fu
  rw [List.mem_map]
  constructor
  . rintro ⟨a,ha,rfl⟩
    have:=List.mem_range.mp ha
    exact ⟨by show (0:Int) <= ((a:Nat):Int); omega,by show ((a:Nat):Int) < n; omega⟩
  . intro h
    exact ⟨x.toNat,List.mem_range.mpr (by omega),by show ((x.toNat:Nat):Int)=x; omega⟩
theorem Pb {r:Rc} (h:DA sz r) (x:Int) (hx:x ∈ A7 sf sz r):0 <= x /\ x < sz:=by
  unfold A7 at hx
  split at hx
  . have:=nats_mem.mp hx
    have:=h.f
    omega
  . rw [Ci] at hx
    rcases List.mem_cons.mp hx with z | z
    . subst z; exact h.f
    . exact h.l x z
theorem Nv {r:Rc} (h1:sz <= 10) (h:DA sz r):(A7 sf sz r).length <= 10:=by
  unfold A7
  split
  . unfold Fu; simp; have:=h.f; omega
  . have nd:(srt (r.1 :: r.2)).Nodup:=(Dr _).imp fun z=>by omega
    have:=Dw (r:=Fu 10) nd fun x hx=>nats_mem.mpr (by
      rw [Ci] at hx
      rcases List.mem_cons.mp hx with z | z
      . subst z; have:=h.f; omega
      . have:=h.l x z; omega)
    simpa [Fu] using this
theorem Ly {r:Rc} (h:DA sz r):A7 sf sz r ≠ []:=by
  unfold A7
  split
  . intro z
    have:(0:Int) ∈ Fu sz.toNat:=nats_mem.mpr ⟨by omega,by have:=h.f; omega⟩
    rw [z] at this; cases this
  . intro z
    have:r.1 ∈ srt (r.1 :: r.2):=(Ci _ _).mpr (by simp)
    rw [z] at this; cases this
theorem Kd {r:Rc} (h1:sz <= 10) (h:DA sz r):D9 (A7 sf sz r):=⟨by have:=Nv (sf:=sf) h1 h; omega,fun x hx=>by have:=Pb h x hx; omega⟩
end
def tP:Option (List Int)->PyData
  | none=>.none
  | some l=>.tuple (l.map PyData.int)
def clP (w c:Int) (ts:List (Option (List Int))):PyData:=.tuple [.int w,.int c,.tuple (ts.map tP)]
section
variable {μ:Mh}
theorem Hg:∀ xs:List Int,PyData.eqvAll (xs.map PyData.int) (xs.map PyData.int)=true
  | []=>rfl
  | x :: r=>by
    show ((x == x) && PyData.eqvAll (r.map PyData.int) (r.map PyData.int))=true
    rw [Hg r]; simp
theorem HL:∀ ts:List (Option (List Int)),Bm μ (ts.map tD)=some (ts.map tP) /\ PyData.canLayAll0 (ts.map tP)=true /\ PyData.depthAll (ts.map tP) <= 1 /\ PyData.eqvAll (ts.map tP) (ts.map tP)=true
  | []=>⟨by unfold Bm; rfl,rfl,Nat.zero_le _,rfl⟩
  | t :: ts=>by
    obtain ⟨a1,a2,a3,a4⟩:=HL ts
    have e1:toP μ (tD t)=some (tP t):=by
      cases t with
      | none=>unfold tD toP; rfl
      | some l=>unfold tD toP; rw [EA]; rfl
    have e2:PyData.canLay0 (tP t)=true:=by
      cases t with
      | none=>rfl
      | some l=>exact (Dz l).1
    have e3:PyData.depth (tP t) <= 1:=by
      cases t with
      | none=>exact Nat.zero_le _
      | some l=>show PyData.depthAll (l.map PyData.int) + 1 <= 1; rw [(Dz l).2]; exact Nat.le_refl _
    have e4:PyData.eqv (tP t) (tP t)=true:=by
      cases t with
      | none=>rfl
      | some l=>exact Hg l
    refine ⟨?_,?_,?_,?_⟩
    . rw [List.map_cons]; unfold Bm; rw [e1,a1]; rfl
    . show (PyData.canLay0 (tP t) && PyData.canLayAll0 (ts.map tP))=true
      rw [e2,a2]; rfl
    . show max (PyData.depth (tP t)) (PyData.depthAll (ts.map tP)) <= 1
      omega
    . show (PyData.eqv (tP t) (tP t) && PyData.eqvAll (ts.map tP) (ts.map tP))=true
      rw [e4,a4]; rfl
theorem Dk {neg:Bool} {w c:Int} {ts:List (Option (List Int))}:DU neg (clD w c ts) (clD w c ts) μ=some (.bl (!neg),μ):=by
  obtain ⟨a1,a2,a3,a4⟩:=HL (μ:=μ) ts
  have e1:Ec μ (clD w c ts)=some (clP w c ts):=by
    show (Bm μ [.int w,.int c,.tup (ts.map tD)]).map PyData.tuple=_
    have:Bm μ [.int w,.int c,.tup (ts.map tD)]=some [.int w,.int c,.tuple (ts.map tP)]:=by
      have e3:toP μ (.tup (ts.map tD))=some (.tuple (ts.map tP)):=by unfold toP; rw [a1]; rfl
      unfold Bm toP Bm toP Bm
      rw [e3]
      unfold Bm; rfl
    rw [this]; rfl
  have s1:SeqAt.shaped (clP w c ts)=true:=by
    show ((true && (true && (PyData.canLayAll0 (ts.map tP) && true))) && decide (max 0 (max 0 (max (PyData.depthAll (ts.map tP) + 1) 0)) + 1 <= 64))=true
    rw [a2,decide_eq_true (by omega)]; rfl
  have q1:PyData.eqv (clP w c ts) (clP w c ts)=true:=by
    show ((w == w) && ((c == c) && (PyData.eqvAll (ts.map tP) (ts.map tP) && true)))=true
    rw [a4]; simp
  rw [ME e1 e1 s1 s1,q1]
  cases neg <;> rfl
end
end K11
set_option maxHeartbeats 4000000
namespace K11
open PySem L2 Mi Ht K13
def stD (w c:Int):MO:=.dK [(.inr "worth",.int w),(.inr "coming",.int c),(.inr "readers",.ref 1)]
def rcD (f:Int) (b:Nat):MO:=.dK [(.inr "first",.int f),(.inr "beside",.ref b)]
abbrev Rd:=Option Rc × Nat
def rdD:Rd->D
  | (none,_)=>.non
  | (some _,b)=>.ref (b + 1)
structure Hs (μ:Mh) (w c:Int) (q:List Rd):Prop where
  s0:μ[0]? = some (stD w c)
  s1:μ[1]? = some (.lst (q.map rdD))
  rc:∀ (k:Nat) (r:Rc) (b:Nat),q[k]? = some (some r,b)->3 <= b /\ μ[b]? = some (.lst (r.2.map D.int)) /\ μ[b + 1]? = some (rcD r.1 b)
  sep:∀ (j k:Nat) (r s:Rc) (b e:Nat),q[j]? = some (some r,b)->q[k]? = some (some s,e)->j ≠ k->b ≠ e /\ b ≠ e + 1 /\ e ≠ b + 1
theorem Ig {μ g:Mh} {n:Nat} {x:MO} (h:μ[n]? = some x):(μ ++ g)[n]? = some x:=by
  rw [List.getElem?_append_left (List.getElem?_eq_some_iff.mp h).1]; exact h
theorem Hs.app {μ g:Mh} {w c:Int} {q:List Rd} (h:Hs μ w c q):Hs (μ ++ g) w c q:=⟨Ig h.s0,Ig h.s1,fun k r b e=>by
  obtain ⟨a,b1,b2⟩:=h.rc k r b e
  exact ⟨a,Ig b1,Ig b2⟩,h.sep⟩
theorem nWC:("worth" : Str) ≠ "coming" := by decide +kernel
theorem nWR:("worth" : Str) ≠ "readers" := by decide +kernel
theorem nCR:("coming" : Str) ≠ "readers" := by decide +kernel
theorem nFB:("first" : Str) ≠ "beside" := by decide +kernel
section
variable {μ μ1 μ2:Mh} {τ:Sl} {w c f:Int} {b n:Nat} {a0 b0 c0 d:D} {ds:List D}
theorem P8:Cu [(.inr "worth",a0),(.inr "coming",b0),(.inr "readers",c0)] (.inr "worth")=some a0:=by simp [Cu]
theorem QB:Cu [(.inr "worth",a0),(.inr "coming",b0),(.inr "readers",c0)] (.inr "coming")=some b0:=by simp [Cu,nWC]
theorem P9:Cu [(.inr "worth",a0),(.inr "coming",b0),(.inr "readers",c0)] (.inr "readers")=some c0:=by simp [Cu,nWR,nCR]
theorem QA:Cu [(.inr "first",a0),(.inr "beside",b0)] (.inr "first")=some a0:=by simp [Cu]
theorem QC:Cu [(.inr "first",a0),(.inr "beside",b0)] (.inr "beside")=some b0:=by simp [Cu,nFB]
theorem Qc:FH [(.inr "worth",a0),(.inr "coming",b0),(.inr "readers",c0)] (.inr "worth") d=[(.inr "worth",d),(.inr "coming",b0),(.inr "readers",c0)]:=by simp [FH,nWC.symm,nWR.symm]
theorem OQ:FH [(.inr "worth",a0),(.inr "coming",b0),(.inr "readers",c0)] (.inr "coming") d=[(.inr "worth",a0),(.inr "coming",d),(.inr "readers",c0)]:=by simp [FH,nWC,nCR.symm]
theorem MF {kvs:List (Key × D)} {k:Str} (h:μ[n]? = some (.dK kvs)) (hv:Cu kvs (.inr k)=some d):Ar (.ref n) (.str k) μ=some (d,μ):=by
  unfold Ar
  rw [AL (show Dq (.ref n) μ=some ((n,kvs),μ) from by unfold Dq; dsimp only; rw [h])]
  show ((some (Sum.inr k:Key)).bind (Cu kvs)).map _=_
  show (Cu kvs (.inr k)).map _=_
  rw [hv]; rfl
theorem g_w {S:Sl} {k:Nat} (hs:S[k]? = some (some (.ref 0))) (h:μ[0]? = some (stD w c)):mOp Ar (AA k) (mC (.str "worth")) S μ=some (.int w,μ):=po (x:=.ref 0) (y:=.str "worth") (BX hs) rfl (MF h P8)
theorem g_c {S:Sl} {k:Nat} (hs:S[k]? = some (some (.ref 0))) (h:μ[0]? = some (stD w c)):mOp Ar (AA k) (mC (.str "coming")) S μ=some (.int c,μ):=po (x:=.ref 0) (y:=.str "coming") (BX hs) rfl (MF h QB)
theorem g_r {S:Sl} {k:Nat} (hs:S[k]? = some (some (.ref 0))) (h:μ[0]? = some (stD w c)):mOp Ar (AA k) (mC (.str "readers")) S μ=some (.ref 1,μ):=po (x:=.ref 0) (y:=.str "readers") (BX hs) rfl (MF h P9)
theorem g_f {S:Sl} {k:Nat} (hs:S[k]? = some (some (.ref n))) (h:μ[n]? = some (rcD f b)):mOp Ar (AA k) (mC (.str "first")) S μ=some (.int f,μ):=po (x:=.ref n) (y:=.str "first") (BX hs) rfl (MF h QA)
theorem g_b {S:Sl} {k:Nat} (hs:S[k]? = some (some (.ref n))) (h:μ[n]? = some (rcD f b)):mOp Ar (AA k) (mC (.str "beside")) S μ=some (.ref b,μ):=po (x:=.ref n) (y:=.str "beside") (BX hs) rfl (MF h QC)
variable {sf:Bool} {sz bg:Int} {ns:List Str}
theorem MA (h0:0 <= sz) (h1:sz <= 1000):F4 D.tup (.int sz) μ=some (.tup ((Fu sz.toNat).map D.int),μ):=by
  show (if 0 <= sz /\ sz <= 1000 then some (D.tup (JY sz.toNat),μ) else none)=_
  rw [if_pos ⟨h0,h1⟩]; rfl
theorem OL {r:Rc} (h1:sz <= 10) (ok:DA sz r) (hb:μ[b]? = some (.lst (r.2.map D.int))) (hd:μ[n]? = some (rcD r.1 b)):FW [mkD sf sz bg ns,.ref n] μ=some (.tup ((A7 sf sz r).map D.int),μ):=by
  have hz:=B5
  have hn:=ok.n
  have hf:=ok.f
  refine Aa (g:=[]) (τ2:=[some (mkD sf sz bg ns),some (.ref n),some (.lst ((r.1 :: r.2).map D.int))]) ?_ rfl (by unfold Cl; exact Bv (C8 _) _)
  rw [List.append_nil]
  refine pq (τ1:=[some (mkD sf sz bg ns),some (.ref n),some (.lst ((r.1 :: r.2).map D.int))]) (pa (d:=.lst ((r.1 :: r.2).map D.int)) (po (x:=.lst [.int r.1]) (y:=.ref b) (pd (ds:=[.int r.1]) (pc (g_f rfl hd) rfl) (Aq (by simp; omega))) (g_b rfl hd) ?_) rfl) ?_
  . show Gy [.int r.1] b μ=_
    unfold Gy
    rw [hb]
    exact Aq (by simp; omega)
  have t1:AN (mOp A9 (mOp Ab (AA 0) (mC (.int 0))) (mC (.str "safe"))) [some (mkD sf sz bg ns),some (.ref n),some (.lst ((r.1 :: r.2).map D.int))] μ=some (sf,μ):=AQ (po (x:=.str (kdS sf)) (y:=.str "safe") (po (x:=mkD sf sz bg ns) (y:=.int 0) rfl rfl rfl) rfl Gp)
  have t2:AN (mOp Bq (mOp Ar (AA 1) (mC (.str "beside"))) (AG BN AK)) [some (mkD sf sz bg ns),some (.ref n),some (.lst ((r.1 :: r.2).map D.int))] μ=some (!r.2.isEmpty,μ):=AQ (po (x:=.ref b) (y:=.lst []) (g_b rfl hd) (pd (ds:=[]) rfl (Aq (by simp))) (N0 (K7 hb)))
  have nb:(Ay (r.1 :: r.2)).length <= 18:=Cj fun x hx=>by
    rcases List.mem_cons.mp hx with z | z
    . subst z; omega
    . have:=ok.l x z; omega
  have fin:sf=false ∨ r.2=[]->A7 sf sz r=srt (r.1 :: r.2):=fun h=>if_neg fun z=>by
    rcases h with h | h
    . rw [h] at z; exact absurd z.1 (by decide)
    . exact z.2 h
  have last:sf=false ∨ r.2=[]->An (AG BY (AD (mUn Bh (AA 2)) AK)) [some (mkD sf sz bg ns),some (.ref n),some (.lst ((r.1 :: r.2).map D.int))] μ=some ((.rt (.tup ((A7 sf sz r).map D.int)),[some (mkD sf sz bg ns),some (.ref n),some (.lst ((r.1 :: r.2).map D.int))]),μ):=fun h=>by
    rw [fin h]
    exact pr (pd (ds:=[.lst ((srt (r.1 :: r.2)).map D.int)]) (pc (pn (x:=.lst ((r.1 :: r.2).map D.int)) rfl (Nz nb)) rfl) rfl)
  cases sf with
  | false=>exact pq (piF (D3 t1) rfl) (last (.inl rfl))
  | true=>
    cases hr:r.2 with
    | nil=>rw [← hr]; exact pq (piF (CA t1 (t2.trans (by rw [hr]; rfl))) rfl) (last (.inr hr))
    | cons y l=>
      rw [← hr]
      have em:A7 true sz r=Fu sz.toNat:=if_pos ⟨rfl,by rw [hr]; simp⟩
      rw [em]
      exact B9 (piT (CA t1 (t2.trans (by rw [hr]; rfl))) (pr (pn (x:=.int sz) (po (x:=mkD true sz bg ns) (y:=.int 1) rfl rfl rfl) (MA (by omega) (by omega)))))
def dO (sf:Bool) (sz:Int) (p:Rd):Option (List Int):=p.1.map (A7 sf sz)
noncomputable abbrev Q0:Sl->M (Fl × Sl):=(AU (Ah (mOp Ab (mOp Ar (AA 1) (mC (.str "readers"))) (AA 3)) (AO 4))
    (sIf (AN (mOp (DS false) (AA 4) (mC .non))) (Bw (BG C9 (AA 2) (AD (mC .non) AK))) (Bw (BG C9 (AA 2) (AD (AG FW (AD (AA 0) (AD (AA 4) AK))) AK)))))
theorem Mb {q:List Rd} {acc:List D} {k:Nat} {p:Rd} {o4:Option D} (h1:sz <= 10) (H:Hs μ w c q) (hp:q[k]? = some p) (ok:∀ r,p.1=some r->DA sz r) (ha:acc.length <= 100) :
    Q0 [some (mkD sf sz bg ns),some (.ref 0),some (.ref μ.length),some (.int k),o4] (μ ++ [.lst acc])=some ((.next,[some (mkD sf sz bg ns),some (.ref 0),some (.ref μ.length),some (.int k),some (rdD p)]),μ ++ [.lst (acc ++ [tD (dO sf sz p)])]):=by
  have H':=H.app (g:=[.lst acc])
  refine AT (μ1:=μ ++ [.lst acc]) (τ1:=[some (mkD sf sz bg ns),some (.ref 0),some (.ref μ.length),some (.int k),some (rdD p)]) (pa (po (x:=.ref 1) (y:=.int k) (g_r rfl H'.s0) rfl (En H'.s1 (EW (by rw [List.getElem?_map,hp]; rfl)))) rfl) ?_
  obtain ⟨o,b⟩:=p
  cases o with
  | none=>
    exact Cs (μ1:=μ ++ [.lst acc]) (AQ (po (x:=.non) (y:=.non) rfl rfl rfl)) (Kw (x:=.non) rfl (by omega) rfl)
  | some r=>
    obtain ⟨_,e1,e2⟩:=H'.rc k r b hp
    exact ET (μ1:=μ ++ [.lst acc]) (AQ (po (x:=.ref (b + 1)) (y:=.non) rfl rfl rfl)) (Kw (x:=.tup ((A7 sf sz r).map D.int)) rfl (by omega) (pd (ds:=[mkD sf sz bg ns,.ref (b + 1)]) rfl (OL h1 (ok r rfl) e1 e2)))
theorem Mc {q:List Rd} (h1:sz <= 10) (H:Hs μ w c q) (ok:∀ p ∈ q,∀ r,p.1=some r->DA sz r):∀ (is:List Nat) (ps:List Rd) (acc:List D) (o3 o4:Option D),is.map (fun k=>q[k]?)=ps.map some->acc.length + is.length <= 50->∃ o3' o4':Option D,
    Cd (AO 3) Q0 (is.map fun i:Nat=>D.int i) [some (mkD sf sz bg ns),some (.ref 0),some (.ref μ.length),o3,o4] (μ ++ [.lst acc])=some ((.next,[some (mkD sf sz bg ns),some (.ref 0),some (.ref μ.length),o3',o4']),μ ++ [.lst (acc ++ (ps.map (dO sf sz)).map tD)])
  | [],[],acc,o3,o4,_,_=>⟨o3,o4,by rw [List.map_nil,List.map_nil,List.map_nil,List.append_nil]; rfl⟩
  | [],_ :: _,_,_,_,h,_=>by simp at h
  | _ :: _,[],_,_,_,h,_=>by simp at h
  | i :: is,p :: ps,acc,o3,o4,h,hl=>by
    rw [List.map_cons,List.map_cons,List.cons.injEq] at h
    rw [List.length_cons] at hl
    have st:=Mb (sf:=sf) (bg:=bg) (ns:=ns) (acc:=acc) (o4:=o4) h1 H h.1 (fun r e=>ok p (List.mem_of_getElem? h.1) r e) (by omega)
    obtain ⟨q3,q4,go⟩:=Mc h1 H ok is ps (acc ++ [tD (dO sf sz p)]) (some (.int i)) (some (rdD p)) h.2 (by simp; omega)
    refine ⟨q3,q4,BB (x:=.int i) rfl st ?_⟩
    rw [go]; simp
theorem KH {α:Type} (q:List α):(List.range q.length).map (fun k=>q[k]?)=q.map some:=by
  apply List.ext_getElem
  . simp
  . intro i h1 h2
    simp at h1 h2
    simp [h1]
theorem IZ {S:Sl} {ma:Sl->M D} {k:Nat} (h:ma S μ=some (.int k,μ)) (hk:k <= 1000):DW (AD ma AK) S μ=some ((List.range k).map fun i:Nat=>D.int i,μ):=by
  unfold DW
  rw [AL (show AD ma AK S μ=some ([.int (k:Int)],μ) from pc h rfl)]
  unfold JN
  dsimp only
  rw [if_pos (by omega),RN]
theorem JB (h:μ[n]? = some (.lst ds)):BY [.ref n] μ=some (.tup ds,μ):=by
  show bnd (Bf (.ref n)) (fun ds=>ret (D.tup ds)) μ=_
  rw [AL (show Bf (.ref n) μ=some (ds,μ) from by unfold Bf; dsimp only; rw [h])]
  rfl
theorem OM {q:List Rd} (N:Ns ns) (h1:sz <= 10) (H:Hs μ w c q) (hq:q.length + 1=ns.length) (ok:∀ p ∈ q,∀ r,p.1=some r->DA sz r):FX [mkD sf sz bg ns,.ref 0] μ=some (clD w c (q.map (dO sf sz)),μ):=by
  have hz:=B5
  have hhi:=N.hi
  obtain ⟨q3,q4,go⟩:=Mc (sf:=sf) (bg:=bg) (ns:=ns) h1 H ok (List.range q.length) q [] none none (KH q) (by simp; omega)
  have H':=H.app (g:=[.lst ((q.map (dO sf sz)).map tD)])
  refine Aa (g:=[.lst ((q.map (dO sf sz)).map tD)]) (τ2:=[some (mkD sf sz bg ns),some (.ref 0),some (.ref μ.length),q3,q4]) ?_ rfl (CM _ _ _ _)
  refine AT (μ1:=μ ++ [.lst []]) (τ1:=[some (mkD sf sz bg ns),some (.ref 0),some (.ref μ.length),none,none]) (Be (d:=.ref μ.length) (BI (ds:=[]) rfl ?_) rfl) ?_
  . unfold Ft
    rw [AL (show lim ([]:List D).length μ=some ((),μ) from by unfold lim; rw [if_pos (by simp)])]
  refine AT (C7 (IZ (k:=q.length) (po (x:=.int ns.length) (y:=.int 1) (pd (ds:=[.tup (ns.map hdD)]) (pc (po (x:=mkD sf sz bg ns) (y:=.int 4) rfl rfl rfl) rfl) ?_) rfl ?_) (by omega)) go) ?_
  . show some (D.int (((ns.map hdD).length:Nat):Int),_)=_
    rw [List.length_map]
  . show some (D.int ((ns.length:Int) - 1),_)=_
    rw [show ((ns.length:Int) - 1)=(q.length:Int) by omega]
  rw [List.nil_append]
  exact B2 (BI (ds:=[.int w,.int c,.tup ((q.map (dO sf sz)).map tD)]) (pc (g_w rfl H'.s0) (pc (g_c rfl H'.s0) (pc (pd (ds:=[.ref μ.length]) rfl (JB g1)) rfl))) (Am (by simp; omega)))
end
end K11
set_option maxHeartbeats 4000000
namespace K11
open PySem L2 Mi Ht K13
section
variable {μ μ1 μ2:Mh} {τ:Sl} {w c f x:Int} {b n:Nat} {d:D} {ds:List D}
variable {sf:Bool} {sz bg:Int} {ns:List Str}
theorem K1 {t:Option (List Int)} {v:Int} (h0:0 <= sz) (h1:sz <= 10) (hv:0 <= v /\ v < 10) (hs:∀ l,t=some l->D9 l):DP [mkD sf sz bg ns,tD t,.int v] μ=some (tD (t.map fun l=>bsd sf sz l v),μ):=by
  have hz:=B5
  refine Aa (g:=[]) (τ2:=[some (mkD sf sz bg ns),some (tD t),some (.int v)]) ?_ rfl (Ea _ _)
  rw [List.append_nil]
  cases t with
  | none=>exact B9 (piT (AQ (po (x:=.non) (y:=.non) rfl rfl rfl)) (pr rfl))
  | some l=>
    obtain ⟨s1,s2⟩:=hs l rfl
    have t1:AN (mOp A9 (mOp Ab (AA 0) (mC (.int 0))) (mC (.str "safe"))) [some (mkD sf sz bg ns),some (tD (some l)),some (.int v)] μ=some (sf,μ):=AQ (po (x:=.str (kdS sf)) (y:=.str "safe") (po (x:=mkD sf sz bg ns) (y:=.int 0) rfl rfl rfl) rfl Gp)
    refine pq (τ1:=[some (mkD sf sz bg ns),some (tD (some l)),some (.int v)]) (piF (AQ (po (x:=.tup (l.map D.int)) (y:=.non) rfl rfl rfl)) rfl) ?_
    show AU _ _ _ μ=some ((.rt (.tup ((bsd sf sz l v).map D.int)),_),μ)
    cases sf with
    | true=>exact B9 (piT t1 (pr (pn (x:=.int sz) (po (x:=mkD true sz bg ns) (y:=.int 1) rfl rfl rfl) (MA h0 (by omega)))))
    | false=>
      refine pq (piF t1 rfl) (pr (pd (ds:=[.lst ((srt (l ++ [v])).map D.int)]) (pc (pn (x:=.tup ((l ++ [v]).map D.int)) (po (x:=.tup (l.map D.int)) (y:=.tup [.int v]) rfl (pd (ds:=[.int v]) rfl (Am (by simp; omega))) ?_) (Je (Cj fun x hx=>?_))) rfl) rfl))
      . rw [Eo (by simp; omega),List.map_append]; rfl
      . rcases List.mem_append.mp hx with z | z
        . exact s2 x z
        . rw [List.mem_singleton] at z; subst z; exact hv
theorem L5:DN=BO:=rfl
theorem OK {ts:List (Option (List Int))} {j:Nat} {t:Option (List Int)} (hj:j < ts.length) (hl:ts.length <= 1000):DN [.tup (ts.map tD),.int j,tD t] μ=some (.tup ((ts.set j t).map tD),μ):=by
  rw [L5,IB (by rw [List.length_map]; exact hj) (by rw [List.length_map]; exact hl) (fun k=>Bv (Ea k) ts) (fun k=>Ea k _),IH]
def flt (x:Int) (k:Nat):Nat->List Int->List Int
  | _,[]=>[]
  | j,a :: r=>if x / (3 + (j:Int) + (k:Int)) % 3=1 then a :: flt x k (j + 1) r else flt x k (j + 1) r
theorem Gs (x:Int) (k:Nat):∀ (j:Nat) (l:List Int),(∀ a ∈ flt x k j l,a ∈ l) /\ (flt x k j l).length <= l.length
  | _,[]=>⟨fun _ h=>h,Nat.le_refl _⟩
  | j,a :: r=>by
    obtain ⟨h1,h2⟩:=Gs x k (j + 1) r
    unfold flt
    split
    . exact ⟨fun z hz=>(List.mem_cons.mp hz).elim (fun e=>by rw [e]; simp) fun m=>List.mem_cons_of_mem _ (h1 z m),by simp; omega⟩
    . exact ⟨fun z hz=>List.mem_cons_of_mem _ (h1 z hz),by simp; omega⟩
noncomputable abbrev Pr:Sl->M Bool:=(AN (mOp A9 (mOp Ak (mOp Ae (AA 3) (mOp AW (mOp AW (mC (.int 3)) (AA 0)) (AA 2))) (mC (.int 3))) (mC (.int 1))))
theorem MR {k:Nat} (hk:k <= 1000):∀ (l:List Int) (j:Nat) (ys:List D),j + l.length <= 1000->Br (Ch [0,1]) Pr (AA 1) [none,none,some (.int k),some (.int x)] (CO j (l.map D.int)) ys μ=some (ys ++ (flt x k j l).map D.int,μ)
  | [],j,ys,_=>by rw [show (flt x k j []).map D.int=[] from rfl,List.append_nil]; rfl
  | a :: l,j,ys,h=>by
    rw [List.length_cons] at h
    have ih:=fun ys=>MR hk l (j + 1) ys (by omega)
    show bnd (Ch [0,1] (.tup [.int j,.int a]) [none,none,some (.int k),some (.int x)]) _ μ=_
    rw [AL (show Ch [0,1] (.tup [.int (j:Int),.int a]) [none,none,some (.int k),some (.int x)] μ=some ([some (.int j),some (.int a),some (.int k),some (.int x)],μ) from rfl)]
    have tc:Pr [some (.int j),some (.int a),some (.int k),some (.int x)] μ=some (x / (3 + (j:Int) + (k:Int)) % 3 == 1,μ):=
      AQ (po (x:=.int (x / (3 + (j:Int) + (k:Int)) % 3)) (y:=.int 1) (po (x:=.int (x / (3 + (j:Int) + (k:Int)))) (y:=.int 3) (po (x:=.int x) (y:=.int (3 + (j:Int) + (k:Int))) rfl (po (x:=.int (3 + (j:Int))) (y:=.int k) (po (x:=.int 3) (y:=.int j) rfl rfl rfl) rfl rfl) (Bc (by omega) (by omega))) rfl (Bz (by decide))) rfl l_eqI)
    rw [AL tc]
    by_cases e:x / (3 + (j:Int) + (k:Int)) % 3=1
    . rw [e,if_pos (by rfl),AL (show AA 1 [some (.int (j:Int)),some (.int a),some (.int k),some (.int x)] μ=some (.int a,μ) from rfl),ih]
      show _=some (ys ++ (if x / (3 + (j:Int) + (k:Int)) % 3=1 then a :: flt x k (j + 1) l else flt x k (j + 1) l).map D.int,μ)
      rw [if_pos e]; simp
    . rw [beq_eq_false_iff_ne.mpr e,if_neg (by decide),ih]
      show _=some (ys ++ (if x / (3 + (j:Int) + (k:Int)) % 3=1 then a :: flt x k (j + 1) l else flt x k (j + 1) l).map D.int,μ)
      rw [if_neg e]
def tsL (x:Int):Nat->List (Option (List Int))->List (Option (List Int))
  | _,[]=>[]
  | k,t :: r=>t.map (flt x k 0) :: tsL x (k + 1) r
theorem JC (x:Int):∀ (k:Nat) (ts:List (Option (List Int))),(tsL x k ts).length=ts.length
  | _,[]=>rfl
  | k,t :: r=>by unfold tsL; rw [List.length_cons,JC x (k + 1) r,List.length_cons]
theorem Fz (x:Int):∀ (k:Nat) (ts:List (Option (List Int))),(∀ l,some l ∈ ts->D9 l)->∀ l,some l ∈ tsL x k ts->D9 l
  | _,[],_,l,h=>by cases h
  | k,t :: r,hs,l,h=>by
    unfold tsL at h
    rcases List.mem_cons.mp h with z | z
    . cases t with
      | none=>cases z
      | some l'=>
        cases z
        obtain ⟨s1,s2⟩:=hs l' (by simp)
        obtain ⟨f1,f2⟩:=Gs x k 0 l'
        exact ⟨by omega,fun y hy=>s2 y (f1 y hy)⟩
    . exact Fz x (k + 1) r (fun l hl=>hs l (List.mem_cons_of_mem _ hl)) l z
noncomputable abbrev Qt:Sl->M (Fl × Sl):=(AU (sIf (AN (mOp (DS true) (AA 7) (mC .non))) (Ah (AG BY (AD (Bn 2 [6,1] (Dj (AD (AA 7) AK)) (Ch [0,1]) Pr (AA 1) BN) AK)) (AO 7)) BJ)
    (Bw (BG C9 (AA 5) (AD (AA 7) AK))))
theorem Fa {ma:Sl->M D} {S:Sl} (h:ma S μ=some (.tup ds,μ)):Dj (AD ma AK) S μ=some (CO 0 ds,μ):=by
  unfold Dj
  rw [AL (show AD ma AK S μ=some ([.tup ds],μ) from pc h rfl)]
  rfl
theorem L3 {k:Nat} {t:Option (List Int)} {acc:List D} {a0 a2 a3 a4:Option D} (hk:k <= 100) (hs:∀ l,t=some l->l.length <= 100) (ha:acc.length <= 100) :
    Qt [a0,some (.int x),a2,a3,a4,some (.ref μ.length),some (.int k),some (tD t)] (μ ++ [.lst acc])=some ((.next,[a0,some (.int x),a2,a3,a4,some (.ref μ.length),some (.int k),some (tD (t.map (flt x k 0)))]),μ ++ [.lst (acc ++ [tD (t.map (flt x k 0))])]):=by
  have hz:=B5
  cases t with
  | none=>
    exact AT (μ1:=μ ++ [.lst acc]) (τ1:=[a0,some (.int x),a2,a3,a4,some (.ref μ.length),some (.int k),some .non]) (piF (AQ (po (x:=.non) (y:=.non) rfl rfl rfl)) rfl) (Kw (x:=.non) rfl (by omega) rfl)
  | some l=>
    have hl:=hs l rfl
    have hf:=(Gs x k 0 l).2
    refine AT (μ1:=μ ++ [.lst acc]) (τ1:=[a0,some (.int x),a2,a3,a4,some (.ref μ.length),some (.int k),some (.tup ((flt x k 0 l).map D.int))]) (piT (AQ (po (x:=.tup (l.map D.int)) (y:=.non) rfl rfl rfl)) (pa (pd (ds:=[.lst ((flt x k 0 l).map D.int)]) (pc (D2 (ds:=CO 0 (l.map D.int)) (es:=(flt x k 0 l).map D.int) (Fa rfl) (by rw [EU,List.length_map]; omega) ?_ (Aq (by rw [List.length_map]; omega))) rfl) rfl) rfl)) (Kw (x:=.tup ((flt x k 0 l).map D.int)) rfl (by omega) rfl)
    have:=MR (μ:=μ ++ [.lst acc]) (x:=x) (k:=k) (by omega) l 0 [] (by omega)
    rw [List.nil_append] at this
    exact this
theorem L4 {a0 a2 a3 a4:Option D}:∀ (ts:List (Option (List Int))) (k:Nat) (acc:List D) (o6 o7:Option D),k + ts.length <= 100->(∀ l,some l ∈ ts->l.length <= 100)->acc.length + ts.length <= 100->∃ o6' o7':Option D,
    Cd (Ch [6,7]) Qt (CO k (ts.map tD)) [a0,some (.int x),a2,a3,a4,some (.ref μ.length),o6,o7] (μ ++ [.lst acc])=some ((.next,[a0,some (.int x),a2,a3,a4,some (.ref μ.length),o6',o7']),μ ++ [.lst (acc ++ (tsL x k ts).map tD)])
  | [],k,acc,o6,o7,_,_,_=>⟨o6,o7,by rw [show (tsL x k []).map tD=[] from rfl,List.append_nil]; rfl⟩
  | t :: ts,k,acc,o6,o7,hk,hs,ha=>by
    rw [List.length_cons] at hk ha
    have st:=L3 (μ:=μ) (x:=x) (k:=k) (t:=t) (acc:=acc) (a0:=a0) (a2:=a2) (a3:=a3) (a4:=a4) (by omega) (fun l e=>hs l (by rw [e]; simp)) (by omega)
    obtain ⟨q6,q7,go⟩:=L4 (a0:=a0) (a2:=a2) (a3:=a3) (a4:=a4) ts (k + 1) (acc ++ [tD (t.map (flt x k 0))]) (some (.int k)) (some (tD (t.map (flt x k 0)))) (by omega) (fun l hl=>hs l (List.mem_cons_of_mem _ hl)) (by simp; omega)
    refine ⟨q6,q7,BB (x:=.tup [.int k,tD t]) (τ1:=[a0,some (.int x),a2,a3,a4,some (.ref μ.length),some (.int k),some (tD t)]) rfl st ?_⟩
    rw [go,show tsL x k (t :: ts)=t.map (flt x k 0) :: tsL x (k + 1) ts from rfl]
    simp
theorem K3 {ts:List (Option (List Int))} (hl:ts.length <= 50) (hs:∀ l,some l ∈ ts->D9 l):DQ [clD w c ts,.int x] μ=some (clD w c (tsL x 0 ts),μ):=by
  have hz:=B5
  obtain ⟨q6,q7,go⟩:=L4 (μ:=μ) (x:=x) (a0:=some (clD w c ts)) (a2:=some (.int w)) (a3:=some (.int c)) (a4:=some (.tup (ts.map tD))) ts 0 [] none none (by omega) (fun l h=>(hs l h).1) (by simp; omega)
  refine Aa (g:=[.lst ((tsL x 0 ts).map tD)]) (τ2:=[some (clD w c ts),some (.int x),some (.int w),some (.int c),some (.tup (ts.map tD)),some (.ref μ.length),q6,q7]) ?_ rfl (CM _ _ _ _)
  refine AT (μ1:=μ) (τ1:=[some (clD w c ts),some (.int x),some (.int w),some (.int c),some (.tup (ts.map tD)),none,none,none]) (Be (d:=clD w c ts) rfl rfl) ?_
  refine AT (μ1:=μ ++ [.lst []]) (τ1:=[some (clD w c ts),some (.int x),some (.int w),some (.int c),some (.tup (ts.map tD)),some (.ref μ.length),none,none]) (Be (d:=.ref μ.length) (BI (ds:=[]) rfl ?_) rfl) ?_
  . unfold Ft
    rw [AL (show lim ([]:List D).length μ=some ((),μ) from by unfold lim; rw [if_pos (by simp)])]
  refine AT (C7 (Fa (ds:=ts.map tD) rfl) go) ?_
  rw [List.nil_append]
  exact B2 (BI (ds:=[.int w,.int c,.tup ((tsL x 0 ts).map tD)]) (pc rfl (pc rfl (pc (pd (ds:=[.ref μ.length]) rfl (JB g1)) rfl))) (Am (by simp; omega)))
end
end K11
set_option maxHeartbeats 4000000
namespace K11
open PySem L2 Mi Ht K13
section
variable {μ μ1 μ2:Mh} {τ:Sl} {w c f x:Int} {b n:Nat} {d:D} {ds:List D}
variable {sf:Bool} {sz bg:Int} {ns:List Str} {ts:List (Option (List Int))}
noncomputable abbrev PY:Sl->M (Fl × Sl):=(AU (Ah (mOp Ab (AG BN (AD (mC .non) (AD (AG A4 (AD (AA 3) (AD (AA 4) (AD (AG DN (AD (AA 5) (AD (AA 8) (AD (mC .non) AK)))) AK)))) AK))) (AG MK (AD (mOp (FF false) (AA 11) (AA 9)) AK))) (AO 7))
    (sIf (AN (mOp Bq (AG BP (AD (AA 0) (AD (AA 1) (AD (AA 8) (AD (AA 11) AK))))) (AA 7))) (An (mC (.bl false))) BJ))
theorem Lp {k:Nat} {l:List Int} {v:Int} {a2 a6 a7 a10:Option D} (hl:ts.length <= 50) (hk:ts[k]? = some (some l)):∃ a7':Option D,
    PY [some (mkD sf sz bg ns),some (clD w c ts),a2,some (.int w),some (.int c),some (.tup (ts.map tD)),a6,a7,some (.int k),some (.tup (l.map D.int)),a10,some (.int v)] μ =
      some ((.next,[some (mkD sf sz bg ns),some (clD w c ts),a2,some (.int w),some (.int c),some (.tup (ts.map tD)),a6,a7',some (.int k),some (.tup (l.map D.int)),a10,some (.int v)]),μ):=by
  have hz:=B5
  have hkl:k < ts.length:=(List.getElem?_eq_some_iff.mp hk).1
  refine ⟨some (if v ∈ l then clD w c (ts.set k none) else .non),?_⟩
  refine pq (τ1:=[some (mkD sf sz bg ns),some (clD w c ts),a2,some (.int w),some (.int c),some (.tup (ts.map tD)),a6,some (if v ∈ l then clD w c (ts.set k none) else .non),some (.int k),some (.tup (l.map D.int)),a10,some (.int v)]) (pa (d:=if v ∈ l then clD w c (ts.set k none) else .non) (po (x:=.lst [.non,clD w c (ts.set k none)]) (y:=.int (if v ∈ l then 1 else 0)) (pd (ds:=[.non,clD w c (ts.set k none)]) (pc rfl (pc (pd (ds:=[.int w,.int c,.tup ((ts.set k none).map tD)]) (pc rfl (pc rfl (pc (pd (ds:=[.tup (ts.map tD),.int k,tD none]) rfl (OK hkl (by omega))) rfl))) (Am (by simp; omega))) rfl)) (Aq (by simp; omega))) (pd (ds:=[.bl (decide (v ∈ l))]) (pc (po (x:=.int v) (y:=.tup (l.map D.int)) rfl rfl (MD rfl)) rfl) ?_) ?_) rfl) ?_
  . show some (D.int (if decide (v ∈ l)=true then 1 else 0),μ)=_
    by_cases e:v ∈ l <;> simp [e]
  . by_cases e:v ∈ l
    . rw [if_pos e,if_pos e]; exact Jg rfl
    . rw [if_neg e,if_neg e]; exact Jg rfl
  . refine piF (AQ (po (pd (ds:=[mkD sf sz bg ns,clD w c ts,.int k,.int v]) rfl (IC (by omega) hk)) rfl ?_)) rfl
    by_cases e:v ∈ l
    . rw [if_pos e]; exact Dk
    . rw [if_neg e]; rfl
theorem Lq {k:Nat} {l:List Int} {a2 a6 a10:Option D} (hl:ts.length <= 50) (hk:ts[k]? = some (some l)):∀ (vs:List Nat) (a7 a11:Option D),∃ a7' a11':Option D,
    Cd (AO 11) PY (vs.map fun i:Nat=>D.int i) [some (mkD sf sz bg ns),some (clD w c ts),a2,some (.int w),some (.int c),some (.tup (ts.map tD)),a6,a7,some (.int k),some (.tup (l.map D.int)),a10,a11] μ =
      some ((.next,[some (mkD sf sz bg ns),some (clD w c ts),a2,some (.int w),some (.int c),some (.tup (ts.map tD)),a6,a7',some (.int k),some (.tup (l.map D.int)),a10,a11']),μ)
  | [],a7,a11=>⟨a7,a11,rfl⟩
  | v :: vs,a7,a11=>by
    obtain ⟨b7,st⟩:=Lp (μ:=μ) (w:=w) (c:=c) (sf:=sf) (sz:=sz) (bg:=bg) (ns:=ns) (v:=(v:Int)) (a2:=a2) (a6:=a6) (a7:=a7) (a10:=a10) hl hk
    obtain ⟨c7,c11,go⟩:=Lq (a2:=a2) (a6:=a6) (a10:=a10) hl hk vs b7 (some (.int v))
    exact ⟨c7,c11,BB (x:=.int v) rfl st go⟩
noncomputable abbrev QT:Sl->M (Fl × Sl):=(sIf (AN (mOp (DS false) (AA 9) (mC .non))) (AU (Ah (AG A4 (AD (AA 3) AK)) (AO 10))
    (AU (sIf (AN (mOp Bq (AA 4) (mUn CK (mC (.int 1))))) (Ah (AG DP (AD (AA 0) (AD (AA 10) (AD (AA 4) AK)))) (AO 10)) BJ)
    (sIf (AN (mOp Bq (AG BT (AD (AA 0) (AD (AA 1) (AD (AA 8) AK)))) (AG A4 (AD (AA 3) (AD (AA 4) (AD (AG DN (AD (AA 5) (AD (AA 8) (AD (AA 10) AK)))) AK)))))) (An (mC (.bl false))) BJ))) (EB (DW (AD (mOp Ab (AA 0) (mC (.int 1))) AK)) (AO 11) PY))
theorem LR {k:Nat} {t:Option (List Int)} {a2 a6 a7 a10 a11:Option D} (h0:0 <= sz) (h1:sz <= 10) (hw:0 <= w /\ w < 10) (hc:c ≠ -1->0 <= c /\ c < 10) (hl:ts.length <= 50) (hk:ts[k]? = some t):∃ a7' a10' a11':Option D,
    QT [some (mkD sf sz bg ns),some (clD w c ts),a2,some (.int w),some (.int c),some (.tup (ts.map tD)),a6,a7,some (.int k),some (tD t),a10,a11] μ =
      some ((.next,[some (mkD sf sz bg ns),some (clD w c ts),a2,some (.int w),some (.int c),some (.tup (ts.map tD)),a6,a7',some (.int k),some (tD t),a10',a11']),μ):=by
  have hz:=B5
  have hkl:k < ts.length:=(List.getElem?_eq_some_iff.mp hk).1
  cases t with
  | some l=>
    obtain ⟨c7,c11,go⟩:=Lq (μ:=μ) (w:=w) (c:=c) (sf:=sf) (sz:=sz) (bg:=bg) (ns:=ns) (a2:=a2) (a6:=a6) (a10:=a10) hl hk (List.range sz.toNat) a7 a11
    refine ⟨c7,a10,c11,piF (AQ (po (x:=.tup (l.map D.int)) (y:=.non) rfl rfl rfl)) (C7 (IZ (k:=sz.toNat) (po (x:=mkD sf sz bg ns) (y:=.int 1) rfl rfl ?_) (by omega)) go)⟩
    rw [Int.toNat_of_nonneg h0]; rfl
  | none=>
    refine ⟨a7,some (tD (some (CV sf sz w c))),a11,piT (AQ (po (x:=.non) (y:=.non) rfl rfl rfl)) ?_⟩
    refine pq (τ1:=[some (mkD sf sz bg ns),some (clD w c ts),a2,some (.int w),some (.int c),some (.tup (ts.map tD)),a6,a7,some (.int k),some (tD none),some (tD (some [w])),a11]) (pa (d:=tD (some [w])) (pd (ds:=[.int w]) rfl (Am (by simp; omega))) rfl) ?_
    have tn:AN (mOp Bq (AA 4) (mUn CK (mC (.int 1)))) [some (mkD sf sz bg ns),some (clD w c ts),a2,some (.int w),some (.int c),some (.tup (ts.map tD)),a6,a7,some (.int k),some (tD none),some (tD (some [w])),a11] μ=some (!(c == -1),μ):=AQ (po (x:=.int c) (y:=.int (-1)) rfl rfl MB)
    refine pq (τ1:=[some (mkD sf sz bg ns),some (clD w c ts),a2,some (.int w),some (.int c),some (.tup (ts.map tD)),a6,a7,some (.int k),some (tD none),some (tD (some (CV sf sz w c))),a11]) ?_ (piF (AQ (po (x:=clD w c (ts.set k (some (CV sf sz w c)))) (y:=clD w c (ts.set k (some (CV sf sz w c)))) (pd (ds:=[mkD sf sz bg ns,clD w c ts,.int k]) rfl (Iz h0 h1 hw hc (by omega) hkl)) (pd (ds:=[.int w,.int c,.tup ((ts.set k (some (CV sf sz w c))).map tD)]) (pc rfl (pc rfl (pc (pd (ds:=[.tup (ts.map tD),.int k,tD (some (CV sf sz w c))]) rfl (OK hkl (by omega))) rfl))) (Am (by simp; omega))) Dk)) rfl)
    by_cases e:c = -1
    . have eb:CV sf sz w c=[w]:=if_pos e
      rw [eb]
      exact piF (tn.trans (by rw [e]; rfl)) rfl
    . have eb:CV sf sz w c=bsd sf sz [w] c:=if_neg e
      rw [eb]
      refine piT (tn.trans (by rw [beq_eq_false_iff_ne.mpr e]; rfl)) (pa (d:=tD (some (bsd sf sz [w] c))) (pd (ds:=[mkD sf sz bg ns,tD (some [w]),.int c]) rfl (K1 (t:=some [w]) h0 h1 (hc e) fun l z=>?_)) rfl)
      cases z
      exact ⟨by simp,fun y hy=>by rw [List.mem_singleton] at hy; subst hy; exact hw⟩
theorem LS {a2 a6:Option D} (h0:0 <= sz) (h1:sz <= 10) (hw:0 <= w /\ w < 10) (hc:c ≠ -1->0 <= c /\ c < 10) (hl:ts.length <= 50):∀ (us:List (Option (List Int))) (k:Nat) (a7 a8 a9 a10 a11:Option D),ts.drop k=us->∃ a7' a8' a9' a10' a11':Option D,
    Cd (Ch [8,9]) QT (CO k (us.map tD)) [some (mkD sf sz bg ns),some (clD w c ts),a2,some (.int w),some (.int c),some (.tup (ts.map tD)),a6,a7,a8,a9,a10,a11] μ =
      some ((.next,[some (mkD sf sz bg ns),some (clD w c ts),a2,some (.int w),some (.int c),some (.tup (ts.map tD)),a6,a7',a8',a9',a10',a11']),μ)
  | [],k,a7,a8,a9,a10,a11,_=>⟨a7,a8,a9,a10,a11,rfl⟩
  | t :: us,k,a7,a8,a9,a10,a11,h=>by
    have hk:ts[k]? = some t:=by
      have:=congrArg (fun z=>z[0]?) h
      simpa using this
    have hd:ts.drop (k + 1)=us:=by
      have:=congrArg (fun z=>z.drop 1) h
      simpa using this
    obtain ⟨b7,b10,b11,st⟩:=LR (μ:=μ) (w:=w) (c:=c) (sf:=sf) (sz:=sz) (bg:=bg) (ns:=ns) (a2:=a2) (a6:=a6) (a7:=a7) (a10:=a10) (a11:=a11) h0 h1 hw hc hl hk
    obtain ⟨c7,c8,c9,c10,c11,go⟩:=LS (a2:=a2) (a6:=a6) h0 h1 hw hc hl us (k + 1) b7 (some (.int k)) (some (tD t)) b10 b11 hd
    exact ⟨c7,c8,c9,c10,c11,BB (x:=.tup [.int k,tD t]) (τ1:=[some (mkD sf sz bg ns),some (clD w c ts),a2,some (.int w),some (.int c),some (.tup (ts.map tD)),a6,a7,some (.int k),some (tD t),a10,a11]) rfl st go⟩
theorem M0 (h0:2 <= sz) (h1:sz <= 10) (hw:0 <= w /\ w < 10) (hc:c ≠ -1->0 <= c /\ c < 10) (hl:ts.length <= 50) (hs:∀ l,some l ∈ ts->D9 l):BW [mkD sf sz bg ns,clD w c ts,.int x] μ=some (.bl true,μ):=by
  have hz:=B5
  have x0:0 <= x % sz:=Int.emod_nonneg _ (by omega)
  have x1:x % sz < sz:=Int.emod_lt_of_pos _ (by omega)
  have first:∃ a7:Option D,sIf (AN (mOp A9 (AA 4) (mUn CK (mC (.int 1))))) (AU (Ah (AG A4 (AD (AA 3) (AD (AA 6) (AD (AG BY (AD (Bn 1 [0,6] (Di (AA 5)) (AO 0) DV (AG DP (AD (AA 1) (AD (AA 0) (AD (AA 2) AK)))) BN) AK)) AK)))) (AO 7))
    (sIf (AN (mOp Bq (AG BM (AD (AA 0) (AD (AA 1) (AD (AA 6) AK)))) (AA 7))) (An (mC (.bl false))) BJ)) (sIf (AN (mOp Bq (AG BF (AD (AA 0) (AD (AA 1) AK))) (AG A4 (AD (AA 4) (AD (mUn CK (mC (.int 1))) (AD (AA 5) AK)))))) (An (mC (.bl false))) BJ)
      [some (mkD sf sz bg ns),some (clD w c ts),some (.int x),some (.int w),some (.int c),some (.tup (ts.map tD)),some (.int (x % sz)),none,none,none,none,none] μ =
      some ((.next,[some (mkD sf sz bg ns),some (clD w c ts),some (.int x),some (.int w),some (.int c),some (.tup (ts.map tD)),some (.int (x % sz)),a7,none,none,none,none]),μ):=by
    have tq:AN (mOp A9 (AA 4) (mUn CK (mC (.int 1)))) [some (mkD sf sz bg ns),some (clD w c ts),some (.int x),some (.int w),some (.int c),some (.tup (ts.map tD)),some (.int (x % sz)),none,none,none,none,none] μ=some (c == -1,μ):=AQ (po (x:=.int c) (y:=.int (-1)) rfl rfl l_eqI)
    by_cases e:c = -1
    . refine ⟨some (clD w (x % sz) (ts.map (Option.map fun l=>bsd sf sz l (x % sz)))),piT (tq.trans (by rw [e]; rfl)) ?_⟩
      refine pq (τ1:=[some (mkD sf sz bg ns),some (clD w c ts),some (.int x),some (.int w),some (.int c),some (.tup (ts.map tD)),some (.int (x % sz)),some (clD w (x % sz) (ts.map (Option.map fun l=>bsd sf sz l (x % sz)))),none,none,none,none]) (pa (d:=clD w (x % sz) (ts.map (Option.map fun l=>bsd sf sz l (x % sz)))) (pd (ds:=[.int w,.int (x % sz),.tup ((ts.map (Option.map fun l=>bsd sf sz l (x % sz))).map tD)]) (pc rfl (pc rfl (pc (pd (ds:=[.lst ((ts.map (Option.map fun l=>bsd sf sz l (x % sz))).map tD)]) (pc (D2 (ds:=ts.map tD) (es:=(ts.map (Option.map fun l=>bsd sf sz l (x % sz))).map tD) (GW rfl) (by rw [List.length_map]; omega) ?_ (Aq (by rw [List.length_map,List.length_map]; omega))) rfl) rfl) rfl))) (Am (by simp; omega))) rfl) ?_
      . have:=Fb (μ:=μ) (mc:=DV) (me:=(AG DP (AD (AA 1) (AD (AA 0) (AD (AA 2) AK))))) (τ0:=[none,some (mkD sf sz bg ns),some (.int (x % sz))]) (f:=tD) (F:=fun t=>tD (Option.map (fun l=>bsd sf sz l (x % sz)) t)) (p:=fun _=>true) (xs:=ts) (ys:=[]) (fun _ _=>rfl) (fun t ht _=>pd (ds:=[mkD sf sz bg ns,tD t,.int (x % sz)]) rfl (K1 (by omega) h1 (by omega) fun l z=>hs l (by rw [← z]; exact ht)))
        rw [Fi,List.nil_append] at this
        rw [List.map_map]
        exact this
      . exact piF (AQ (po (pd (ds:=[mkD sf sz bg ns,clD w c ts,.int (x % sz)]) rfl (G3 (by omega) h1 (by omega) (by omega) hs)) rfl Dk)) rfl
    . refine ⟨none,piF (tq.trans (by rw [beq_eq_false_iff_ne.mpr e])) (piF (AQ (po (x:=clD c (-1) ts) (y:=clD c (-1) ts) (pd (ds:=[mkD sf sz bg ns,clD w c ts]) rfl Fy) (pd (ds:=[.int c,.int (-1),.tup (ts.map tD)]) rfl (Am (by simp; omega))) Dk)) rfl)⟩
  obtain ⟨a7,first⟩:=first
  obtain ⟨c7,c8,c9,c10,c11,go⟩:=LS (μ:=μ) (w:=w) (c:=c) (sf:=sf) (sz:=sz) (bg:=bg) (ns:=ns) (ts:=ts) (a2:=some (.int x)) (a6:=some (.int (x % sz))) (by omega) h1 hw hc hl ts 0 a7 none none none none rfl
  refine Aa (g:=[]) (τ2:=[some (mkD sf sz bg ns),some (clD w c ts),some (.int x),some (.int w),some (.int c),some (.tup (ts.map tD)),some (.int (x % sz)),c7,c8,c9,c10,c11]) ?_ rfl (by unfold Cl; trivial)
  rw [List.append_nil]
  refine pq (τ1:=[some (mkD sf sz bg ns),some (clD w c ts),some (.int x),some (.int w),some (.int c),some (.tup (ts.map tD)),none,none,none,none,none,none]) (pa (d:=clD w c ts) rfl rfl) ?_
  refine pq (τ1:=[some (mkD sf sz bg ns),some (clD w c ts),some (.int x),some (.int w),some (.int c),some (.tup (ts.map tD)),some (.int (x % sz)),none,none,none,none,none]) (pa (po (x:=.int x) (y:=.int sz) rfl (po (x:=mkD sf sz bg ns) (y:=.int 1) rfl rfl rfl) (Bz (by omega))) rfl) ?_
  exact pq first (pq (C7 (Fa (ds:=ts.map tD) rfl) go) (pr rfl))
end
end K11
set_option maxHeartbeats 4000000
namespace K11
open PySem L2 Mi Ht K13
theorem HC {α:Type} {l:List α} {k:Nat} {a:α} (h:l[k]? = some a):l.set k a=l:=by
  apply List.ext_getElem?
  intro i
  rw [List.getElem?_set]
  split
  . rename_i e
    subst e
    split
    . exact h.symm
    . rename_i hn
      rw [List.getElem?_eq_none (by omega)] at h
      cases h
  . rfl
structure Chg (μ μ1:Mh):Prop where
  len:μ.length <= μ1.length
  obj:∀ (j:Nat) (o:MO),μ1[j]? = some o->μ[j]? = some o ∨ ClO μ1.length o
theorem Chg.refl {μ:Mh}:Chg μ μ:=⟨Nat.le_refl _,fun _ _ h=>.inl h⟩
theorem Chg.set {μ μ1:Mh} {n:Nat} {o:MO} (h:Chg μ μ1) (c:ClO μ1.length o):Chg μ (μ1.set n o):=⟨by rw [List.length_set]; exact h.len,fun j u e=>by
  rw [List.length_set]
  rw [List.getElem?_set] at e
  split at e
  . split at e
    . cases e; exact .inr c
    . cases e
  . exact h.obj j u e⟩
section
variable {μ μ1 μ2:Mh} {τ τ1 τ2:Sl} {w c f x v:Int} {b n:Nat} {d:D} {ds:List D}
theorem GN {N ps:Nat} {mb:Sl->M (Fl × Sl)} (e:mb (Bo N ds) μ=some ((.rt d,τ2),μ1)) (hl:ds.length=ps) (u:Chg μ μ1) (hn:μ1.length=μ.length) (cl:Cl μ.length d):A3 .drop N ps mb ds μ=some (d,μ1):=by
  have t:KS μ μ1 .drop=μ1:=by show μ1.take μ.length=μ1; rw [← hn,List.take_length]
  have h:=Ff (hw:=.drop) e hl (.inr ⟨d,rfl⟩) (by rw [t]; exact ⟨⟨[],by simp⟩,u.len,u.obj,.inl ⟨rfl,by rw [hn]; exact cl⟩⟩)
  rw [t] at h
  exact h
theorem Fg {N ps:Nat} {mb:Sl->M (Fl × Sl)} (e:mb (Bo N ds) μ=some ((.rt d,τ2),μ1)) (hl:ds.length=ps) (u:Chg μ μ1) (cl:Cl μ1.length d):A3 .all N ps mb ds μ=some (d,μ1):=
  Ff (hw:=.all) e hl (.inr ⟨d,rfl⟩) ⟨⟨[],by show μ1=μ1 ++ []; simp⟩,u.len,u.obj,.inl ⟨rfl,cl⟩⟩
theorem Il {k:Nat} (h:1 < k):ClO k (stD w c):=by
  unfold stD ClO
  simp [ClL,Cl,h]
theorem Hq {k:Nat} (l:List Int):ClO k (.lst (l.map D.int)):=by unfold ClO; exact Bv (C8 k) l
theorem Gw {kvs:List (Key × D)} {mo mv:Sl->M D} {k:Str} (h1:mv τ μ=some (d,μ)) (h2:mo τ μ=some (.ref n,μ)) (hk:μ[n]? = some (.dK kvs)) (hl:kvs.length <= 100):F2 mo (mC (.str k)) mv τ μ=some ((.next,τ),μ.set n (.dK (FH kvs (.inr k) d))):=by
  have hz:=B5
  unfold F2
  rw [AL h1,AL h2,AL (show mC (.str k) τ μ=some (.str k,μ) from rfl),AL (show Dq (.ref n) μ=some ((n,kvs),μ) from by unfold Dq; dsimp only; rw [hk])]
  show (if kvs.length < sizeLine then some ((Fl.next,τ),μ.set n (.dK (FH kvs (.inr k) d))) else none)=_
  rw [if_pos (by omega)]
theorem Kn {bf:D->Sl->M Sl} {mb:Sl->M (Fl × Sl)} {y:D} {i k:Nat} {r:(Fl × Sl) × Mh} (hn:μ[n]? = some (.lst ds)) (hx:ds[i]? = some y) (h1:bf y τ μ=some (τ1,μ1)) (h2:mb τ1 μ1=some ((.next,τ2),μ2)) (h3:EQ n bf mb k (i + 1) τ2 μ2=some r):EQ n bf mb (k + 1) i τ μ=some r:=by
  unfold EQ
  simp only [hn,hx]
  rw [AL h1,AL h2]
  exact h3
theorem Ko {bf:D->Sl->M Sl} {mb:Sl->M (Fl × Sl)} {i k:Nat} (hn:μ[n]? = some (.lst ds)) (hx:ds[i]? = none):EQ n bf mb (k + 1) i τ μ=some ((.next,τ),μ):=by
  unfold EQ
  simp only [hn,hx]
def Kx (v:Int) (r:Rc):Rc:=(r.1,r.2 ++ [v])
def GU (v:Int) (p:Rd):Rd:=(p.1.map (Kx v),p.2)
theorem Hs.lt1 {q:List Rd} (H:Hs μ w c q):1 < μ.length:=(List.getElem?_eq_some_iff.mp H.s1).1
theorem Hs.beside {q:List Rd} {k:Nat} {r:Rc} (H:Hs μ w c q) (hk:q[k]? = some (some r,b)):Hs (μ.set b (.lst ((r.2 ++ [v]).map D.int))) w c (q.set k (some (Kx v r),b)):=by
  obtain ⟨b3,e1,e2⟩:=H.rc k r b hk
  have hkl:k < q.length:=(List.getElem?_eq_some_iff.mp hk).1
  have hbl:b < μ.length:=(List.getElem?_eq_some_iff.mp e1).1
  have keep:∀ j,j ≠ b->(μ.set b (.lst ((r.2 ++ [v]).map D.int)))[j]? = μ[j]?:=fun j hj=>List.getElem?_set_ne (fun z=>hj z.symm)
  have hq:(q.set k (some (Kx v r),b)).map rdD=q.map rdD:=by
    rw [List.map_set]
    have:(q.map rdD)[k]? = some (rdD (some (Kx v r),b)):=by rw [List.getElem?_map,hk]; rfl
    exact HC this
  refine ⟨by rw [keep 0 (by omega)]; exact H.s0,by rw [keep 1 (by omega),hq]; exact H.s1,fun j s e hj=>?_,fun i j s t e g hi hj hne=>?_⟩
  . by_cases z:j=k
    . subst z
      rw [List.getElem?_set_self hkl] at hj
      cases hj
      exact ⟨b3,by rw [List.getElem?_set_self hbl]; rfl,by rw [keep _ (by omega)]; exact e2⟩
    . rw [List.getElem?_set_ne (fun q=>z q.symm)] at hj
      obtain ⟨s1,s2,s3⟩:=H.sep j k s r e b hj hk z
      obtain ⟨t1,t2,t3⟩:=H.rc j s e hj
      exact ⟨t1,by rw [keep _ s1]; exact t2,by rw [keep _ (fun q=>s3 q.symm)]; exact t3⟩
  . have get:∀ (i:Nat) (s:Rc) (e:Nat),(q.set k (some (Kx v r),b))[i]? = some (some s,e)->∃ s',q[i]? = some (some s',e):=fun i s e h=>by
      by_cases z:i=k
      . subst z
        rw [List.getElem?_set_self hkl] at h
        cases h
        exact ⟨r,hk⟩
      . rw [List.getElem?_set_ne (fun q=>z q.symm)] at h
        exact ⟨s,h⟩
    obtain ⟨s',hi⟩:=get i s e hi
    obtain ⟨t',hj⟩:=get j t g hj
    exact H.sep i j s' t' e g hi hj hne
noncomputable abbrev P5:Sl->M (Fl × Sl):=(sIf (AN (mOp (DS true) (AA 4) (mC .non))) (Bw (BG C9 (mOp Ar (AA 4) (mC (.str "beside"))) (AD (mOp Ar (AA 2) (mC (.str "coming"))) AK))) BJ)
theorem Ky {q:List Rd} {k:Nat} {p:Rd} {a0 a1 a3:Option D} (H:Hs μ w v q) (hk:q[k]? = some p) (hl:∀ r,p.1=some r->r.2.length <= 60):∃ μ1,Hs μ1 w v (q.set k (GU v p)) /\ μ1.length=μ.length /\ μ1[2]? = μ[2]? /\ (∀ μ0,μ0.length=μ.length->Chg μ0 μ->Chg μ0 μ1) /\
    P5 [a0,a1,some (.ref 0),a3,some (rdD p)] μ=some ((.next,[a0,a1,some (.ref 0),a3,some (rdD p)]),μ1):=by
  have hz:=B5
  obtain ⟨o,b⟩:=p
  cases o with
  | none=>
    refine ⟨μ,?_,rfl,rfl,fun _ _ h=>h,piF (AQ (po (x:=.non) (y:=.non) rfl rfl rfl)) rfl⟩
    show Hs μ w v (q.set k (none,b))
    rw [HC hk]
    exact H
  | some r=>
    obtain ⟨b3,e1,e2⟩:=H.rc k r b hk
    have hr:=hl r rfl
    refine ⟨μ.set b (.lst ((r.2 ++ [v]).map D.int)),H.beside hk,by simp,List.getElem?_set_ne (by omega),fun μ0 _ h=>h.set (Hq _),?_⟩
    refine Cs (μ1:=μ) (AQ (po (x:=.ref (b + 1)) (y:=.non) rfl rfl rfl)) (Er (d:=.non) (Ep (x:=.ref b) (ds:=[.int v]) (μ1:=μ) (μ2:=μ) (μ3:=μ) (g_b rfl e2) (EI e1) (pc (g_c rfl H.s0) rfl) ?_))
    rw [Gq e1 (by simp; omega),List.map_append]
    rfl
theorem Kz {a0 a1 a3:Option D}:∀ (post pre:List Rd) (μ:Mh) (k:Nat) (a4:Option D),Hs μ w v (pre ++ post)->(∀ p ∈ post,∀ r,p.1=some r->r.2.length <= 60)->post.length < k->∃ (μ1:Mh) (a4':Option D),Hs μ1 w v (pre ++ post.map (GU v)) /\ μ1.length=μ.length /\ μ1[2]? = μ[2]? /\ (∀ μ0,μ0.length=μ.length->Chg μ0 μ->Chg μ0 μ1) /\
    EQ 1 (AO 4) P5 k pre.length [a0,a1,some (.ref 0),a3,a4] μ=some ((.next,[a0,a1,some (.ref 0),a3,a4']),μ1)
  | [],pre,μ,k,a4,H,_,hk=>by
    obtain ⟨k',rfl⟩:∃ k',k=k' + 1:=⟨k - 1,by simp at hk; omega⟩
    refine ⟨μ,a4,H,rfl,rfl,fun _ _ h=>h,Ko H.s1 ?_⟩
    simp
  | p :: post,pre,μ,k,a4,H,hl,hk=>by
    rw [List.length_cons] at hk
    obtain ⟨k',rfl⟩:∃ k',k=k' + 1:=⟨k - 1,by omega⟩
    have hp:(pre ++ p :: post)[pre.length]? = some p:=by simp
    obtain ⟨μ1,H1,n1,m1,c1,st⟩:=Ky (a0:=a0) (a1:=a1) (a3:=a3) H hp (hl p (by simp))
    have e1:(pre ++ p :: post).set pre.length (GU v p)=(pre ++ [GU v p]) ++ post:=by simp
    rw [e1] at H1
    obtain ⟨μ2,a4',H2,n2,m2,c2,go⟩:=Kz (a0:=a0) (a1:=a1) (a3:=a3) post (pre ++ [GU v p]) μ1 k' (some (rdD p)) H1 (fun p hp=>hl p (List.mem_cons_of_mem _ hp)) (by omega)
    refine ⟨μ2,a4',by simpa using H2,n2.trans n1,m2.trans m1,fun μ0 h0 h=>c2 μ0 (h0.trans n1.symm) (c1 μ0 h0 h),Kn (τ1:=[a0,a1,some (.ref 0),a3,some (rdD p)]) (y:=rdD p) H.s1 (by rw [List.getElem?_map,hp]; rfl) rfl st ?_⟩
    rw [List.length_append] at go
    exact go
variable {sf:Bool} {sz bg:Int} {ns:List Str}
theorem Hs.st {q:List Rd} {w' c':Int} (H:Hs μ w c q):Hs (μ.set 0 (stD w' c')) w' c' q:=by
  have h1:=H.lt1
  have keep:∀ j,j ≠ 0->(μ.set 0 (stD w' c'))[j]? = μ[j]?:=fun j hj=>List.getElem?_set_ne (fun z=>hj z.symm)
  refine ⟨List.getElem?_set_self (by omega),by rw [keep 1 (by omega)]; exact H.s1,fun k r b hk=>?_,H.sep⟩
  obtain ⟨b3,e1,e2⟩:=H.rc k r b hk
  exact ⟨b3,by rw [keep b (by omega)]; exact e1,by rw [keep (b + 1) (by omega)]; exact e2⟩
theorem dO_upd {p:Rd}:dO sf sz (GU v p)=(dO sf sz p).map fun l=>bsd sf sz l v:=by
  obtain ⟨o,b⟩:=p
  cases o with
  | none=>rfl
  | some r=>show some (A7 sf sz (Kx v r))=some (bsd sf sz (A7 sf sz r) v); rw [OG]; rfl
theorem Hj {q:List Rd} (h1:sz <= 10) (ok:∀ p ∈ q,∀ r,p.1=some r->DA sz r):∀ l,some l ∈ q.map (dO sf sz)->D9 l:=fun l hl=>by
  obtain ⟨p,hp,e⟩:=List.mem_map.mp hl
  obtain ⟨o,b⟩:=p
  cases o with
  | none=>cases e
  | some r=>cases e; exact Kd h1 (ok _ hp r rfl)
theorem Jz {q:List Rd} (h0:2 <= sz) (h1:sz <= 10) (H:Hs μ w (-1) q) (hq:q.length <= 50) (ok:∀ p ∈ q,∀ r,p.1=some r->DA sz r):∃ μ1,Hs μ1 w (x % sz) (q.map (GU (x % sz))) /\ μ1.length=μ.length /\ μ1[2]? = μ[2]? /\
    CC [mkD sf sz bg ns,clD w (-1) (q.map (dO sf sz)),.ref 0,.int x] μ=some (clD w (x % sz) ((q.map (GU (x % sz))).map (dO sf sz)),μ1):=by
  have x0:0 <= x % sz:=Int.emod_nonneg _ (by omega)
  have x1:x % sz < sz:=Int.emod_lt_of_pos _ (by omega)
  have H0:=H.st (w':=w) (c':=x % sz)
  have hl1:=H.lt1
  obtain ⟨μ1,a4,H1,n1,m1,c1,go⟩:=Kz (a0:=some (mkD sf sz bg ns)) (a1:=some (clD w (-1) (q.map (dO sf sz)))) (a3:=some (.int x)) q [] (μ.set 0 (stD w (x % sz))) 1000 none H0 (fun p hp r e=>(ok p hp r e).n) (by omega)
  have len:μ1.length=μ.length:=by rw [n1,List.length_set]
  refine ⟨μ1,H1,len,by rw [m1]; exact List.getElem?_set_ne (by omega),GN (τ2:=[some (mkD sf sz bg ns),some (clD w (-1) (q.map (dO sf sz))),some (.ref 0),some (.int x),a4]) ?_ rfl (c1 μ (by simp) (Chg.refl.set (Il hl1))) len (CM _ _ _ _)⟩
  refine B9 (Cs (μ1:=μ) (AQ (po (x:=.int (-1)) (y:=.int (-1)) (g_c rfl H.s0) rfl rfl)) ?_)
  refine AT (μ1:=μ.set 0 (stD w (x % sz))) (τ1:=[some (mkD sf sz bg ns),some (clD w (-1) (q.map (dO sf sz))),some (.ref 0),some (.int x),none]) ?_ ?_
  . have:=Gw (μ:=μ) (τ:=[some (mkD sf sz bg ns),some (clD w (-1) (q.map (dO sf sz))),some (.ref 0),some (.int x),none]) (mo:=AA 2) (mv:=mOp Ak (AA 3) (mOp Ab (AA 0) (mC (.int 1)))) (d:=.int (x % sz)) (n:=0) (k := "coming") (po (x:=.int x) (y:=.int sz) rfl (po (x:=mkD sf sz bg ns) (y:=.int 1) rfl rfl rfl) (Bz (by omega))) rfl H.s0 (by simp)
    rw [OQ] at this
    exact this
  refine AT (μ1:=μ1) (τ1:=[some (mkD sf sz bg ns),some (clD w (-1) (q.map (dO sf sz))),some (.ref 0),some (.int x),a4]) ?_ ?_
  . unfold LK
    rw [AL (g_r (k:=2) rfl H0.s0)]
    exact go
  refine B2 (BI (ds:=[mkD sf sz bg ns,clD w (-1) (q.map (dO sf sz)),.int (x % sz)]) (pc rfl (pc rfl (pc (g_c rfl H1.s0) rfl))) ?_)
  rw [G3 (by omega) h1 (by omega) (by rw [List.length_map]; omega) (Hj h1 ok)]
  rw [List.map_map,List.map_map]
  congr 3
  apply List.map_congr_left
  intro p _
  exact dO_upd.symm
theorem Jy {q:List Rd} (hc:c ≠ -1) (H:Hs μ w c q):∃ μ1,Hs μ1 c (-1) q /\ μ1.length=μ.length /\ μ1[2]? = μ[2]? /\
    CC [mkD sf sz bg ns,clD w c (q.map (dO sf sz)),.ref 0,.int x] μ=some (clD c (-1) (q.map (dO sf sz)),μ1):=by
  have hl1:=H.lt1
  have H0:=H.st (w':=c) (c':=c)
  have H1:=H0.st (w':=c) (c':=-1)
  refine ⟨_,H1,by simp,by rw [List.getElem?_set_ne (by omega),List.getElem?_set_ne (by omega)],GN (τ2:=[some (mkD sf sz bg ns),some (clD w c (q.map (dO sf sz))),some (.ref 0),some (.int x),none]) ?_ rfl ((Chg.refl.set (Il hl1)).set (Il (by simpa using hl1))) (by simp) (CM _ _ _ _)⟩
  refine AT (μ1:=μ) (τ1:=[some (mkD sf sz bg ns),some (clD w c (q.map (dO sf sz))),some (.ref 0),some (.int x),none]) (piF (AQ (po (x:=.int c) (y:=.int (-1)) (g_c rfl H.s0) rfl (l_eqI.trans (by rw [beq_eq_false_iff_ne.mpr hc])))) rfl) ?_
  refine AT (μ1:=μ.set 0 (stD c c)) (τ1:=[some (mkD sf sz bg ns),some (clD w c (q.map (dO sf sz))),some (.ref 0),some (.int x),none]) ?_ ?_
  . have:=Gw (μ:=μ) (τ:=[some (mkD sf sz bg ns),some (clD w c (q.map (dO sf sz))),some (.ref 0),some (.int x),none]) (mo:=AA 2) (mv:=mOp Ar (AA 2) (mC (.str "coming"))) (d:=.int c) (n:=0) (k := "worth") (g_c rfl H.s0) rfl H.s0 (by simp)
    rw [Qc] at this
    exact this
  refine AT (μ1:=(μ.set 0 (stD c c)).set 0 (stD c (-1))) (τ1:=[some (mkD sf sz bg ns),some (clD w c (q.map (dO sf sz))),some (.ref 0),some (.int x),none]) ?_ ?_
  . have:=Gw (μ:=μ.set 0 (stD c c)) (τ:=[some (mkD sf sz bg ns),some (clD w c (q.map (dO sf sz))),some (.ref 0),some (.int x),none]) (mo:=AA 2) (mv:=mUn CK (mC (.int 1))) (d:=.int (-1)) (n:=0) (k := "coming") rfl rfl H0.s0 (by simp)
    rw [OQ] at this
    exact this
  exact B2 (pd (ds:=[mkD sf sz bg ns,clD w c (q.map (dO sf sz))]) rfl Fy)
end
end K11
set_option maxHeartbeats 4000000
namespace K11
open PySem L2 Mi Ht K13
section
variable {μ μ1 μ2:Mh} {τ τ1 τ2:Sl} {w c f x v:Int} {b n k:Nat} {d:D} {ds:List D} {q:List Rd}
variable {sf:Bool} {sz bg:Int} {ns:List Str}
theorem Mo {k:Nat}:∀ {ds:List D},(∀ d ∈ ds,Cl k d)->ClL k ds
  | [],_=>by unfold ClL; trivial
  | d :: ds,h=>by unfold ClL; exact ⟨h d (by simp),Mo fun e he=>h e (List.mem_cons_of_mem _ he)⟩
theorem Hs.cl (H:Hs μ w c q):ClO μ.length (.lst (q.map rdD)):=by
  unfold ClO
  refine Mo fun d hd=>?_
  obtain ⟨p,hp,rfl⟩:=List.mem_map.mp hd
  obtain ⟨i,hi⟩:=List.mem_iff_getElem?.mp hp
  obtain ⟨o,b⟩:=p
  cases o with
  | none=>unfold rdD Cl; trivial
  | some r=>
    obtain ⟨_,_,e⟩:=H.rc i r b hi
    unfold rdD Cl
    exact (List.getElem?_eq_some_iff.mp e).1
def BH (c:Int):List Int:=if c = -1 then [] else [c]
theorem Ms:(List.replicate (if (!(c == -1))=true then (1:Int) else 0).toNat [D.int c]).flatten=(BH c).map D.int:=by
  unfold BH
  by_cases e:c = -1
  . subst e; rfl
  . rw [if_neg e,beq_eq_false_iff_ne.mpr e]; rfl
theorem Jm {n k:Nat} (h:k < n):ixN n (k:Int)=some k:=by
  unfold ixN
  rw [if_pos (by omega),if_pos (by omega)]
  simp
theorem Pa (H:Hs μ w c q) (h3:3 <= μ.length) (hk:k < q.length):Hs ((μ ++ [.lst ((BH c).map D.int),rcD w μ.length]).set 1 (.lst ((q.set k (some (w,BH c),μ.length)).map rdD))) w c (q.set k (some (w,BH c),μ.length)):=by
  have keep:∀ j,j ≠ 1->((μ ++ [.lst ((BH c).map D.int),rcD w μ.length]).set 1 (.lst ((q.set k (some (w,BH c),μ.length)).map rdD)))[j]? = (μ ++ [.lst ((BH c).map D.int),rcD w μ.length])[j]?:=fun j hj=>List.getElem?_set_ne (fun z=>hj z.symm)
  refine ⟨by rw [keep 0 (by omega)]; exact Ig H.s0,List.getElem?_set_self (by simp),fun j s e hj=>?_,fun i j s t e g hi hj hne=>?_⟩
  . by_cases z:j=k
    . subst z
      rw [List.getElem?_set_self hk] at hj
      cases hj
      refine ⟨h3,?_,?_⟩
      . rw [keep _ (by omega),List.getElem?_append_right (Nat.le_refl _)]; simp
      . rw [keep _ (by omega),List.getElem?_append_right (by omega)]; simp
    . rw [List.getElem?_set_ne (fun q=>z q.symm)] at hj
      obtain ⟨t1,t2,t3⟩:=H.rc j s e hj
      exact ⟨t1,by rw [keep _ (by omega)]; exact Ig t2,by rw [keep _ (by omega)]; exact Ig t3⟩
  . have old:∀ (i:Nat) (s:Rc) (e:Nat),q[i]? = some (some s,e)->e + 1 < μ.length:=fun i s e h=>(List.getElem?_eq_some_iff.mp (H.rc i s e h).2.2).1
    have get:∀ (i:Nat) (s:Rc) (e:Nat),(q.set k (some (w,BH c),μ.length))[i]? = some (some s,e)->(i=k /\ e=μ.length) ∨ (i ≠ k /\ q[i]? = some (some s,e)):=fun i s e h=>by
      by_cases z:i=k
      . subst z
        rw [List.getElem?_set_self hk] at h
        cases h
        exact .inl ⟨rfl,rfl⟩
      . rw [List.getElem?_set_ne (fun q=>z q.symm)] at h
        exact .inr ⟨z,h⟩
    rcases get i s e hi with ⟨a1,a2⟩ | ⟨a1,a2⟩ <;> rcases get j t g hj with ⟨b1,b2⟩ | ⟨b1,b2⟩
    . omega
    . have:=old j t g b2; omega
    . have:=old i s e a2; omega
    . exact H.sep i j s t e g a2 b2 hne
theorem J3 {b0:Nat} (h0:2 <= sz) (h1:sz <= 10) (hw:0 <= w /\ w < 10) (hc:c ≠ -1->0 <= c /\ c < 10) (H:Hs μ w c q) (h3:3 <= μ.length) (hq:q.length <= 50) (hk:q[k]? = some (none,b0)):∃ μ1,Hs μ1 w c (q.set k (some (w,BH c),μ.length)) /\ μ.length <= μ1.length /\ μ1[2]? = μ[2]? /\
    CD [mkD sf sz bg ns,clD w c (q.map (dO sf sz)),.ref 0,.int k,.int x] μ=some (clD w c ((q.set k (some (w,BH c),μ.length)).map (dO sf sz)),μ1):=by
  have hz:=B5
  have hkl:k < q.length:=(List.getElem?_eq_some_iff.mp hk).1
  have H':=Pa H h3 hkl
  generalize hM:(μ ++ [MO.lst ((BH c).map D.int),rcD w μ.length]).set 1 (.lst ((q.set k (some (w,BH c),μ.length)).map rdD))=μ' at H'
  have len:μ'.length=μ.length + 2:=by rw [← hM]; simp
  have m2:μ'[2]? = μ[2]?:=by rw [← hM,List.getElem?_set_ne (by omega),List.getElem?_append_left (by omega)]
  have chg:Chg μ μ':=by
    refine ⟨by omega,fun j o e=>?_⟩
    by_cases j1:j=1
    . subst j1
      rw [H'.s1] at e
      cases e
      exact .inr H'.cl
    . rw [← hM,List.getElem?_set_ne (fun z=>j1 z.symm)] at e
      rcases Nat.lt_or_ge j μ.length with z | z
      . rw [List.getElem?_append_left z] at e; exact .inl e
      . right
        rw [List.getElem?_append_right z] at e
        have hj:j - μ.length < 2:=by simpa using (List.getElem?_eq_some_iff.mp e).1
        rcases (show j - μ.length=0 ∨ j - μ.length=1 by omega) with y | y <;> rw [y] at e
        . cases e; exact Hq _
        . cases e
          unfold rcD ClO
          simp [ClL,Cl]
          omega
  have em:(q.set k (some (w,BH c),μ.length)).map (dO sf sz)=(q.map (dO sf sz)).set k (some (CV sf sz w c)):=by
    rw [List.map_set,Mu]; rfl
  refine ⟨μ',H',by omega,m2,Fg (τ2:=[some (mkD sf sz bg ns),some (clD w c (q.map (dO sf sz))),some (.ref 0),some (.int k),some (.int x),some .non,some (.ref μ.length),none,none]) ?_ rfl chg (CM _ _ _ _)⟩
  rw [em]
  refine AT (μ1:=μ) (τ1:=[some (mkD sf sz bg ns),some (clD w c (q.map (dO sf sz))),some (.ref 0),some (.int k),some (.int x),some .non,none,none,none]) (pa (d:=.non) (po (x:=.ref 1) (y:=.int k) (g_r rfl H.s0) rfl (En H.s1 (EW (by rw [List.getElem?_map,hk]; rfl)))) rfl) ?_
  refine B9 (Cs (μ1:=μ) (AQ (po (x:=.non) (y:=.non) rfl rfl rfl)) ?_)
  refine AT (μ1:=μ ++ [.lst ((BH c).map D.int)]) (τ1:=[some (mkD sf sz bg ns),some (clD w c (q.map (dO sf sz))),some (.ref 0),some (.int k),some (.int x),some .non,some (.ref μ.length),none,none]) (Be (d:=.ref μ.length) (FY (μ1:=μ) (μ2:=μ) (x:=.lst [.int c]) (y:=.int (if (!(c == -1))=true then 1 else 0)) (pd (ds:=[.int c]) (pc (g_c rfl H.s0) rfl) (Aq (by simp; omega))) (pd (ds:=[.bl (!(c == -1))]) (pc (po (x:=.int c) (y:=.int (-1)) (g_c rfl H.s0) rfl MB) rfl) rfl) ?_) rfl) ?_
  . show (if [D.int c] ≠ [] /\ [D.int c].length <= 1000 /\ (0:Int) <= (if (!(c == -1))=true then (1:Int) else 0) /\ (if (!(c == -1))=true then (1:Int) else 0) <= 1000 then some (D.ref μ.length,μ ++ [MO.lst (List.replicate (if (!(c == -1))=true then (1:Int) else 0).toNat [D.int c]).flatten]) else none)=_
    rw [if_pos ⟨by simp,by simp,by split <;> omega,by split <;> omega⟩,Ms]
  have H1:=H.app (g:=[.lst ((BH c).map D.int)])
  have H2:=H.app (g:=[.lst ((BH c).map D.int),.dK []])
  have H3:=H.app (g:=[.lst ((BH c).map D.int),rcD w μ.length])
  refine AT (μ1:=μ') (τ1:=[some (mkD sf sz bg ns),some (clD w c (q.map (dO sf sz))),some (.ref 0),some (.int k),some (.int x),some .non,some (.ref μ.length),none,none]) (Be (d:=.ref (μ.length + 1)) (μ1:=μ ++ [.lst ((BH c).map D.int),rcD w μ.length]) ?_ ?_) ?_
  . unfold EG
    have a1:μ ++ [MO.lst ((BH c).map D.int)] ++ [MO.dK []]=μ ++ [.lst ((BH c).map D.int),.dK []]:=by simp
    rw [a1,show (AD (mOp Ar (AA 2) (mC (.str "worth"))) (AD (AA 6) AK)) [some (mkD sf sz bg ns),some (clD w c (q.map (dO sf sz))),some (.ref 0),some (.int k),some (.int x),some .non,some (.ref μ.length),none,none] (μ ++ [.lst ((BH c).map D.int),.dK []])=some ([.int w,.ref μ.length],μ ++ [.lst ((BH c).map D.int),.dK []]) from pc (g_w rfl H2.s0) rfl]
    have a2:(μ ++ [MO.lst ((BH c).map D.int),.dK []])[(μ ++ [MO.lst ((BH c).map D.int)]).length]? = some (.dK []):=by rw [List.length_append,List.getElem?_append_right (by simp)]; simp
    have a3:(μ ++ [MO.lst ((BH c).map D.int),.dK []]).set (μ ++ [MO.lst ((BH c).map D.int)]).length (.dK (List.zip [.inr "first",.inr "beside"] [.int w,.ref μ.length]))=μ ++ [.lst ((BH c).map D.int),rcD w μ.length]:=by
      rw [List.length_append,List.set_append_right _ _ (by simp)]
      simp [rcD]
    have a4:(μ ++ [MO.lst ((BH c).map D.int)]).length=μ.length + 1:=by simp
    simp only [a2]
    rw [if_pos (by simp),a3,a4]
  . refine Ih (x:=.ref 1) (y:=.int k) (μ1:=μ ++ [.lst ((BH c).map D.int),rcD w μ.length]) (μ2:=μ ++ [.lst ((BH c).map D.int),rcD w μ.length]) (u:=()) (g_r rfl H3.s0) rfl ?_
    rw [L9 (j:=k) H3.s1 (by rw [List.length_map]; exact Jm hkl),← hM,List.map_set]
    rfl
  . exact B2 (pd (ds:=[mkD sf sz bg ns,clD w c (q.map (dO sf sz)),.int k]) rfl (Iz (by omega) h1 hw hc (by rw [List.length_map]; omega) (by rw [List.length_map]; exact hkl)))
theorem Pe {a:Bool}:Bq (.bl a) (.bl a) μ=some (.bl false,μ):=by cases a <;> rfl
noncomputable abbrev RQ:Sl->M (Fl × Sl):=(sIf (AN (mOp Bq (mOp (DS false) (AG BP (AD (AA 0) (AD (AA 1) (AD (AA 3) (AD (AA 8) AK))))) (mC .non)) (mOp (FF true) (AA 8) (AA 7)))) (An (mC .non)) BJ)
theorem LV {ts:List (Option (List Int))} {l:List Int} {a2 a4 a5 a6:Option D} (hl:ts.length <= 1000) (hk:ts[k]? = some (some l)):∀ (vs:List Nat) (a8:Option D),∃ a8':Option D,
    Cd (AO 8) RQ (vs.map fun i:Nat=>D.int i) [some (mkD sf sz bg ns),some (clD w c ts),a2,some (.int k),a4,a5,a6,some (.tup (l.map D.int)),a8] μ=some ((.next,[some (mkD sf sz bg ns),some (clD w c ts),a2,some (.int k),a4,a5,a6,some (.tup (l.map D.int)),a8']),μ)
  | [],a8=>⟨a8,rfl⟩
  | v :: vs,a8=>by
    obtain ⟨b8,go⟩:=LV (a2:=a2) (a4:=a4) (a5:=a5) (a6:=a6) hl hk vs (some (.int v))
    refine ⟨b8,BB (x:=.int v) (τ1:=[some (mkD sf sz bg ns),some (clD w c ts),a2,some (.int k),a4,a5,a6,some (.tup (l.map D.int)),some (.int v)]) rfl (piF (AQ (po (x:=.bl (!decide ((v:Int) ∈ l))) (y:=.bl (!decide ((v:Int) ∈ l))) (po (x:=if (v:Int) ∈ l then clD w c (ts.set k none) else .non) (y:=.non) (pd (ds:=[mkD sf sz bg ns,clD w c ts,.int k,.int v]) rfl (IC hl hk)) rfl ?_) (po (x:=.int v) (y:=.tup (l.map D.int)) rfl rfl (MD rfl)) Pe)) rfl) go⟩
    by_cases e:(v:Int) ∈ l
    . rw [if_pos e,decide_eq_true e]; rfl
    . rw [if_neg e,decide_eq_false e]; rfl
theorem J2 {r:Rc} (h0:2 <= sz) (h1:sz <= 10) (H:Hs μ w c q) (hq:q.length <= 50) (hk:q[k]? = some (some r,b)) (ok:DA sz r):∃ μ1,Hs μ1 w c (q.set k (none,b)) /\ μ.length <= μ1.length /\ μ1[2]? = μ[2]? /\
    CD [mkD sf sz bg ns,clD w c (q.map (dO sf sz)),.ref 0,.int k,.int x] μ=some (clD w c ((q.set k (none,b)).map (dO sf sz)),μ1):=by
  have hz:=B5
  have hkl:k < q.length:=(List.getElem?_eq_some_iff.mp hk).1
  have hl1:=H.lt1
  obtain ⟨_,e1,e2⟩:=H.rc k r b hk
  have keep:∀ j,j ≠ 1->(μ.set 1 (.lst ((q.set k (none,b)).map rdD)))[j]? = μ[j]?:=fun j hj=>List.getElem?_set_ne (fun z=>hj z.symm)
  have get:∀ (i:Nat) (s:Rc) (e:Nat),(q.set k (none,b))[i]? = some (some s,e)->q[i]? = some (some s,e):=fun i s e h=>by
    by_cases z:i=k
    . subst z
      rw [List.getElem?_set_self hkl] at h
      cases h
    . rw [List.getElem?_set_ne (fun q=>z q.symm)] at h
      exact h
  have H':Hs (μ.set 1 (.lst ((q.set k (none,b)).map rdD))) w c (q.set k (none,b)):=⟨by rw [keep 0 (by omega)]; exact H.s0,List.getElem?_set_self hl1,fun j s e hj=>by
    obtain ⟨t1,t2,t3⟩:=H.rc j s e (get j s e hj)
    exact ⟨t1,by rw [keep _ (by omega)]; exact t2,by rw [keep _ (by omega)]; exact t3⟩,fun i j s t e g hi hj=>H.sep i j s t e g (get i s e hi) (get j t g hj)⟩
  have cl:=H'.cl
  rw [List.length_set] at cl
  have hts:(q.map (dO sf sz))[k]? = some (some (A7 sf sz r)):=by rw [List.getElem?_map,hk]; rfl
  have hlen:(q.map (dO sf sz)).length <= 1000:=by rw [List.length_map]; omega
  obtain ⟨a8,go⟩:=LV (μ:=μ) (w:=w) (c:=c) (sf:=sf) (sz:=sz) (bg:=bg) (ns:=ns) (a2:=some (.ref 0)) (a4:=some (.int x)) (a5:=some (.ref (b + 1))) (a6:=none) hlen hts (List.range sz.toNat) none
  obtain ⟨y,hy,hym⟩:∃ y,atI ((A7 sf sz r).map D.int) (x % ((A7 sf sz r).length:Int))=some (.int y) /\ y ∈ A7 sf sz r:=by
    have hpos:0 < (A7 sf sz r).length:=List.length_pos_iff.mpr (Ly ok)
    have z0:0 <= x % ((A7 sf sz r).length:Int):=Int.emod_nonneg _ (by omega)
    have z1:x % ((A7 sf sz r).length:Int) < (A7 sf sz r).length:=Int.emod_lt_of_pos _ (by omega)
    obtain ⟨i,hi⟩:=Int.eq_ofNat_of_zero_le z0
    rw [hi] at z1 ⊢
    have hil:i < (A7 sf sz r).length:=by omega
    exact ⟨(A7 sf sz r)[i],EW (by rw [List.getElem?_map,List.getElem?_eq_getElem hil]; rfl),List.getElem_mem hil⟩
  refine ⟨_,H',by simp,keep 2 (by omega),Fg (τ2:=[some (mkD sf sz bg ns),some (clD w c (q.map (dO sf sz))),some (.ref 0),some (.int k),some (.int x),some (.ref (b + 1)),none,some (.tup ((A7 sf sz r).map D.int)),a8]) ?_ rfl (Chg.refl.set cl) (CM _ _ _ _)⟩
  refine AT (μ1:=μ) (τ1:=[some (mkD sf sz bg ns),some (clD w c (q.map (dO sf sz))),some (.ref 0),some (.int k),some (.int x),some (.ref (b + 1)),none,none,none]) (pa (d:=.ref (b + 1)) (po (x:=.ref 1) (y:=.int k) (g_r rfl H.s0) rfl (En H.s1 (EW (by rw [List.getElem?_map,hk]; rfl)))) rfl) ?_
  refine AT (μ1:=μ) (τ1:=[some (mkD sf sz bg ns),some (clD w c (q.map (dO sf sz))),some (.ref 0),some (.int k),some (.int x),some (.ref (b + 1)),none,none,none]) (piF (AQ (po (x:=.ref (b + 1)) (y:=.non) rfl rfl rfl)) rfl) ?_
  refine AT (μ1:=μ) (τ1:=[some (mkD sf sz bg ns),some (clD w c (q.map (dO sf sz))),some (.ref 0),some (.int k),some (.int x),some (.ref (b + 1)),none,some (.tup ((A7 sf sz r).map D.int)),none]) (pa (pd (ds:=[mkD sf sz bg ns,.ref (b + 1)]) rfl (OL h1 ok e1 e2)) rfl) ?_
  refine AT (C7 (IZ (k:=sz.toNat) (po (x:=mkD sf sz bg ns) (y:=.int 1) rfl rfl (by rw [Int.toNat_of_nonneg (by omega)]; rfl)) (by omega)) go) ?_
  refine AT (μ1:=μ.set 1 (.lst ((q.set k (none,b)).map rdD))) (τ1:=[some (mkD sf sz bg ns),some (clD w c (q.map (dO sf sz))),some (.ref 0),some (.int k),some (.int x),some (.ref (b + 1)),none,some (.tup ((A7 sf sz r).map D.int)),a8]) (Be (d:=.non) (μ1:=μ) rfl (Ih (x:=.ref 1) (y:=.int k) (μ1:=μ) (μ2:=μ) (u:=()) (g_r rfl H.s0) rfl ?_)) ?_
  . rw [L9 (j:=k) H.s1 (by rw [List.length_map]; exact Jm hkl),List.map_set]
    rfl
  . refine B2 (pd (ds:=[mkD sf sz bg ns,clD w c (q.map (dO sf sz)),.int k,.int y]) (pc rfl (pc rfl (pc rfl (pc (po (x:=.tup ((A7 sf sz r).map D.int)) (y:=.int (x % ((A7 sf sz r).length:Int))) rfl (po (x:=.int x) (y:=.int ((A7 sf sz r).length:Int)) rfl (pd (ds:=[.tup ((A7 sf sz r).map D.int)]) rfl ?_) (Bz ?_)) (MC hy)) rfl)))) ?_)
    . show some (D.int ((((A7 sf sz r).map D.int).length:Nat):Int),_)=_
      rw [List.length_map]
    . have hpos:0 < (A7 sf sz r).length:=List.length_pos_iff.mpr (Ly ok)
      omega
    . rw [IC hlen hts,if_pos hym,show (q.set k (none,b)).map (dO sf sz)=(q.map (dO sf sz)).set k none from by rw [List.map_set]; rfl]
end
end K11
set_option maxHeartbeats 4000000
namespace K11
open PySem L2 Mi Ht K13
structure Iv (m:Nat) (sz:Int) (t:Nat) (μ:Mh) (w c:Int) (q:List Rd) (kp:List D):Prop where
  H:Hs μ w c q
  h3:3 <= μ.length
  k2:μ[2]? = some (.lst kp)
  n:q.length=m
  ok:∀ p ∈ q,∀ r,p.1=some r->DA sz r /\ r.2.length <= t
  w0:0 <= w /\ w < sz
  c0:c ≠ -1->0 <= c /\ c < sz
  kl:kp.length <= t
  ks:∀ e ∈ kp,∃ w c ts,e=.tup [clD w c ts,clD w c ts]
section
variable {μ μ1 μ2:Mh} {τ τ1 τ2:Sl} {w c x v:Int} {b n k m t:Nat} {d:D} {ds kp:List D} {q:List Rd}
variable {sf:Bool} {sz bg:Int} {ns:List Str}
theorem Hs.kept {o:MO} (H:Hs μ w c q):Hs (μ.set 2 o) w c q:=by
  have keep:∀ j,j ≠ 2->(μ.set 2 o)[j]? = μ[j]?:=fun j hj=>List.getElem?_set_ne (fun z=>hj z.symm)
  refine ⟨by rw [keep 0 (by omega)]; exact H.s0,by rw [keep 1 (by omega)]; exact H.s1,fun k r b hk=>?_,H.sep⟩
  obtain ⟨b3,e1,e2⟩:=H.rc k r b hk
  exact ⟨b3,by rw [keep b (by omega)]; exact e1,by rw [keep (b + 1) (by omega)]; exact e2⟩
theorem Lr {p':Rd} (ok:∀ p ∈ q,∀ r,p.1=some r->DA sz r /\ r.2.length <= t) (h:∀ r,p'.1=some r->DA sz r /\ r.2.length <= t):∀ p ∈ q.set k p',∀ r,p.1=some r->DA sz r /\ r.2.length <= t:=fun p hp r e=>by
  rcases List.mem_or_eq_of_mem_set hp with z | z
  . exact ok p z r e
  . subst z; exact h r e
noncomputable abbrev QD:Sl->M (Fl × Sl):=(sIf (IY (AN (AG BW (AD (AA 2) (AD (AA 9) (AD (mOp Ae (AA 8) (mC (.int 64))) AK)))))) (An (mC (.bl false))) BJ)
noncomputable abbrev Pd:Sl->M (Fl × Sl):=(AU (sIf (mOr (AN (mOp Bq (AA 5) (AG FX (AD (AA 2) (AD (AA 4) AK))))) (IY (AN (AG HX (AD (AA 5) (AD (mC (.ty "tuple")) AK)))))) (An (mC (.bl false))) BJ)
    (AU (Bw (BG C9 (AA 6) (AD (AG A4 (AD (AA 5) (AD (AG FX (AD (AA 2) (AD (AA 4) AK))) AK))) AK)))
    (AU (Ah (mOp Ab (AG DO (AD (AA 7) (AD (mC (.int 1)) AK))) (mC (.int 0))) (AO 8))
    (AU (EB (Di (AG A4 (AD (AA 5) (AD (AG DQ (AD (AA 5) (AD (AA 8) AK))) AK)))) (AO 9) QD)
    (sIf (mOr (AN (mOp A9 (mOp Ak (AA 8) (mOp AW (mC (.int 1)) (AA 3))) (mC (.int 0)))) (AN (mOp A9 (mOp Ak (mOp Ae (AA 8) (mC (.int 4))) (mC (.int 4))) (mC (.int 0))))) (Ah (AG CC (AD (AA 2) (AD (AA 5) (AD (AA 4) (AD (mOp Ae (AA 8) (mC (.int 16))) AK))))) (AO 5)) (Ah (AG CD (AD (AA 2) (AD (AA 5) (AD (AA 4) (AD (mOp EX (mOp Ak (AA 8) (mOp AW (mC (.int 1)) (AA 3))) (mC (.int 1))) (AD (mOp Ae (AA 8) (mC (.int 16))) AK)))))) (AO 5)))))))
theorem JA {ts:List (Option (List Int))} {a0 a1 a3 a4 a5 a6 a7:Option D} (h0:2 <= sz) (h1:sz <= 10) (hw:0 <= w /\ w < 10) (hc:c ≠ -1->0 <= c /\ c < 10) (hl:ts.length <= 50) (hs:∀ l,some l ∈ ts->D9 l) :
    QD [a0,a1,some (mkD sf sz bg ns),a3,a4,a5,a6,a7,some (.int x),some (clD w c ts)] μ=some ((.next,[a0,a1,some (mkD sf sz bg ns),a3,a4,a5,a6,a7,some (.int x),some (clD w c ts)]),μ):=
  piF (MV (b:=true) (AQ (pd (ds:=[mkD sf sz bg ns,clD w c ts,.int (x / 64)]) (pc rfl (pc rfl (pc (po (x:=.int x) (y:=.int 64) rfl rfl (Bc (by decide) (by decide))) rfl))) (M0 h0 h1 hw hc hl hs)))) rfl
theorem L6 (N:Ns ns) {cell:Int} {a0 a1 a8 a9:Option D} (h0:2 <= sz) (h1:sz <= 10) (hm:m + 1=ns.length) (ht:t <= 45) (I:Iv m sz t μ w c q kp):∃ (μ':Mh) (w' c':Int) (q':List Rd) (kp':List D) (a8' a9':Option D),Iv m sz (t + 1) μ' w' c' q' kp' /\
    Pd [a0,a1,some (mkD sf sz bg ns),some (.int m),some (.ref 0),some (clD w c (q.map (dO sf sz))),some (.ref 2),some (.int cell),a8,a9] μ =
      some ((.next,[a0,a1,some (mkD sf sz bg ns),some (.int m),some (.ref 0),some (clD w' c' (q'.map (dO sf sz))),some (.ref 2),some (.int cell),a8',a9']),μ'):=by
  have hz:=B5
  have hhi:=N.hi
  have hn:=I.n
  have hkl:=I.kl
  have okr:∀ p ∈ q,∀ r,p.1=some r->DA sz r:=fun p hp r e=>(I.ok p hp r e).1
  have due:=OM (sf:=sf) (bg:=bg) N h1 I.H (by omega) okr
  have hw0:=I.w0
  have hc0:=I.c0
  have hs:=Hj (sf:=sf) h1 okr
  have hql:(q.map (dO sf sz)).length <= 50:=by rw [List.length_map]; omega
  obtain ⟨x,x0,ex⟩:=K0 (μ:=μ.set 2 (.lst (kp ++ [.tup [clD w c (q.map (dO sf sz)),clD w c (q.map (dO sf sz))]]))) (c:=cell)
  generalize hM:μ.set 2 (.lst (kp ++ [.tup [clD w c (q.map (dO sf sz)),clD w c (q.map (dO sf sz))]]))=μ1 at ex
  have H1:Hs μ1 w c q:=hM ▸ I.H.kept
  have l1:μ1.length=μ.length:=by rw [← hM]; simp
  have h3:=I.h3
  have k21:μ1[2]? = some (.lst (kp ++ [.tup [clD w c (q.map (dO sf sz)),clD w c (q.map (dO sf sz))]])):=by rw [← hM]; exact List.getElem?_set_self (by omega)
  have ks1:∀ e ∈ kp ++ [D.tup [clD w c (q.map (dO sf sz)),clD w c (q.map (dO sf sz))]],∃ w c ts,e=.tup [clD w c ts,clD w c ts]:=fun e he=>by
    rcases List.mem_append.mp he with z | z
    . exact I.ks e z
    . rw [List.mem_singleton] at z; exact ⟨w,c,_,z⟩
  have kl1:(kp ++ [D.tup [clD w c (q.map (dO sf sz)),clD w c (q.map (dO sf sz))]]).length <= t + 1:=by simp; omega
  have up:∀ p ∈ q,∀ r,p.1=some r->DA sz r /\ r.2.length <= t + 1:=fun p hp r e=>⟨(I.ok p hp r e).1,by have:=(I.ok p hp r e).2; omega⟩
  have tsl:=K3 (μ:=μ1) (w:=w) (c:=c) (x:=x) hql hs
  have hl2:(tsL x 0 (q.map (dO sf sz))).length <= 50:=by rw [JC]; exact hql
  have hs2:=Fz x 0 (q.map (dO sf sz)) hs
  have pre:∀ {r:Fl × Sl} {μ':Mh},(sIf (mOr (AN (mOp A9 (mOp Ak (AA 8) (mOp AW (mC (.int 1)) (AA 3))) (mC (.int 0)))) (AN (mOp A9 (mOp Ak (mOp Ae (AA 8) (mC (.int 4))) (mC (.int 4))) (mC (.int 0))))) (Ah (AG CC (AD (AA 2) (AD (AA 5) (AD (AA 4) (AD (mOp Ae (AA 8) (mC (.int 16))) AK))))) (AO 5)) (Ah (AG CD (AD (AA 2) (AD (AA 5) (AD (AA 4) (AD (mOp EX (mOp Ak (AA 8) (mOp AW (mC (.int 1)) (AA 3))) (mC (.int 1))) (AD (mOp Ae (AA 8) (mC (.int 16))) AK)))))) (AO 5)))
      [a0,a1,some (mkD sf sz bg ns),some (.int m),some (.ref 0),some (clD w c (q.map (dO sf sz))),some (.ref 2),some (.int cell),some (.int x),some (clD w c (tsL x 0 (q.map (dO sf sz))))] μ1=some (r,μ')->
      Pd [a0,a1,some (mkD sf sz bg ns),some (.int m),some (.ref 0),some (clD w c (q.map (dO sf sz))),some (.ref 2),some (.int cell),a8,a9] μ=some (r,μ'):=fun {r μ'} e=>by
    refine AT (μ1:=μ) (τ1:=[a0,a1,some (mkD sf sz bg ns),some (.int m),some (.ref 0),some (clD w c (q.map (dO sf sz))),some (.ref 2),some (.int cell),a8,a9]) (piF (Ii (μ1:=μ) (AQ (po (x:=clD w c (q.map (dO sf sz))) (y:=clD w c (q.map (dO sf sz))) rfl (pd (ds:=[mkD sf sz bg ns,.ref 0]) rfl due) Dk)) (MV (b:=true) (AQ (pd (ds:=[clD w c (q.map (dO sf sz)),.ty "tuple"]) rfl F8)))) rfl) ?_
    refine AT (μ1:=μ1) (τ1:=[a0,a1,some (mkD sf sz bg ns),some (.int m),some (.ref 0),some (clD w c (q.map (dO sf sz))),some (.ref 2),some (.int cell),a8,a9]) (Er (d:=.non) (Ep (x:=.ref 2) (ds:=[.tup [clD w c (q.map (dO sf sz)),clD w c (q.map (dO sf sz))]]) (μ1:=μ) (μ2:=μ) (μ3:=μ) rfl (EI I.k2) (pc (pd (ds:=[clD w c (q.map (dO sf sz)),clD w c (q.map (dO sf sz))]) (pc rfl (pc (pd (ds:=[mkD sf sz bg ns,.ref 0]) rfl due) rfl)) (Am (by simp; omega))) rfl) (by rw [Gq I.k2 (by omega),hM]))) ?_
    refine AT (μ1:=μ1) (τ1:=[a0,a1,some (mkD sf sz bg ns),some (.int m),some (.ref 0),some (clD w c (q.map (dO sf sz))),some (.ref 2),some (.int cell),some (.int x),a9]) (pa (d:=.int x) (po (x:=.lst [.int x]) (y:=.int 0) (pd (ds:=[.int cell,.int 1]) rfl ex) rfl (Jg rfl)) rfl) ?_
    refine AT (μ1:=μ1) (τ1:=[a0,a1,some (mkD sf sz bg ns),some (.int m),some (.ref 0),some (clD w c (q.map (dO sf sz))),some (.ref 2),some (.int cell),some (.int x),some (clD w c (tsL x 0 (q.map (dO sf sz))))]) (C7 (GW (ds:=[clD w c (q.map (dO sf sz)),clD w c (tsL x 0 (q.map (dO sf sz)))]) (pd (ds:=[clD w c (q.map (dO sf sz)),clD w c (tsL x 0 (q.map (dO sf sz)))]) (pc rfl (pc (pd (ds:=[clD w c (q.map (dO sf sz)),.int x]) rfl tsl) rfl)) (Am (by simp; omega)))) ?_) e
    refine BB (x:=clD w c (q.map (dO sf sz))) (τ1:=[a0,a1,some (mkD sf sz bg ns),some (.int m),some (.ref 0),some (clD w c (q.map (dO sf sz))),some (.ref 2),some (.int cell),some (.int x),some (clD w c (q.map (dO sf sz)))]) rfl (JA h0 h1 (by omega) (fun z=>by have:=hc0 z; omega) hql hs) ?_
    exact BB (x:=clD w c (tsL x 0 (q.map (dO sf sz)))) (τ1:=[a0,a1,some (mkD sf sz bg ns),some (.int m),some (.ref 0),some (clD w c (q.map (dO sf sz))),some (.ref 2),some (.int cell),some (.int x),some (clD w c (tsL x 0 (q.map (dO sf sz))))]) rfl (JA h0 h1 (by omega) (fun z=>by have:=hc0 z; omega) hl2 hs2) rfl
  have fd16:∀ (S:Sl),S[8]? = some (some (.int x))->mOp Ae (AA 8) (mC (.int 16)) S μ1=some (.int (x / 16),μ1):=fun S h=>po (x:=.int x) (y:=.int 16) (BX h) rfl (Bc (by decide) (by decide))
  have md:∀ (S:Sl),S[8]? = some (some (.int x))->S[3]? = some (some (.int m))->mOp Ak (AA 8) (mOp AW (mC (.int 1)) (AA 3)) S μ1=some (.int (x % (1 + (m:Int))),μ1):=fun S h h'=>po (x:=.int x) (y:=.int (1 + (m:Int))) (BX h) (po (x:=.int 1) (y:=.int m) rfl (BX h') rfl) (Bz (by omega))
  have t1:AN (mOp A9 (mOp Ak (AA 8) (mOp AW (mC (.int 1)) (AA 3))) (mC (.int 0))) [a0,a1,some (mkD sf sz bg ns),some (.int m),some (.ref 0),some (clD w c (q.map (dO sf sz))),some (.ref 2),some (.int cell),some (.int x),some (clD w c (tsL x 0 (q.map (dO sf sz))))] μ1=some (x % (1 + (m:Int)) == 0,μ1):=AQ (po (x:=.int (x % (1 + (m:Int)))) (y:=.int 0) (md _ rfl rfl) rfl l_eqI)
  have t2:AN (mOp A9 (mOp Ak (mOp Ae (AA 8) (mC (.int 4))) (mC (.int 4))) (mC (.int 0))) [a0,a1,some (mkD sf sz bg ns),some (.int m),some (.ref 0),some (clD w c (q.map (dO sf sz))),some (.ref 2),some (.int cell),some (.int x),some (clD w c (tsL x 0 (q.map (dO sf sz))))] μ1=some (x / 4 % 4 == 0,μ1):=AQ (po (x:=.int (x / 4 % 4)) (y:=.int 0) (po (x:=.int (x / 4)) (y:=.int 4) (po (x:=.int x) (y:=.int 4) rfl rfl (Bc (by decide) (by decide))) rfl (Bz (by decide))) rfl l_eqI)
  have tt:mOr (AN (mOp A9 (mOp Ak (AA 8) (mOp AW (mC (.int 1)) (AA 3))) (mC (.int 0)))) (AN (mOp A9 (mOp Ak (mOp Ae (AA 8) (mC (.int 4))) (mC (.int 4))) (mC (.int 0)))) [a0,a1,some (mkD sf sz bg ns),some (.int m),some (.ref 0),some (clD w c (q.map (dO sf sz))),some (.ref 2),some (.int cell),some (.int x),some (clD w c (tsL x 0 (q.map (dO sf sz))))] μ1=some ((x % (1 + (m:Int)) == 0) || (x / 4 % 4 == 0),μ1):=by
    cases e:(x % (1 + (m:Int)) == 0) with
    | true=>rw [e] at t1; exact MU t1
    | false=>rw [e] at t1; rw [Bool.false_or]; exact Ii t1 t2
  have args:∀ S:Sl,S=[a0,a1,some (mkD sf sz bg ns),some (.int (m:Int)),some (.ref 0),some (clD w c (q.map (dO sf sz))),some (.ref 2),some (.int cell),some (.int x),some (clD w c (tsL x 0 (q.map (dO sf sz))))]->(AD (AA 2) (AD (AA 5) (AD (AA 4) (AD (mOp Ae (AA 8) (mC (.int 16))) AK)))) S μ1=some ([mkD sf sz bg ns,clD w c (q.map (dO sf sz)),.ref 0,.int (x / 16)],μ1):=fun S hS=>by
    subst hS
    exact pc rfl (pc rfl (pc rfl (pc (fd16 _ rfl) rfl)))
  by_cases hwr:((x % (1 + (m:Int)) == 0) || (x / 4 % 4 == 0))=true
  . rw [hwr] at tt
    by_cases hcm:c = -1
    . subst hcm
      obtain ⟨μ',H',l',m',e'⟩:=Jz (sf:=sf) (bg:=bg) (ns:=ns) (x:=x / 16) h0 h1 H1 (by omega) okr
      have y0:0 <= x / 16 % sz:=Int.emod_nonneg _ (by omega)
      have y1:x / 16 % sz < sz:=Int.emod_lt_of_pos _ (by omega)
      refine ⟨μ',w,x / 16 % sz,q.map (GU (x / 16 % sz)),_,some (.int x),some (clD w (-1) (tsL x 0 (q.map (dO sf sz)))),⟨H',by omega,m'.trans k21,by rw [List.length_map]; exact hn,fun p hp r e=>?_,hw0,fun _=>⟨y0,y1⟩,kl1,ks1⟩,pre (Cs tt (Be (BI (args _ rfl) e') rfl))⟩
      obtain ⟨p0,hp0,rfl⟩:=List.mem_map.mp hp
      obtain ⟨o,b⟩:=p0
      cases o with
      | none=>cases e
      | some r0=>
        cases e
        obtain ⟨g1,g2⟩:=I.ok _ hp0 r0 rfl
        refine ⟨⟨g1.f,fun y hy=>?_,?_⟩,?_⟩
        . rcases List.mem_append.mp hy with z | z
          . exact g1.l y z
          . rw [List.mem_singleton] at z; subst z; exact ⟨y0,y1⟩
        . show (r0.2 ++ [x / 16 % sz]).length <= 60
          simp; omega
        . show (r0.2 ++ [x / 16 % sz]).length <= t + 1
          simp; omega
    . obtain ⟨μ',H',l',m',e'⟩:=Jy (sf:=sf) (sz:=sz) (bg:=bg) (ns:=ns) (x:=x / 16) hcm H1
      exact ⟨μ',c,-1,q,_,some (.int x),some (clD w c (tsL x 0 (q.map (dO sf sz)))),⟨H',by omega,m'.trans k21,hn,up,hc0 hcm,fun z=>absurd rfl z,kl1,ks1⟩,pre (Cs tt (Be (BI (args _ rfl) e') rfl))⟩
  . have hwf:((x % (1 + (m:Int)) == 0) || (x / 4 % 4 == 0))=false:=by simpa using hwr
    rw [hwf] at tt
    have hx1:x % (1 + (m:Int)) ≠ 0:=by
      have:=(Bool.or_eq_false_iff.mp hwf).1
      exact beq_eq_false_iff_ne.mp this
    have z0:0 <= x % (1 + (m:Int)):=Int.emod_nonneg _ (by omega)
    have z1:x % (1 + (m:Int)) < 1 + (m:Int):=Int.emod_lt_of_pos _ (by omega)
    obtain ⟨k,hk⟩:∃ k:Nat,x % (1 + (m:Int)) - 1=(k:Int):=⟨(x % (1 + (m:Int)) - 1).toNat,by omega⟩
    have hkm:k < q.length:=by omega
    have args2:∀ S:Sl,S=[a0,a1,some (mkD sf sz bg ns),some (.int (m:Int)),some (.ref 0),some (clD w c (q.map (dO sf sz))),some (.ref 2),some (.int cell),some (.int x),some (clD w c (tsL x 0 (q.map (dO sf sz))))]->(AD (AA 2) (AD (AA 5) (AD (AA 4) (AD (mOp EX (mOp Ak (AA 8) (mOp AW (mC (.int 1)) (AA 3))) (mC (.int 1))) (AD (mOp Ae (AA 8) (mC (.int 16))) AK))))) S μ1=some ([mkD sf sz bg ns,clD w c (q.map (dO sf sz)),.ref 0,.int k,.int (x / 16)],μ1):=fun S hS=>by
      subst hS
      refine pc rfl (pc rfl (pc rfl (pc (po (x:=.int (x % (1 + (m:Int)))) (y:=.int 1) (md _ rfl rfl) rfl ?_) (pc (fd16 _ rfl) rfl))))
      show some (D.int (x % (1 + (m:Int)) - 1),μ1)=_
      rw [hk]
    obtain ⟨p,hp⟩:∃ p,q[k]? = some p:=⟨q[k],by simp [hkm]⟩
    obtain ⟨o,b⟩:=p
    cases o with
    | none=>
      obtain ⟨μ',H',l',m',e'⟩:=J3 (sf:=sf) (bg:=bg) (ns:=ns) (x:=x / 16) h0 h1 (by omega) (fun z=>by have:=hc0 z; omega) H1 (by omega) (by omega) hp
      refine ⟨μ',w,c,_,_,some (.int x),some (clD w c (tsL x 0 (q.map (dO sf sz)))),⟨H',by omega,m'.trans k21,by rw [List.length_set]; exact hn,Lr up (fun r e=>?_),hw0,hc0,kl1,ks1⟩,pre (ET tt (Be (BI (args2 _ rfl) e') rfl))⟩
      cases e
      refine ⟨⟨hw0,fun y hy=>?_,?_⟩,?_⟩
      . have hy':y ∈ BH c:=hy
        unfold BH at hy'
        split at hy'
        . cases hy'
        . rename_i hne
          rw [List.mem_singleton] at hy'; subst hy'; exact hc0 hne
      . show (BH c).length <= 60
        unfold BH; split <;> simp
      . show (BH c).length <= t + 1
        unfold BH; split <;> simp
    | some r=>
      obtain ⟨μ',H',l',m',e'⟩:=J2 (sf:=sf) (bg:=bg) (ns:=ns) (x:=x / 16) h0 h1 H1 (by omega) hp (okr _ (List.mem_of_getElem? hp) r rfl)
      exact ⟨μ',w,c,_,_,some (.int x),some (clD w c (tsL x 0 (q.map (dO sf sz)))),⟨H',by omega,m'.trans k21,by rw [List.length_set]; exact hn,Lr up (fun r e=>by cases e),hw0,hc0,kl1,ks1⟩,pre (ET tt (Be (BI (args2 _ rfl) e') rfl))⟩
theorem L7 (N:Ns ns) {a0 a1:Option D} (h0:2 <= sz) (h1:sz <= 10) (hm:m + 1=ns.length):∀ (cs:List Int) (t:Nat) (μ:Mh) (w c:Int) (q:List Rd) (kp:List D) (a7 a8 a9:Option D),t + cs.length <= 45->Iv m sz t μ w c q kp->∃ (μ':Mh) (w' c':Int) (q':List Rd) (kp':List D) (a7' a8' a9':Option D),Iv m sz (t + cs.length) μ' w' c' q' kp' /\
    Cd (AO 7) Pd (cs.map D.int) [a0,a1,some (mkD sf sz bg ns),some (.int m),some (.ref 0),some (clD w c (q.map (dO sf sz))),some (.ref 2),a7,a8,a9] μ =
      some ((.next,[a0,a1,some (mkD sf sz bg ns),some (.int m),some (.ref 0),some (clD w' c' (q'.map (dO sf sz))),some (.ref 2),a7',a8',a9']),μ')
  | [],t,μ,w,c,q,kp,a7,a8,a9,_,I=>⟨μ,w,c,q,kp,a7,a8,a9,I,rfl⟩
  | y :: cs,t,μ,w,c,q,kp,a7,a8,a9,ht,I=>by
    rw [List.length_cons] at ht
    obtain ⟨μ1,w1,c1,q1,kp1,b8,b9,I1,st⟩:=L6 (sf:=sf) (bg:=bg) N (cell:=y) (a0:=a0) (a1:=a1) (a8:=a8) (a9:=a9) h0 h1 hm (by omega) I
    obtain ⟨μ2,w2,c2,q2,kp2,d7,d8,d9,I2,go⟩:=L7 N (a0:=a0) (a1:=a1) h0 h1 hm cs (t + 1) μ1 w1 c1 q1 kp1 (some (.int y)) b8 b9 (by omega) I1
    refine ⟨μ2,w2,c2,q2,kp2,d7,d8,d9,?_,BB (x:=.int y) rfl st go⟩
    rw [List.length_cons,show t + (cs.length + 1)=t + 1 + cs.length by omega]
    exact I2
theorem Jj:∀ (kp:List D) (ys:List D),(∀ e ∈ kp,∃ w c ts,e=.tup [clD w c ts,clD w c ts])->Br (Ch [0,1]) (AN (mOp Bq (AA 0) (AA 1))) (AA 0) [none,none] kp ys μ=some (ys,μ)
  | [],ys,_=>rfl
  | e :: kp,ys,h=>by
    obtain ⟨w,c,ts,rfl⟩:=h e (by simp)
    show bnd (Ch [0,1] (.tup [clD w c ts,clD w c ts]) [none,none]) _ μ=_
    rw [AL (show Ch [0,1] (.tup [clD w c ts,clD w c ts]) [none,none] μ=some ([some (clD w c ts),some (clD w c ts)],μ) from rfl)]
    rw [AL (show AN (mOp Bq (AA 0) (AA 1)) [some (clD w c ts),some (clD w c ts)] μ=some (false,μ) from AQ (po (x:=clD w c ts) (y:=clD w c ts) rfl rfl Dk)),if_neg (by decide)]
    exact Jj kp ys fun e he=>h e (List.mem_cons_of_mem _ he)
end
end K11
set_option maxHeartbeats 4000000
namespace K13
open PySem L2 Mi Ht
section
variable {μ μ1 μ2 μ3 μ4 μ':Mh} {τ τ1:Sl} {x0 d:D} {ds es:List D} {n:Nat}
variable {sf:Bool} {sz bg:Int} {ns:List Str}
end
end K13
set_option maxHeartbeats 4000000
namespace K13
open PySem L2 Mi Ht
section
variable {μ μ1 μ2 μ3 μ4 μ':Mh} {τ τ1:Sl} {x0 d:D} {ds:List D} {n:Nat}
variable {sf:Bool} {sz bg:Int} {ns:List Str}
theorem Oe {cs:List Int} (h:cs.length <= 63):∃ c:Int,Dm [.scr cs,.int 0] μ=some (.int c,μ):=by
  have tl:∀ S:Sl,S=[some (.scr cs),some (.int 0)]->AN (mOp KN (AA 1) (AG EH (AD (AA 0) AK))) S μ=some (decide ((0:Int) < cs.length),μ):=fun S hS=>by
    subst hS
    refine AQ (po (x:=.int 0) (y:=.int cs.length) rfl (pd (ds:=[.scr cs]) rfl ?_) rfl)
    show some (D.int (((cs.map D.int).length:Nat):Int),μ)=_
    rw [List.length_map]
  cases cs with
  | nil=>
    refine ⟨0,Aa (g:=[]) (τ2:=[some (.scr []),some (.int 0)]) ?_ rfl (C8 _ _)⟩
    rw [List.append_nil]
    exact pq (piF (tl _ rfl) rfl) (pr rfl)
  | cons c cs=>
    refine ⟨c,Aa (g:=[]) (τ2:=[some (.scr (c :: cs)),some (.int 0)]) ?_ rfl (C8 _ _)⟩
    rw [List.append_nil]
    refine B9 (piT ((tl _ rfl).trans ?_) (pr (po (x:=.scr (c :: cs)) (y:=.int 0) rfl rfl ?_)))
    . rw [decide_eq_true (by simp)]
    . show bnd (BQ (.scr (c :: cs))) (fun ds=>ixD ds 0) μ=_
      rw [AL (show BQ (.scr (c :: cs)) μ=some ((c :: cs).map D.int,μ) from rfl)]
      unfold ixD
      rw [show atI ((c :: cs).map D.int) 0=some (.int c) from EW (r:=0) rfl]
      rfl
theorem Qu {c:Int}:∃ sf:Bool,∀ M:Mh,Ab (.lst [.str "safe",.str "steady"]) (.int (c % 2)) M=some (.str (kdS sf),M):=by
  have h0:0 <= c % 2:=Int.emod_nonneg _ (by decide)
  have h1:c % 2 < 2:=Int.emod_lt_of_pos _ (by decide)
  rcases (show c % 2=0 ∨ c % 2=1 by omega) with h | h <;> rw [h]
  . exact ⟨true,fun M=>rfl⟩
  . exact ⟨false,fun M=>rfl⟩
end
end K13
set_option maxHeartbeats 4000000
namespace K11
open PySem L2 Mi Ht K13
section
variable {μ:Mh} {sf:Bool} {sz bg:Int} {ns:List Str} {m:Nat}
theorem LC (b0:0 <= bg) (b1:bg < sz):Iv m sz 0 [stD bg (-1),.lst (List.replicate m D.non),.lst []] bg (-1) (List.replicate m (none,0)) []:=by
  have no:∀ (k:Nat) (r:Rc) (b:Nat),(List.replicate m ((none,0):Rd))[k]? = some (some r,b)->False:=fun k r b h=>by
    have:=List.mem_of_getElem? h
    have:=(List.mem_replicate.mp this).2
    cases this
  refine ⟨⟨rfl,?_,fun k r b h=>(no k r b h).elim,fun j k r s b e h=>(no j r b h).elim⟩,by simp,rfl,by simp,fun p hp r e=>?_,⟨b0,b1⟩,fun z=>absurd rfl z,by simp,fun e he=>by cases he⟩
  . show some (MO.lst (List.replicate m D.non))=_
    rw [List.map_replicate]; rfl
  . have:=(List.mem_replicate.mp hp).2
    subst this
    cases e
theorem M9 {S:Sl} {k n:Nat} {ds:List D} (hs:S[k]? = some (some (.ref n))) (h:μ[n]? = some (.lst ds)):Ja (AA k) S μ=some (ds,μ):=by
  unfold Ja
  rw [AL (BX hs)]
  show (match μ[n]? with | some (.lst ds)=>some (ds,μ) | _=>none)=_
  rw [h]
theorem N1:A9 (.lst []) (.lst []) μ=some (.bl true,μ):=by
  have h2:Ec μ (.lst [])=some (.list (([]:List Int).map PyData.int)):=by
    show toP μ (.lst [])=_
    unfold toP Bm; rfl
  exact (ME (μ:=μ) (neg:=false) h2 h2 (Ei []) (Ei [])).trans rfl
theorem Rf:∀ cs:List Int,cs.length <= 63->∃ μ',MS [.scr cs] []=some (.bl true,μ'):=by
  intro cs hc
  have hz:=B5
  obtain ⟨c,ec⟩:=Oe (μ:=[]) hc
  obtain ⟨sf,ek⟩:=Qu (c:=c)
  obtain ⟨sz,bg,ns,h0,h1,b0,b1,N,em⟩:=K2 (μ:=[]) (sf:=sf) (x:=c / 2)
  have hlo:=N.lo
  have hhi:=N.hi
  obtain ⟨m,hm⟩:∃ m,m + 1=ns.length:=⟨ns.length - 1,by omega⟩
  obtain ⟨ds,hds,hdl⟩:∃ ds:List Int,CT (cs.map D.int) (some 1) (some 41)=ds.map D.int /\ ds.length <= 40:=by
    unfold CT
    refine ⟨(cs.drop (HT.sIx (cs.map D.int).length 0 (some 1))).take (HT.sIx (cs.map D.int).length (cs.map D.int).length (some 41) - HT.sIx (cs.map D.int).length 0 (some 1)),by rw [List.map_take,List.map_drop],?_⟩
    rw [show (41:Int)=((41:Nat):Int) from rfl,show (1:Int)=((1:Nat):Int) from rfl,HT.Ej,HT.Ej,List.length_take,List.length_drop,List.length_map]
    omega
  obtain ⟨μ',w',c',q',kp',a7,a8,a9,I,go⟩:=L7 (sf:=sf) (bg:=bg) N (a0:=some (.scr cs)) (a1:=some (.int c)) h0 h1 hm (0 :: ds) 0 _ bg (-1) (List.replicate m (none,0)) [] none none none (by simp; omega) (LC b0 b1)
  have e0:(List.replicate m ((none,0):Rd)).map (dO sf sz)=List.replicate m none:=by rw [List.map_replicate]; rfl
  rw [e0] at go
  have due:=OM (sf:=sf) (bg:=bg) N h1 I.H (by have:=I.n; omega) fun p hp r e=>(I.ok p hp r e).1
  have hkl:=I.kl
  refine ⟨[],Aa (g:=μ') (τ2:=[some (.scr cs),some (.int c),some (mkD sf sz bg ns),some (.int m),some (.ref 0),some (clD w' c' (q'.map (dO sf sz))),some (.ref 2),a7,a8,a9]) ?_ rfl (by unfold Cl; trivial)⟩
  rw [List.nil_append]
  refine AT (μ1:=[]) (τ1:=[some (.scr cs),some (.int c),none,none,none,none,none,none,none,none]) (pa (pd (ds:=[.scr cs,.int 0]) rfl ec) rfl) ?_
  refine AT (μ1:=[]) (τ1:=[some (.scr cs),some (.int c),some (mkD sf sz bg ns),none,none,none,none,none,none,none]) (pa (pd (ds:=[.int (c / 2),.str (kdS sf)]) (pc (po (x:=.int c) (y:=.int 2) rfl rfl (Bc (by decide) (by decide))) (pc (po (x:=.lst [.str "safe",.str "steady"]) (y:=.int (c % 2)) (pd (ds:=[.str "safe",.str "steady"]) rfl (Aq (by simp; omega))) (po (x:=.int c) (y:=.int 2) rfl rfl (Bz (by decide))) (ek _)) rfl)) em) rfl) ?_
  refine AT (μ1:=[]) (τ1:=[some (.scr cs),some (.int c),some (mkD sf sz bg ns),some (.int m),none,none,none,none,none,none]) (pa (d:=.int m) (po (x:=.int ns.length) (y:=.int 1) (pd (ds:=[.tup (ns.map hdD)]) (pc (po (x:=mkD sf sz bg ns) (y:=.int 4) rfl rfl rfl) rfl) ?_) rfl ?_) rfl) ?_
  . show some (D.int (((ns.map hdD).length:Nat):Int),([]:Mh))=_
    rw [List.length_map]
  . show some (D.int ((ns.length:Int) - 1),([]:Mh))=_
    rw [show ((ns.length:Int) - 1)=(m:Int) by omega]
  refine AT (μ1:=[stD bg (-1),.lst (List.replicate m D.non)]) (τ1:=[some (.scr cs),some (.int c),some (mkD sf sz bg ns),some (.int m),some (.ref 0),none,none,none,none,none]) (Be (d:=.ref 0) (μ1:=[stD bg (-1),.lst (List.replicate m D.non)]) ?_ rfl) ?_
  . unfold EG
    rw [show (AD (mOp Ab (AA 2) (mC (.int 2))) (AD (mUn CK (mC (.int 1))) (AD (mOp FD (AG BN (AD (mC .non) AK)) (AA 3)) AK))) [some (.scr cs),some (.int c),some (mkD sf sz bg ns),some (.int m),none,none,none,none,none,none] (([]:Mh) ++ [.dK []])=some ([.int bg,.int (-1),.ref 1],[.dK [],.lst (List.replicate m D.non)]) from by
      refine Ce (μ1:=[.dK []]) rfl (Ce (μ1:=[.dK []]) rfl (Ce (μ1:=[.dK [],.lst (List.replicate m D.non)]) (FY (μ1:=[.dK []]) (μ2:=[.dK []]) (x:=.lst [.non]) (y:=.int m) (pd (ds:=[.non]) rfl (Aq (by simp; omega))) rfl ?_) rfl))
      show (if [D.non] ≠ [] /\ [D.non].length <= 1000 /\ (0:Int) <= (m:Int) /\ (m:Int) <= 1000 then some (D.ref 1,[MO.dK [],MO.lst (List.replicate (m:Int).toNat [D.non]).flatten]) else none)=_
      rw [if_pos ⟨by simp,by simp,by omega,by omega⟩,FV]
      simp]
    rfl
  have bgn:=M1 (μ:=[stD bg (-1),.lst (List.replicate m D.non)]) (sf:=sf) (sz:=sz) (bg:=bg) (ns:=ns) (by omega) hlo
  rw [show ns.length - 1=m by omega] at bgn
  refine AT (μ1:=[stD bg (-1),.lst (List.replicate m D.non)]) (τ1:=[some (.scr cs),some (.int c),some (mkD sf sz bg ns),some (.int m),some (.ref 0),some (clD bg (-1) (List.replicate m none)),none,none,none,none]) (pa (pd (ds:=[mkD sf sz bg ns]) rfl bgn) rfl) ?_
  refine AT (μ1:=[stD bg (-1),.lst (List.replicate m D.non),.lst []]) (τ1:=[some (.scr cs),some (.int c),some (mkD sf sz bg ns),some (.int m),some (.ref 0),some (clD bg (-1) (List.replicate m none)),some (.ref 2),none,none,none]) (Be (d:=.ref 2) (μ1:=[stD bg (-1),.lst (List.replicate m D.non),.lst []]) (BI (ds:=[]) rfl ?_) rfl) ?_
  . unfold Ft
    rw [AL (show lim ([]:List D).length [stD bg (-1),.lst (List.replicate m D.non)]=some ((),[stD bg (-1),.lst (List.replicate m D.non)]) from by unfold lim; rw [if_pos (by simp)])]
    rfl
  refine AT (C7 (μ1:=[stD bg (-1),.lst (List.replicate m D.non),.lst []]) (ds:=(0 :: ds).map D.int) (JI (po (x:=.lst [.int 0]) (y:=.lst (ds.map D.int)) (pd (ds:=[.int 0]) rfl (Aq (by simp; omega))) (p2 (x:=.scr cs) (a:=some 1) (b:=some 41) rfl rfl rfl ?_) ?_)) go) ?_
  . show some (D.lst (CT (cs.map D.int) (some 1) (some 41)),_)=_
    rw [hds]
  . exact N2 (by simp; omega)
  refine B2 (Hf (μ1:=μ') (po (x:=clD w' c' (q'.map (dO sf sz))) (y:=clD w' c' (q'.map (dO sf sz))) rfl (pd (ds:=[mkD sf sz bg ns,.ref 0]) rfl due) Dk) (po (x:=.lst []) (y:=.lst []) (D2 (ds:=kp') (es:=[]) (M9 rfl I.k2) (by simp at hkl; omega) (Jj kp' [] I.ks) (Aq (by simp))) (pd (ds:=[]) rfl (Aq (by simp))) N1))
end
end K11
open PySem PySem.W PyProof.Rows
local macro_rules | `(tactic| wtm_at "own qdf")=>`(tactic| (refine' Mi.Q2 ?qa ?ql ?qc ?qk; (case qa=>k_is); (case ql=>k_is); (case qc=>k_is); (case qk=>k_is)))
local macro_rules | `(tactic| wtm_at "own qtl")=>`(tactic| (refine' Mi.tl_mk ?pl ?pe; (case pl=>k_is); (case pe=>rfl)))
set_option maxRecDepth 100000 in
set_option maxHeartbeats 0 in
theorem PySem.Challenge.cw_strongboxes_k11_claims_of_weak_boxes_holds : PySem.Challenge.rw_strongboxes_k11_claims_of_weak_boxes.Holds := by
  w_on; o_law; k_head; (case hw=>w_witness2)
  k_fill
  refine Mi.P6 (k:=4) (l:=PySem.Challenge.rw_strongboxes_k11_claims_of_weak_boxes) rfl rfl (by decide) (fun w h Y=>PySem.W.kIn_of Y) ?F
  case F=>
    intro w mg fa h KX G hmg
    refine' K11.P0 K11.Rf KX G hmg ?e_Lcell_at ?e_Lmaking ?e_claim_begun ?e_Lmay ?e_Ldue ?e_Lstream ?e_Llesser ?e_Lmore ?e_case_begun ?e_closed ?e_beside ?e_claim_writes ?e_cases_ended ?e_claim_written ?e_with_thing ?e_claim_reads ?e_Lwith ?e_claim_told ?e_Llesser_right ?e_Lwriter ?e_Lreader ?e_law ?z_enumerate ?z_int ?z_isinstance ?z_len ?z_range ?z_set ?z_sorted ?z_tuple ?g_NONE
    (case e_Lcell_at=>wtm_at "own qdf")
    (case e_Lmaking=>wtm_at "own qdf")
    (case e_claim_begun=>wtm_at "own qdf")
    (case e_Lmay=>wtm_at "own qdf")
    (case e_Ldue=>wtm_at "own qdf")
    (case e_Lstream=>wtm_at "own qdf")
    (case e_Llesser=>wtm_at "own qdf")
    (case e_Lmore=>wtm_at "own qdf")
    (case e_case_begun=>wtm_at "own qdf")
    (case e_closed=>wtm_at "own qdf")
    (case e_beside=>wtm_at "own qdf")
    (case e_claim_writes=>wtm_at "own qdf")
    (case e_cases_ended=>wtm_at "own qdf")
    (case e_claim_written=>wtm_at "own qdf")
    (case e_with_thing=>wtm_at "own qdf")
    (case e_claim_reads=>wtm_at "own qdf")
    (case e_Lwith=>wtm_at "own qdf")
    (case e_claim_told=>wtm_at "own qdf")
    (case e_Llesser_right=>wtm_at "own qdf")
    (case e_Lwriter=>wtm_at "own qdf")
    (case e_Lreader=>wtm_at "own qdf")
    (case e_law=>wtm_at "own qdf")
    (case z_enumerate=>k_is)
    (case z_int=>k_is)
    (case z_isinstance=>k_is)
    (case z_len=>k_is)
    (case z_range=>k_is)
    (case z_set=>k_is)
    (case z_sorted=>k_is)
    (case z_tuple=>k_is)
    (case g_NONE=>refine' Mi.OA KX G ?qa; (case qa=>k_is))
