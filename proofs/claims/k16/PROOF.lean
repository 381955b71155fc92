import PyProof.Rows.All
import Wide.All
import OpenK.AllK
import Wide.FinOn
import PyProof.EqAt
import PyProof.EqKinds
import PyProof.TupleCall
import Lean
import PySem.Challenge.RW_strongboxes_k16_known_histories
set_option Elab.async false
set_option linter.all false
set_option maxRecDepth 100000
set_option maxHeartbeats 4000000
def PySem.W.Fast.tw6417726600976174842:Nat:=0
def PySem.W.Fast.tw9252074724887679070:Nat:=0
def PySem.W.Fast.tw14260315421081561121:Nat:=0
def PySem.W.Fast.tw13568742211674375391:Nat:=0
def PySem.W.Fast.tw3459037979108502872:Nat:=0
def PySem.W.Fast.tw9346965036099795524:Nat:=0
def PySem.W.Fast.tw16479714583131056832:Nat:=0
def PySem.W.Fast.tw570351721799551028:Nat:=0
def PySem.W.Fast.tw4960439350361058042:Nat:=0
def PySem.W.Fast.tw11113795845932195811:Nat:=0
def PySem.W.Fast.tw15067602833883445755:Nat:=0
def PySem.W.Fast.tw3098219546534354448:Nat:=0
def PySem.W.Fast.tw6818450504602658558:Nat:=0
def PySem.W.Fast.tw5318235879580522650:Nat:=0
def PySem.W.Fast.tw1396541070724537604:Nat:=0
def PySem.W.Fast.tw9753866083657438438:Nat:=0
def PySem.W.Fast.tw7185019504412117575:Nat:=0
def PySem.W.Fast.tw18255570021980675908:Nat:=0
def PySem.W.Fast.tw13368349719431289997:Nat:=0
def PySem.W.Fast.tw2233325284853768415:Nat:=0
def PySem.W.Fast.tw11661587611041474531:Nat:=0
def PySem.W.Fast.tw2097312023739471796:Nat:=0
def PySem.W.Fast.tw7744618016351635408:Nat:=0
def PySem.W.Fast.tw7693075541802977372:Nat:=0
def PySem.W.Fast.tw9260687400936383561:Nat:=0
def PySem.W.Fast.tw18234813339726439872:Nat:=0
def PySem.W.Fast.tw11228186172068059093:Nat:=0
def PySem.W.Fast.tw5898276512209366788:Nat:=0
def PySem.W.Fast.tw14569726375360350838:Nat:=0
def PySem.W.Fast.tw801253776522555973:Nat:=0
def PySem.W.Fast.tw9085443080313612926:Nat:=0
def PySem.W.Fast.tw16435677843301969690:Nat:=0
def PySem.W.Fast.tw4239646017408376963:Nat:=0
def PySem.W.Fast.tw3050856587233408303:Nat:=0
def PySem.W.Fast.tw4986477505509757127:Nat:=0
def PySem.W.Fast.tw15969532640729798758:Nat:=0
def PySem.W.Fast.tw17439129523318808664:Nat:=0
def PySem.W.Fast.tw15387287843942681965:Nat:=0
def PySem.W.Fast.tw6661113806076658681:Nat:=0
def PySem.W.Fast.tw16661725404438827503:Nat:=0
def PySem.W.Fast.tw8243783270208272963:Nat:=0
def PySem.W.Fast.tw10446330403032908644:Nat:=0
def PySem.W.Fast.tw17662418127264016707:Nat:=0
def PySem.W.Fast.tw226968046189422936:Nat:=0
def PySem.W.Fast.tw13277353117835971914:Nat:=0
def PySem.W.Fast.tw3864386718244321021:Nat:=0
def PySem.W.Fast.tw3589815598791669371:Nat:=0
def PySem.W.Fast.tw5001781188504032540:Nat:=0
def PySem.W.Fast.tw67529423998259609:Nat:=0
def PySem.W.Fast.tw18107419022993084195:Nat:=0
def PySem.W.Fast.tw5040159704988912847:Nat:=0
def PySem.W.Fast.tw17795522159312505789:Nat:=0
def PySem.W.Fast.tw4834518499312216609:Nat:=0
def PySem.W.Fast.tw4294917645735942569:Nat:=0
def PySem.W.Fast.tw2622044961352698255:Nat:=0
def PySem.W.Fast.tw4127973106408108987:Nat:=0
def PySem.W.Fast.tw11644817920262804638:Nat:=0
def PySem.W.Fast.tw15322728671683601934:Nat:=0
def PySem.W.Fast.tw6709497325838093028:Nat:=0
def PySem.W.Fast.tw4901916625350777761:Nat:=0
def PySem.W.Fast.tw11780368961160768198:Nat:=0
def PySem.W.Fast.tw1779470997861914724:Nat:=0
def PySem.W.Fast.tw15642352259926032740:Nat:=0
def PySem.W.Fast.tw15408423408517860240:Nat:=0
def PySem.W.Fast.tw817421833591550908:Nat:=0
def PySem.W.Fast.tw9908183796420600451:Nat:=0
def PySem.W.Fast.tw8309557833195956758:Nat:=0
def PySem.W.Fast.tw13973294003924307623:Nat:=0
def PySem.W.Fast.tw13536116549767806664:Nat:=0
def PySem.W.Fast.tw8411918304537962414:Nat:=0
def PySem.W.Fast.tw18204641241275745891:Nat:=0
def PySem.W.Fast.tw15606341318233841610:Nat:=0
def PySem.W.Fast.tw1527081692728487747:Nat:=0
def PySem.W.Fast.tw1249655522829569506:Nat:=0
def PySem.W.Fast.tw12368788572483691113:Nat:=0
def PySem.W.Fast.tw7307194580426910223:Nat:=0
def PySem.W.Fast.tw6107205399745409773:Nat:=0
def PySem.W.Fast.tw10035950622969632047:Nat:=0
def PySem.W.Fast.tw14171910753615608993:Nat:=0
def PySem.W.Fast.tw12097166457288986781:Nat:=0
def PySem.W.Fast.tw14885740620182634857:Nat:=0
def PySem.W.Fast.tw12820798322569164857:Nat:=0
def PySem.W.Fast.tw2680914725386623191:Nat:=0
def PySem.W.Fast.tw7615348703196650272:Nat:=0
def PySem.W.Fast.tw10224187908932738464:Nat:=0
def PySem.W.Fast.tw1189634831463845678:Nat:=0
def PySem.W.Fast.tw8003811540683216840:Nat:=0
def PySem.W.Fast.tw16967190474094156354:Nat:=0
def PySem.W.Fast.tw4272866892503373447:Nat:=0
def PySem.W.Fast.tw18100815536162880247:Nat:=0
def PySem.W.Fast.tw15043242852145400391:Nat:=0
def PySem.W.Fast.tw13069350031423313047:Nat:=0
def PySem.W.Fast.tw1785435954504838205:Nat:=0
def PySem.W.Fast.tw12319050025364665257:Nat:=0
def PySem.W.Fast.tw7610989053317653618:Nat:=0
def PySem.W.Fast.tw15410604905789405969:Nat:=0
def PySem.W.Fast.tw1488984110147006516:Nat:=0
def PySem.W.Fast.tw13228626210710484142:Nat:=0
def PySem.W.Fast.tw14261863531643274082:Nat:=0
def PySem.W.Fast.tw8546365952997604678:Nat:=0
def PySem.W.Fast.tw6796757428555516364:Nat:=0
def PySem.W.Fast.tw17774046578396202020:Nat:=0
def PySem.W.Fast.tw10170977918159466457:Nat:=0
def PySem.W.Fast.tw5108404925747908790:Nat:=0
def PySem.W.Fast.tw17859630359861465328:Nat:=0
def PySem.W.Fast.tw4622466631396772091:Nat:=0
def PySem.W.Fast.tw3378751266301629897:Nat:=0
def PySem.W.Fast.tw14652272927590976981:Nat:=0
def PySem.W.Fast.tw18147866052706217181:Nat:=0
def PySem.W.Fast.tw7800124238440244989:Nat:=0
def PySem.W.Fast.tw17888404703593474735:Nat:=0
def PySem.W.Fast.tw10827308369395989431:Nat:=0
def PySem.W.Fast.tw3385912718949498258:Nat:=0
def PySem.W.Fast.tw865844074330703998:Nat:=0
def PySem.W.Fast.tw6013200800583788823:Nat:=0
def PySem.W.Fast.tw13295847317321553055:Nat:=0
def PySem.W.Fast.tw3809971278024145556:Nat:=0
def PySem.W.Fast.tw13378594755465674973:Nat:=0
def PySem.W.Fast.tw281999523496264378:Nat:=0
def PySem.W.Fast.tw5475403164663845480:Nat:=0
namespace L2
open PySem PySem.Spec PyProof.Rows
abbrev Key:=Sum Int Str
def IK:Key->Value->Bool
  | .inl k,v=>Value.isInt k v
  | .inr x,v=>Value.isStrOf x v
def Vw (w:World):Key->Int
  | .inl k=>hashInt k
  | .inr x=>hashStr w x
theorem BA:∀ {k:Key} {v:Value},IK k v=true->(∃ i t,k=Sum.inl i /\ v=Value.int i t) ∨ (∃ x t,k=Sum.inr x /\ v=Value.str x t)
  | .inl i,v,h=>by
    obtain ⟨t,e⟩:=Value.isInt_shape (k:=i) (v:=v) h
    exact .inl ⟨i,t,rfl,e⟩
  | .inr x,v,h=>by
    obtain ⟨t,e⟩:=Value.isStrOf_shape (x:=x) (v:=v) h
    exact .inr ⟨x,t,rfl,e⟩
theorem NT (i:Int) (t:Tok):IK (.inl i) (.int i t)=true:=by simp [IK,Value.isInt]
theorem NS (x:Str) (t:Tok):IK (.inr x) (.str x t)=true:=by simp [IK,Value.isStrOf]
theorem Tr (a b:Int):decide ((Sum.inl a:Key)=Sum.inl b)=(a == b):=by
  by_cases e:a=b
  . subst e; simp
  . have h : ¬ (Sum.inl a:Key)=Sum.inl b:=fun q=>e (Sum.inl.inj q)
    rw [decide_eq_false h]
    exact (beq_eq_false_iff_ne.mpr e).symm
theorem To (a b:Str):decide ((Sum.inr a:Key)=Sum.inr b)=decide (a=b):=by
  by_cases e:a=b
  . subst e; simp
  . have h : ¬ (Sum.inr a:Key)=Sum.inr b:=fun q=>e (Sum.inr.inj q)
    rw [decide_eq_false h,decide_eq_false e]
theorem Tq (a:Int) (b:Str):decide ((Sum.inl a:Key)=Sum.inr b)=false:=decide_eq_false (fun q=>nomatch q)
theorem Tp (a:Str) (b:Int):decide ((Sum.inr a:Key)=Sum.inl b)=false:=decide_eq_false (fun q=>nomatch q)
def BK (prog:Program) (w:World):PySem.KeyKind prog w Key where
  is:=IK
  hash:=Vw w
  inj:=fun v a b ha hb=>by
    rcases BA ha with ⟨i,t,rfl,rfl⟩ | ⟨x,t,rfl,rfl⟩
    . rcases BA hb with ⟨j,u,rfl,e⟩ | ⟨y,u,rfl,e⟩
      . injection e with e1 _; rw [e1]
      . exact nomatch e
    . rcases BA hb with ⟨j,u,rfl,e⟩ | ⟨y,u,rfl,e⟩
      . exact nomatch e
      . injection e with e1 _; rw [e1]
  byValue:=fun k v h=>by
    rcases BA h with ⟨i,t,rfl,rfl⟩ | ⟨x,t,rfl,rfl⟩ <;> rfl
  pyHash:=fun hv h=>by
    rcases BA hv with ⟨i,t,rfl,rfl⟩ | ⟨x,t,rfl,rfl⟩
    . exact wpAny_pyHash_int h
    . exact wpAny_pyHash_str h
  eqBool:=fun hu hv h=>by
    rcases BA hu with ⟨i,t,rfl,rfl⟩ | ⟨x,t,rfl,rfl⟩
    . rcases BA hv with ⟨j,u,rfl,rfl⟩ | ⟨y,u,rfl,rfl⟩
      . rw [Tr] at h; exact wpAny_eqBool_int h
      . rw [Tq] at h; exact SeqAt.EqAt.int_str i t y u _ _ _ _ h
    . rcases BA hv with ⟨j,u,rfl,rfl⟩ | ⟨y,u,rfl,rfl⟩
      . rw [Tp] at h; exact SeqAt.EqAt.str_int x t j u _ _ _ _ h
      . rw [To] at h; exact wpAny_eqBool_str h
  «strs»:=fun k x t v h=>by
    rcases BA h with ⟨i,u,rfl,e⟩ | ⟨y,u,rfl,e⟩
    . exact nomatch e
    . injection e with e1 _
      subst e1
      cases v <;> rfl
theorem J6 (prog:Program) (w:World) (i:Int) (t:Tok):(BK prog w).is (.inl i) (.int i t)=true:=NT i t
theorem J5 (prog:Program) (w:World) (x:Str) (t:Tok):(BK prog w).is (.inr x) (.str x t)=true:=NS x t
end L2
namespace L2
open PySem PySem.Spec PyProof.Rows
inductive V where
  | non | bl (b:Bool) | int (i:Int) | str (x:Str) | byt (b:Array UInt8) | flt (b:UInt64) | ref (a:Addr) | ty (n:String)
  deriving DecidableEq
def RelV:V->Value->Prop
  | .non,u=>u=Value.none
  | .bl b,u=>u=Value.bool b
  | .int i,u=>∃ t,u=Value.int i t
  | .str x,u=>∃ t,u=Value.str x t
  | .byt b,u=>∃ t,u=Value.bytes b t
  | .flt b,u=>∃ t,u=Value.float b t
  | .ref a,u=>u=Value.ref a
  | .ty n,u=>u=Value.type n
abbrev Vals:List V->List Value->Prop:=Paired RelV
theorem Vals.length {xs:List V} {us:List Value} (r:Vals xs us):xs.length=us.length:=Paired.length r
theorem Vals.get:∀ {xs:List V} {us:List Value} {i:Nat} {x:V},Vals xs us->xs[i]? = some x->∃ u,us[i]? = some u /\ RelV x u
  | _,_,_,_,.nil,e=>by simp at e
  | _,_,0,_,.cons r _,e=>by simp at e; subst e; exact ⟨_,rfl,r⟩
  | _,_,i + 1,x,.cons _ t,e=>by
    obtain ⟨u,h1,h2⟩:=Vals.get (i:=i) (x:=x) t (by simpa using e)
    exact ⟨u,by simpa using h1,h2⟩
theorem Vals.append:∀ {xs ys:List V} {us ws:List Value},Vals xs us->Vals ys ws->Vals (xs ++ ys) (us ++ ws)
  | _,_,_,_,.nil,s=>s
  | _,_,_,_,.cons r t,s=>.cons r (Vals.append t s)
theorem Vals.take:∀ {xs:List V} {us:List Value} (n:Nat),Vals xs us->Vals (xs.take n) (us.take n)
  | _,_,0,_=>.nil
  | _,_,_ + 1,.nil=>.nil
  | _,_,n + 1,.cons r t=>.cons r (Vals.take n t)
theorem Vals.drop:∀ {xs:List V} {us:List Value} (n:Nat),Vals xs us->Vals (xs.drop n) (us.drop n)
  | _,_,0,r=>r
  | _,_,_ + 1,.nil=>.nil
  | _,_,n + 1,.cons _ t=>Vals.drop n t
def RelO:Option V->Option Value->Prop
  | some v,some u=>RelV v u
  | none,none=>True
  | _,_=>False
def KV {κ:Type}:List (κ × V)->List (κ × Value)->Prop:=Paired fun (p:κ × V) (q:κ × Value)=>p.1=q.1 /\ RelV p.2 q.2
def kV:Key->V
  | .inl i=>.int i
  | .inr x=>.str x
inductive HO where
  | lst (xs:List V)
  | tup (xs:List V)
  | dK (kvs:List (Key × V)) | dT (kvs:List (List Key × V))
  | set (S:Int->Bool) (n:Nat)
  | ins (C dx:Addr) (fs:List (Str × V))
  | own (x:Addr)
  | xd (fs:List (Str × V))
  | met (f x:Addr)
  | rng (lo hi:Int)
  | frz (o:Obj) (u:HO)
  | tbl (ps:Array Value)
  | ext (φ:Heap->Prop)
abbrev Hp:=Addr->Option HO
def upd (H:Hp) (a:Addr) (o:HO):Hp:=fun b=>if b=a then some o else H b
theorem BF {H:Hp} {a:Addr} {o:HO}:upd H a o a=some o:=by unfold upd; rw [if_pos rfl]
theorem Aw {H:Hp} {a b:Addr} {o:HO} (h:b ≠ a):upd H a o b=H b:=by unfold upd; rw [if_neg h]
theorem U7 {H:Hp} {a b:Addr} {o u:HO} (h:H a=some o) (h':H b=some u) (d:o ≠ u):a ≠ b:=by
  intro e; subst e; rw [h] at h'; exact d (Option.some.inj h')
theorem Br {H:Hp} {a b:Addr} {o:HO} (h:H a=some o) (h':H b=none):a ≠ b:=by
  intro e; subst e; rw [h] at h'; cases h'
section
variable (P:Program) (w:World)
def ObjOk (H:Hp) (h:Heap) (a:Addr):HO->Prop
  | .lst xs=>xs.length <= sizeLine /\ ∃ (its:List Value) (n:Nat),Vals xs its /\ h.get? a=some { cls:=.type "list",data:=.seq its.toArray n }
  | .tup xs=>xs.length <= sizeLine /\ ∃ its:List Value,Vals xs its /\ IsTup h a its.toArray
  | .dK kvs=>kvs.length <= sizeLine /\ (a == sysModules)=false /\ ∃ vs,KV kvs vs /\ h.DictOf (BK P w) a vs
  | .dT kvs=>kvs.length <= sizeLine /\ (a == sysModules)=false /\ ∃ xs:List (List Key × Addr × Value),
      Paired (fun (p:List Key × V) (q:List Key × Addr × Value)=>p.1=q.1 /\ H q.2.1=some (.tup (p.1.map kV)) /\ RelV p.2 q.2.2) kvs xs /\
      ∃ o es ep,h.get? a=some o /\ o.ExactDict /\ o.data=.dict es ep /\ es.toList=xs.map (entryOfKey (tupleKind (BK P w))) /\ (xs.map (·.1)).Nodup
  | .set S n=>h.SetOf (intKind P w) a S n
  | .ins C dx fs=>H dx=some (.own a) /\ fs.length <= 1000 /\ dx ≠ a /\ h.get? a=some (PySem.W.instObj C dx) /\
      ∃ mA,h.Ns1 dx mA /\ (∀ f,RelO (fs.lookup f) (mA f)) /\ PySem.Within mA (fs.map (·.1))
  | .own _=>∃ o,h.get? a=some o
  | .xd fs=>∃ mA,h.Ns1 a mA /\ ∀ f,RelO (fs.lookup f) (mA f)
  | .rng lo hi=>∃ t u v,h.get? a=some { cls:=.type "range",data:=.fields #[.int lo t,.int hi u,.int 1 v] }
  | .frz o u=>h.get? a=some o /\ ObjOk H h a u
  | .tbl ps=>h.get? a=some { cls:=.none,data:=.fields ps }
  | .met f x=>h.get? a=some (PySem.W.methodObj (.ref f) (.ref x))
  | .ext φ=>φ h /\ (∃ o,h.get? a=some o) /\ ∀ h1 h2:Heap,φ h1->(∀ o,h1.get? a=some o->h2.get? a=some o)->φ h2
def HOk (H:Hp) (h:Heap):Prop:=∀ a o,H a=some o->ObjOk P w H h a o
end
section
variable {P:Program} {w:World} {H H':Hp} {h h':Heap} {a:Addr} {o:HO}
theorem ObjOk.lt (x:ObjOk P w H h a o):a < h.objs.size:=by
  cases o with
  | lst xs=>obtain ⟨_,_,_,_,e⟩:=x; exact Heap.lt_size e
  | tup xs=>obtain ⟨_,_,_,p⟩:=x; exact p.lt
  | dK kvs=>obtain ⟨_,_,_,_,o,_,_,e,_⟩:=x; exact Heap.lt_size e
  | dT kvs=>obtain ⟨_,_,_,_,o,_,_,e,_⟩:=x; exact Heap.lt_size e
  | set S n=>obtain ⟨o,_,_,_,e,_⟩:=x; exact Heap.lt_size e
  | ins C dx fs=>obtain ⟨_,_,_,e,_⟩:=x; exact Heap.lt_size e
  | own y=>obtain ⟨_,e⟩:=x; exact Heap.lt_size e
  | xd fs=>obtain ⟨_,⟨_,_,_,e,_⟩,_⟩:=x; exact Heap.lt_size e
  | rng lo hi=>obtain ⟨_,_,_,e⟩:=x; exact Heap.lt_size e
  | frz ob u=>obtain ⟨e,_⟩:=x; exact Heap.lt_size e
  | tbl ps=>exact Heap.lt_size (show h.get? a=some _ from x)
  | met f y=>exact Heap.lt_size (show h.get? a=some _ from x)
  | ext φ=>obtain ⟨_,⟨_,e⟩,_⟩:=x; exact Heap.lt_size e
theorem Paired.mapP {α β:Type} {F G:α->β->Prop}:∀ {l₁:List α} {l₂:List β},Paired F l₁ l₂->(∀ a b,F a b->G a b)->Paired G l₁ l₂
  | _,_,.nil,_=>.nil
  | _,_,.cons r t,f=>.cons (f _ _ r) (Paired.mapP t f)
theorem ObjOk.stay (x:ObjOk P w H h a o) (k:∀ b u,(b=a ∨ H b=some (.own a))->h.get? b=some u->h'.get? b=some u)
    (ho:∀ b,H b=some (.own a)->H' b=some (.own a)) (ht:∀ b xs,H b=some (.tup xs)->H' b=some (.tup xs)):ObjOk P w H' h' a o:=by
  induction o with
  | lst xs=>obtain ⟨z,its,n,r,e⟩:=x; exact ⟨z,its,n,r,k _ _ (.inl rfl) e⟩
  | tup xs=>obtain ⟨z,its,r,ob,e,c⟩:=x; exact ⟨z,its,r,ob,k _ _ (.inl rfl) e,c⟩
  | dK kvs=>obtain ⟨z,y,vs,r,ob,es,ep,e,c⟩:=x; exact ⟨z,y,vs,r,ob,es,ep,k _ _ (.inl rfl) e,c⟩
  | dT kvs=>
    obtain ⟨z,y,xs,r,ob,es,ep,e,c⟩:=x
    exact ⟨z,y,xs,Paired.mapP r fun p q z=>⟨z.1,ht _ _ z.2.1,z.2.2⟩,ob,es,ep,k _ _ (.inl rfl) e,c⟩
  | set S n=>obtain ⟨ob,es,ep,t,e,c⟩:=x; exact ⟨ob,es,ep,t,k _ _ (.inl rfl) e,c⟩
  | ins C dx fs=>
    obtain ⟨d,z,ne,e,mA,⟨od,es,ep,e2,c⟩,r⟩:=x
    exact ⟨ho _ d,z,ne,k _ _ (.inl rfl) e,mA,⟨od,es,ep,k _ _ (.inr d) e2,c⟩,r⟩
  | own y=>obtain ⟨ob,e⟩:=x; exact ⟨ob,k _ _ (.inl rfl) e⟩
  | xd fs=>obtain ⟨mA,⟨od,es,ep,e,c⟩,r⟩:=x; exact ⟨mA,⟨od,es,ep,k _ _ (.inl rfl) e,c⟩,r⟩
  | rng lo hi=>obtain ⟨t,u,v,e⟩:=x; exact ⟨t,u,v,k _ _ (.inl rfl) e⟩
  | frz ob u ih=>obtain ⟨e,q⟩:=x; exact ⟨k _ _ (.inl rfl) e,ih q⟩
  | tbl ps=>
    have e:h.get? a=some { cls:=.none,data:=.fields ps }:=x
    show h'.get? a=some { cls:=.none,data:=.fields ps }
    exact k a _ (.inl rfl) e
  | met f y=>
    have e:h.get? a=some (PySem.W.methodObj (.ref f) (.ref y)):=x
    show h'.get? a=some (PySem.W.methodObj (.ref f) (.ref y))
    exact k a _ (.inl rfl) e
  | ext φ=>obtain ⟨p,⟨o,e⟩,st⟩:=x; exact ⟨st _ _ p fun o q=>k _ _ (.inl rfl) q,⟨o,k _ _ (.inl rfl) e⟩,st⟩
theorem HOk.lt (x:HOk P w H h) (e:H a=some o):a < h.objs.size:=(x a o e).lt
theorem HOk.fresh (x:HOk P w H h) (e:h.objs.size <= a):H a=none:=by
  cases q:H a with
  | none=>rfl
  | some u=>exact absurd (Nat.lt_of_lt_of_le (x.lt q) e) (Nat.lt_irrefl _)
theorem HOk.kept (x:HOk P w H h) (k:∀ b u,h.get? b=some u->h'.get? b=some u):HOk P w H h':=fun a o e=>
  (x a o e).stay (fun b u _ q=>k b u q) (fun _ q=>q) fun _ _ q=>q
theorem HOk.laid (x:HOk P w H h) (k:∀ b u,h.get? b=some u->h'.get? b=some u) (hp:h.objs.size <= a) (new:ObjOk P w (upd H a o) h' a o):HOk P w (upd H a o) h':=fun b u e=>by
  have hn:=x.fresh hp
  by_cases hb:b=a
  . subst hb; rw [BF] at e; cases e; exact new
  . rw [Aw hb] at e
    exact (x b u e).stay (fun c v _ q=>k c v q) (fun c q=>by rw [Aw (Br q hn)]; exact q) fun c xs q=>by rw [Aw (Br q hn)]; exact q
end
def Rd (H:Hp) (a:Addr) (u:HO):Prop:=H a=some u ∨ ∃ o,H a=some (.frz o u)
theorem Rd.ok {P:Program} {w:World} {H:Hp} {h:Heap} {a:Addr} {u:HO} (r:Rd H a u) (x:HOk P w H h):ObjOk P w H h a u:=by
  rcases r with r | ⟨o,r⟩
  . exact x a u r
  . obtain ⟨_,q⟩:=x a _ r
    exact q
def Mut:Option HO->Prop
  | some (.lst _)=>True
  | some (.dK _)=>True
  | some (.dT _)=>True
  | some (.set _ _)=>True
  | some (.ins _ _ _)=>True
  | some (.ext _)=>True
  | _=>False
section
variable {P:Program} {w:World} {H:Hp} {h h':Heap} {x e:Addr} {o':HO}
theorem HOk.write (ok:HOk P w H h) (mu:Mut (H x)) (he:e=x ∨ H e=some (.own x)) (k:∀ b u,b ≠ e->h.get? b=some u->h'.get? b=some u) (heo:∃ u,h'.get? e=some u)
    (new:ObjOk P w (upd H x o') h' x o'):HOk P w (upd H x o') h':=fun b u q=>by
  have nown:∀ c y,H c=some (.own y)->c ≠ x:=fun c y r z=>by subst z; rw [r] at mu; exact mu
  have ntup:∀ c xs,H c=some (.tup xs)->c ≠ x:=fun c xs r z=>by subst z; rw [r] at mu; exact mu
  by_cases hb:b=x
  . subst hb; rw [BF] at q; cases q; exact new
  . rw [Aw hb] at q
    by_cases hbe:b=e
    . have q':H b=some (.own x):=by
        rcases he with z | z
        . exact absurd (hbe.trans z) hb
        . rw [hbe]; exact z
      rw [q] at q'; cases q'
      obtain ⟨v,hv⟩:=heo
      exact ⟨v,by rw [hbe]; exact hv⟩
    . refine (ok b u q).stay (fun c v hc r=>k c v ?_ r) (fun c r=>by rw [Aw (nown c b r)]; exact r) fun c xs r=>by rw [Aw (ntup c xs r)]; exact r
      rcases hc with rfl | hc
      . exact hbe
      . rintro rfl
        rcases he with z | z
        . exact nown c b hc z
        . rw [hc] at z; cases z; exact hb rfl
end
structure Un (fs ex:List Addr) (H H':Hp) (h h':Heap):Prop where
  keep:∀ b o,h.get? b=some o->H b=none->b ∉ fs->b ∉ ex->h'.get? b=some o
  slot:∀ b o,h.get? b=some o->H b=none->b ∈ fs->b ∉ ex->∃ sl,h'.get? b=some { o with slots:=sl }
  free:∀ b o,h.get? b=some o->H b=none->b ∉ ex->H' b=none
  there:∀ b o,h.get? b=some o->b ∉ ex->∃ o',h'.get? b=some o'
  tups:∀ b xs,H b=some (.tup xs)->H' b=some (.tup xs)
  frzs:∀ b o u,H b=some (.frz o u)->H' b=some (.frz o u)
  tbls:∀ b ps,H b=some (.tbl ps)->∃ more,H' b=some (.tbl (ps ++ more))
section
variable {fs fs' ex ex':List Addr} {H H1 H2:Hp} {h h1 h2 h':Heap} {a x e:Addr} {o:HO}
theorem Un.any (u:Un fs ex H H1 h h1) {b:Addr} {ob:Obj} (q:h.get? b=some ob) (n:H b=none) (hx:b ∉ ex):∃ sl,h1.get? b=some { ob with slots:=sl }:=by
  by_cases hb:b ∈ fs
  . exact u.slot b ob q n hb hx
  . exact ⟨ob.slots,u.keep b ob q n hb hx⟩
theorem Un.kept (k:∀ b u,h.get? b=some u->h'.get? b=some u):Un fs ex H H h h':=
  ⟨fun b ob q _ _ _=>k b ob q,fun b ob q _ _ _=>⟨ob.slots,k b ob q⟩,fun _ _ _ n _=>n,fun b ob q _=>⟨ob,k b ob q⟩,fun _ _ q=>q,fun _ _ _ q=>q,fun _ ps q=>⟨#[],by rw [q]; simp⟩⟩
theorem Un.refl:Un fs ex H H h h:=Un.kept fun _ _ q=>q
theorem Un.laid (k:∀ b u,h.get? b=some u->h'.get? b=some u) (hp:h.objs.size <= a) (hn:H a=none):Un fs ex H (upd H a o) h h' where
  keep:=fun b u q _ _ _=>k b u q
  slot:=fun b u q _ _ _=>⟨u.slots,k b u q⟩
  free:=fun b u q n _=>by rw [Aw (Nat.ne_of_lt (Nat.lt_of_lt_of_le (Heap.lt_size q) hp))]; exact n
  there:=fun b u q _=>⟨u,k b u q⟩
  tups:=fun b xs q=>by rw [Aw (Br q hn)]; exact q
  frzs:=fun b u xs q=>by rw [Aw (Br q hn)]; exact q
  tbls:=fun b ps q=>⟨#[],by rw [Aw (Br q hn),q]; simp⟩
theorem Un.write (mu:Mut (H x)) (he:e=x ∨ H e=some (.own x)) (k:∀ b u,b ≠ e->h.get? b=some u->h'.get? b=some u) (heo:∃ u,h'.get? e=some u):Un fs ex H (upd H x o) h h':=by
  have hx:∀ b,H b=none->b ≠ x:=fun b n z=>by subst z; rw [n] at mu; exact mu
  have hb:∀ b,H b=none->b ≠ e:=fun b n z=>by
    subst z
    rcases he with r | r
    . exact hx b n r
    . rw [n] at r; cases r
  have hm:∀ b u,H b=some u->¬ Mut (some u)->b ≠ x:=fun b u q nm z=>by subst z; rw [q] at mu; exact nm mu
  refine ⟨fun b u q n _ _=>k b u (hb b n) q,fun b u q n _ _=>⟨u.slots,k b u (hb b n) q⟩,fun b u q n _=>by rw [Aw (hx b n)]; exact n,fun b u q _=>?_,
    fun b xs q=>by rw [Aw (hm b _ q fun z=>z)]; exact q,fun b u xs q=>by rw [Aw (hm b _ q fun z=>z)]; exact q,fun b ps q=>⟨#[],by rw [Aw (hm b _ q fun z=>z),q]; simp⟩⟩
  by_cases hbe:b=e
  . subst hbe; exact heo
  . exact ⟨u,k b u hbe q⟩
end
def trk (h:Heap) (H:Hp):List Addr:=(List.range h.objs.size).filter fun a=>(H a).isSome
def JO (h:Heap) (H:Hp):Heap:=PySem.W.hideAll h (trk h H)
theorem NX (h:Heap) (H:Hp):(JO h H).objs.size=h.objs.size:=PySem.W.hideAll_size _ _
theorem Pb {h:Heap} {H:Hp} {b:Addr} {o:Obj} (e:h.get? b=some o) (n:H b=none):(JO h H).get? b=some o:=
  PySem.W.hideAll_get _ e fun hm=>by
    have q:(H b).isSome=true:=(List.mem_filter.mp hm).2
    rw [n] at q; simp at q
theorem RH {h:Heap} {H:Hp} {b:Addr} {o:Obj} (e:(JO h H).get? b=some o):h.get? b=some o /\ H b=none:=by
  have e':h.get? b=some o:=PySem.W.of_hideAll (trk h H) e
  refine ⟨e',?_⟩
  cases q:H b with
  | none=>rfl
  | some x=>
    have hm:b ∈ trk h H:=List.mem_filter.mpr ⟨List.mem_range.mpr (Heap.lt_size e'),by simp [q]⟩
    have z:(JO h H).get? b=none:=PySem.W.hideAll_none (trk h H) hm
    rw [z] at e; cases e
end L2
namespace L2
open PySem PySem.Spec PyProof.Rows
structure Mod (K:PySem.W.Frag) (mg:Str->Option Value) (base:Heap):Prop where
  kin:K.In base
  glob:base.Ns mainGlobals mg
  blt:∃ mb,base.Ns builtinsNs mb /\ ∀ x:Str,x ≠ "__name__" -> mb x=bootBuiltins x
  nolimit:base.NoLimit
structure Cx where
  prog:Program
  w:World
  K:PySem.W.Frag
  mg:Str->Option Value
  base:Heap
  A:Around
  N:List Str
  s₀:Shared
  H₀:Hp
  env:Env
  outer:List Env
  stack:List Env
  ex:List Addr
  fn:Str->Bool
  calm:Bool
  pn:List (Addr × Obj)
  xe:Value->Shared->Prop
def frs (l:List Env):List Addr:=l.filterMap (·.frame)
abbrev Cx.fs (X:Cx):List Addr:=frs X.outer
def Vis (sc:Scope) (x:Str):Prop:=sc.names.lookup x=some .local ∨ sc.names.lookup x=some .cell ∨ sc.names.lookup x=some .free
def Loc (sc:Scope) (x:Str):Prop:=sc.names.lookup x=some .local ∨ sc.names.lookup x=some .cell
def V4 (env:Env) (h:Heap) (m:Str->Option Value) (x:Str) (u:Value):Prop:=
  (env.kindOf x=some .local /\ m x=some u) ∨ ((env.kindOf x=some .cell ∨ env.kindOf x=some .free) /\ ∃ c,env.cells.lookup x=some c /\ h.IsCell c (some u))
structure Cx.Ok (X:Cx):Prop where
  mod:Mod X.K X.mg X.base
  kind:X.env.scope.kind=.function
  glob:X.env.globals=mainGlobals
  blt:X.env.builtins=builtinsNs
  above:X.s₀.heap.objs.size <= X.env.locals
  inj:∀ x y c,X.env.cells.lookup x=some c->X.env.cells.lookup y=some c->x=y
  has:∀ x,(X.env.kindOf x=some .cell ∨ X.env.kindOf x=some .free)->∃ c,X.env.cells.lookup x=some c
  cab:∀ x c,X.fn x=true->X.env.cells.lookup x=some c->X.s₀.heap.objs.size <= c
  hd:X.calm=true->X.A.handled=none
  frames:X.A.frames=some X.stack
  stk:X.stack=X.outer ∨ (X.stack=X.env :: X.outer /\ X.env.frame=some X.env.locals)
  exf:∀ b ∈ X.ex,b ≠ X.env.locals /\ ∀ x c,X.env.cells.lookup x=some c->c ≠ b
  bs:∀ b o,X.base.get? b=some o->X.s₀.heap.get? b=some o /\ X.H₀ b=none
  bsz:X.base.objs.size <= X.s₀.heap.objs.size
  noex:∀ b o,X.base.get? b=some o->b ∉ X.ex
  exfs:∀ b ∈ X.ex,b ∉ X.fs
  funs:X.s₀.heap.FunFrames X.base X.outer
  frf:∀ b ∈ X.fs,X.H₀ b=none
structure Inv (X:Cx) (pins:List (Addr × Obj)) (σ:List (Option V)) (H:Hp) (s:Shared):Prop where
  ok:X.Ok
  os:s.os=X.s₀.os
  bare:AllBare s.gens
  base:Un X.fs X.ex X.H₀ H X.s₀.heap s.heap
  loc:∃ m,s.heap.Ns X.env.locals m /\ ∀ (i:Nat) (x:Str) (v:V),X.N[i]? = some x->σ[i]? = some (some v)->Vis X.env.scope x->∃ u,RelV v u /\ V4 X.env s.heap m x u
  cell:∀ x c,X.env.cells.lookup x=some c->∃ v,s.heap.IsCell c v
  free:H X.env.locals=none
  freeC:∀ x c,X.env.cells.lookup x=some c->H c=none
  pin:∀ p ∈ X.pn ++ pins,s.heap.get? p.1=some p.2 /\ H p.1=none /\ p.1 ≠ X.env.locals /\ p.1 ∉ X.fs /\ ∀ v,p.2.data ≠ .cell v
  hok:HOk X.prog X.w H s.heap
  len:σ.length=X.N.length
section
variable {X:Cx} {pins:List (Addr × Obj)} {σ:List (Option V)} {H H':Hp} {s:Shared} {h':Heap}
theorem Cx.Ok.nofr (ok:X.Ok) {b:Addr} {o:Obj} (e:X.base.get? b=some o):b ∉ X.fs:=fun hb=>by
  have:=(ok.funs.mem hb).1
  rw [e] at this; cases this
theorem Inv.bs (I:Inv X pins σ H s):∀ b o,X.base.get? b=some o->s.heap.get? b=some o /\ H b=none:=fun b o e=>
  ⟨I.base.keep b o (I.ok.bs b o e).1 (I.ok.bs b o e).2 (I.ok.nofr e) (I.ok.noex b o e),I.base.free b o (I.ok.bs b o e).1 (I.ok.bs b o e).2 (I.ok.noex b o e)⟩
theorem Inv.bk (I:Inv X pins σ H s):∀ b o,X.base.get? b=some o->s.heap.get? b=some o:=fun b o e=>(I.bs b o e).1
theorem Inv.mod (I:Inv X pins σ H s):Mod X.K X.mg X.base:=I.ok.mod
theorem Inv.kIn (I:Inv X pins σ H s):X.K.In s.heap:=I.ok.mod.kin.keeps I.bk
theorem Inv.fr (I:Inv X pins σ H s):∃ m,Fr X.base X.env.locals s.heap m:=
  let ⟨m,hn,_⟩:=I.loc
  ⟨m,hn,I.bk,Nat.le_trans I.ok.bsz I.ok.above⟩
theorem Inv.lt (I:Inv X pins σ H s):X.env.locals < s.heap.objs.size:=let ⟨_,hn,_⟩:=I.loc; hn.lt
theorem Inv.sz (I:Inv X pins σ H s):X.s₀.heap.objs.size <= s.heap.objs.size:=Nat.le_trans I.ok.above (Nat.le_of_lt I.lt)
theorem Inv.nofs (I:Inv X pins σ H s) {a:Addr} (h:s.heap.objs.size <= a):a ∉ X.fs:=fun hb=>by
  obtain ⟨_,o,ho,_⟩:=I.ok.funs.mem hb
  exact absurd (Nat.lt_of_lt_of_le (Heap.lt_size ho) (Nat.le_trans I.sz h)) (Nat.lt_irrefl _)
theorem Inv.cne (I:Inv X pins σ H s):∀ x c,X.env.cells.lookup x=some c->c ≠ X.env.locals:=fun x c e z=>by
  obtain ⟨v,o,ho,hd⟩:=I.cell x c e
  obtain ⟨m,⟨o',es,ep,ho',hd',_⟩,_⟩:=I.loc
  rw [z,ho'] at ho; cases ho; rw [hd'] at hd; cases hd
theorem Inv.funs (I:Inv X pins σ H s):s.heap.FunFrames X.base X.outer:=by
  have all:∀ (l:List Env),(∀ b ∈ frs l,b ∈ X.fs)->X.s₀.heap.FunFrames X.base l->s.heap.FunFrames X.base l:=by
    intro l
    induction l with
    | nil=>intro _ _; trivial
    | cons env r ih=>
      intro hs hl
      obtain ⟨hk,⟨L,o,hf,hn,ho,hd⟩,hr⟩:=hl
      have hL:L ∈ X.fs:=hs L (by unfold frs; rw [List.filterMap_cons,hf]; exact List.mem_cons_self)
      obtain ⟨sl,e⟩:=I.base.slot L o ho (I.ok.frf L hL) hL fun z=>I.ok.exfs L z hL
      exact ⟨hk,⟨L,_,hf,hn,e,hd⟩,ih (fun b hb=>hs b (by unfold frs; rw [List.filterMap_cons,hf]; exact List.mem_cons_of_mem _ hb)) hr⟩
  exact all X.outer (fun _ hb=>hb) I.ok.funs
theorem Inv.stack (I:Inv X pins σ H s):s.heap.FunFrames X.base X.stack:=by
  rcases I.ok.stk with e | ⟨e,hf⟩
  . rw [e]; exact I.funs
  . rw [e]
    obtain ⟨m,hn,_⟩:=I.loc
    refine .cons (by rw [I.ok.kind]; decide) hf hn ?_ I.funs
    exact Heap.get?_none_of_le (Nat.le_trans I.ok.bsz I.ok.above)
theorem Inv.stkSub (I:Inv X pins σ H s):∀ b ∈ frs X.stack,b ∈ X.env.locals :: X.fs:=fun b hb=>by
  rcases I.ok.stk with e | ⟨e,hf⟩
  . rw [e] at hb; exact List.mem_cons_of_mem _ hb
  . rw [e] at hb
    unfold frs at hb
    rw [List.filterMap_cons,hf] at hb
    exact hb
theorem Inv.stkFree (I:Inv X pins σ H s):∀ b ∈ frs X.stack,H b=none:=fun b hb=>by
  rcases List.mem_cons.mp (I.stkSub b hb) with e | hb
  . rw [e]; exact I.free
  . obtain ⟨_,o,ho,_⟩:=I.ok.funs.mem hb
    exact I.base.free b o ho (I.ok.frf b hb) fun z=>I.ok.exfs b z hb
theorem Inv.step {g':Array GenState} {t':Nat} {d':Drawn} {ch:List Addr} (I:Inv X pins σ H s)
    (hch:∀ b ∈ ch,(b ∈ X.ex ∨ X.s₀.heap.objs.size <= b) /\ b ≠ X.env.locals /\ (∀ x c,X.env.cells.lookup x=some c->c ≠ b) /\ ∀ p ∈ X.pn ++ pins,p.1 ≠ b)
    (keep:∀ b o,b ≠ X.env.locals->b ∉ X.fs->b ∉ ch->s.heap.get? b=some o->H b=none->h'.get? b=some o)
    (slot:∀ b o,b ≠ X.env.locals->b ∈ X.fs->b ∉ ch->s.heap.get? b=some o->H b=none->∃ sl,h'.get? b=some { o with slots:=sl }) (free:∀ b o,b ∉ ch->s.heap.get? b=some o->H b=none->H' b=none)
    (there:∀ b o,b ∉ ch->s.heap.get? b=some o->∃ o',h'.get? b=some o')
    (tups:∀ b xs,H b=some (.tup xs)->H' b=some (.tup xs)) (frzs:∀ b o u,H b=some (.frz o u)->H' b=some (.frz o u)) (tbls:∀ b ps,H b=some (.tbl ps)->∃ more,H' b=some (.tbl (ps ++ more)))
    (ns:∀ m,s.heap.Ns X.env.locals m->h'.Ns X.env.locals m) (hok:HOk X.prog X.w H' h') (hg:AllBare g') :
    Inv X pins σ H' { s with heap:=h',gens:=g',drawn:=d',toks:=t' }:=by
  have neL:∀ b o,X.s₀.heap.get? b=some o->b ≠ X.env.locals:=fun b o e=>Nat.ne_of_lt (Nat.lt_of_lt_of_le (Heap.lt_size e) I.ok.above)
  have neC:∀ b o,X.s₀.heap.get? b=some o->b ∉ X.ex->b ∉ ch:=fun b o e hx hb=>by
    rcases (hch b hb).1 with z | z
    . exact hx z
    . exact absurd (Nat.lt_of_lt_of_le (Heap.lt_size e) z) (Nat.lt_irrefl _)
  have cellK:∀ x c,X.env.cells.lookup x=some c->∀ v,s.heap.IsCell c v->h'.IsCell c v:=fun x c e v ⟨o,ho,hd⟩=>by
    have nch:c ∉ ch:=fun z=>(hch c z).2.2.1 x c e rfl
    by_cases hc:c ∈ X.fs
    . obtain ⟨sl,q⟩:=slot c o (I.cne x c e) hc nch ho (I.freeC x c e)
      exact ⟨_,q,hd⟩
    . exact ⟨o,keep c o (I.cne x c e) hc nch ho (I.freeC x c e),hd⟩
  refine ⟨I.ok,I.os,hg,⟨fun b o e n hb hx=>?_,fun b o e n hb hx=>?_,fun b o e n hx=>?_,fun b o e hx=>?_,fun b xs e=>tups b xs (I.base.tups b xs e),fun b o xs e=>frzs b o xs (I.base.frzs b o xs e),fun b ps e=>?_⟩,?_,fun x c e=>?_,?_,fun x c e=>?_,fun p hp=>?_,hok,I.len⟩
  . exact keep b o (neL b o e) hb (neC b o e hx) (I.base.keep b o e n hb hx) (I.base.free b o e n hx)
  . obtain ⟨sl,e1⟩:=I.base.slot b o e n hb hx
    obtain ⟨sl',e2⟩:=slot b _ (neL b o e) hb (neC b o e hx) e1 (I.base.free b o e n hx)
    exact ⟨sl',e2⟩
  . obtain ⟨o',e1⟩:=I.base.there b o e hx
    exact free b o' (neC b o e hx) e1 (I.base.free b o e n hx)
  . obtain ⟨o',e1⟩:=I.base.there b o e hx
    exact there b o' (neC b o e hx) e1
  . obtain ⟨m1,e1⟩:=I.base.tbls b ps e
    obtain ⟨m2,e2⟩:=tbls b _ e1
    exact ⟨m1 ++ m2,by rw [e2,Array.append_assoc]⟩
  . obtain ⟨m,hn,hl⟩:=I.loc
    refine ⟨m,ns m hn,fun i x v e1 e2 e3=>?_⟩
    obtain ⟨u,r,l⟩:=hl i x v e1 e2 e3
    refine ⟨u,r,?_⟩
    rcases l with l | ⟨k,c,e,z⟩
    . exact .inl l
    . exact .inr ⟨k,c,e,cellK x c e _ z⟩
  . obtain ⟨v,z⟩:=I.cell x c e
    exact ⟨v,cellK x c e v z⟩
  . obtain ⟨m,⟨o,_,_,ho,_⟩,_⟩:=I.loc
    exact free _ o (fun z=>(hch _ z).2.1 rfl) ho I.free
  . obtain ⟨v,o,ho,hd⟩:=I.cell x c e
    exact free c o (fun z=>(hch c z).2.2.1 x c e rfl) ho (I.freeC x c e)
  . obtain ⟨e,n,ne,nf,d⟩:=I.pin p hp
    have nch:p.1 ∉ ch:=fun z=>(hch p.1 z).2.2.2 p hp rfl
    exact ⟨keep p.1 p.2 ne nf nch e n,free p.1 p.2 nch e n,ne,nf,d⟩
theorem Inv.un {t':Nat} (I:Inv X pins σ H s) (u:Un X.fs [] H H' s.heap h') (hok:HOk X.prog X.w H' h'):Inv X pins σ H' { s with heap:=h',toks:=t' }:=by
  obtain ⟨m,⟨o,es,ep,ho,r⟩,_⟩:=id I.loc
  obtain ⟨sl,hL⟩:=u.any ho I.free (by simp)
  exact I.step (g':=s.gens) (d':=s.drawn) (ch:=[]) (fun _ z=>nomatch z) (fun b o _ hb _ e n=>u.keep b o e n hb (by simp)) (fun b o _ hb _ e n=>u.slot b o e n hb (by simp)) (fun b o _ e n=>u.free b o e n (by simp)) (fun b o _ e=>u.there b o e (by simp)) u.tups u.frzs u.tbls (fun m' hm=>by
    obtain ⟨o',es',ep',ho',r'⟩:=hm
    rw [ho] at ho'; cases ho'
    exact ⟨_,es',ep',hL,r'⟩) hok I.bare
theorem Inv.call {g':Array GenState} {t':Nat} {d':Drawn} {ch:List Addr} (I:Inv X pins σ H s) (u:Un (frs X.stack) ch H H' s.heap h') (hok:HOk X.prog X.w H' h') (hg:AllBare g')
    (hch:∀ b ∈ ch,(b ∈ X.ex ∨ X.s₀.heap.objs.size <= b) /\ b ≠ X.env.locals /\ (∀ x c,X.env.cells.lookup x=some c->c ≠ b) /\ ∀ p ∈ X.pn ++ pins,p.1 ≠ b) :
    Inv X pins σ H' { s with heap:=h',gens:=g',drawn:=d',toks:=t' }:=by
  obtain ⟨m,⟨o,es,ep,ho,r⟩,_⟩:=id I.loc
  obtain ⟨sl,hL⟩:=u.any ho I.free fun z=>(hch _ z).2.1 rfl
  exact I.step (ch:=ch) hch (fun b o hL hb hc e n=>u.keep b o e n (fun z=>(List.mem_cons.mp (I.stkSub b z)).elim hL hb) hc) (fun b o _ _ hc e n=>u.any e n hc) (fun b o hc e n=>u.free b o e n hc) (fun b o hc e=>u.there b o e hc) u.tups u.frzs u.tbls (fun m' hm=>by
    obtain ⟨o',es',ep',ho',r'⟩:=hm
    rw [ho] at ho'; cases ho'
    exact ⟨_,es',ep',hL,r'⟩) hok hg
theorem Inv.turned {t':Nat} {it:Addr} (I:Inv X pins σ H s) (k:∀ b o,b ≠ it->s.heap.get? b=some o->h'.get? b=some o) (hn:H it=none) (hL:it ≠ X.env.locals)
    (h1:it ∈ X.ex ∨ X.s₀.heap.objs.size <= it) (h2:∀ x c,X.env.cells.lookup x=some c->c ≠ it) (h3:∀ p ∈ X.pn ++ pins,p.1 ≠ it):Inv X pins σ H { s with heap:=h',toks:=t' }:=by
  have nit:∀ b u,H b=some u->b ≠ it:=fun b u e z=>by rw [z,hn] at e; cases e
  refine I.step (g':=s.gens) (d':=s.drawn) (ch:=[it]) (fun b hb=>?_) (fun b o _ _ hc e _=>k b o (fun z=>hc (by simp [z])) e) (fun b o _ _ hc e _=>⟨o.slots,k b o (fun z=>hc (by simp [z])) e⟩) (fun _ _ _ _ n=>n)
    (fun b o hc e=>⟨o,k b o (fun z=>hc (by simp [z])) e⟩) (fun _ _ e=>e) (fun _ _ _ e=>e) (fun b ps e=>⟨#[],by rw [e]; simp⟩) (fun m hm=>?_) (fun b u e=>?_) I.bare
  . have e:b=it:=by simpa using hb
    subst e
    exact ⟨h1,hL,h2,h3⟩
  . obtain ⟨o,es,ep,ho,r⟩:=hm
    exact ⟨o,es,ep,k _ o (Ne.symm hL) ho,r⟩
  . refine (I.hok b u e).stay (fun c v hc q=>k c v ?_ q) (fun _ q=>q) fun _ _ q=>q
    rcases hc with z | z
    . rw [z]; exact nit b u e
    . exact nit c _ z
theorem Inv.tok (I:Inv X pins σ H s) (t:Nat):Inv X pins σ H { s with toks:=t }:=I.un (h':=s.heap) (t':=t) Un.refl I.hok
theorem Inv.kept {t':Nat} (I:Inv X pins σ H s) (k:∀ b u,s.heap.get? b=some u->h'.get? b=some u):Inv X pins σ H { s with heap:=h',toks:=t' }:=I.un (Un.kept k) (I.hok.kept k)
theorem Inv.laid {a:Addr} {o:HO} {t':Nat} (I:Inv X pins σ H s) (k:∀ b u,s.heap.get? b=some u->h'.get? b=some u) (hp:s.heap.objs.size <= a) (new:ObjOk X.prog X.w (upd H a o) h' a o) :
    Inv X pins σ (upd H a o) { s with heap:=h',toks:=t' }:=I.un (Un.laid k hp (I.hok.fresh hp)) (I.hok.laid k hp new)
theorem Inv.write {x e:Addr} {o:HO} {t':Nat} (I:Inv X pins σ H s) (mu:Mut (H x)) (he:e=x ∨ H e=some (.own x)) (k:∀ b u,b ≠ e->s.heap.get? b=some u->h'.get? b=some u) (heo:∃ u,h'.get? e=some u)
    (new:ObjOk X.prog X.w (upd H x o) h' x o):Inv X pins σ (upd H x o) { s with heap:=h',toks:=t' }:=I.un (Un.write mu he k heo) (I.hok.write mu he k heo new)
theorem Inv.weak {σ':List (Option V)} (I:Inv X pins σ H s) (hl:σ'.length=σ.length) (w:∀ (i:Nat) v,σ'[i]? = some (some v)->σ[i]? = some (some v)):Inv X pins σ' H s:=
  ⟨I.ok,I.os,I.bare,I.base,let ⟨m,hn,hl'⟩:=I.loc; ⟨m,hn,fun i x v e1 e2 e3=>hl' i x v e1 (w i v e2) e3⟩,I.cell,I.free,I.freeC,I.pin,I.hok,hl.trans I.len⟩
theorem Inv.pins_of {pins':List (Addr × Obj)} (I:Inv X pins σ H s) (h:∀ p ∈ pins',s.heap.get? p.1=some p.2 /\ H p.1=none /\ p.1 ≠ X.env.locals /\ p.1 ∉ X.fs /\ ∀ v,p.2.data ≠ .cell v):Inv X pins' σ H s:=
  ⟨I.ok,I.os,I.bare,I.base,I.loc,I.cell,I.free,I.freeC,fun p hp=>(List.mem_append.mp hp).elim (fun z=>I.pin p (List.mem_append_left _ z)) (h p),I.hok,I.len⟩
theorem J4 {N:List Str} (hN:N.Nodup) {i j:Nat} {x:Str} (a:N[i]? = some x) (b:N[j]? = some x):i=j:=by
  obtain ⟨h1,e1⟩:=List.getElem?_eq_some_iff.mp a
  obtain ⟨h2,e2⟩:=List.getElem?_eq_some_iff.mp b
  exact (List.getElem_inj hN).mp (e1.trans e2.symm)
theorem Hy {M:Model} {A:Around} {E:Value->Shared->Prop} {i:Nat} {x:Str} {v:V} {u:Value} {Q:Unit->Shared->Prop} (I:Inv X pins σ H s) (hN:X.N.Nodup) (hi:X.N[i]? = some x) (hx:Loc X.env.scope x) (r:RelV v u)
    (h:∀ s',Inv X pins (σ.set i (some v)) H s'->(∃ a,Heap.SameBut a s.heap s'.heap /\ (a=X.env.locals ∨ X.env.cells.lookup x=some a))->Q () s') (hf:X.fn x=true ∨ X.env.scope.names.lookup x=some .local:=by first | exact .inl rfl | exact .inr rfl | assumption):wpAny M A (storeName X.env x u) Q E s:=by
  obtain ⟨m,hn,hl⟩:=id I.loc
  have hcls:(X.env.scope.kind == .class || (X.env.scope.kind == .module && X.env.locals != X.env.globals))=false:=by rw [I.ok.kind]; rfl
  have hiσ:i < σ.length:=by rw [I.len]; exact (List.getElem?_eq_some_iff.mp hi).1
  have cne:=I.cne
  have tracked:∀ {a:Addr} {h':Heap},(∃ o,s.heap.get? a=some o /\ H a=none)->Heap.SameBut a s.heap h'->HOk X.prog X.w H h':=fun {a h'} ha hs b ob e=>by
    obtain ⟨_,_,hfree⟩:=ha
    refine (I.hok b ob e).stay (fun c w' hc q=>(hs.2 c ?_).trans q) (fun _ q=>q) fun _ _ q=>q
    rintro rfl
    rcases hc with rfl | hc
    . rw [hfree] at e; cases e
    . rw [hfree] at hc; cases hc
  rcases hx with hk | hk
  . refine wpAny_storeName_local hk hn (fun h' hn' hs=>?_) hcls
    obtain ⟨oL,_,_,hoL,_⟩:=id hn
    refine h _ ⟨I.ok,I.os,I.bare,⟨fun b o e n hb hx=>?_,fun b o e n hb hx=>?_,I.base.free,fun b o e hx=>?_,I.base.tups,I.base.frzs,I.base.tbls⟩,⟨_,hn',fun j y v' e1 e2 e3=>?_⟩,fun y c e=>?_,I.free,I.freeC,fun p hp=>?_,tracked ⟨oL,hoL,I.free⟩ hs,by simpa using I.len⟩ ⟨_,hs,.inl rfl⟩
    . exact (hs.2 b (Nat.ne_of_lt (Nat.lt_of_lt_of_le (Heap.lt_size e) I.ok.above))).trans (I.base.keep b o e n hb hx)
    . obtain ⟨sl,e1⟩:=I.base.slot b o e n hb hx
      exact ⟨sl,(hs.2 b (Nat.ne_of_lt (Nat.lt_of_lt_of_le (Heap.lt_size e) I.ok.above))).trans e1⟩
    . obtain ⟨o',e1⟩:=I.base.there b o e hx
      exact ⟨o',(hs.2 b (Nat.ne_of_lt (Nat.lt_of_lt_of_le (Heap.lt_size e) I.ok.above))).trans e1⟩
    . by_cases hj:j=i
      . subst hj
        rw [hi] at e1; cases e1
        rw [List.getElem?_set_self hiσ] at e2
        cases e2
        exact ⟨u,r,.inl ⟨hk,by simp⟩⟩
      . rw [List.getElem?_set_ne (Ne.symm hj)] at e2
        obtain ⟨u',r',q⟩:=hl j y v' e1 e2 e3
        refine ⟨u',r',?_⟩
        rcases q with ⟨k,e⟩ | ⟨k,c,e,z⟩
        . refine .inl ⟨k,?_⟩
          have:y ≠ x:=fun e=>hj (J4 hN e1 (e ▸ hi))
          simp [this,e]
        . exact .inr ⟨k,c,e,z.sameBut hs (cne y c e)⟩
    . obtain ⟨w',z⟩:=I.cell y c e
      exact ⟨w',z.sameBut hs (cne y c e)⟩
    . obtain ⟨e,n,ne,nf,d⟩:=I.pin p hp
      exact ⟨(hs.2 p.1 ne).trans e,n,ne,nf,d⟩
  . have hfn:X.fn x=true:=by
      rcases hf with z | z
      . exact z
      . rw [z] at hk; cases hk
    obtain ⟨c,hc⟩:=I.ok.has x (.inl hk)
    obtain ⟨w',z⟩:=I.cell x c hc
    refine wpAny_storeName_cell I.ok.kind hk hc z (fun h' hc' hs=>?_)
    obtain ⟨oc,hoc,hocd⟩:=id z
    refine h { s with heap:=h' } ⟨I.ok,I.os,I.bare,⟨fun b o e n hb hx=>?_,fun b o e n hb hx=>?_,I.base.free,fun b o e hx=>?_,I.base.tups,I.base.frzs,I.base.tbls⟩,⟨m,hn.sameBut hs (Ne.symm (cne x c hc)),fun j y v' e1 e2 e3=>?_⟩,fun y c' e=>?_,I.free,I.freeC,fun p hp=>?_,tracked ⟨oc,hoc,I.freeC x c hc⟩ hs,by simpa using I.len⟩ ⟨c,hs,.inr hc⟩
    . exact (hs.2 b (Nat.ne_of_lt (Nat.lt_of_lt_of_le (Heap.lt_size e) (I.ok.cab x c hfn hc)))).trans (I.base.keep b o e n hb hx)
    . obtain ⟨sl,e1⟩:=I.base.slot b o e n hb hx
      exact ⟨sl,(hs.2 b (Nat.ne_of_lt (Nat.lt_of_lt_of_le (Heap.lt_size e) (I.ok.cab x c hfn hc)))).trans e1⟩
    . obtain ⟨o',e1⟩:=I.base.there b o e hx
      exact ⟨o',(hs.2 b (Nat.ne_of_lt (Nat.lt_of_lt_of_le (Heap.lt_size e) (I.ok.cab x c hfn hc)))).trans e1⟩
    . by_cases hj:j=i
      . subst hj
        rw [hi] at e1; cases e1
        rw [List.getElem?_set_self hiσ] at e2
        cases e2
        exact ⟨u,r,.inr ⟨.inl hk,c,hc,hc'⟩⟩
      . rw [List.getElem?_set_ne (Ne.symm hj)] at e2
        obtain ⟨u',r',q⟩:=hl j y v' e1 e2 e3
        refine ⟨u',r',?_⟩
        rcases q with q | ⟨k,c',e,z'⟩
        . exact .inl q
        . refine .inr ⟨k,c',e,z'.sameBut hs ?_⟩
          rintro rfl
          exact hj (J4 hN e1 (I.ok.inj _ _ _ e hc ▸ hi))
    . by_cases hcc:c'=c
      . subst hcc; exact ⟨_,hc'⟩
      . obtain ⟨w2,z2⟩:=I.cell y c' e
        exact ⟨w2,z2.sameBut hs hcc⟩
    . obtain ⟨e,n,ne,nf,d⟩:=I.pin p hp
      refine ⟨(hs.2 p.1 ?_).trans e,n,ne,nf,d⟩
      intro q
      rw [q,hoc] at e
      have q':oc=p.2:=Option.some.inj e
      exact d w' (by rw [← q']; exact hocd)
theorem Gb {M:Model} {A:Around} {E:Value->Shared->Prop} {i:Nat} {x:Str} {v:V} {u:Value} {Q:Unit->Shared->Prop} (I:Inv X pins σ H s) (hN:X.N.Nodup) (hi:X.N[i]? = some x) (hx:Loc X.env.scope x) (r:RelV v u)
    (h:∀ s',Inv X pins (σ.set i (some v)) H s'->Q () s') (hf:X.fn x=true ∨ X.env.scope.names.lookup x=some .local:=by first | exact .inl rfl | exact .inr rfl | assumption):wpAny M A (storeName X.env x u) Q E s:=
  Hy I hN hi hx r (fun s' I' _=>h s' I') hf
theorem Inv.call' {s':Shared} {ch:List Addr} (I:Inv X pins σ H s) (ho:s'.os=s.os) (u:Un (frs X.stack) ch H H' s.heap s'.heap) (hok:HOk X.prog X.w H' s'.heap) (hg:AllBare s'.gens)
    (hch:∀ b ∈ ch,(b ∈ X.ex ∨ X.s₀.heap.objs.size <= b) /\ b ≠ X.env.locals /\ (∀ x c,X.env.cells.lookup x=some c->c ≠ b) /\ ∀ p ∈ X.pn ++ pins,p.1 ≠ b):Inv X pins σ H' s':=by
  obtain ⟨h',g',d',t',o'⟩:=s'
  have e:o'=s.os:=ho
  subst e
  exact I.call (g':=g') (t':=t') (d':=d') u hok hg hch
end
abbrev XK:=Value->Option Addr->Hp->Prop
abbrev St:=List (Option V)
abbrev VK:=V->Hp->Prop
abbrev TE:=St->Hp->VK->Prop
abbrev TT:=St->Hp->(Bool->Hp->Prop)->Prop
abbrev TA:=St->Hp->(List V->Hp->Prop)->Prop
structure LY where
  nx:St->Hp->Prop
  rt:VK
  bk:St->Hp->Prop:=fun _ _=>False
  ct:St->Hp->Prop:=fun _ _=>False
abbrev TS:=LY->St->Hp->Prop
def EP (X:Cx) (pins:List (Addr × Obj)) (σ:St) (Q:VK) (u:Value) (s':Shared):Prop:=∃ v H',Inv X pins σ H' s' /\ RelV v u /\ Q v H'
def TP (X:Cx) (pins:List (Addr × Obj)) (σ:St) (Q:Bool->Hp->Prop) (b:Bool) (s':Shared):Prop:=∃ H',Inv X pins σ H' s' /\ Q b H'
def AP (X:Cx) (pins:List (Addr × Obj)) (σ:St) (Q:List V->Hp->Prop) (us:List Value) (s':Shared):Prop:=∃ vs H',Inv X pins σ H' s' /\ Vals vs us /\ Q vs H'
def SP (X:Cx) (pins:List (Addr × Obj)) (D:LY) (f:Flow) (s':Shared):Prop:=
  match f with
  | .next=>∃ σ' H',Inv X pins σ' H' s' /\ D.nx σ' H'
  | .brk=>∃ σ' H',Inv X pins σ' H' s' /\ D.bk σ' H'
  | .cont=>∃ σ' H',Inv X pins σ' H' s' /\ D.ct σ' H'
  | .ret u=>∃ v σ' H',Inv X pins σ' H' s' /\ RelV v u /\ D.rt v H'
def PE (X:Cx) (e:Expr) (t:TE):Prop:=
  ∀ (pins:List (Addr × Obj)) (s:Shared) (σ:St) (H:Hp) (Q:VK),Inv X pins σ H s->t σ H Q->wpAny (model X.prog X.w) X.A (eval e X.env) (EP X pins σ Q) X.xe s
def PT (X:Cx) (e:Expr) (t:TT):Prop:=
  ∀ (pins:List (Addr × Obj)) (s:Shared) (σ:St) (H:Hp) (Q:Bool->Hp->Prop),Inv X pins σ H s->t σ H Q->wpAny (model X.prog X.w) X.A (isTrue e X.env (eval e X.env)) (TP X pins σ Q) X.xe s
def PW (X:Cx) (e:Expr) (t:TT):Prop:=
  ∀ (whole:Sem Value) (pins:List (Addr × Obj)) (s:Shared) (σ:St) (H:Hp) (Q:Bool->Hp->Prop),Inv X pins σ H s->t σ H Q->wpAny (model X.prog X.w) X.A (isTrue e X.env whole) (TP X pins σ Q) X.xe s
theorem PW.pt {X:Cx} {e:Expr} {t:TT} (h:PW X e t):PT X e t:=h _
def PA (X:Cx) (es:List Expr) (t:TA):Prop:=
  ∀ (pos:Pos) (pins:List (Addr × Obj)) (s:Shared) (σ:St) (H:Hp) (Q:List V->Hp->Prop),Inv X pins σ H s->t σ H Q->wpAny (model X.prog X.w) X.A (spliced (backTo pos (starEach es X.env))) (AP X pins σ Q) X.xe s
def PS (X:Cx) (st:Stmt) (t:TS):Prop:=
  ∀ (pins:List (Addr × Obj)) (s:Shared) (σ:St) (H:Hp) (D:LY),Inv X pins σ H s->t D σ H->wpAny (model X.prog X.w) X.A (exec st X.env) (SP X pins D) X.xe s
def PSs (X:Cx) (st:List Stmt) (t:TS):Prop:=
  ∀ (pins:List (Addr × Obj)) (s:Shared) (σ:St) (H:Hp) (D:LY),Inv X pins σ H s->t D σ H->wpAny (model X.prog X.w) X.A (execs st X.env) (SP X pins D) X.xe s
theorem thn {α:Type} {t:Sem α} {Q Q':α->Shared->Prop} {M:Model} {A:Around} {E:Value->Shared->Prop} {s:Shared} (h:wpAny M A t Q E s) (hQ:∀ a s,Q a s->Q' a s):wpAny M A t Q' E s:=wpAny_mono h hQ fun _ _ x=>x
end L2
namespace L2
open PySem PySem.Spec PyProof.Rows
section
variable {X:Cx}
def VV (i:Nat):TE:=fun σ H Q=>∃ v,σ[i]? = some (some v) /\ Q v H
def tC (v:V):TE:=fun _ H Q=>Q v H
theorem TD {i:Nat} {x:Str} {pos:Pos} (hN:X.N[i]? = some x) (hv:Vis X.env.scope x) (hd:(x == ("__debug__" : Str))=false:=by decide) (hcd:(x == ("__classdict__" : Str))=false:=by decide):PE X (.Name x pos) (VV i):=by
  intro pins s σ H Q I h
  obtain ⟨v,e,h⟩:=h
  obtain ⟨m,hn,hl⟩:=I.loc
  obtain ⟨u,r,l⟩:=hl i x v hN e hv
  have fin:EP X pins σ Q u s:=⟨v,H,I,r,h⟩
  rcases l with ⟨hk,hm⟩ | ⟨hk,c,hc,hcell⟩
  . exact wpAny_Name (wpAny_loadName_local I.ok.kind hk hn hm fin) hd
  . rcases hk with hk | hk
    . exact wpAny_Name (wpAny_loadName_cell I.ok.kind hk hc hcell fin) hd
    . exact wpAny_Name (wpAny_loadName_free I.ok.kind hk hc hcell fin hcd) hd
theorem TM {i j pos}:PE X (.Constant (.int i) j pos) (tC (.int i)):=fun _ _ _ H _ I h=>wpAny_Constant_int ⟨.int i,H,I.tok _,⟨_,rfl⟩,h⟩
theorem Ut {b j pos}:PE X (.Constant (.bool b) j pos) (tC (.bl b)):=fun _ _ _ H _ I h=>Constant_bool ⟨.bl b,H,I,rfl,h⟩
theorem TL {j pos}:PE X (.Constant .none j pos) (tC .non):=fun _ _ _ H _ I h=>Constant_none ⟨.non,H,I,rfl,h⟩
theorem TH {x j pos}:PE X (.Constant (.str x) j pos) (tC (.str x)):=fun _ _ _ H _ I h=>Calls.Constant_str ⟨.str x,H,I.tok _,⟨_,rfl⟩,h⟩
def Gl (X:Cx) (x:Str):Prop:=X.env.kindOf x=some .globalImplicit
theorem MD {E:Value->Shared->Prop} {pins:List (Addr × Obj)} {s:Shared} {σ:St} {H:Hp} {x:Str} {u:Value} {pos:Pos} {Q:Value->Shared->Prop} (I:Inv X pins σ H s) (hg:Gl X x) (hm:X.mg x=some u) (h:Q u s)
    (hd:(x == ("__debug__" : Str))=false:=by decide):wpAny (model X.prog X.w) X.A (eval (.Name x pos) X.env) Q E s:=
  Calls.Name_function_global I.ok.kind hg (Calls.loadGlobal_global (by rw [I.ok.glob]; exact I.mod.glob.keeps I.bk) hm h) hd
theorem Fd {E:Value->Shared->Prop} {pins:List (Addr × Obj)} {s:Shared} {σ:St} {H:Hp} {x:Str} {u:Value} {pos:Pos} {Q:Value->Shared->Prop} (I:Inv X pins σ H s) (hg:Gl X x) (hm:X.mg x=none) (hv:bootBuiltins x=some u) (h:Q u s)
    (hn:x ≠ "__name__" := by decide) (hd:(x == ("__debug__" : Str))=false:=by decide):wpAny (model X.prog X.w) X.A (eval (.Name x pos) X.env) Q E s:=by
  obtain ⟨mb,h1,h2⟩:=I.mod.blt
  exact Calls.Name_function_global I.ok.kind hg (Calls.loadGlobal_builtin (by rw [I.ok.glob]; exact I.mod.glob.keeps I.bk) hm (by rw [I.ok.blt]; exact h1.keeps I.bk) ((h2 x hn).trans hv) h) hd
theorem Q3 {x:Str} {v:V} {u:Value} {pos:Pos} (hg:Gl X x) (hm:X.mg x=some u) (r:RelV v u) (hd:(x == ("__debug__" : Str))=false:=by decide):PE X (.Name x pos) (tC v):=
  fun _ _ _ H _ I h=>MD I hg hm ⟨v,H,I,r,h⟩ hd
theorem Q8 {x:Str} {v:V} {u:Value} {pos:Pos} (hg:Gl X x) (hm:X.mg x=none) (hv:bootBuiltins x=some u) (r:RelV v u) (hn:x ≠ "__name__" := by decide) (hd:(x == ("__debug__" : Str))=false:=by decide):PE X (.Name x pos) (tC v):=
  fun _ _ _ H _ I h=>Fd I hg hm hv ⟨v,H,I,r,h⟩ hn hd
variable {a b:Expr} {ta tb:TE} {pos:Pos}
def PC (X:Cx) (op:CmpOp) (a b:Expr) (t:TE):Prop:=
  ∀ (pins:List (Addr × Obj)) (s:Shared) (σ:St) (H:Hp) (Q:VK),Inv X pins σ H s->t σ H Q->
    wpAny (model X.prog X.w) X.A (eval a X.env) (fun v s₁=>wpAny (model X.prog X.w) X.A (eval b X.env) (fun u s₂=>wpAny (model X.prog X.w) X.A (compareOp op v u) (EP X pins σ Q) X.xe s₂) X.xe s₁) X.xe s
def tB (t:TE):TT:=fun σ H Q=>t σ H fun x H1=>∃ c,x=.bl c /\ Q c H1
theorem TN {op:CmpOp} {t:TE} (h:PC X op a b t) (h1:behindInMarks op b=false:=by first | exact nobehind _ (by decide) (by decide) | rfl):PE X (.Compare a [op] [b] pos) t:=fun pins s σ H Q I hw=>wpAny_Compare1 (h pins s σ H Q I hw) h1
theorem S5 {e:Expr} {t:TE} (h:PE X e t) (he:∀ whole,isTrue e X.env whole=(do let v ← whole; standAt e.pos; holding [v] (truthy v)):=by intro _; rfl):PT X e (tB t):=by
  intro pins s σ H Q I hw
  refine isTrue_plain (thn (h pins s σ H _ I hw) fun v s1 ⟨x,H1,I1,r1,q1⟩=>?_) (he _)
  obtain ⟨d,rfl,q⟩:=q1
  cases r1
  exact wpAny_truthy_bool ⟨H1,I1,q⟩
variable {tA tB':TT} {rest:List Expr}
def Vf (t u:TT):TT:=fun σ H Q=>t σ H fun c H1=>if c=true then u σ H1 Q else Q false H1
def tOr (t u:TT):TT:=fun σ H Q=>t σ H fun c H1=>if c=true then Q true H1 else u σ H1 Q
def VZ (t:TT):TT:=fun σ H Q=>t σ H fun c H1=>Q (!c) H1
theorem Qs (ha:PT X a tA):PW X (.BoolOp .And [a] pos) tA:=by
  intro wh pins s σ H Q I h
  refine isTrue_and (thn (ha pins s σ H Q I h) fun c s1 e=>?_)
  cases c with
  | true=>exact isTrue_and_nil e
  | false=>exact e
theorem Sy (ha:PT X a tA):PW X (.BoolOp .Or [a] pos) tA:=by
  intro wh pins s σ H Q I h
  refine isTrue_or (thn (ha pins s σ H Q I h) fun c s1 e=>?_)
  cases c with
  | false=>exact isTrue_or_nil e
  | true=>exact e
theorem Sz (ha:PT X a tA) (hb:PW X (.BoolOp .And (b :: rest) pos) tB'):PW X (.BoolOp .And (a :: b :: rest) pos) (Vf tA tB'):=by
  intro wh pins s σ H Q I h
  refine isTrue_and (thn (ha pins s σ H _ I h) fun c s1 ⟨H1,I1,q1⟩=>?_)
  cases c with
  | true=>exact hb wh pins s1 σ H1 Q I1 q1
  | false=>exact ⟨H1,I1,q1⟩
theorem Ul (ha:PT X a tA) (hb:PW X (.BoolOp .Or (b :: rest) pos) tB'):PW X (.BoolOp .Or (a :: b :: rest) pos) (tOr tA tB'):=by
  intro wh pins s σ H Q I h
  refine isTrue_or (thn (ha pins s σ H _ I h) fun c s1 ⟨H1,I1,q1⟩=>?_)
  cases c with
  | true=>exact ⟨H1,I1,q1⟩
  | false=>exact hb wh pins s1 σ H1 Q I1 q1
theorem S6 (ha:PT X a tA):PT X (.UnaryOp .Not a pos) (VZ tA):=by
  intro pins s σ H Q I h
  exact isTrue_not (ha pins s σ H (fun c H1=>Q (!c) H1) I h)
def UZ (ta tb:TE):TE:=fun σ H Q=>ta σ H fun x H1=>∃ c,x=.bl c /\ if c=true then tb σ H1 Q else Q (.bl false) H1
def UP (ta:TE):TE:=fun σ H Q=>ta σ H fun x H1=>∃ c,x=.bl c /\ Q (.bl (!c)) H1
theorem TJ {op} {t:TE} (h:PE X a t):PE X (.BoolOp op [a] pos) t:=fun pins s σ H Q I hw=>BoolOp_one (h pins s σ H Q I hw)
theorem TR (ha:PE X a ta) (hb:PE X (.BoolOp .And (b :: rest) pos) tb):PE X (.BoolOp .And (a :: b :: rest) pos) (UZ ta tb):=by
  intro pins s σ H Q I h
  refine BoolOp_and (thn (ha pins s σ H _ I h) fun v s1 ⟨x,H1,I1,r1,q1⟩=>?_)
  obtain ⟨c,rfl,q1⟩:=q1
  cases r1
  refine wpAny_truthy_bool ?_
  cases c with
  | true=>exact hb pins s1 σ H1 Q I1 q1
  | false=>exact ⟨.bl false,H1,I1,rfl,q1⟩
theorem TK (ha:PE X a ta):PE X (.UnaryOp .Not a pos) (UP ta):=by
  intro pins s σ H Q I h
  refine UnaryOp_ (thn (ha pins s σ H _ I h) fun v s1 ⟨x,H1,I1,r1,q1⟩=>?_)
  obtain ⟨c,rfl,q1⟩:=q1
  cases r1
  exact not_of (wpAny_truthy_bool ⟨.bl (!c),H1,I1,rfl,q1⟩)
def tIf (t:TT) (ta tb:TE):TE:=fun σ H Q=>t σ H fun c H1=>if c=true then ta σ H1 Q else tb σ H1 Q
theorem Os {c:Expr} (hc:PT X c tA) (ha:PE X a ta) (hb:PE X b tb):PE X (.IfExp c a b pos) (tIf tA ta tb):=by
  intro pins s σ H Q I h
  refine wpAny_IfExp (thn (hc pins s σ H _ I h) fun d s1 ⟨H1,I1,q1⟩=>?_)
  cases d with
  | true=>exact ha pins s1 σ H1 Q I1 q1
  | false=>exact hb pins s1 σ H1 Q I1 q1
end
end L2
namespace L2
open PySem PySem.Spec PyProof.Rows
def SqL (K:PySem.W.Frag) (H:Hp) (a:Addr) (xs:List V):Prop:=
  Rd H a (.lst xs) ∨
    ∃ (o:Obj) (its:Array Value) (n:Nat),K.lookup a=some o /\ o.cls=.type "list" /\ o.dict=none /\ o.data=.seq its n /\ its.size <= sizeLine /\ Vals xs its.toList
def SqT (K:PySem.W.Frag) (H:Hp) (a:Addr) (xs:List V):Prop:=
  Rd H a (.tup xs) ∨
    ∃ (o:Obj) (its:Array Value) (n:Nat),K.lookup a=some o /\ o.cls=.type "tuple" /\ o.data=.seq its n /\ its.size <= sizeLine /\ Vals xs its.toList
def V2:Value->Option V
  | .none=>some .non
  | .bool b=>some (.bl b)
  | .int i _=>some (.int i)
  | .str x _=>some (.str x)
  | .bytes b _=>some (.byt b)
  | .float b _=>some (.flt b)
  | .ref a=>some (.ref a)
  | .type n=>some (.ty n)
  | _=>none
theorem RelV.abs {x:V} {u:Value} (r:RelV x u):V2 u=some x:=by
  cases x with
  | non=>cases r; rfl
  | bl _=>cases r; rfl
  | int _=>obtain ⟨t,rfl⟩:=r; rfl
  | str _=>obtain ⟨t,rfl⟩:=r; rfl
  | byt _=>obtain ⟨t,rfl⟩:=r; rfl
  | flt _=>obtain ⟨t,rfl⟩:=r; rfl
  | ref _=>cases r; rfl
  | ty _=>cases r; rfl
theorem RelV.inj {x y:V} {u:Value} (r:RelV x u) (q:RelV y u):x=y:=Option.some.inj (r.abs.symm.trans q.abs)
theorem Vals.inj:∀ {xs ys:List V} {us:List Value},Vals xs us->Vals ys us->xs=ys
  | _,_,_,.nil,.nil=>rfl
  | _,_,_,.cons r t,.cons r' t'=>by rw [r.inj r',Vals.inj t t']
section
variable {X:Cx} {pins:List (Addr × Obj)} {σ:St} {H:Hp} {s:Shared} {a:Addr} {xs ys:List V}
theorem SqL.of {K:PySem.W.Frag} (h:H a=some (.lst xs)):SqL K H a xs:=.inl (.inl h)
theorem SqT.of {K:PySem.W.Frag} (h:H a=some (.tup xs)):SqT K H a xs:=.inl (.inl h)
theorem Inv.list (I:Inv X pins σ H s) (h:SqL X.K H a xs):∃ its:List Value,Vals xs its /\ PlainL s.heap a its.toArray /\ xs.length <= sizeLine:=by
  rcases h with h | ⟨o,its,n,hk,hc,hd,hs,hz,r⟩
  . obtain ⟨z,its,n,r,e⟩:=h.ok I.hok
    exact ⟨its,r,⟨_,n,e,rfl,rfl,rfl⟩,z⟩
  . refine ⟨its.toList,r,⟨o,n,I.kIn a o hk,hc,hd,by simpa using hs⟩,?_⟩
    have e:=r.length
    simp only [Array.length_toList] at e
    omega
theorem Inv.tuple (I:Inv X pins σ H s) (h:SqT X.K H a xs):∃ its:List Value,Vals xs its /\ IsTup s.heap a its.toArray /\ xs.length <= sizeLine:=by
  rcases h with h | ⟨o,its,n,hk,hc,hs,hz,r⟩
  . obtain ⟨z,its,r,p⟩:=h.ok I.hok
    exact ⟨its,r,p,z⟩
  . refine ⟨its.toList,r,⟨o,I.kIn a o hk,hc,n,by simpa using hs⟩,?_⟩
    have e:=r.length
    simp only [Array.length_toList] at e
    omega
theorem Inv.list_inj (I:Inv X pins σ H s) (h:SqL X.K H a xs) (h':SqL X.K H a ys):xs=ys:=by
  obtain ⟨its,r,⟨o,n,e,_,_,d⟩,_⟩:=I.list h
  obtain ⟨its',r',⟨o',n',e',_,_,d'⟩,_⟩:=I.list h'
  rw [e] at e'; cases e'
  rw [d] at d'
  injection d' with d1 _
  have:its=its':=by simpa using congrArg Array.toList d1
  subst this
  exact r.inj r'
theorem Inv.tuple_inj (I:Inv X pins σ H s) (h:SqT X.K H a xs) (h':SqT X.K H a ys):xs=ys:=by
  obtain ⟨its,r,⟨o,e,_,n,d⟩,_⟩:=I.tuple h
  obtain ⟨its',r',⟨o',e',_,n',d'⟩,_⟩:=I.tuple h'
  rw [e] at e'; cases e'
  rw [d] at d'
  injection d' with d1 _
  have:its=its':=by simpa using congrArg Array.toList d1
  subst this
  exact r.inj r'
end
abbrev Cx.wish (X:Cx) (E:Value->Shared->Prop):Cx:={ X with xe:=E }
abbrev Cx.nox (X:Cx):Cx:=X.wish fun _ _=>False
theorem Cx.Ok.wish {X:Cx} (ok:X.Ok) (E:Value->Shared->Prop):(X.wish E).Ok:=
  ⟨ok.mod,ok.kind,ok.glob,ok.blt,ok.above,ok.inj,ok.has,ok.cab,ok.hd,ok.frames,ok.stk,ok.exf,ok.bs,ok.bsz,ok.noex,ok.exfs,ok.funs,ok.frf⟩
theorem Cx.Ok.unwish {X:Cx} {E:Value->Shared->Prop} (ok:(X.wish E).Ok):X.Ok:=
  ⟨ok.mod,ok.kind,ok.glob,ok.blt,ok.above,ok.inj,ok.has,ok.cab,ok.hd,ok.frames,ok.stk,ok.exf,ok.bs,ok.bsz,ok.noex,ok.exfs,ok.funs,ok.frf⟩
section
variable {X:Cx} {pins:List (Addr × Obj)} {σ:St} {H:Hp} {s:Shared} {E:Value->Shared->Prop}
theorem Inv.wish (I:Inv X pins σ H s) (E:Value->Shared->Prop):Inv (X.wish E) pins σ H s:=⟨I.ok.wish E,I.os,I.bare,I.base,I.loc,I.cell,I.free,I.freeC,I.pin,I.hok,I.len⟩
theorem Inv.unwish (I:Inv (X.wish E) pins σ H s):Inv X pins σ H s:=⟨I.ok.unwish,I.os,I.bare,I.base,I.loc,I.cell,I.free,I.freeC,I.pin,I.hok,I.len⟩
theorem SP.unwish {D:LY} {f:Flow} {s':Shared} (h:SP (X.wish E) pins D f s'):SP X pins D f s':=by
  cases f with
  | next=>obtain ⟨σ',H',I,q⟩:=h; exact ⟨σ',H',I.unwish,q⟩
  | brk=>obtain ⟨σ',H',I,q⟩:=h; exact ⟨σ',H',I.unwish,q⟩
  | cont=>obtain ⟨σ',H',I,q⟩:=h; exact ⟨σ',H',I.unwish,q⟩
  | ret u=>obtain ⟨v,σ',H',I,r,q⟩:=h; exact ⟨v,σ',H',I.unwish,r,q⟩
theorem PSs.nox {st:List Stmt} {t:TS} (h:PSs X.nox st t):PSs X st t:=fun pins s σ H D I hw=>
  wpAny_mono (h pins s σ H D (I.wish _) hw) (fun _ _ q=>q.unwish) fun _ _ z=>False.elim z
end
section
variable {X:Cx} {st:Stmt} {rest:List Stmt} {t u:TS} {e:Expr} {te:TE} {pos:Pos}
def UQ:TS:=fun D σ H=>D.nx σ H
def VX (t u:TS):TS:=fun D σ H=>t { D with nx:=u D } σ H
theorem Qw:PSs X [] UQ:=fun _ _ σ H _ I h=>wpAny_execs_nil ⟨σ,H,I,h⟩
theorem Oe (h1:PS X st t) (h2:PSs X rest u):PSs X (st :: rest) (VX t u):=by
  intro pins s σ H D I h
  refine wpAny_execs_cons (thn (h1 pins s σ H { D with nx:=u D } I h) fun f s1 q=>?_)
  cases f with
  | next=>
    obtain ⟨σ',H',I',q⟩:=q
    exact h2 pins s1 σ' H' D I' q
  | ret v=>exact q
  | brk=>exact q
  | cont=>exact q
theorem Qv (h1:PS X st t):PSs X [st] t:=by
  intro pins s σ H D I h
  refine wpAny_execs_cons (thn (h1 pins s σ H D I h) fun f s1 q=>?_)
  cases f with
  | next=>exact wpAny_execs_nil q
  | ret v=>exact q
  | brk=>exact q
  | cont=>exact q
theorem Inv.quiet {pins:List (Addr × Obj)} {σ:St} {H:Hp} {s:Shared} (I:Inv X pins σ H s):interactive X.env=false:=by simp [interactive,I.ok.kind]
def US (te:TE):TS:=fun D σ H=>te σ H fun _ H1=>D.nx σ H1
theorem Qx (he:PE X e te) (hs:swapsWith e none pos.line X.env=pure false:=by rfl):PS X (.Expr e pos) (US te):=by
  intro pins s σ H D I h
  exact wpAny_Expr_any (thn (he pins s σ H _ I h) fun v s1 ⟨x,H1,I1,r1,q1⟩=>⟨σ,H1,I1,q1⟩) I.quiet hs
def VY (te:TE):TS:=fun D σ H=>te σ H D.rt
theorem S8 (he:PE X e te):PS X (.Return (some e) pos) (VY te):=by
  intro pins s σ H D I h
  exact wpAny_Return_some (thn (he pins s σ H _ I h) fun v s1 ⟨x,H1,I1,r1,q1⟩=>⟨x,σ,H1,I1,r1,q1⟩)
def Vc (c:TT) (t u:TS):TS:=fun D σ H=>c σ H fun b H1=>if b=true then t D σ H1 else u D σ H1
theorem Um {c:Expr} {a b:List Stmt} {tc:TT} (hc:PT X c tc) (ha:PSs X a t) (hb:PSs X b u):PS X (.If c a b pos) (Vc tc t u):=by
  intro pins s σ H D I h
  refine wpAny_If (thn (hc pins s σ H _ I h) fun d s1 ⟨H1,I1,q1⟩=>?_)
  cases d with
  | true=>exact ha pins s1 σ H1 D I1 q1
  | false=>exact hb pins s1 σ H1 D I1 q1
def Sb:TS:=fun _ _ _=>False
theorem Og:PS X st Sb:=fun _ _ _ _ _ _ h=>h.elim
end
abbrev TG:=V->St->Hp->(St->Hp->Prop)->Prop
abbrev TGs:=List V->St->Hp->(St->Hp->Prop)->Prop
def PG (X:Cx) (target:Expr) (t:TG):Prop:=
  ∀ (pins:List (Addr × Obj)) (s:Shared) (σ:St) (H:Hp) (v:V) (u:Value) (Q:St->Hp->Prop),Inv X pins σ H s->RelV v u->t v σ H Q->
    wpAny (model X.prog X.w) X.A (assign target X.env u) (fun _ s'=>∃ σ' H',Inv X pins σ' H' s' /\ Q σ' H') X.xe s
def PGs (X:Cx) (ts:List Expr) (t:TGs):Prop:=
  ∀ (pins:List (Addr × Obj)) (s:Shared) (σ:St) (H:Hp) (vs:List V) (us:List Value) (Q:St->Hp->Prop),Inv X pins σ H s->Vals vs us->t vs σ H Q->
    wpAny (model X.prog X.w) X.A (assignInOrder ((assignEach ts X.env).map (·.2)) us) (fun _ s'=>∃ σ' H',Inv X pins σ' H' s' /\ Q σ' H') X.xe s
abbrev TIp:=V->V->Hp->VK->Prop
def PIp (X:Cx) (op:Operator) (t:TIp):Prop:=
  ∀ (pins:List (Addr × Obj)) (s:Shared) (σ:St) (H:Hp) (x y:V) (v u:Value) (Q:VK),Inv X pins σ H s->RelV x v->RelV y u->t x y H Q->
    wpAny (model X.prog X.w) X.A (inplaceOp op v u) (EP X pins σ Q) X.xe s
section
variable {X:Cx} {pos:Pos}
def Es (i:Nat):TG:=fun v σ H Q=>Q (σ.set i (some v)) H
theorem A4 {i:Nat} {x:Str} (hN:X.N.Nodup) (hi:X.N[i]? = some x) (hx:Loc X.env.scope x) (hf:X.fn x=true ∨ X.env.scope.names.lookup x=some .local:=by first | exact .inl rfl | exact .inr rfl | assumption):PG X (.Name x pos) (Es i):=by
  intro pins s σ H v u Q I r h
  exact wpAny_assign_Name (Gb I hN hi hx r (fun s' I'=>⟨_,H,I',h⟩) hf)
def VI:TGs:=fun vs σ H Q=>vs=[] /\ Q σ H
def SJ (t:TG) (u:TGs):TGs:=fun vs σ H Q=>∃ v r,vs=v :: r /\ t v σ H fun σ' H'=>u r σ' H' Q
theorem FD:PGs X [] VI:=by
  intro pins s σ H vs us Q I r h
  obtain ⟨e,h⟩:=h
  subst e
  cases r
  exact assignInOrder_nil ⟨σ,H,I,h⟩
theorem Bk {e:Expr} {es:List Expr} {t:TG} {u:TGs} (h1:PG X e t) (h2:PGs X es u)
    (hs:(assignEach (e :: es) X.env).map (·.2)=assign e X.env :: (assignEach es X.env).map (·.2):=by rfl):PGs X (e :: es) (SJ t u):=by
  intro pins s σ H vs us Q I r h
  obtain ⟨v,vr,e1,h⟩:=h
  subst e1
  cases r with
  | cons r rr=>
    rw [hs]
    refine assignInOrder_cons (thn (h1 pins s σ H _ _ _ I r h) fun _ s1 ⟨σ1,H1,I1,q1⟩=>?_)
    exact h2 pins s1 σ1 H1 _ _ Q I1 rr q1
def Vy (K:PySem.W.Frag) (n:Nat) (t:TGs):TG:=fun v σ H Q=>∃ a xs,v=.ref a /\ SqT K H a xs /\ xs.length=n /\ t xs σ H Q
theorem TC {es:List Expr} {k:Nat} {t:TGs} {n:Nat} (hc:X.calm=true) (h:PGs X es t)
    (hn:(assignEach es X.env).length=n:=by rfl) (hst:(assignEach es X.env).findIdx? (·.1)=none:=by rfl):PG X (.Tuple es k pos) (Vy X.K n t):=by
  intro pins s σ H v u Q I r hw
  obtain ⟨a,xs,e1,hq,hl,hw⟩:=hw
  subst e1
  cases r
  obtain ⟨its,rv,ht,hz⟩:=I.tuple hq
  refine assign_Tuple_tuple (I.ok.hd hc) ht (by simp [hn,← hl,rv.length]) hst fun h' hx=>?_
  have I1:Inv X pins σ H { s with heap:=h' }:=I.kept (t':=s.toks) fun b o e=>hx b o (Nat.ne_of_lt (Heap.lt_size e)) e
  exact h pins _ σ H xs _ Q I1 (by simpa using rv) hw
def Sf (te:TE) (g:TG):TS:=fun D σ H=>te σ H fun x H1=>g x σ H1 D.nx
theorem S7 {i:Nat} {x:Str} {e:Expr} {te:TE} {pos':Pos} (hN:X.N.Nodup) (hi:X.N[i]? = some x) (hx:Loc X.env.scope x) (he:PE X e te) (hs:swapsWith e (some (.Name x pos')) pos.line X.env=pure false:=by rfl) (hf:X.fn x=true ∨ X.env.scope.names.lookup x=some .local:=by first | exact .inl rfl | exact .inr rfl | assumption) :
    PS X (.Assign [.Name x pos'] e pos) (Sf te (Es i)):=by
  intro pins s σ H D I h
  refine wpAny_Assign_Name (thn (he pins s σ H _ I h) fun v s1 ⟨y,H1,I1,r1,q1⟩=>?_) hs
  exact Gb I1 hN hi hx r1 (fun s2 I2=>⟨_,H1,I2,q1⟩) hf
def Ve (i:Nat) (te:TE) (ti:TIp):TS:=fun D σ H=>∃ x,σ[i]? = some (some x) /\ te σ H fun y H1=>ti x y H1 fun z H2=>D.nx (σ.set i (some z)) H2
theorem S9 {i:Nat} {x:Str} {e:Expr} {te:TE} {op:Operator} {ti:TIp} {pos':Pos} (hN:X.N.Nodup) (hi:X.N[i]? = some x) (hx:Loc X.env.scope x) (he:PE X e te) (ho:PIp X op ti) (hf:X.fn x=true ∨ X.env.scope.names.lookup x=some .local:=by first | exact .inl rfl | exact .inr rfl | assumption) :
    PS X (.AugAssign (.Name x pos') op e pos) (Ve i te ti):=by
  intro pins s σ H D I h
  obtain ⟨v,e1,h⟩:=h
  obtain ⟨m,hn,hl⟩:=I.loc
  have vis:Vis X.env.scope x:=by rcases hx with k | k; exact .inl k; exact .inr (.inl k)
  obtain ⟨u,r,l⟩:=hl i x v hi e1 vis
  refine wpAny_AugAssign_Name ?_
  have go:wpAny (model X.prog X.w) X.A (eval e X.env) (fun w s₂=>wpAny (model X.prog X.w) X.A (inplaceOp op u w) (fun r s₃=>wpAny (model X.prog X.w) X.A (storeName X.env x r) (fun _=>SP X pins D .next) X.xe s₃) X.xe s₂) X.xe s:=by
    refine thn (he pins s σ H _ I h) fun w s1 ⟨y,H1,I1,r1,q1⟩=>?_
    refine thn (ho pins s1 σ H1 v y u w _ I1 r r1 q1) fun z s2 ⟨zv,H2,I2,r2,q2⟩=>?_
    exact Gb I2 hN hi hx r2 (fun s3 I3=>⟨_,H2,I3,q2⟩) hf
  rcases l with ⟨hk,hm⟩ | ⟨hk,c,hc,hcell⟩
  . exact wpAny_loadName_local I.ok.kind hk hn hm go
  . rcases hk with hk | hk
    . exact wpAny_loadName_cell I.ok.kind hk hc hcell go
    . rcases hx with k | k
      . have:X.env.scope.names.lookup x=some .free:=hk
        rw [k] at this; cases this
      . have:X.env.scope.names.lookup x=some .free:=hk
        rw [k] at this; cases this
def ipI (f:Int->Int->Int):TIp:=fun x y H Q=>∃ i j,x=.int i /\ y=.int j /\ Q (.int (f i j)) H
theorem Tw:PIp X .Add (ipI fun i j=>i + j):=by
  intro pins s σ H x y v u Q I r1 r2 h
  obtain ⟨i,j,e1,e2,q⟩:=h
  subst e1; subst e2
  obtain ⟨t,rfl⟩:=r1
  obtain ⟨t',rfl⟩:=r2
  exact iadd_int ⟨.int _,H,I.tok _,⟨_,rfl⟩,q⟩
end
section
variable {X:Cx} {pos:Pos}
def Sa (c:TT) (tb:TS):TS:=fun D σ H=>∃ W:Nat->St->Hp->Prop,(∃ m,W m σ H) /\ ∀ m σ H,W m σ H->
  c σ H fun b H1=>if b=true then ∃ N:St->Hp->Prop,(∀ σ' H',N σ' H'->∃ m',m' < m /\ W m' σ' H') /\ tb { D with nx:=N,ct:=N,bk:=D.nx } σ H1 else D.nx σ H1
theorem Of {c:Expr} {body:List Stmt} {tc:TT} {tb:TS} (hp:PassesOwn (model X.prog X.w) X.A X.env X.xe) (hc:PT X c tc) (hb:PSs X body tb):PS X (.While c body [] pos) (Sa tc tb):=by
  intro pins s σ H D I h
  obtain ⟨W,⟨m0,w0⟩,turn⟩:=h
  refine wpAny_While (codeAny_whileLoop (fun n s'=>∃ σ' H',Inv X pins σ' H' s' /\ W n σ' H') ?_ m0 ⟨σ,H,I,w0⟩)
  rintro n s1 ⟨σ1,H1,I1,w1⟩
  refine wpAny_passesOwn hp (thn (hc pins s1 σ1 H1 _ I1 (turn n σ1 H1 w1)) fun b s2 ⟨H2,I2,q2⟩=>?_)
  cases b with
  | true=>
    obtain ⟨N,hN,q2⟩:=q2
    rw [if_pos rfl]
    refine wpAny_passesOwn hp (thn (hb pins s2 σ1 H2 _ I2 q2) fun f s3 q3=>?_)
    cases f with
    | next=>
      obtain ⟨σ3,H3,I3,n3⟩:=q3
      obtain ⟨m',hm,w3⟩:=hN σ3 H3 n3
      exact ⟨m',hm,σ3,H3,I3,w3⟩
    | cont=>
      obtain ⟨σ3,H3,I3,n3⟩:=q3
      obtain ⟨m',hm,w3⟩:=hN σ3 H3 n3
      exact ⟨m',hm,σ3,H3,I3,w3⟩
    | brk=>exact q3
    | ret v=>exact q3
  | false=>
    rw [if_neg Bool.false_ne_true]
    exact wpAny_execs_nil ⟨σ1,H2,I2,q2⟩
end
structure It where
  go:Nat->Hp->Prop
  yld:Nat->Hp->V->Hp->Prop
  stop:Nat->Hp->Prop
def FW (X:Cx) (pins:List (Addr × Obj)) (H:Hp) (b:Addr):Prop:=
  H b=none /\ b ≠ X.env.locals /\ b ∉ X.fs /\ (b ∈ X.ex ∨ X.s₀.heap.objs.size <= b) /\ (∀ x c,X.env.cells.lookup x=some c->c ≠ b) /\ ∀ p ∈ X.pn ++ pins,p.1 ≠ b
theorem Inv.fpOk {X:Cx} {pins:List (Addr × Obj)} {σ:St} {H H':Hp} {s:Shared} {b:Addr} (I:Inv X pins σ H s) (hb:s.heap.objs.size <= b) (hn:H' b=none):FW X pins H' b:=by
  refine ⟨hn,Nat.ne_of_gt (Nat.lt_of_lt_of_le I.lt hb),I.nofs hb,.inr (Nat.le_trans I.sz hb),fun x c e z=>?_,fun p hp z=>?_⟩
  . obtain ⟨v,q⟩:=I.cell x c e
    exact absurd (Nat.lt_of_lt_of_le q.lt (by rw [z]; exact hb)) (Nat.lt_irrefl _)
  . exact absurd (Nat.lt_of_lt_of_le (Heap.lt_size (I.pin p hp).1) (by rw [z]; exact hb)) (Nat.lt_irrefl _)
structure Km (P:Program) (w:World) (K:PySem.W.Frag) (tg:Expr) (J:It) (fp:List Addr) (it:Addr) (tn:Nat->Heap->Prop):Prop where
  mem:it ∈ fp
  obj:∀ i h,tn i h->∀ b ∈ fp,∃ o,h.get? b=some o /\ ∀ v,o.data ≠ .cell v
  keep:∀ i h h',tn i h->(∀ b ∈ fp,∀ o,h.get? b=some o->h'.get? b=some o)->tn i h'
  item:∀ (X:Cx),X.prog=P->X.w=w->X.K=K->X.calm=true->∀ (i:Nat) (pins:List (Addr × Obj)) (s:Shared) (σ:St) (H:Hp) (E:Value->Shared->Prop),Inv X pins σ H s->(∀ b ∈ fp,FW X pins H b)->tn i s.heap->J.go i H->
    wpAny (model P w) X.A (pyNext (.ref it)) (fun r s1=>∃ u,r=some u /\
      wpAny (model P w) X.A (letOwnedTupleGo tg (.ref it) u) (fun _ s2=>∃ x H',Inv X pins σ H' s2 /\ RelV x u /\ J.yld i H x H' /\ tn (i + 1) s2.heap /\ ∀ b ∈ fp,H' b=none) E s1) E s
  done:∀ (X:Cx),X.prog=P->X.w=w->X.K=K->X.calm=true->∀ (i:Nat) (pins:List (Addr × Obj)) (s:Shared) (σ:St) (H:Hp) (E:Value->Shared->Prop),Inv X pins σ H s->(∀ b ∈ fp,FW X pins H b)->tn i s.heap->J.stop i H->
    wpAny (model P w) X.A (pyNext (.ref it)) (fun r s1=>r=none /\ Inv X pins σ H s1) E s
  self:∀ (A:Around) (i:Nat) (s:Shared) (Q:Value->Shared->Prop) (E:Value->Shared->Prop),tn i s.heap->Q (.ref it) s->wpAny (model P w) A (pyIter (.ref it)) Q E s
abbrev TI:=St->Hp->(It->Hp->Prop)->Prop
def PIE (X:Cx) (pins:List (Addr × Obj)) (σ:St) (tg:Expr) (R:It->Hp->Prop) (itv:Value) (s2:Shared):Prop:=
  ∃ (it:Addr) (fp:List Addr) (tn:Nat->Heap->Prop) (J:It) (H':Hp),itv=.ref it /\ Inv X pins σ H' s2 /\ Km X.prog X.w X.K tg J fp it tn /\ tn 0 s2.heap /\ (∀ b ∈ fp,FW X pins H' b) /\ R J H'
def PI (X:Cx) (tg iter:Expr) (wi:TI):Prop:=
  ∀ (pins:List (Addr × Obj)) (s:Shared) (σ:St) (H:Hp) (R:It->Hp->Prop),Inv X pins σ H s->wi σ H R->
    wpAny (model X.prog X.w) X.A (eval iter X.env) (fun v s1=>wpAny (model X.prog X.w) X.A (pyIter v) (PIE X pins σ tg R) X.xe s1) X.xe s
theorem Pe {M:Model} {A:Around} {E:Value->Shared->Prop} {s:Shared} {tg:Expr} {it:Addr} {u:Value} {o:Obj} {n:String} {vs:Array Value} {Q:Unit->Shared->Prop} (ho:s.heap.get? it=some o) (hc:o.cls=.type n) (hd:o.data=.fields vs)
    (hn:["enumerate", "zip", "dict_itemiterator", "dict_reverseitemiterator", "odict_iterator", "itertools.zip_longest", "itertools.pairwise"].contains n=false) (hQ:Q () s):wpAny M A (letOwnedTupleGo tg (.ref it) u) Q E s:=by
  unfold letOwnedTupleGo
  cases tg <;> first
    | exact wpAny_pure hQ
    | (cases u <;> first
        | exact wpAny_pure hQ
        | (refine wpAny_bind (wpAny_load ho ?_)
           rw [hc,hd]
           show wpAny M A (if (["enumerate", "zip", "dict_itemiterator", "dict_reverseitemiterator", "odict_iterator", "itertools.zip_longest", "itertools.pairwise"].contains n && vs[0]? == some (rawInt _))=true then _ else _) Q E s
           rw [if_neg (by intro h; rw [hn,Bool.false_and] at h; cases h)]
           exact wpAny_pure hQ))
def Itl (K:PySem.W.Frag) (a:Addr):It:=
  ⟨fun i H=>∃ xs x,SqL K H a xs /\ xs[i]? = some x,fun i H x H'=>H'=H /\ ∀ xs,SqL K H a xs->xs[i]? = some x,fun i H=>∃ xs,SqL K H a xs /\ xs.length <= i⟩
def Itt (K:PySem.W.Frag) (a:Addr):It:=
  ⟨fun i H=>∃ xs x,SqT K H a xs /\ xs[i]? = some x,fun i H x H'=>H'=H /\ ∀ xs,SqT K H a xs->xs[i]? = some x,fun i H=>∃ xs,SqT K H a xs /\ xs.length <= i⟩
def Itr (lo:Int) (n:Nat):It:=⟨fun i _=>i < n,fun i H x H'=>H'=H /\ x=.int (lo + i),fun i _=>n <= i⟩
theorem Mq {P:Program} {w:World} {K:PySem.W.Frag} {tg:Expr} (a it:Addr):Km P w K tg (Itl K a) [it] it (fun i h=>h.IsListIter it a i) where
  mem:=by simp
  obj:=fun i h st b hb=>by
    have e:b=it:=by simpa using hb
    subst e
    obtain ⟨o,e,c,d⟩:=st
    exact ⟨o,e,fun v z=>by rw [d] at z; cases z⟩
  keep:=fun i h h' st k=>st.at fun o e=>k it (by simp) o e
  item:=by
    intro X hP hw hK hc i pins s σ H E I hf st hg
    subst hP hw hK
    obtain ⟨xs,x,hq,hx⟩:=hg
    obtain ⟨its,rv,p,hz⟩:=I.list hq
    obtain ⟨u,hu,ru⟩:=rv.get hx
    obtain ⟨f0,f1,f2,f3,f4,f5⟩:=hf it (by simp)
    refine wpAny_pyNext_list_item st p.isList (x:=u) (by simpa using hu) fun h' st' sb=>?_
    have I1:Inv X pins σ H { s with heap:=h' }:=I.turned (t':=s.toks) (fun b o hb e=>(sb.2 b hb).trans e) f0 f1 f3 f4 f5
    obtain ⟨o,e,c,d⟩:=id st'
    exact ⟨u,rfl,Pe (s:={ s with heap:=h' }) e c d (by decide) ⟨x,H,I1,ru,⟨rfl,fun ys hy=>by rw [I.list_inj hy hq]; exact hx⟩,st',fun b hb=>(hf b hb).1⟩⟩
  done:=by
    intro X hP hw hK hc i pins s σ H E I hf st hg
    subst hP hw hK
    obtain ⟨xs,hq,hx⟩:=hg
    obtain ⟨its,rv,p,hz⟩:=I.list hq
    obtain ⟨f0,f1,f2,f3,f4,f5⟩:=hf it (by simp)
    have hl:=rv.length
    exact wpAny_pyNext_list_end (I.ok.hd hc) st p.isList (by simp; omega) fun h' eb=>⟨rfl,I.turned (t':=s.toks) (fun b o hb e=>eb b o hb e) f0 f1 f3 f4 f5⟩
  self:=fun _ _ _ _ _ st h=>wpAny_pyIter_listiter st h
theorem Ko {P:Program} {w:World} {K:PySem.W.Frag} {tg:Expr} (a it:Addr):Km P w K tg (Itt K a) [it] it (fun i h=>h.IsTupleIter it a i) where
  mem:=by simp
  obj:=fun i h st b hb=>by
    have e:b=it:=by simpa using hb
    subst e
    obtain ⟨o,e,c,d⟩:=st
    exact ⟨o,e,fun v z=>by rw [d] at z; cases z⟩
  keep:=fun i h h' st k=>st.at fun o e=>k it (by simp) o e
  item:=by
    intro X hP hw hK hc i pins s σ H E I hf st hg
    subst hP hw hK
    obtain ⟨xs,x,hq,hx⟩:=hg
    obtain ⟨its,rv,p,hz⟩:=I.tuple hq
    obtain ⟨u,hu,ru⟩:=rv.get hx
    obtain ⟨f0,f1,f2,f3,f4,f5⟩:=hf it (by simp)
    refine wpAny_pyNext_tuple_item st (show s.heap.IsTuple a its.toArray from p) (x:=u) (by simpa using hu) fun h' st' sb=>?_
    have I1:Inv X pins σ H { s with heap:=h' }:=I.turned (t':=s.toks) (fun b o hb e=>(sb.2 b hb).trans e) f0 f1 f3 f4 f5
    obtain ⟨o,e,c,d⟩:=id st'
    exact ⟨u,rfl,Pe (s:={ s with heap:=h' }) e c d (by decide) ⟨x,H,I1,ru,⟨rfl,fun ys hy=>by rw [I.tuple_inj hy hq]; exact hx⟩,st',fun b hb=>(hf b hb).1⟩⟩
  done:=by
    intro X hP hw hK hc i pins s σ H E I hf st hg
    subst hP hw hK
    obtain ⟨xs,hq,hx⟩:=hg
    obtain ⟨its,rv,p,hz⟩:=I.tuple hq
    obtain ⟨f0,f1,f2,f3,f4,f5⟩:=hf it (by simp)
    have hl:=rv.length
    exact wpAny_pyNext_tuple_end (I.ok.hd hc) st (show s.heap.IsTuple a its.toArray from p) (by simp; omega) fun h' eb=>⟨rfl,I.turned (t':=s.toks) (fun b o hb e=>eb b o hb e) f0 f1 f3 f4 f5⟩
  self:=fun _ _ _ _ _ st h=>wpAny_pyIter_tupleiter st h
theorem Kp {P:Program} {w:World} {K:PySem.W.Frag} {tg:Expr} (it:Addr) (lo:Int) (n:Nat):Km P w K tg (Itr lo n) [it] it (fun i h=>IsRangeIter h it (lo + (i:Nat) * 1) ((n:Int) - (i:Nat)) 1) where
  mem:=by simp
  obj:=fun i h st b hb=>by
    have e:b=it:=by simpa using hb
    subst e
    exact ⟨_,st,fun v z=>by
      have z':Data.fields _=Data.cell v:=z
      cases z'⟩
  keep:=fun i h h' st k=>k it (by simp) _ st
  item:=by
    intro X hP hw hK hc i pins s σ H E I hf st hg
    subst hP hw hK
    obtain ⟨f0,f1,f2,f3,f4,f5⟩:=hf it (by simp)
    have W:=Walks.range (prog:=X.prog) (w:=X.w) (I.ok.hd hc) it lo 1 n
    refine W.item i s _ _ hg st fun v h' tk hv st' kk=>?_
    obtain ⟨t,rfl⟩:=hv
    have I1:Inv X pins σ H { s with heap:=h',toks:=tk }:=I.turned (fun b o hb e=>kk b o (by simpa using hb) e) f0 f1 f3 f4 f5
    refine ⟨_,rfl,Pe (s:={ s with heap:=h',toks:=tk }) (n := "range_iterator") st' rfl rfl (by decide) ⟨.int (lo + i),H,I1,⟨t,?_⟩,⟨rfl,rfl⟩,st',fun b hb=>(hf b hb).1⟩⟩
    rw [Int.mul_one]
  done:=by
    intro X hP hw hK hc i pins s σ H E I hf st hg
    subst hP hw hK
    obtain ⟨f0,f1,f2,f3,f4,f5⟩:=hf it (by simp)
    exact wpAny_pyNext_range_end (I.ok.hd hc) st (by have:n <= i:=hg; omega) fun h' eb=>⟨rfl,I.turned (t':=s.toks) (fun b o hb e=>eb b o hb e) f0 f1 f3 f4 f5⟩
  self:=fun _ _ _ _ _ st h=>wpAny_pyIter_rangeiter st h
end L2
namespace L2
open PySem PySem.Spec PyProof.Rows
section
variable {X:Cx} {tg:Expr}
def SI (K:PySem.W.Frag) (tl:TE):TI:=fun σ H R=>tl σ H fun x H1=>∃ a,x=.ref a /\ (∃ xs,SqL K H1 a xs) /\ R (Itl K a) H1
def VG (K:PySem.W.Frag) (tl:TE):TI:=fun σ H R=>tl σ H fun x H1=>∃ a,x=.ref a /\ (∃ xs,SqT K H1 a xs) /\ R (Itt K a) H1
theorem L0 {l:Expr} {tl:TE} (hl:PE X l tl):PI X tg l (SI X.K tl):=by
  intro pins s σ H R I h
  refine thn (hl pins s σ H _ I h) fun v s1 ⟨x,H1,I1,r1,q1⟩=>?_
  obtain ⟨a,e,⟨xs,hq⟩,q⟩:=q1
  subst e
  cases r1
  obtain ⟨its,rv,p,hz⟩:=I1.list hq
  refine wpAny_pyIter_list p.isList ?_
  refine ⟨s1.heap.objs.size,[s1.heap.objs.size],_,_,H1,rfl,I1.kept (t':=s1.toks) fun b o e=>Heap.get?_push_of_some _ e,Mq a _,⟨_,Heap.get?_push_size _ rfl,rfl,rfl⟩,fun b hb=>?_,q⟩
  have e:b=s1.heap.objs.size:=by simpa using hb
  subst e
  exact I1.fpOk (Nat.le_refl _) (I1.hok.fresh (Nat.le_refl _))
theorem TB {l:Expr} {tl:TE} (hl:PE X l tl):PI X tg l (VG X.K tl):=by
  intro pins s σ H R I h
  refine thn (hl pins s σ H _ I h) fun v s1 ⟨x,H1,I1,r1,q1⟩=>?_
  obtain ⟨a,e,⟨xs,hq⟩,q⟩:=q1
  subst e
  cases r1
  obtain ⟨its,rv,p,hz⟩:=I1.tuple hq
  refine wpAny_pyIter_tuple (show s1.heap.IsTuple a its.toArray from p) ?_
  refine ⟨s1.heap.objs.size,[s1.heap.objs.size],_,_,H1,rfl,I1.kept (t':=s1.toks) fun b o e=>Heap.get?_push_of_some _ e,Ko a _,⟨_,Heap.get?_push_size _ rfl,rfl,rfl⟩,fun b hb=>?_,q⟩
  have e:b=s1.heap.objs.size:=by simpa using hb
  subst e
  exact I1.fpOk (Nat.le_refl _) (I1.hok.fresh (Nat.le_refl _))
theorem OU {pins:List (Addr × Obj)} {σ:St} {H:Hp} {s:Shared} {R:It->Hp->Prop} {E:Value->Shared->Prop} {lo hi:Int} {t u v:Tok} {tk:Nat} (I:Inv X pins σ H s) (h1 : -(2 ^ 62) <= lo) (h2:lo < 2 ^ 62) (h3 : -(2 ^ 62) <= hi) (h4:hi < 2 ^ 62)
    (q:R (Itr lo (hi - lo).toNat) H):wpAny (model X.prog X.w) X.A (pyIter (.ref s.heap.objs.size)) (PIE X pins σ tg R) E { s with heap:=s.heap.push { cls:=.type "range",data:=.fields #[.int lo t,.int hi u,.int 1 v] },toks:=tk }:=by
  refine wpAny_pyIter_range (IsRange.new ..) (small_one h1 h2 h3 h4) ?_
  have I1:Inv X pins σ H { s with heap:=s.heap.push { cls:=.type "range",data:=.fields #[.int lo t,.int hi u,.int 1 v] },toks:=tk }:=I.kept fun b o e=>Heap.get?_push_of_some _ e
  refine ⟨(s.heap.push { cls:=.type "range",data:=.fields #[.int lo t,.int hi u,.int 1 v] }).objs.size,[(s.heap.push { cls:=.type "range",data:=.fields #[.int lo t,.int hi u,.int 1 v] }).objs.size],_,_,H,rfl,
    I1.kept (t':=tk) fun b o e=>Heap.get?_push_of_some _ e,Kp _ lo (hi - lo).toNat,?_,fun b hb=>?_,q⟩
  . have e1:lo + ((0:Nat):Int) * 1=lo:=by simp
    have e2:(((hi - lo).toNat:Nat):Int) - ((0:Nat):Int)=Builtin.Range.rangeSize lo hi 1:=by rw [rangeSize_one]; split <;> omega
    show IsRangeIter _ _ (lo + ((0:Nat):Int) * 1) ((((hi - lo).toNat:Nat):Int) - ((0:Nat):Int)) 1
    rw [e1,e2]
    exact Heap.get?_push_size _ rfl
  . have e:b=(s.heap.push { cls:=.type "range",data:=.fields #[.int lo t,.int hi u,.int 1 v] }).objs.size:=by simpa using hb
    subst e
    exact I1.fpOk (Nat.le_refl _) (I1.hok.fresh (Nat.le_refl _))
def VH (ta:TA):TI:=fun σ H R=>ta σ H fun vs H1=>∃ j:Int,vs=[.int j] /\ -(2 ^ 62) <= j /\ j < 2 ^ 62 /\ R (Itr 0 j.toNat) H1
theorem ND {a:Expr} {ta:TA} {p pos:Pos} (hg:Gl X "range") (hm:X.mg "range" = none) (ha:PA X [a] ta) (hs:starEach [a] X.env=[(false,eval a X.env)]:=by rfl):PI X tg (.Call (.Name "range" p) [a] [] pos) (VH ta):=by
  intro pins s σ H R I h
  refine Call_ (Fd I hg hm boot_range (PyProof.Rows.callWith_type1 (thn (ha pos pins s σ H _ I h) fun us s1 ⟨vs,H1,I1,r1,q1⟩=>?_) hs rfl))
  obtain ⟨j,e,q1,q2,q⟩:=q1
  subst e
  cases r1 with
  | cons r rr=>
    cases rr
    obtain ⟨t,rfl⟩:=r
    exact call_range_1 (OU I1 (by omega) (by omega) q1 q2 (by simpa using q))
def Vd (wi:TI) (g:TG) (tb:TS):TS:=fun D σ H=>wi σ H fun J H1=>∃ W:Nat->Nat->St->Hp->Prop,(∃ m,W 0 m σ H1) /\ ∀ i m σ H,W i m σ H->
  (J.stop i H /\ D.nx σ H) ∨ (J.go i H /\ ∃ N:St->Hp->Prop,(∀ σ' H',N σ' H'->∃ m',m' < m /\ W (i + 1) m' σ' H') /\ ∀ x H',J.yld i H x H'->g x σ H' fun σ2 H2=>tb { D with nx:=N,ct:=N,bk:=D.nx } σ2 H2)
def JD (fp:List Addr) (h:Heap):List (Addr × Obj):=fp.filterMap fun b=>(h.get? b).map fun o=>(b,o)
theorem CO {fp:List Addr} {h:Heap} {b:Addr} {o:Obj} (hb:b ∈ fp) (e:h.get? b=some o):(b,o) ∈ JD fp h:=List.mem_filterMap.mpr ⟨b,hb,by rw [e]; rfl⟩
theorem NI {fp:List Addr} {h:Heap} {p:Addr × Obj} (hp:p ∈ JD fp h):p.1 ∈ fp /\ h.get? p.1=some p.2:=by
  obtain ⟨b,hb,e⟩:=List.mem_filterMap.mp hp
  cases q:h.get? b with
  | none=>rw [q] at e; cases e
  | some o=>
    rw [q] at e
    have e':(b,o)=p:=Option.some.inj e
    subst e'
    exact ⟨hb,q⟩
theorem Inv.pinned {pins:List (Addr × Obj)} {σ:St} {H:Hp} {s:Shared} {fp:List Addr} (I:Inv X pins σ H s) (hf:∀ b ∈ fp,FW X pins H b) (ho:∀ b ∈ fp,∃ o,s.heap.get? b=some o /\ ∀ v,o.data ≠ .cell v):Inv X (pins ++ JD fp s.heap) σ H s:=
  I.pins_of fun p hp=>(List.mem_append.mp hp).elim (fun z=>I.pin p (List.mem_append_right _ z)) fun z=>by
    obtain ⟨hb,e⟩:=NI z
    obtain ⟨f0,f1,f2,_⟩:=hf p.1 hb
    obtain ⟨o,e',d⟩:=ho p.1 hb
    rw [e] at e'; cases e'
    exact ⟨e,f0,f1,f2,d⟩
theorem Inv.unpinned {pins pl:List (Addr × Obj)} {σ:St} {H:Hp} {s:Shared} (I:Inv X (pins ++ pl) σ H s):Inv X pins σ H s:=I.pins_of fun p hp=>I.pin p (List.mem_append_right _ (List.mem_append_left _ hp))
theorem Oh {iter:Expr} {body:List Stmt} {wi:TI} {g:TG} {tb:TS} {pos:Pos} (hp:PassesOwn (model X.prog X.w) X.A X.env X.xe) (hc:X.calm=true) (hi:PI X tg iter wi) (hg:PG X tg g) (hb:PSs X body tb)
    (hs:∀ x,foldedSetIterable iter X.env x=pure x:=by intro _; rfl):PS X (.For tg iter body [] pos) (Vd wi g tb):=by
  intro pins s σ H D I h
  refine wpAny_For (thn (hi pins s σ H _ I h) fun v s1 h1=>thn h1 fun itv s2 h2=>?_) hs
  obtain ⟨it,fp,tn,J,H2,e,I2,T,st2,f2,W,⟨m0,w0⟩,turn⟩:=h2
  subst e
  have stat:∀ {H':Hp},(∀ b ∈ fp,H' b=none)->∀ b ∈ fp,FW X pins H' b:=fun hn b hb=>⟨hn b hb,(f2 b hb).2⟩
  refine codeAny_forLoop_any (fun n s'=>∃ i σ' H',Inv X pins σ' H' s' /\ tn i s'.heap /\ (∀ b ∈ fp,H' b=none) /\ W i n σ' H') ?_ m0 ⟨0,σ,H2,I2,st2,fun b hb=>(f2 b hb).1,w0⟩
  rintro n s3 ⟨i,σ3,H3,I3,st3,fr3,w3⟩
  rcases turn i n σ3 H3 w3 with ⟨stop,qn⟩ | ⟨go,N,hN,step⟩
  . refine wpAny_passesOwn hp (thn (T.done X rfl rfl rfl hc i pins s3 σ3 H3 X.xe I3 (stat fr3) st3 stop) fun r s4 ⟨hr,I4⟩=>?_)
    subst hr
    exact wpAny_execs_nil ⟨σ3,H3,I4,qn⟩
  . refine wpAny_passesOwn hp (thn (T.item X rfl rfl rfl hc i pins s3 σ3 H3 X.xe I3 (stat fr3) st3 go) fun r s4 ⟨u,hr,h4⟩=>?_)
    subst hr
    refine wpAny_passesOwn hp (thn h4 fun _ s5 ⟨x,H5,I5,r5,y5,st5,fr5⟩=>?_)
    have I5':=I5.pinned (stat fr5) (T.obj _ _ st5)
    refine wpAny_passesOwn hp (thn (hg _ s5 σ3 H5 x u _ I5' r5 (step x H5 y5)) fun _ s6 ⟨σ6,H6,I6,q6⟩=>?_)
    refine wpAny_passesOwn hp (thn (hb _ s6 σ6 H6 _ I6 q6) fun f s7 q7=>?_)
    have again:∀ {σ7:St} {H7:Hp},Inv X (pins ++ JD fp s5.heap) σ7 H7 s7->N σ7 H7->∃ m,m < n /\ ∃ i σ' H',Inv X pins σ' H' s7 /\ tn i s7.heap /\ (∀ b ∈ fp,H' b=none) /\ W i m σ' H':=fun {σ7 H7} I7 n7=>by
      obtain ⟨m',hm,w7⟩:=hN σ7 H7 n7
      refine ⟨m',hm,i + 1,σ7,H7,I7.unpinned,T.keep _ _ _ st5 fun b hb o e=>(I7.pin (b,o) (List.mem_append_right _ (List.mem_append_right _ (CO hb e)))).1,fun b hb=>?_,w7⟩
      obtain ⟨o,e,d⟩:=T.obj _ _ st5 b hb
      exact (I7.pin (b,o) (List.mem_append_right _ (List.mem_append_right _ (CO hb e)))).2.1
    cases f with
    | next=>obtain ⟨σ7,H7,I7,n7⟩:=q7; exact again I7 n7
    | cont=>obtain ⟨σ7,H7,I7,n7⟩:=q7; exact again I7 n7
    | brk=>obtain ⟨σ7,H7,I7,q7⟩:=q7; exact ⟨σ7,H7,I7.unpinned,q7⟩
    | ret v=>obtain ⟨x7,σ7,H7,I7,r7,q7⟩:=q7; exact ⟨x7,σ7,H7,I7.unpinned,r7,q7⟩
end
end L2
namespace L2
open PySem PySem.Spec PyProof.Rows
abbrev R2:=V->V->Hp->VK->Prop
def OpR (X:Cx) (f:Value->Value->Sem Value) (r:R2):Prop:=
  ∀ (pins:List (Addr × Obj)) (s:Shared) (σ:St) (H:Hp) (x y:V) (v u:Value) (Q:VK),Inv X pins σ H s->RelV x v->RelV y u->r x y H Q->
    wpAny (model X.prog X.w) X.A (f v u) (EP X pins σ Q) X.xe s
def UnR (X:Cx) (f:Value->Sem Value) (r:V->Hp->VK->Prop):Prop:=
  ∀ (pins:List (Addr × Obj)) (s:Shared) (σ:St) (H:Hp) (x:V) (v:Value) (Q:VK),Inv X pins σ H s->RelV x v->r x H Q->
    wpAny (model X.prog X.w) X.A (f v) (EP X pins σ Q) X.xe s
def CF (X:Cx) (f:Value) (r:List V->Hp->VK->Prop):Prop:=
  ∀ (pins:List (Addr × Obj)) (s:Shared) (σ:St) (H:Hp) (xs:List V) (us:List Value) (Q:VK),Inv X pins σ H s->Vals xs us->r xs H Q->
    wpAny (model X.prog X.w) X.A (call f us) (EP X pins σ Q) X.xe s
def V3 (X:Cx) (r:V->Hp->(Bool->Hp->Prop)->Prop):Prop:=
  ∀ (pins:List (Addr × Obj)) (s:Shared) (σ:St) (H:Hp) (x:V) (v:Value) (Q:Bool->Hp->Prop),Inv X pins σ H s->RelV x v->r x H Q->
    wpAny (model X.prog X.w) X.A (truthy v) (TP X pins σ Q) X.xe s
def tOp (r:R2) (ta tb:TE):TE:=fun σ H Q=>ta σ H fun x H1=>tb σ H1 fun y H2=>r x y H2 Q
def tUn (r:V->Hp->VK->Prop) (ta:TE):TE:=fun σ H Q=>ta σ H fun x H1=>r x H1 Q
def rI (C:Int->Int->Prop) (g:Int->Int->V):R2:=fun x y H Q=>∃ i j,x=.int i /\ y=.int j /\ C i j /\ Q (g i j) H
def rI0 (g:Int->Int->V):R2:=fun x y H Q=>∃ i j,x=.int i /\ y=.int j /\ Q (g i j) H
def rU (g:Int->V):V->Hp->VK->Prop:=fun x H Q=>∃ i,x=.int i /\ Q (g i) H
section
variable {X:Cx} {a b c:Expr} {ta tb tc:TE} {pos:Pos}
theorem T6 (ha:PE X a ta) (hb:PE X b tb) {pins:List (Addr × Obj)} {s:Shared} {σ:St} {H:Hp} {R:V->V->Hp->Prop} (I:Inv X pins σ H s)
    (h:ta σ H fun x H1=>tb σ H1 fun y H2=>R x y H2) {Q:Value->Shared->Prop} {f:Value->Value->Sem Value}
    (hf:∀ v u s2 x y H2,Inv X pins σ H2 s2->RelV x v->RelV y u->R x y H2->wpAny (model X.prog X.w) X.A (f v u) Q X.xe s2) :
    wpAny (model X.prog X.w) X.A (eval a X.env) (fun v s₁=>wpAny (model X.prog X.w) X.A (eval b X.env) (fun u s₂=>wpAny (model X.prog X.w) X.A (f v u) Q X.xe s₂) X.xe s₁) X.xe s:=by
  refine thn (ha pins s σ H _ I h) fun v s1 ⟨x,H1,I1,r1,q1⟩=>?_
  refine thn (hb pins s1 σ H1 _ I1 q1) fun u s2 ⟨y,H2,I2,r2,q2⟩=>?_
  exact hf v u s2 x y H2 I2 r1 r2 q2
theorem Uq {op:Operator} {r:R2} (ho:OpR X (binaryOp op) r) (ha:PE X a ta) (hb:PE X b tb):PE X (.BinOp a op b pos) (tOp r ta tb):=by
  intro pins s σ H Q I h
  exact wpAny_BinOp (T6 ha hb I h fun v u s2 x y H2 I2 rx ry q=>ho pins s2 σ H2 x y v u Q I2 rx ry q)
theorem Uo {op:UnaryOp} {r:V->Hp->VK->Prop} (ho:UnR X (unaryOp op) r) (ha:PE X a ta):PE X (.UnaryOp op a pos) (tUn r ta):=by
  intro pins s σ H Q I h
  exact UnaryOp_ (thn (ha pins s σ H _ I h) fun v s1 ⟨x,H1,I1,r1,q1⟩=>ho pins s1 σ H1 x v Q I1 r1 q1)
theorem opI {f:Value->Value->Sem Value} {C:Int->Int->Prop} {g:Int->Int->Int}
    (rule:∀ (i j:Int) (t u:Tok) (s:Shared) (Q:Value->Shared->Prop) (E:Value->Shared->Prop),C i j->Q (.int (g i j) s.toks) { s with toks:=s.toks + 1 }->wpAny (model X.prog X.w) X.A (f (.int i t) (.int j u)) Q E s) :
    OpR X f (rI C fun i j=>.int (g i j)):=by
  intro pins s σ H x y v u Q I rx ry h
  obtain ⟨i,j,rfl,rfl,hc,q⟩:=h
  obtain ⟨t,rfl⟩:=rx
  obtain ⟨t',rfl⟩:=ry
  exact rule i j t t' s _ _ hc ⟨.int (g i j),H,I.tok _,⟨_,rfl⟩,q⟩
theorem Uz {f:Value->Value->Sem Value} {g:Int->Int->Int}
    (rule:∀ (i j:Int) (t u:Tok) (s:Shared) (Q:Value->Shared->Prop) (E:Value->Shared->Prop),Q (.int (g i j) s.toks) { s with toks:=s.toks + 1 }->wpAny (model X.prog X.w) X.A (f (.int i t) (.int j u)) Q E s) :
    OpR X f (rI0 fun i j=>.int (g i j)):=by
  intro pins s σ H x y v u Q I rx ry h
  obtain ⟨i,j,rfl,rfl,q⟩:=h
  obtain ⟨t,rfl⟩:=rx
  obtain ⟨t',rfl⟩:=ry
  exact rule i j t t' s _ _ ⟨.int (g i j),H,I.tok _,⟨_,rfl⟩,q⟩
theorem RF {f:Value->Value->Sem Value} {g:Int->Int->Bool}
    (rule:∀ (i j:Int) (t u:Tok) (s:Shared) (Q:Value->Shared->Prop) (E:Value->Shared->Prop),Q (.bool (g i j)) s->wpAny (model X.prog X.w) X.A (f (.int i t) (.int j u)) Q E s) :
    OpR X f (rI0 fun i j=>.bl (g i j)):=by
  intro pins s σ H x y v u Q I rx ry h
  obtain ⟨i,j,rfl,rfl,q⟩:=h
  obtain ⟨t,rfl⟩:=rx
  obtain ⟨t',rfl⟩:=ry
  exact rule i j t t' s _ _ ⟨.bl (g i j),H,I,rfl,q⟩
def V8 (i j:Int):Prop:=0 < j /\ j < 1073741824
def V7 (i j:Int):Prop:=0 <= j /\ j <= 1000000 /\ i.natAbs < 2 ^ 64
def CMul (i j:Int):Prop:=(-(2 ^ 64) < i /\ i < 2 ^ 64) ∨ (-(2 ^ 64) < j /\ j < 2 ^ 64)
theorem CMul.ok {i j:Int} (h:CMul i j):IntMulOk i j:=by
  rcases h with ⟨h1,h2⟩ | ⟨h1,h2⟩
  . exact .of_left (intBits_le_64 h1 h2)
  . exact .of_right (intBits_le_64 h1 h2)
theorem Tg:OpR X (binaryOp .Add) (rI0 fun i j=>.int (i + j)):=Uz fun _ _ _ _ _ _ _ q=>add_int q
theorem TX:OpR X (binaryOp .Sub) (rI0 fun i j=>.int (i - j)):=Uz fun _ _ _ _ _ _ _ q=>sub_int q
theorem Tb:OpR X (binaryOp .Mult) (rI CMul fun i j=>.int (i * j)):=opI fun _ _ _ _ _ _ _ hc q=>mul_int q hc.ok
theorem RC:OpR X (binaryOp .FloorDiv) (rI V8 fun i j=>.int (i / j)):=opI fun i j _ _ _ _ _ hc q=>by
  have h1:(0:Int) < j:=hc.1
  have h2:j < 1073741824:=hc.2
  exact floordiv_int (by omega) (by rw [Int.fdiv_eq_ediv_of_nonneg i (by omega)]; exact q) (.inl (PyProof.noPylong_small (by omega)))
theorem Tc:OpR X (binaryOp .Mod) (rI (fun _ j=>0 < j) fun i j=>.int (i % j)):=opI fun i j _ _ _ _ _ hc q=>by
  have h1:(0:Int) < j:=hc
  exact mod_int' (by omega) (by rw [Int.fmod_eq_emod_of_nonneg i (by omega)]; exact q)
theorem TZ:OpR X (binaryOp .Pow) (rI V7 fun i j=>.int (i ^ j.toNat)):=opI fun _ _ _ _ _ _ _ hc q=>pow_int_small hc.1 hc.2.1 hc.2.2 q
theorem unI {f:Value->Sem Value} {g:Int->Int}
    (rule:∀ (i:Int) (t:Tok) (s:Shared) (Q:Value->Shared->Prop) (E:Value->Shared->Prop),Q (.int (g i) s.toks) { s with toks:=s.toks + 1 }->wpAny (model X.prog X.w) X.A (f (.int i t)) Q E s) :
    UnR X f (rU fun i=>.int (g i)):=by
  intro pins s σ H x v Q I rx h
  obtain ⟨i,rfl,q⟩:=h
  obtain ⟨t,rfl⟩:=rx
  exact rule i t s _ _ ⟨.int (g i),H,I.tok _,⟨_,rfl⟩,q⟩
theorem SU:UnR X (unaryOp .USub) (rU fun i=>.int (-i)):=unI fun _ _ _ _ _ q=>neg_int q
end
section
variable {X:Cx} {a b c:Expr} {ta tb tc:TE} {pos:Pos}
theorem JQ {pins:List (Addr × Obj)} {σ:St} {H:Hp} {s:Shared} {Q:VK} {k k':Bool} (I:Inv X pins σ H s) (q:Q (.bl k) H) (e:k=k'):EP X pins σ Q (.bool k') s:=by
  subst e
  exact ⟨.bl k,H,I,rfl,q⟩
theorem Uv:OpR X (compareOp .Lt) (rI0 fun i j=>.bl (decide (i < j))):=RF fun _ _ _ _ _ _ _ q=>lt_int q
theorem Uw:OpR X (compareOp .LtE) (rI0 fun i j=>.bl (decide (i <= j))):=RF fun _ _ _ _ _ _ _ q=>le_int q
theorem Ux:OpR X (compareOp .Gt) (rI0 fun i j=>.bl (decide (j < i))):=RF fun _ _ _ _ _ _ _ q=>gt_int q
theorem Uy:OpR X (compareOp .GtE) (rI0 fun i j=>.bl (decide (j <= i))):=RF fun _ _ _ _ _ _ _ q=>ge_int q
theorem NG:OpR X (compareOp .In) (fun x y H Q=>∃ i j,x=.str i /\ y=.str j /\ Q (.bl (!(Builtin.Str.occurrences j i 0 j.length 1).isEmpty)) H):=by
  intro pins s σ H x y v u Q I rx ry h
  obtain ⟨i,j,rfl,rfl,q⟩:=h
  obtain ⟨t,rfl⟩:=rx
  obtain ⟨t',rfl⟩:=ry
  exact in_str (JQ I q rfl)
theorem Td:OpR X (compareOp .Is) (fun x y H Q=>y=.non /\ Q (.bl (decide (x=.non))) H):=by
  intro pins s σ H x y v u Q I rx ry h
  obtain ⟨rfl,q⟩:=h
  cases ry
  refine is_none_gen (JQ I q ?_)
  cases x <;> first
    | (cases rx; rfl)
    | (obtain ⟨t,rfl⟩:=rx; rfl)
theorem RB:OpR X (compareOp .IsNot) (fun x y H Q=>y=.non /\ Q (.bl (!decide (x=.non))) H):=by
  intro pins s σ H x y v u Q I rx ry h
  obtain ⟨rfl,q⟩:=h
  cases ry
  refine isnot_none_gen (JQ I q ?_)
  cases x <;> first
    | (cases rx; rfl)
    | (obtain ⟨t,rfl⟩:=rx; rfl)
theorem JE:OpR X (compareOp .NotIn) (fun x y H Q=>∃ i j,x=.str i /\ y=.str j /\ Q (.bl (!(!(Builtin.Str.occurrences j i 0 j.length 1).isEmpty))) H):=by
  intro pins s σ H x y v u Q I rx ry h
  obtain ⟨i,j,rfl,rfl,q⟩:=h
  obtain ⟨t,rfl⟩:=rx
  obtain ⟨t',rfl⟩:=ry
  exact notIn_str (JQ I q rfl)
theorem O5 (b:Expr) {op:CmpOp} (h:op ≠ .In:=by decide) (h2:op ≠ .NotIn:=by decide):behindInMarks op b=false:=by
  have e1:(op == CmpOp.In)=false:=by cases op <;> first | rfl | exact absurd rfl h
  have e2:(op == CmpOp.NotIn)=false:=by cases op <;> first | rfl | exact absurd rfl h2
  cases b <;> simp [behindInMarks,e1,e2]
theorem Q6 {op:CmpOp} {r:R2} (ho:OpR X (compareOp op) r) (ha:PE X a ta) (hb:PE X b tb) (hm:behindInMarks op b=false):PE X (.Compare a [op] [b] pos) (tOp r ta tb):=by
  intro pins s σ H Q I h
  exact wpAny_Compare1 (T6 ha hb I h fun v u s2 x y H2 I2 rx ry q=>ho pins s2 σ H2 x y v u Q I2 rx ry q) hm
def UN (t:TE):TT:=fun σ H Q=>t σ H fun x H'=>∃ k,x=.bl k /\ Q k H'
theorem Qu {op:CmpOp} {r:R2} (ho:OpR X (compareOp op) r) (ha:PE X a ta) (hb:PE X b tb) (hm:behindInMarks op b=false):PT X (.Compare a [op] [b] pos) (UN (tOp r ta tb)):=by
  intro pins s σ H Q I h
  refine wpAny_isTrue_Compare1 (thn (ha pins s σ H _ I h) fun v s1 ⟨x,H1,I1,r1,q1⟩=>thn (hb pins s1 σ H1 _ I1 q1) fun u s2 ⟨y,H2,I2,r2,q2⟩=>
    thn (ho pins s2 σ H2 x y v u _ I2 r1 r2 q2) fun c s3 ⟨z,H3,I3,r3,k,e,q3⟩=>?_) hm
  subst e
  cases r3
  exact wpAny_truthy_bool ⟨H3,I3,q3⟩
def OD (r r':R2) (ta tb tc:TE):TE:=fun σ H Q=>ta σ H fun x H1=>tb σ H1 fun y H2=>r x y H2 fun z H3=>∃ k,z=.bl k /\
  (if k=true then tc σ H3 fun w' H4=>r' y w' H4 Q else Q (.bl false) H3)
theorem Ow {op op':CmpOp} {r r':R2} (ho:OpR X (compareOp op) r) (ho':OpR X (compareOp op') r') (ha:PE X a ta) (hb:PE X b tb) (hc:PE X c tc)
    (hm:lastMarks [op,op'] [b,c]=false:=by with_unfolding_all rfl):PE X (.Compare a [op,op'] [b,c] pos) (OD r r' ta tb tc):=by
  intro pins s σ H Q I h
  refine Compare_chain (thn (ha pins s σ H _ I h) fun v s1 ⟨x,H1,I1,r1,q1⟩=>chain_link (thn (hb pins s1 σ H1 _ I1 q1) fun u s2 ⟨y,H2,I2,r2,q2⟩=>
    thn (ho pins s2 σ H2 x y v u _ I2 r1 r2 q2) fun d s3 ⟨z,H3,I3,r3,k,e,q3⟩=>?_)) hm
  subst e
  cases r3
  refine wpAny_truthy_bool ?_
  cases k with
  | false=>exact ite_ff ⟨.bl false,H3,I3,rfl,q3⟩
  | true=>exact ite_tt (chain_last (thn (hc pins s3 σ H3 _ I3 q3) fun w' s4 ⟨z',H4,I4,r4,q4⟩=>ho' pins s4 σ H4 y z' u w' Q I4 r2 r4 q4))
def VS (K:PySem.W.Frag) (x:V) (H:Hp) (k:Bool):Prop:=
  match x with
  | .non=>k=false
  | .bl b=>k=b
  | .int i=>k=(i != 0)
  | .str y=>y.length <= sizeLine /\ k=((y.length:Int) != 0)
  | .byt y=>y.size <= sizeLine /\ k=((y.size:Int) != 0)
  | .ref p=>(∃ xs,SqL K H p xs /\ k = !xs.isEmpty) ∨ (∃ xs,SqT K H p xs /\ k = !xs.isEmpty) ∨ ∃ kvs,H p=some (.dK kvs) /\ k = !kvs.isEmpty
  | _=>False
theorem LH {κ:Type} {kvs:List (κ × V)} {vs:List (κ × Value)} (r:KV kvs vs):(!vs.isEmpty) = !kvs.isEmpty:=by
  cases r <;> rfl
theorem HC {xs:List V} {its:List Value} (r:Vals xs its):(!its.toArray.isEmpty) = !xs.isEmpty:=by
  cases r <;> simp
theorem Fc:(sizeLine:Nat) < 2 ^ 63:=by rw [sizeLine_eq]; decide
theorem SV:V3 X (fun x H Q=>∃ k,VS X.K x H k /\ Q k H):=by
  intro pins s σ H x v Q I rx h
  obtain ⟨k,e,q⟩:=h
  have hl:=Fc
  have hs:sizeLine=16777216:=sizeLine_eq
  cases x with
  | non=>
    cases rx
    have e':k=false:=e
    subst e'
    exact truthy_none ⟨H,I,q⟩
  | bl b=>
    cases rx
    have e':k=b:=e
    subst e'
    exact wpAny_truthy_bool ⟨H,I,q⟩
  | int i=>
    obtain ⟨t,rfl⟩:=rx
    have e':k=(i != 0):=e
    subst e'
    exact PySem.P.truthy_int ⟨H,I,q⟩
  | str y=>
    obtain ⟨t,rfl⟩:=rx
    obtain ⟨hy,e'⟩:y.length <= sizeLine /\ k=((y.length:Int) != 0):=e
    subst e'
    exact PySem.P.truthy_str (by omega) ⟨H,I.tok _,q⟩
  | byt y=>
    obtain ⟨t,rfl⟩:=rx
    obtain ⟨hy,e'⟩:y.size <= sizeLine /\ k=((y.size:Int) != 0):=e
    subst e'
    exact PySem.W.truthy_bytes (by omega) ⟨H,I.tok _,q⟩
  | ref p=>
    cases rx
    have e':(∃ xs,SqL X.K H p xs /\ k = !xs.isEmpty) ∨ (∃ xs,SqT X.K H p xs /\ k = !xs.isEmpty) ∨ ∃ kvs,H p=some (.dK kvs) /\ k = !kvs.isEmpty:=e
    rcases e' with ⟨xs,hx,e'⟩ | ⟨xs,hx,e'⟩ | ⟨kvs,hx,e'⟩
    . subst e'
      obtain ⟨its,r,pl,hz⟩:=I.list hx
      have hlen:=r.length
      exact wpAny_truthy_list pl.isList (by simp only [List.size_toArray]; omega) ⟨H,I.tok _,by rw [HC r]; exact q⟩
    . subst e'
      obtain ⟨its,r,pl,hz⟩:=I.tuple hx
      have hlen:=r.length
      exact truthy_tuple pl (by simp only [List.size_toArray]; omega) ⟨H,I.tok _,by rw [HC r]; exact q⟩
    . subst e'
      obtain ⟨hz,hS,vs,r,m⟩:kvs.length <= sizeLine /\ (p == sysModules)=false /\ ∃ vs,KV kvs vs /\ s.heap.DictOf (BK X.prog X.w) p vs:=I.hok p _ hx
      have hlen:kvs.length=vs.length:=Paired.length r
      exact wpAny_truthy_dict hS m (by omega) ⟨H,I.tok _,by rw [LH r]; exact q⟩
  | _=>exact (show False from e).elim
theorem Od (ha:PE X a ta) (he:∀ whole,isTrue a X.env whole=(do let v ← whole; standAt a.pos; holding [v] (truthy v))) :
    PT X a (fun σ H Q=>ta σ H fun x H'=>∃ k,VS X.K x H' k /\ Q k H'):=by
  intro pins s σ H Q I h
  exact isTrue_plain (thn (ha pins s σ H _ I h) fun v s1 ⟨x,H1,I1,r1,q1⟩=>SV pins s1 σ H1 x v Q I1 r1 q1) (he _)
theorem K8:OpR X (binaryOp .Add) (fun x y H Q=>∃ i j,x=.str i /\ y=.str j /\ i.length + j.length <= sizeLine /\ Q (.str (i ++ j)) H):=by
  intro pins s σ H x y v u Q I rx ry h
  obtain ⟨i,j,rfl,rfl,hz,q⟩:=h
  obtain ⟨t,rfl⟩:=rx
  obtain ⟨t',rfl⟩:=ry
  exact add_str (fun t' tk=>⟨.str (i ++ j),H,I.tok _,⟨_,rfl⟩,q⟩) hz
theorem GW {x:V} {us:List Value} (r:Vals [x] us):∃ u,us=[u] /\ RelV x u:=by
  cases r with
  | cons r1 r2=>cases r2; exact ⟨_,rfl,r1⟩
theorem UF {x y:V} {us:List Value} (r:Vals [x,y] us):∃ u w',us=[u,w'] /\ RelV x u /\ RelV y w':=by
  cases r with
  | cons r1 r2=>
    cases r2 with
    | cons r3 r4=>cases r4; exact ⟨_,_,rfl,r1,r3⟩
def V5 (K:PySem.W.Frag) (x:V) (H:Hp) (n:Nat):Prop:=
  match x with
  | .str y=>y.length <= sizeLine /\ n=y.length
  | .byt y=>y.size <= sizeLine /\ n=y.size
  | .ref p=>(∃ xs,SqL K H p xs /\ n=xs.length) ∨ ∃ xs,SqT K H p xs /\ n=xs.length
  | _=>False
theorem P6:CF X (.builtin "len") (fun xs H Q=>∃ x n,xs=[x] /\ V5 X.K x H n /\ Q (.int n) H):=by
  intro pins s σ H xs us Q I r h
  obtain ⟨x,n,rfl,e,q⟩:=h
  obtain ⟨u,rfl,rx⟩:=GW r
  have hl:=Fc
  have hs:sizeLine=16777216:=sizeLine_eq
  cases x with
  | str y=>
    obtain ⟨t,rfl⟩:=rx
    obtain ⟨hy,e'⟩:y.length <= sizeLine /\ n=y.length:=e
    subst e'
    exact len_str (by omega) ⟨.int _,H,I.tok _,⟨_,rfl⟩,q⟩
  | byt y=>
    obtain ⟨t,rfl⟩:=rx
    obtain ⟨hy,e'⟩:y.size <= sizeLine /\ n=y.size:=e
    subst e'
    exact PySem.W.len_bytes (by omega) ⟨.int _,H,I.tok _,⟨_,rfl⟩,q⟩
  | ref p=>
    cases rx
    have e':(∃ xs,SqL X.K H p xs /\ n=xs.length) ∨ ∃ xs,SqT X.K H p xs /\ n=xs.length:=e
    rcases e' with ⟨xs,hx,e'⟩ | ⟨xs,hx,e'⟩
    . subst e'
      obtain ⟨its,r',pl,hz⟩:=I.list hx
      have hlen:=r'.length
      exact Calls.call_len_list pl.isList (by simp only [List.size_toArray]; omega) ⟨.int xs.length,H,I.tok _,⟨_,by simp only [List.size_toArray]; rw [hlen]⟩,q⟩
    . subst e'
      obtain ⟨its,r',pl,hz⟩:=I.tuple hx
      have hlen:=r'.length
      exact len_tuple pl (by simp only [List.size_toArray]; omega) ⟨.int xs.length,H,I.tok _,⟨_,by simp only [List.size_toArray]; rw [hlen]⟩,q⟩
  | _=>exact (show False from e).elim
end
end L2
namespace L2
open PySem PySem.Spec PyProof.Rows
structure ObjM (h:Heap) (x dx C:Addr) (mA:Str->Option Value):Prop where
  obj:h.get? x=some (PySem.W.instObj C dx)
  ns:h.Ns1 dx mA
  ne:dx ≠ x
theorem NP {h:Heap} {dx:Addr} {mA:Str->Option Value} (n:h.Ns1 dx mA):∃ od,h.get? dx=some od /\ ∀ name,PySem.W.lookIn name od=some (mA name):=by
  obtain ⟨o,es,ep,ho,hd,hk,_,hm⟩:=n
  refine ⟨o,ho,fun name=>?_⟩
  have e:=hm name
  unfold nsFind findBy at e
  rw [← Array.find?_toList] at e
  unfold PySem.W.lookIn
  rw [hd]
  dsimp only
  split
  . rename_i y q
    rw [q] at e
    exact congrArg some e
  . rename_i q
    rw [q] at e
    have a:es.toList.any (·.refKey)=false:=by
      rw [List.any_eq_false]
      intro y hy
      obtain ⟨z,t,hkey⟩:=hk y (Array.mem_toList_iff.mp hy)
      simp [DictEntry.refKey,hkey]
    have a' : ¬ es.toList.any (·.refKey)=true:=by rw [a]; exact Bool.false_ne_true
    rw [if_neg a']
    exact congrArg some e
theorem ObjM.look {h:Heap} {x dx C:Addr} {mA:Str->Option Value} (I:ObjM h x dx C mA):∃ od,PySem.W.InstAt h x (PySem.W.instObj C dx) C (some od) /\ ∀ name,PySem.W.lookIn name od=some (mA name):=
  let ⟨od,ho,hl⟩:=NP I.ns
  ⟨od,⟨I.obj,rfl,rfl,ho⟩,hl⟩
section
variable {prog:Program} {w:World} {A:Around} {E:Value->Shared->Prop} {s:Shared} {K:PySem.W.Frag} {x dx C f:Addr} {mA:Str->Option Value} {name:Str} {v:Value}
end
theorem RelO.some_of {v:V} {o:Option Value} (r:RelO (some v) o):∃ u,o=some u /\ RelV v u:=by
  cases o with
  | none=>exact (show False from r).elim
  | some u=>exact ⟨u,rfl,r⟩
section
variable {P:Program} {w:World} {H H':Hp} {h h':Heap} {a C dx:Addr} {fs fs':List (Str × V)}
theorem Rg (hok:HOk P w H h) (e:H a=some (.ins C dx fs)):∃ mA,ObjM h a dx C mA /\ (∀ f,RelO (fs.lookup f) (mA f)) /\ PySem.Within mA (fs.map (·.1)) /\ fs.length <= 1000 /\ H dx=some (.own a):=by
  obtain ⟨d,z,ne,ob,mA,n,r,q⟩:=(show ObjOk P w H h a (.ins C dx fs) from hok a _ e)
  exact ⟨mA,⟨ob,n,ne⟩,r,q,z,d⟩
end
structure Cls (K:PySem.W.Frag) (C:Addr):Prop where
  pg:PySem.W.plainGet K C Str.empty=true
  hd:PySem.W.hasDictIn K C=true
  po:PySem.W.plainOver K C=true
  sa:PySem.W.findIn K (.ref C) "__setattr__" = some (some (.builtin "object.__setattr__"))
theorem Cls.get {K:PySem.W.Frag} {C:Addr} (c:Cls K C) (f:Str):PySem.W.plainGet K C f=true:=c.pg
section
variable {X:Cx} {pins:List (Addr × Obj)} {σ:St} {H:Hp} {s:Shared} {a C dx:Addr} {fs:List (Str × V)} {f:Str} {v:V} {A:Around} {E:Value->Shared->Prop}
end
section
variable {X:Cx} {o e value:Expr} {f:Str} {pos pos' tpos:Pos} {ta tv:TE}
end
section
variable {X:Cx} {pins:List (Addr × Obj)} {σ:St} {H:Hp} {s:Shared} {A:Around} {E:Value->Shared->Prop} {Q:Value->Shared->Prop} {c:Value} {b:Bool}
inductive FV (K:PySem.W.Frag) (H:Hp):V->Value->Prop where
  | non:FV K H .non (.type "NoneType")
  | bl (x:Bool):FV K H (.bl x) (.type "bool")
  | int (i:Int):FV K H (.int i) (.type "int")
  | str (x:Str):FV K H (.str x) (.type "str")
  | flt (x:UInt64):FV K H (.flt x) (.type "float")
  | lst {a:Addr} {xs:List V} (e:H a=some (.lst xs)):FV K H (.ref a) (.type "list")
  | frz {a:Addr} {o:Obj} {xs:List V} (e:H a=some (.frz o (.lst xs))):FV K H (.ref a) (.type "list")
  | tup {a:Addr} {xs:List V} (e:H a=some (.tup xs)):FV K H (.ref a) (.type "tuple")
  | dK {a:Addr} {kvs:List (Key × V)} (e:H a=some (.dK kvs)):FV K H (.ref a) (.type "dict")
  | dT {a:Addr} {kvs:List (List Key × V)} (e:H a=some (.dT kvs)):FV K H (.ref a) (.type "dict")
  | ins {a C dx:Addr} {fs:List (Str × V)} (e:H a=some (.ins C dx fs)) (cl:Cls K C) (ha:PySem.W.findIn K (.ref C) "__class__" = some (some (.builtin "object.__class__")))
      (hn:PySem.W.specialIn K (.builtin "object.__class__") "__get__" = some (some (.builtin "getset_descriptor.__get__"))) (htk:PySem.W.takesIn K (.builtin "object.__class__")=some true)
      (hm:PySem.W.mroIn K C (.type "object")=some true):FV K H (.ref a) (.ref C)
theorem NU {x:V} {u t:Value} (I:Inv X pins σ H s) (rx:RelV x u) (ty:FV X.K H x t) (e:PySem.W.kitOne X.K t c=some b) (h:∀ tk,Q (.bool b) { s with toks:=tk }) :
    wpAny (model X.prog X.w) A (call (.builtin "isinstance") [u,c]) Q E s:=by
  cases ty with
  | non=>cases (show u=Value.none from rx); exact PySem.W.kia_one PySem.W.kitx_none I.kIn True.intro e (fun z=>nomatch z) h
  | bl y=>cases (show u=Value.bool y from rx); exact PySem.W.kia_one PySem.W.kitx_bool I.kIn True.intro e (fun z=>nomatch z) h
  | int i=>obtain ⟨t,q⟩:=(show ∃ t,u=Value.int i t from rx); cases q; exact PySem.W.kia_one PySem.W.kitx_int I.kIn True.intro e (fun z=>nomatch z) h
  | str y=>obtain ⟨t,q⟩:=(show ∃ t,u=Value.str y t from rx); cases q; exact PySem.W.kia_one PySem.W.kitx_str I.kIn True.intro e (fun z=>nomatch z) h
  | flt y=>obtain ⟨t,q⟩:=(show ∃ t,u=Value.float y t from rx); cases q; exact PySem.W.kia_one PySem.W.kitx_float I.kIn True.intro e (fun z=>nomatch z) h
  | @lst a xs ea=>
    cases (show u=Value.ref a from rx)
    obtain ⟨_,_,n,_,h1⟩:=(show ObjOk X.prog X.w H s.heap a (.lst xs) from I.hok a _ ea)
    exact PySem.W.kia_one PySem.W.kitx_list I.kIn ⟨_,h1,rfl⟩ e (fun z=>nomatch z) h
  | @frz a ob xs ea=>
    cases (show u=Value.ref a from rx)
    obtain ⟨_,_,_,n,_,h1⟩:=(show ObjOk X.prog X.w H s.heap a (.frz ob (.lst xs)) from I.hok a _ ea)
    exact PySem.W.kia_one PySem.W.kitx_list I.kIn ⟨_,h1,rfl⟩ e (fun z=>nomatch z) h
  | @tup a xs ea=>
    cases (show u=Value.ref a from rx)
    obtain ⟨_,_,_,p⟩:=(show ObjOk X.prog X.w H s.heap a (.tup xs) from I.hok a _ ea)
    obtain ⟨o,h1,h2,_⟩:=p
    exact PySem.W.kia_one PySem.W.kitx_tuple I.kIn ⟨o,h1,h2⟩ e (fun z=>nomatch z) h
  | @dK a kvs ea=>
    cases (show u=Value.ref a from rx)
    obtain ⟨_,_,vs,_,p⟩:=(show ObjOk X.prog X.w H s.heap a (.dK kvs) from I.hok a _ ea)
    obtain ⟨o,es,ep,h1,h2,_⟩:=p
    exact PySem.W.kia_one PySem.W.kitx_dict I.kIn ⟨o,h1,h2.1⟩ e (fun z=>nomatch z) h
  | @dT a kvs ea=>
    cases (show u=Value.ref a from rx)
    obtain ⟨_,_,xs,_,o,es,ep,h1,h2,_⟩:=(show ObjOk X.prog X.w H s.heap a (.dT kvs) from I.hok a _ ea)
    exact PySem.W.kia_one PySem.W.kitx_dict I.kIn ⟨o,h1,h2.1⟩ e (fun z=>nomatch z) h
  | @ins a C dx fs ea cl ha hn htk hm=>
    cases (show u=Value.ref a from rx)
    obtain ⟨mA,O,_⟩:=Rg I.hok ea
    obtain ⟨od,J,_⟩:=O.look
    exact PySem.W.kia_one (PySem.W.kitx_own (cl.get _) cl.hd ha hn htk hm) I.kIn J e (fun z=>nomatch z) h
end
end L2
namespace L2
open PySem PySem.Spec PyProof.Rows
structure Room (k:Nat) (A:Around):Prop where
  hd:A.handled=none
  dp:A.depth + 3 * k + 5 < recursionLimit
  un:A.units + 16 * k + 200 < cLine
theorem Room.mono {j k:Nat} {A:Around} (r:Room k A) (h:j <= k):Room j A:=⟨r.hd,by have:=r.dp; omega,by have:=r.un; omega⟩
theorem Room.deeper {k:Nat} {A:Around} (r:Room (k + 1) A) (env:Env):Room k (A.deeper env):=
  ⟨r.hd,by have:=r.dp; show A.depth + 1 + 3 * k + 5 < _; omega,by have:=r.un; show A.units + 3 + 16 * k + 200 < _; omega⟩
theorem Room.depth {k:Nat} {A:Around} (r:Room k A):A.depth < recursionLimit:=by have:=r.dp; omega
theorem Room.units {k:Nat} {A:Around} (r:Room k A):A.units + 64 < cLine:=by have:=r.un; omega
def Va:TA:=fun _ H Q=>Q [] H
def UV (ta:TE) (tr:TA):TA:=fun σ H Q=>ta σ H fun x H1=>tr σ H1 fun xs H2=>Q (x :: xs) H2
section
variable {X:Cx} {e:Expr} {es:List Expr} {te:TE} {t:TA} {pos:Pos}
theorem Gy:PA X [] Va:=fun _ _ _ _ H Q I h=>Calls.spliced_nil ⟨[],H,I,.nil,h⟩
theorem FE (ha:PE X e te) (hr:PA X es t) (hs:starEach (e :: es) X.env=(false,eval e X.env) :: starEach es X.env:=by rfl):PA X (e :: es) (UV te t):=by
  intro pos pins s σ H Q I h
  rw [hs]
  show wpAny _ _ (spliced ((false,eval e X.env) :: backTo pos (starEach es X.env))) _ _ s
  refine Calls.spliced_cons (thn (ha pins s σ H _ I h) fun u s1 ⟨x,H1,I1,r1,q1⟩=>?_)
  exact thn (hr pos pins s1 σ H1 _ I1 q1) fun us s2 ⟨xs,H2,I2,r2,q2⟩=>⟨x :: xs,H2,I2,.cons r1 r2,q2⟩
def VW (t:TA):TE:=fun σ H Q=>t σ H fun xs H1=>xs.length <= sizeLine /\ ∀ p,H1 p=none->Q (.ref p) (upd H1 p (.tup xs))
def Vb (t:TA):TE:=fun σ H Q=>t σ H fun xs H1=>xs.length <= sizeLine /\ ∀ p,H1 p=none->Q (.ref p) (upd H1 p (.lst xs))
theorem TF {x1} (h:PA X es t):PE X (.Tuple es x1 pos) (VW t):=by
  intro pins s σ H Q I hq
  refine wpAny_Tuple_spliced (thn (h pos pins s σ H _ I hq) fun us s1 ⟨xs,H1,I1,r,z,q⟩=>⟨by rw [← r.length]; exact z,?_⟩)
  have hf:H1 s1.heap.objs.size=none:=I1.hok.fresh (Nat.le_refl _)
  refine ⟨.ref s1.heap.objs.size,upd H1 s1.heap.objs.size (.tup xs),I1.laid (t':=s1.toks) (fun b u e=>Heap.get?_push_of_some _ e) (Nat.le_refl _) ?_,rfl,q _ hf⟩
  exact ⟨z,us,r,⟨_,Heap.get?_push_size _ rfl,rfl,_,rfl⟩⟩
theorem Oq (h:PA X es t):PE X (.List es pos) (Vb t):=by
  intro pins s σ H Q I hq
  refine wpAny_List_spliced (thn (h pos pins s σ H _ I hq) fun us s1 ⟨xs,H1,I1,r,z,q⟩=>⟨by rw [← r.length]; exact z,?_⟩)
  have hf:H1 s1.heap.objs.size=none:=I1.hok.fresh (Nat.le_refl _)
  refine ⟨.ref s1.heap.objs.size,upd H1 s1.heap.objs.size (.lst xs),I1.laid (t':=s1.toks) (fun b u e=>Heap.get?_push_of_some _ e) (Nat.le_refl _) ?_,rfl,q _ hf⟩
  exact ⟨z,us,0,r,Heap.get?_push_size _ rfl⟩
end
abbrev Sp:=List V->Hp->VK->XK->Prop
abbrev CXT:=List Env->Hp->Shared->XK->Value->Shared->Prop
structure Rz (P:Program) (w:World) (K:PySem.W.Frag) (mg:Str->Option Value) (base:Heap) (A:Around) (outer:List Env) (s:Shared) (H:Hp):Prop where
  frames:A.frames=some outer
  mod:Mod K mg base
  bs:∀ b o,base.get? b=some o->s.heap.get? b=some o /\ H b=none
  bsz:base.objs.size <= s.heap.objs.size
  funs:s.heap.FunFrames base outer
  frf:∀ b ∈ frs outer,H b=none
  hok:HOk P w H s.heap
  bare:AllBare s.gens
def CE (outer:List Env) (P:Program) (w:World) (H:Hp) (s:Shared) (Q:VK) (u:Value) (s':Shared):Prop:=
  ∃ v H',s'.os=s.os /\ AllBare s'.gens /\ Un (frs outer) [] H H' s.heap s'.heap /\ HOk P w H' s'.heap /\ RelV v u /\ Q v H'
def CR (CX:CXT) (outer:List Env) (P:Program) (w:World) (H:Hp) (s:Shared) (Q:VK) (E:XK) (r:Result) (s':Shared):Prop:=
  match r with
  | .ok (.ret u)=>CE outer P w H s Q u s'
  | .ok _=>False
  | .error e=>CX outer H s E e s'
structure FnOk (P:Program) (w:World) (K:PySem.W.Frag) (mg:Str->Option Value) (base:Heap) (CX:CXT) (k:Nat) (f:Addr) (fd:FuncData) (ps:List Str) (sp:Sp):Prop where
  len:∀ vs H Q E,sp vs H Q E->vs.length=ps.length
  run:∀ (A:Around) (outer:List Env) (s:Shared) (H:Hp) (args:Args) (us:List Value) (vs:List V) (Q:VK) (E:XK),Room k A->Rz P w K mg base A outer s H->BindsTo s fd args (ps.zip us)->Vals vs us->sp vs H Q E->
    codeAny (model P w) A (.call (.ref f) args) (CR CX outer P w H s Q E) s
theorem FnOk.imp {P:Program} {w:World} {K:PySem.W.Frag} {mg:Str->Option Value} {base:Heap} {CX:CXT} {k:Nat} {f:Addr} {fd:FuncData} {ps:List Str} {sp sp':Sp} (F:FnOk P w K mg base CX k f fd ps sp)
    (h:∀ vs H Q E,sp' vs H Q E->sp vs H Q E):FnOk P w K mg base CX k f fd ps sp':=
  ⟨fun vs H Q E q=>F.len vs H Q E (h _ _ _ _ q),fun A outer s H args us vs Q E hr he hb hv hs=>F.run A outer s H args us vs Q E hr he hb hv (h _ _ _ _ hs)⟩
section
variable {X:Cx} {pins:List (Addr × Obj)} {σ:St} {H:Hp} {s s':Shared}
theorem Inv.env0 (I:Inv X pins σ H s):Rz X.prog X.w X.K X.mg X.base X.A X.stack s H:=
  ⟨I.ok.frames,I.ok.mod,I.bs,Nat.le_trans I.ok.bsz I.sz,I.stack,I.stkFree,I.hok,I.bare⟩
theorem Inv.after {Q:VK} {u:Value} (I:Inv X pins σ H s) (h:CE X.stack X.prog X.w H s Q u s'):EP X pins σ Q u s':=by
  obtain ⟨v,H',os,bare,un,hok,r,q⟩:=h
  obtain ⟨hh,g,d,t,os'⟩:=s'
  obtain rfl:os'=s.os:=os
  exact ⟨v,H',I.call (h':=hh) (g':=g) (d':=d) (t':=t) (ch:=[]) un hok bare (fun b z=>absurd z (by simp)),r,q⟩
end
def UW (sp:Sp) (dvs:List V) (E:XK) (t:TA):TE:=fun σ H Q=>t σ H fun vs H1=>sp (vs ++ dvs) H1 Q E
def Binds (K:PySem.W.Frag) (fd:FuncData) (ps:List Str) (ds:List Value):Prop:=
  ∀ (s:Shared) (us:List Value),K.In s.heap->(us ++ ds).length=ps.length->BindsTo s fd ⟨us,[]⟩ (ps.zip (us ++ ds))
theorem Binds.all {K:PySem.W.Frag} {fd:FuncData} {ps:List Str} (h:∀ us:List Value,us.length=ps.length->bindArgs fd ⟨us,[]⟩=pure (ps.zip us)):Binds K fd ps []:=fun s us _ hl=>by
  rw [List.append_nil] at hl ⊢
  exact .of_eq (h us hl)
def LX (CX:CXT) (X:Cx) (E:XK):Prop:=∀ (pins:List (Addr × Obj)) (σ:St) (H:Hp) (s:Shared) (e:Value) (s':Shared),Inv X pins σ H s->CX X.stack H s E e s'->X.xe e s'
section
variable {X:Cx} {CX:CXT} {k:Nat} {f C:Addr} {fd:FuncData} {ps:List Str} {sp:Sp} {dvs:List V} {ds:List Value} {E:XK} {x m:Str} {p pos apos:Pos} {e o:Expr} {es:List Expr} {ta:TE} {t:TA}
theorem Sk {pins:List (Addr × Obj)} {σ:St} {H:Hp} {s:Shared} {Q:VK} {us:List Value} {vs:List V} (F:FnOk X.prog X.w X.K X.mg X.base CX k f fd ps sp) (hr:Room k X.A) (hb:Binds X.K fd ps ds) (hd:Vals dvs ds) (hx:LX CX X E)
    (I:Inv X pins σ H s) (r:Vals vs us) (h:sp (vs ++ dvs) H Q E):wpAny (model X.prog X.w) X.A (call (.ref f) us) (EP X pins σ Q) X.xe s:=by
  have r2:Vals (vs ++ dvs) (us ++ ds):=r.append hd
  have hl:(us ++ ds).length=ps.length:=by rw [← r2.length]; exact F.len _ _ _ _ h
  refine wpAny_call (codeAny_mono (F.run X.A X.stack s H ⟨us,[]⟩ (us ++ ds) (vs ++ dvs) Q E hr I.env0 (hb s us I.kIn hl) r2 h) fun r s' hq=>?_)
  cases r with
  | error e=>exact hx pins σ H s e s' I hq
  | ok fl=>
    cases fl with
    | ret u=>exact I.after hq
    | next=>exact False.elim hq
    | brk=>exact False.elim hq
    | cont=>exact False.elim hq
theorem Q7 (F:FnOk X.prog X.w X.K X.mg X.base CX k f fd ps sp) (hr:Room k X.A) (hg:Gl X x) (hm:X.mg x=some (.ref f)) (hk:PySem.W.keepIn X.K (.ref f)=true) (hb:Binds X.K fd ps ds) (hd:Vals dvs ds) (hx:LX CX X E)
    (ha:PA X (e :: es) t) (hdb:(x == ("__debug__" : Str))=false:=by decide) (he:starEach (e :: es) X.env=(false,eval e X.env) :: starEach es X.env:=by rfl) (hpl:(backTo pos (starEach es X.env)).any (·.1)=false:=by rfl) :
    PE X (.Call (.Name x p) (e :: es) [] pos) (UW sp dvs E t):=by
  intro pins s σ H Q I h
  refine wpAny_Call_Name_kw (MD I hg hm ?_ hdb)
  refine PySem.W.callWith_K (h₀:=X.base) I.ok.mod.kin hk (thn (ha pos pins s σ H _ I h) fun us s1 ⟨vs,H1,I1,r,q⟩=>⟨I1.kIn,?_⟩) he hpl
  exact Sk F hr hb hd hx I1 r q
end
section
variable {X:Cx} {CX:CXT} {k:Nat} {f C:Addr} {fd:FuncData} {ps ks:List Str} {sp:Sp} {E:XK} {x m:Str} {p pos apos kpos:Pos} {e o:Expr} {es:List Expr} {kws:List Keyword} {te ta:TE} {t tk:TA} {nm:Option Str}
variable {g:List Value->List Value->List Value} {gV:List V->List V->List V}
end
structure Ag (N P:List Str) (sc:Scope):Prop where
  kind:sc.kind=.function
  co:sc.isCoroutine=false
  gen:sc.isGenerator=false
  nd:N.Nodup
  pre:N.take P.length=P
  par:∀ x ∈ P,sc.names.lookup x=some .local ∨ sc.names.lookup x=some .cell
  nofree:∀ y ∈ sc.names,y.2 ≠ .free
theorem Ih {kindOf:Str->Option NameKind} {x:Str}:∀ {binds:List (Str × Value)} {m:Str->Option Value},(∀ v,(x,v) ∉ binds)->bindL kindOf binds m x=m x
  | [],_,_=>rfl
  | (n,v) :: r,m,h=>by
    unfold bindL
    rw [Ih fun w hw=>h w (List.mem_cons_of_mem _ hw)]
    split
    . have:x ≠ n:=by rintro rfl; exact h v List.mem_cons_self
      simp [this]
    . rfl
theorem Ij {kindOf:Str->Option NameKind} {x:Str}:∀ {binds:List (Str × Value)} {m:Str->Option Value},(∀ v,(x,v) ∉ binds)->bindC kindOf binds m x=m x
  | [],_,_=>rfl
  | (n,v) :: r,m,h=>by
    unfold bindC
    rw [Ij fun w hw=>h w (List.mem_cons_of_mem _ hw)]
    split
    . rfl
    . have:x ≠ n:=by rintro rfl; exact h v List.mem_cons_self
      simp [this]
theorem Ii {kindOf:Str->Option NameKind} {x:Str} {v:Value}:∀ {P:List Str} {vs:List Value} {i:Nat} {m:Str->Option Value},P.Nodup->P[i]? = some x->vs[i]? = some v->kindOf x=some .local->
    bindL kindOf (P.zip vs) m x=some v
  | [],_,_,_,_,h,_,_=>by simp at h
  | _ :: _,[],_,_,_,_,h,_=>by simp at h
  | p :: P,w :: vs,0,m,nd,h1,h2,hk=>by
    simp at h1 h2; subst h1; subst h2
    show bindL kindOf ((p,w) :: P.zip vs) m p=_
    unfold bindL
    rw [Ih fun v hv=>(List.nodup_cons.mp nd).1 (List.of_mem_zip hv).1,if_pos hk]
    simp
  | p :: P,w :: vs,i + 1,m,nd,h1,h2,hk=>by
    show bindL kindOf ((p,w) :: P.zip vs) m x=_
    unfold bindL
    exact Ii (i:=i) (List.nodup_cons.mp nd).2 (by simpa using h1) (by simpa using h2) hk
theorem Ik {kindOf:Str->Option NameKind} {x:Str} {v:Value}:∀ {P:List Str} {vs:List Value} {i:Nat} {m:Str->Option Value},P.Nodup->P[i]? = some x->vs[i]? = some v->kindOf x ≠ some .local->
    bindC kindOf (P.zip vs) m x=some v
  | [],_,_,_,_,h,_,_=>by simp at h
  | _ :: _,[],_,_,_,_,h,_=>by simp at h
  | p :: P,w :: vs,0,m,nd,h1,h2,hk=>by
    simp at h1 h2; subst h1; subst h2
    show bindC kindOf ((p,w) :: P.zip vs) m p=_
    unfold bindC
    rw [Ij fun v hv=>(List.nodup_cons.mp nd).1 (List.of_mem_zip hv).1,if_neg hk]
    simp
  | p :: P,w :: vs,i + 1,m,nd,h1,h2,hk=>by
    show bindC kindOf ((p,w) :: P.zip vs) m x=_
    unfold bindC
    exact Ik (i:=i) (List.nodup_cons.mp nd).2 (by simpa using h1) (by simpa using h2) hk
def start (N:List Str) (vs:List V):St:=vs.map some ++ List.replicate (N.length - vs.length) none
def BT (CX:CXT) (P:Program) (w:World) (K:PySem.W.Frag) (mg:Str->Option Value) (base:Heap) (N:List Str) (qual:Str) (scope:Scope) (f:Addr) (cd:Value) (A:Around) (outer:List Env) (s:Shared) (H:Hp) (E:XK):Cx where
  prog:=P
  w:=w
  K:=K
  mg:=mg
  base:=base
  A:=A.deeper (envOfC qual scope s.heap.objs.size f cd)
  N:=N
  s₀:=s
  H₀:=H
  env:=envOfC qual scope s.heap.objs.size f cd
  outer:=outer
  stack:=envOfC qual scope s.heap.objs.size f cd :: outer
  ex:=[]
  calm:=true
  fn:=fun _=>true
  pn:=[]
  xe:=fun e s'=>wpAny (model P w) (A.deeper (envOfC qual scope s.heap.objs.size f cd)) (leaving (envOfC qual scope s.heap.objs.size f cd) e) (fun _ s''=>CX outer H s E e s'') (fun e' s''=>CX outer H s E e' s'') s'
theorem Kc {sc:Scope} {n:Nat} {x:Str} (h:sc.names.lookup x=some .cell):∃ c,(cellsFrom n sc.names []).lookup x=some c:=by
  have q:=PySem.W.cellsFrom_some sc.names n [] (.inl h)
  exact Option.isSome_iff_exists.mp q
theorem Eh {CX:CXT} {P:Program} {w:World} {K:PySem.W.Frag} {mg:Str->Option Value} {base:Heap} {N ps:List Str} {qual:Str} {scope:Scope} {f:Addr} {cd:Value} {A:Around} {outer:List Env} {s s1:Shared} {H:Hp} {E:XK} {us:List Value} {vs:List V}
    (S:Ag N ps scope) (hd:A.handled=none) (e0:Rz P w K mg base A outer s H) (hl:vs.length=ps.length) (r:Vals vs us)
    (x:InCallC s s.heap.objs.size (bindL (envOfC qual scope s.heap.objs.size f cd).kindOf (ps.zip us) fun _=>none) (cellsFrom (s.heap.objs.size + 1) scope.names []) (bindC (envOfC qual scope s.heap.objs.size f cd).kindOf (ps.zip us) fun _=>none) s1) :
    Inv (BT CX P w K mg base N qual scope f cd A outer s H E) [] (start N vs) H s1:=by
  have hpl:ps.length <= N.length:=by have:=congrArg List.length S.pre; rw [List.length_take] at this; omega
  obtain ⟨h1,tk,rfl,hk⟩:=x.done
  have noA:∀ b:Addr,b ∉ (BT CX P w K mg base N qual scope f cd A outer s H E).ex:=fun b z=>absurd (show b ∈ ([]:List Addr) from z) (by simp)
  refine ⟨⟨e0.mod,S.kind,rfl,rfl,Nat.le_refl _,fun y z c h1 h2=>?_,fun y hy=>?_,fun y c _ h=>?_,fun _=>hd,Around.frames_deeper e0.frames,.inr ⟨rfl,rfl⟩,fun b z=>absurd z (noA b),e0.bs,e0.bsz,fun b _ _=>noA b,fun b z=>absurd z (noA b),e0.funs,e0.frf⟩,
    rfl,e0.bare,Un.kept hk,⟨_,x.toInCall.ns,fun i y v h1 h2 h3=>?_⟩,fun y c h=>⟨_,x.cell y c h⟩,e0.hok.fresh (Nat.le_refl _),fun y c h=>?_,fun p hp=>absurd (show p ∈ ([]:List (Addr × Obj)) from hp) (by simp),e0.hok.kept hk,?_⟩
  . exact name_of_addr x.apart (PySem.mem_of_lookup h1) (PySem.mem_of_lookup h2)
  . have hy:scope.names.lookup y=some .cell ∨ scope.names.lookup y=some .free:=hy
    rcases hy with hy | hy
    . exact Kc hy
    . exact absurd rfl (S.nofree _ (PySem.mem_of_lookup hy))
  . exact Nat.le_of_lt (x.above y c (PySem.mem_of_lookup h))
  . have hi:i < vs.length:=by
      unfold start at h2
      by_cases hi:i < vs.length
      . exact hi
      . rw [List.getElem?_append_right (by simpa using hi)] at h2
        rw [List.getElem?_replicate] at h2
        split at h2 <;> cases h2
    have ha:vs[i]? = some v:=by
      unfold start at h2
      rw [List.getElem?_append_left (by simpa using hi),List.getElem?_map] at h2
      cases e:vs[i]? with
      | none=>rw [e] at h2; cases h2
      | some a=>rw [e] at h2; cases h2; rfl
    obtain ⟨u,hu,rv⟩:=r.get ha
    have hp:ps[i]? = some y:=by
      rw [← S.pre,List.getElem?_take_of_lt (by omega)]; exact h1
    have ndP:ps.Nodup:=by rw [← S.pre]; exact S.nd.sublist (List.take_sublist _ _)
    refine ⟨u,rv,?_⟩
    rcases S.par y (List.mem_of_getElem? hp) with k | k
    . exact .inl ⟨k,Ii ndP hp hu k⟩
    . obtain ⟨c,e⟩:=Kc (n:=s.heap.objs.size + 1) k
      refine .inr ⟨.inl k,c,e,?_⟩
      have q:=x.cell y c e
      rw [Ik ndP hp hu (by show scope.names.lookup y ≠ _; rw [k]; decide)] at q
      exact q
  . exact e0.hok.fresh (Nat.le_of_lt (x.above y c (PySem.mem_of_lookup h)))
  . unfold start
    show _=N.length
    rw [List.length_append,List.length_map,List.length_replicate]
    omega
theorem VJ {CX:CXT} {P:Program} {w:World} {K:PySem.W.Frag} {mg:Str->Option Value} {base:Heap} {k:Nat} {f:Addr} {name qual:Str} {params:Arguments} {body:List Stmt} {scope:Scope} {dV kV doc pm cdv ct oc:Value} {an od:Option Addr}
    {osl:Array (Option Value)} {N ps:List Str} {sp:Sp} (lk:K.lookup f=some ⟨oc,od,.func (PySem.W.fnOf name qual params body scope dV kV doc pm an cdv ct),osl⟩) (hcd:PySem.W.codeIn K cdv qual=true) (S:Ag N ps scope)
    (len:∀ vs H Q E,sp vs H Q E->vs.length=ps.length)
    (hbody:∀ (A:Around) (outer:List Env) (s:Shared) (H:Hp) (vs:List V) (Q:VK) (E:XK),Room k (A.deeper (envOfC qual scope s.heap.objs.size f cdv))->sp vs H Q E->
      ∃ t,PSs (BT CX P w K mg base N qual scope f cdv A outer s H E) body t /\ t { nx:=fun _ H'=>Q .non H',rt:=Q } (start N vs) H) :
    FnOk P w K mg base CX (k + 1) f (PySem.W.fnOf name qual params body scope dV kV doc pm an cdv ct) ps sp:=by
  refine ⟨len,fun A outer s H args us vs Q E hr e0 hb r hsp=>?_⟩
  have hl:=len _ _ _ _ hsp
  have KX:K.In s.heap:=e0.mod.kin.keeps fun b o e=>(e0.bs b o e).1
  have lim:s.heap.NoLimit:=e0.mod.nolimit.keeps fun b o e=>(e0.bs b o e).1
  have hkind:∀ y ∈ ps.zip us,scope.names.lookup y.1=some .local ∨ (scope.names.lookup y.1=some .cell /\ ((cellsFrom (s.heap.objs.size + 1) scope.names []).lookup y.1).isSome=true):=fun ⟨n,v⟩ hy=>by
    rcases S.par n (List.of_mem_zip hy).1 with q | q
    . exact .inl q
    . exact .inr ⟨q,PySem.W.cellsFrom_some _ _ _ (.inl q)⟩
  refine codeAny_call_function hr.depth (KX _ _ lk) rfl S.co S.gen rfl (PySem.W.codeRec_of KX hcd) (hb _ _ _ _ ?_)
  refine wpAny_newFunctionEnv_cells S.kind hkind fun env he s1 x=>?_
  subst he
  refine ⟨lim.keeps x.toInCall.keep,codeAny_func ?_⟩
  obtain ⟨t,ht,hq⟩:=hbody A outer s H vs Q E (hr.deeper _) hsp
  have I:Inv (BT CX P w K mg base N qual scope f cdv A outer s H E) [] (start N vs) H s1:=Eh S hr.hd e0 hl r x
  refine wpAny_mono (ht [] s1 (start N vs) H _ I hq) (fun fl s' hs=>?_) fun e s' hs=>hs
  have fin:∀ {σ':St} {H':Hp} {v:V} {u:Value},Inv (BT CX P w K mg base N qual scope f cdv A outer s H E) [] σ' H' s'->RelV v u->Q v H'->CE outer P w H s Q u s':=
    fun {σ' H' v u} J rv q=>⟨v,H',J.os,J.bare,J.base,J.hok,rv,q⟩
  cases fl with
  | ret u=>
    obtain ⟨v,σ',H',J,rv,q⟩:=hs
    exact fin J rv q
  | next=>
    obtain ⟨σ',H',J,q⟩:=hs
    exact fin (v:=V.non) (u:=Value.none) J rfl q
  | brk=>
    obtain ⟨_,_,_,q⟩:=hs
    exact False.elim q
  | cont=>
    obtain ⟨_,_,_,q⟩:=hs
    exact False.elim q
end L2
namespace L2
open PySem PySem.Spec PyProof.Rows
section
variable {X:Cx} {x:Str} {p pos:Pos} {e:Expr} {es:List Expr} {t:TA} {id T:String} {r:List V->Hp->VK->Prop}
def tCB (r:List V->Hp->VK->Prop) (t:TA):TE:=fun σ H Q=>t σ H fun vs H1=>r vs H1 Q
theorem Jz (hc:CF X (.builtin id) r) (hg:Gl X x) (hm:X.mg x=none) (hv:bootBuiltins x=some (.builtin id)) (ha:PA X (e :: es) t) (hn:x ≠ "__name__" := by decide) (hdb:(x == ("__debug__" : Str))=false:=by decide)
    (he:starEach (e :: es) X.env=(false,eval e X.env) :: starEach es X.env:=by rfl) (hpl:(backTo pos (starEach es X.env)).any (·.1)=false:=by rfl):PE X (.Call (.Name x p) (e :: es) [] pos) (tCB r t):=by
  intro pins s σ H Q I h
  refine wpAny_Call_Name_kw (Fd I hg hm hv ?_ hn hdb)
  exact PyProof.Rows.callWith_builtin1 (thn (ha pos pins s σ H _ I h) fun us s1 ⟨vs,H1,I1,r1,q1⟩=>hc pins s1 σ H1 vs us Q I1 r1 q1) he hpl
theorem Ed (hc:CF X (.type T) r) (hg:Gl X x) (hm:X.mg x=none) (hv:bootBuiltins x=some (.type T)) (ha:PA X (e :: es) t) (hn:x ≠ "__name__" := by decide) (hdb:(x == ("__debug__" : Str))=false:=by decide)
    (he:starEach (e :: es) X.env=(false,eval e X.env) :: starEach es X.env:=by rfl) (hpl:(backTo pos (starEach es X.env)).any (·.1)=false:=by rfl):PE X (.Call (.Name x p) (e :: es) [] pos) (tCB r t):=by
  intro pins s σ H Q I h
  refine wpAny_Call_Name_kw (Fd I hg hm hv ?_ hn hdb)
  exact PyProof.Rows.callWith_type1 (thn (ha pos pins s σ H _ I h) fun us s1 ⟨vs,H1,I1,r1,q1⟩=>hc pins s1 σ H1 vs us Q I1 r1 q1) he hpl
end
end L2
namespace HT
open PySem PyProof.Rows
def B7:List Int->List Int->Bool
  | [],[]=>false
  | [],_ :: _=>true
  | _ :: _,[]=>false
  | x :: xs,y :: ys=>if x=y then B7 xs ys else decide (x < y)
theorem BL (x y:Int) (xs ys:List Int):B7 (x :: xs) (y :: ys)=if x=y then B7 xs ys else decide (x < y):=rfl
theorem Hq:B7 [] []=false:=rfl
theorem G6 (y:Int) (ys:List Int):B7 [] (y :: ys)=true:=rfl
theorem G7 (x:Int) (xs:List Int):B7 (x :: xs) []=false:=rfl
theorem Pl (A:Around) (s:Shared) (a:Int) (t:Tok) (c:Int) (u:Tok):∃ e,SeqAt.EqAt A s (.int a t) (.int c u) e /\ (e=true ↔ a=c):=
  ⟨(a == c),SeqAt.EqAt.int_int a t c u,by simp⟩
theorem OT (A:Around) (s:Shared) (a:Int) (t:Tok) (c:Int) (u:Tok) (prog:Program) (w:World) (E:Value->Shared->Prop) (Q:Value->Shared->Prop) (h:Q (.bool (decide (a < c))) s) :
    wpAny (model prog w) A (richCompare .Lt (.int a t) (.int c u)) Q E s:=
  (PyProof.Rows.lt_int h:wpAny (model prog w) A (compareOp .Lt (.int a t) (.int c u)) Q E s)
section
open PySem.SeqAt
open PySem.AutoSeq1 (wpAny_loadPart')
open PySem.MeetsSeq PySem.MeetsSeq2 PySem.MeetsSeq3
theorem Hg (l b:Addr) (items items2:Array Value) (n n2:Nat) (dd dd2:Option Addr) (sl sl2:Array (Option Value)) (ns ms:List Int) (hi:IntsAre items.toList ns) (hj:IntsAre items2.toList ms) :
    Meets (Builtin.«tuple.__lt__» ⟨[.ref l,.ref b],[]⟩)
      (fun _ R s=>s.heap.get? l=some { cls:=.type "tuple",dict:=dd,data:=.seq items n,slots:=sl } /\ s.heap.get? b=some { cls:=.type "tuple",dict:=dd2,data:=.seq items2 n2,slots:=sl2 } /\
        R (.ok (.ret (.bool (B7 ns ms)))) s):=
  .of_wp fun prog w A R s h=>by
    obtain ⟨hp,g,d,tk,os⟩:=s; obtain ⟨hl,hb,h⟩:=h
    have f2:=AutoSeq1.sub_tuple_tuple
    have z1:items.size=ns.length:=by rw [← hi.length]; simp
    have z2:items2.size=ms.length:=by rw [← hj.length]; simp
    wp_walk using wpAny_loadPart' hl,wpAny_loadPart' hb,wpAny_forIn_list _ (fun rest b s'=>b.1=none /\ s'=⟨hp,g,d,tk,os⟩ /\ ∃ (vs ws:List Value) (ns' ms':List Int),rest=vs.zip ws /\
      IntsAre vs ns' /\ IntsAre ws ms' /\ ns'.length + items2.size=ms'.length + items.size /\ R (.ok (.ret (.bool (B7 ns' ms')))) ⟨hp,g,d,tk,os⟩) _
    case turn=>
      rintro ⟨y,x⟩ rest b s' ⟨hb',rfl,vs,ws,ns',ms',hz,hvi,hwi,hlen,hR⟩
      cases hvi with
      | nil=>rw [List.zip_nil_left] at hz; cases hz
      | cons a t hvi'=>
        cases hwi with
        | nil=>rw [List.zip_nil_right] at hz; cases hz
        | cons c u hwi'=>
          rw [List.zip_cons_cons] at hz
          injection hz with hyx hrest
          injection hyx with hy hx
          subst hy hx
          rw [BL] at hR
          simp only [List.length_cons] at hlen
          obtain ⟨e,he,hiff⟩:=Pl A.in1 ⟨hp,g,d,tk,os⟩ a t c u
          refine wpAny_bind (he prog w _ _ ?_)
          cases e with
          | true=>
            rw [if_pos (hiff.mp rfl)] at hR
            wp_walk
            exact ⟨rfl,rfl,_,_,_,_,hrest,hvi',hwi',by omega,hR⟩
          | false=>
            rw [if_neg (fun q=>absurd (hiff.mpr q) Bool.false_ne_true)] at hR
            have hri:=OT A.in1 ⟨hp,g,d,tk,os⟩ a t c u prog w
            wp_walk using hri
            exact ⟨_,rfl,by simpa using hR⟩
    case fin=>
      rintro ⟨b1,b2⟩ s' ⟨hb',rfl,vs,ws,ns',ms',hz,hvi,hwi,hlen,hR⟩
      simp only at hb'
      subst hb'
      have hv:B7 ns' ms'=decide (items.size < items2.size):=by
        cases hvi with
        | nil=>
          cases hwi with
          | nil=>
            simp only [List.length_nil] at hlen
            rw [Hq]
            exact (decide_eq_false (by omega)).symm
          | cons c u hw=>
            simp only [List.length_nil,List.length_cons] at hlen
            rw [G6]
            exact (decide_eq_true (by omega)).symm
        | cons a t hv=>
          cases hwi with
          | nil=>
            simp only [List.length_nil,List.length_cons] at hlen
            rw [G7]
            exact (decide_eq_false (by omega)).symm
          | cons c u hw=>
            rw [List.zip_cons_cons] at hz
            cases hz
      rw [hv] at hR
      wp_walk
      exact ⟨_,rfl,by simpa [Builtin.Tuple.tupleCompareSizes] using hR⟩
    case h=>
      exact ⟨rfl,rfl,items.toList,items2.toList,ns,ms,rfl,hi,hj,by omega,h⟩
end
section
variable {prog:Program} {w:World} {A:Around} {E:Value->Shared->Prop} {s:Shared}
theorem LC {l b:Addr} {items items2:Array Value} {ns ms:List Int} {Q:Value->Shared->Prop} (hl:IsTup s.heap l items) (hb:IsTup s.heap b items2) (hi:IntsAre items.toList ns) (hj:IntsAre items2.toList ms)
    (hu:A.units < cLine) (h:Q (.bool (B7 ns ms)) s):wpAny (model prog w) A (compareOp .Lt (.ref l) (.ref b)) Q E s:=by
  obtain ⟨⟨cls,dd,data,sl⟩,ho,hc,n,hd⟩:=id hl
  obtain ⟨⟨cls2,dd2,data2,sl2⟩,ho2,hc2,n2,hd2⟩:=id hb
  simp only at hc hd hc2 hd2
  subst hc hd hc2 hd2
  exact richCompare_meets_room (op:=.Lt) ⟨_,ho,rfl⟩ ⟨_,ho2,rfl⟩ PySem.F.slot_tuple_lt PySem.F.entry_tuple_lt (PySem.F.args_tuple_lt_2 _ _) (Hg l b items items2 n n2 dd dd2 sl sl2 ns ms hi hj)
    ⟨ho,ho2,show Value.bool (B7 ns ms) ≠ Value.notImplemented /\ Q (.bool (B7 ns ms)) s from ⟨(fun x=>nomatch x),h⟩⟩ hu
theorem Rr {t b:Addr} {vs ws:List Value} {Q:Value->Shared->Prop} (ht:IsTup s.heap t vs.toArray) (hb:IsTup s.heap b ws.toArray) (hv:vs ≠ [])
    (h1:ws=[]->Q (.ref t) s) (h2:ws ≠ []->Q (.ref s.heap.objs.size) { s with heap:=s.heap.push { cls:=.type "tuple",data:=.seq (vs ++ ws).toArray } })
    (hsz:vs.length + ws.length <= sizeLine):wpAny (model prog w) A (binaryOp .Add (.ref t) (.ref b)) Q E s:=by
  obtain ⟨⟨cls,dd,data,sl⟩,ho,hc,n,hd⟩:=id ht
  obtain ⟨⟨cls2,dd2,data2,sl2⟩,ho2,hc2,n2,hd2⟩:=id hb
  simp only at hc hd hc2 hd2
  subst hc hd hc2 hd2
  have e:vs.toArray ++ ws.toArray=(vs ++ ws).toArray:=by simp
  by_cases hw:ws=[]
  . exact concat_meets ⟨_,ho,rfl⟩ ⟨_,ho2,rfl⟩ noFill_tuple_add seq_tuple_add PySem.F.slot_tuple_add PySem.F.entry_tuple_add (PySem.F.args_tuple_add_2 _ _)
      (tuple_addW1 t b vs.toArray ws.toArray n n2 dd dd2 sl sl2 (by simpa using hv) (by simp [hw])) ⟨ho,ho2,h1 hw⟩
  . refine concat_meets ⟨_,ho,rfl⟩ ⟨_,ho2,rfl⟩ noFill_tuple_add seq_tuple_add PySem.F.slot_tuple_add PySem.F.entry_tuple_add (PySem.F.args_tuple_add_2 _ _)
      (tuple_addW2 t b vs.toArray ws.toArray n n2 dd dd2 sl sl2 (by simpa using hv) (by simpa using hw) (by rw [List.size_toArray,List.size_toArray]; exact hsz)) ⟨ho,ho2,?_⟩
    rw [e]
    exact h2 hw
def sIx (n d:Nat):Option Int->Nat
  | none=>d
  | some v=>if v < 0 then (v + (n:Int)).toNat else min v.toNat n
theorem Gi (n d:Nat):sIx n d none=d:=rfl
theorem Iu (n d k:Nat):sIx n d (some (k:Int))=min k n:=by
  show (if (k:Int) < 0 then ((k:Int) + (n:Int)).toNat else min (k:Int).toNat n)=min k n
  rw [if_neg (by omega),Int.toNat_natCast]
theorem Sj (n d:Nat) (hd:d <= n) (o:Option Int):sIx n d o <= n:=by
  cases o with
  | none=>exact hd
  | some v=>
    show (if v < 0 then (v + (n:Int)).toNat else min v.toNat n) <= n
    by_cases hv:v < 0
    . rw [if_pos hv]; omega
    . rw [if_neg hv]; exact Nat.min_le_right _ _
theorem MY (v:Int) (n d:Nat):(if v < 0 then max (v + (n:Int)) 0 else min v (n:Int))=((sIx n d (some v):Nat):Int):=by
  show (if v < 0 then max (v + (n:Int)) 0 else min v (n:Int))=(((if v < 0 then (v + (n:Int)).toNat else min v.toNat n):Nat):Int)
  by_cases hv:v < 0
  . simp only [if_pos hv]; omega
  . simp only [if_neg hv]; omega
theorem LW (lo hi:Option Int) (n:Nat):Builtin.Slice.sliceAdjust lo hi 1 (n:Int)=(((sIx n 0 lo:Nat):Int),((sIx n n hi:Nat):Int)):=by
  have h1 : ¬ ((1:Int) < 0):=by omega
  unfold Builtin.Slice.sliceAdjust
  simp only [h1,if_false]
  refine Prod.ext ?_ ?_
  . cases lo with
    | none=>rfl
    | some v=>exact MY v n 0
  . cases hi with
    | none=>rfl
    | some v=>exact MY v n n
theorem K7 (i j:Nat):Builtin.Slice.slicePlaces (i:Int) (j:Int) 1=j - i:=by
  unfold Builtin.Slice.slicePlaces
  have h1:(1:Int) > 0:=by omega
  simp only [h1,if_true,Int.ediv_one]
  split <;> omega
theorem Gf {v:Value} {o:Option Int} {Q:Option Int->Shared->Prop} (p:IsPart v o) (h:Q o s):wpAny (model prog w) A (Builtin.Slice.slicePartIndex v) Q E s:=by
  cases p with
  | none=>exact slicePart_none h
  | int i t=>exact slicePart_int h
theorem DR {sl:Addr} {vl vu:Value} {lo hi:Option Int} {n:Nat} {Q:Int × Int × Nat->Shared->Prop} (hs:s.heap.IsSliceOf sl vl vu .none) (pl:IsPart vl lo) (pu:IsPart vu hi)
    (h:Q (((sIx n 0 lo:Nat):Int),1,sIx n n hi - sIx n 0 lo) s):wpAny (model prog w) A (Builtin.Slice.sliceApplied (.ref sl) (pure (n:Int))) Q E s:=by
  obtain ⟨os,hos,hcs,hds⟩:=id hs
  unfold Builtin.Slice.sliceApplied Builtin.Slice.sliceFields
  refine wpAny_bind (wpAny_bind (wpAny_field hos hds (x:=vl) rfl (wpAny_bind (wpAny_field hos hds (x:=vu) rfl (wpAny_bind (wpAny_field hos hds (x:=.none) rfl (wpAny_pure ?_)))))))
  refine wpAny_bind (slicePart_none ?_)
  show wpAny _ _ (if ((1:Int) == 0)=true then _ else _) _ _ s
  rw [if_neg (by decide)]
  refine wpAny_bind (Gf pl (wpAny_bind (Gf pu (wpAny_bind (wpAny_pure ?_)))))
  show wpAny _ _ (match Builtin.Slice.sliceAdjust lo hi 1 (n:Int) with | (lo,hi)=>pure (lo,(1:Int),Builtin.Slice.slicePlaces lo hi 1)) _ _ s
  rw [LW lo hi n]
  show wpAny _ _ (pure (((sIx n 0 lo:Nat):Int),(1:Int),Builtin.Slice.slicePlaces ((sIx n 0 lo:Nat):Int) ((sIx n n hi:Nat):Int) 1)) _ _ s
  rw [K7]
  exact wpAny_pure h
theorem Ol (xs:Array Value) (i k:Nat):((List.range k).filterMap fun (m:Nat)=>xs[((i:Int) + (m:Int) * 1).toNat]?).toArray=((xs.toList.drop i).take k).toArray:=by
  have e:(fun (m:Nat)=>xs[((i:Int) + (m:Int) * 1).toNat]?)=fun m=>xs[i + m]?:=by
    funext m
    have:((i:Int) + (m:Int) * 1).toNat=i + m:=by omega
    rw [this]
  rw [e]
  have:=pick_run xs i k
  rw [List.filterMap_map] at this
  have e2:((fun x=>xs[x]?) ∘ fun x=>i + x)=fun m=>xs[i + m]?:=rfl
  rw [e2] at this
  rw [this]
theorem FM {t sl:Addr} {items:Array Value} {vl vu:Value} {lo hi:Option Int} {Q:Value->Shared->Prop} (ht:IsTup s.heap t items) (hs:s.heap.IsSliceOf sl vl vu .none) (pl:IsPart vl lo) (pu:IsPart vu hi)
    (hw : ¬ (sIx items.size 0 lo=0 /\ sIx items.size items.size hi=items.size))
    (h:Q (.ref s.heap.objs.size) { s with heap:=s.heap.push { cls:=.type "tuple",data:=.seq ((items.toList.drop (sIx items.size 0 lo)).take (sIx items.size items.size hi - sIx items.size 0 lo)).toArray } })
    (hsz:items.size <= sizeLine):wpAny (model prog w) A (getItem (.ref t) (.ref sl)) Q E s:=by
  have htake:sizeOk (.seq ((items.toList.drop (sIx items.size 0 lo)).take (sIx items.size items.size hi - sIx items.size 0 lo)).toArray):=by
    show ((items.toList.drop (sIx items.size 0 lo)).take (sIx items.size items.size hi - sIx items.size 0 lo)).toArray.size <= sizeLine
    rw [List.size_toArray,List.length_take,List.length_drop,Array.length_toList]
    omega
  have hj:sIx items.size items.size hi <= items.size:=Sj _ _ (Nat.le_refl _) hi
  obtain ⟨os,hos,hcs,hds⟩:=id hs
  have hTs:s.TypeIs (.ref sl) "slice" := ⟨os,hos,hcs⟩
  unfold getItem
  try with_reducible refine wpAny_holding ?_
  first | refine wpAny_bind (wpAny_pure ?_) | skip
  refine wpAny_bind (wpAny_sequenceKey ht.typeIs (by decide) ?_)
  refine wpAny_bind (wpAny_callSpecial?_slot (name:=Str.ofString "__getitem__") ht.typeIs PyProof.Rows.slot_tuple_getitem
    (wpAny_call_entry PyProof.Rows.slot_tuple_getitem ht.typeIs entry_tuple_getitem ?_ (args_tuple_getitem _ _)))
  show wpAny _ _ (Builtin.Tuple.tupleItemsOf (.ref t) >>= _) _ _ s
  refine wpAny_bind (tupleItemsOf_ ht ?_)
  refine wpAny_bind (wpAny_typeOf hTs ?_)
  rw [if_pos (by decide)]
  refine wpAny_bind (DR hs pl pu ?_)
  have hno : ¬ ((((sIx items.size 0 lo:Nat):Int) == 0 && (1:Int) == 1 && (sIx items.size items.size hi - sIx items.size 0 lo) == items.size)=true):=by
    intro q
    rw [Bool.and_eq_true,Bool.and_eq_true] at q
    have q1:((sIx items.size 0 lo:Nat):Int)=0:=eq_of_beq q.1.1
    have q2:sIx items.size items.size hi - sIx items.size 0 lo=items.size:=eq_of_beq q.2
    exact hw ⟨by omega,by omega⟩
  show wpAny _ _ (if (((sIx items.size 0 lo:Nat):Int) == 0 && (1:Int) == 1 && (sIx items.size items.size hi - sIx items.size 0 lo) == items.size)=true then _ else _) _ _ s
  rw [if_neg hno,Ol]
  first
    | exact wpAny_bind (m:=Builtin.Tuple.tupleExact _) (wpAny_newObj_type (wpAny_pure ⟨_,rfl,wpAny_pure h⟩) htake)
    | exact wpAny_bind (m:=Builtin.Tuple.tupleExact _) (wpAny_newObj_type (wpAny_bind (wpAny_pure (wpAny_pure ⟨_,rfl,wpAny_pure h⟩))) htake)
    | exact wpAny_bind (wpAny_bind (m:=Builtin.Tuple.tupleExact _) (wpAny_newObj_type (wpAny_pure (wpAny_pure ⟨_,rfl,wpAny_pure h⟩)) htake))
    | exact wpAny_bind (wpAny_bind (m:=Builtin.Tuple.tupleExact _) (wpAny_newObj_type (wpAny_pure ⟨_,rfl,wpAny_pure h⟩) htake))
end
end HT
namespace L2
open PySem PySem.Spec PyProof.Rows
abbrev TO:=St->Hp->(Option Int->Hp->Prop)->Prop
def PO (X:Cx) (e:Option Expr) (t:TO):Prop:=
  ∀ (pins:List (Addr × Obj)) (s:Shared) (σ:St) (H:Hp) (Q:Option Int->Hp->Prop),Inv X pins σ H s->t σ H Q->
    wpAny (model X.prog X.w) X.A (evalPart e X.env) (fun u s'=>∃ o H',Inv X pins σ H' s' /\ IsPart u o /\ Q o H') X.xe s
def QS:TO:=fun _ H Q=>Q none H
def UO (t:TE):TO:=fun σ H Q=>t σ H fun x H1=>∃ i,x=.int i /\ Q (some i) H1
theorem HD {ns:List Int}:∀ {us:List Value},Vals (ns.map V.int) us->IntsAre us ns:=by
  induction ns with
  | nil=>intro us r; rw [List.map_nil] at r; cases r; exact .nil
  | cons n ns ih=>
    intro us r
    rw [List.map_cons] at r
    cases r with
    | cons r1 r2=>
      obtain ⟨t,e⟩:=r1
      subst e
      exact .cons n t (ih r2)
section
variable {X:Cx} {e:Expr} {te:TE} {lo hi:Option Expr} {tl th:TO} {pos p2:Pos}
theorem Q2:PO X none QS:=by
  intro pins s σ H Q I h
  rw [evalPart_none]
  exact wpAny_pure ⟨none,H,I,.none,h⟩
theorem Q1 (h:PE X e te):PO X (some e) (UO te):=by
  intro pins s σ H Q I hw
  rw [evalPart_some]
  refine thn (h pins s σ H _ I hw) fun u s1 ⟨x,H1,I1,r1,q1⟩=>?_
  obtain ⟨i,rfl,q⟩:=q1
  obtain ⟨t,rfl⟩:=r1
  exact ⟨some i,H1,I1,.int i t,q⟩
def SlR (X:Cx) (r:V->Option Int->Option Int->Hp->VK->Prop):Prop:=
  ∀ (pins:List (Addr × Obj)) (s:Shared) (σ:St) (H:Hp) (x:V) (v vl vu:Value) (lo hi:Option Int) (sl:Addr) (Q:VK),Inv X pins σ H s->RelV x v->s.heap.IsSliceOf sl vl vu .none->IsPart vl lo->IsPart vu hi->r x lo hi H Q->
    ∃ T id,typeLookup (.type T) "__getitem__" = pure (some (.builtin id)) /\ s.TypeIs v T /\ wpAny (model X.prog X.w) X.A (getItem v (.ref sl)) (EP X pins σ Q) X.xe s
theorem SlR.or {r r':V->Option Int->Option Int->Hp->VK->Prop} (h:SlR X r) (h':SlR X r'):SlR X (fun x lo hi H Q=>r x lo hi H Q ∨ r' x lo hi H Q):=by
  intro pins s σ H x v vl vu lo hi sl Q I rx hs pl pu q
  rcases q with q | q
  . exact h pins s σ H x v vl vu lo hi sl Q I rx hs pl pu q
  . exact h' pins s σ H x v vl vu lo hi sl Q I rx hs pl pu q
def tSl (r:V->Option Int->Option Int->Hp->VK->Prop) (te:TE) (tl th:TO):TE:=fun σ H Q=>te σ H fun x H1=>tl σ H1 fun l H2=>th σ H2 fun u H3=>r x l u H3 Q
theorem Op {r:V->Option Int->Option Int->Hp->VK->Prop} (hr:SlR X r) (he:PE X e te) (hl:PO X lo tl) (hu:PO X hi th):PE X (.Subscript e (.Slice lo hi none p2) pos) (tSl r te tl th):=by
  intro pins s σ H Q I h
  refine Subscript_ (thn (he pins s σ H _ I h) fun v s1 ⟨x,H1,I1,r1,q1⟩=>?_)
  refine wpAny_Slice (thn (hl pins s1 σ H1 _ I1 q1) fun vl s2 ⟨l,H2,I2,pl,q2⟩=>thn (hu pins s2 σ H2 _ I2 q2) fun vu s3 ⟨u,H3,I3,pu,q3⟩=>?_)
  rw [evalPart_none]
  refine wpAny_pure ?_
  have I4:Inv X pins σ H3 { s3 with heap:=s3.heap.push { cls:=.type "slice",data:=.fields #[vl,vu,.none] } }:=I3.kept (t':=s3.toks) fun b ob q=>Heap.get?_push_of_some _ q
  obtain ⟨T,id,hT,ht,hg⟩:=hr pins { s3 with heap:=s3.heap.push { cls:=.type "slice",data:=.fields #[vl,vu,.none] } } σ H3 x v vl vu l u s3.heap.objs.size Q I4 r1 (Heap.IsSliceOf.new ..) pl pu q3
  show wpAny (model X.prog X.w) X.A (subscriptTail e (.Slice lo hi none p2) v (.ref s3.heap.objs.size)) (EP X pins σ Q) X.xe { s3 with heap:=s3.heap.push { cls:=.type "slice",data:=.fields #[vl,vu,.none] } }
  exact tail_any (ops:=[.ref s3.heap.objs.size,v]) ht hT hg (by with_unfolding_all rfl)
def KW (xs:List V) (lo hi:Option Int):List V:=(xs.drop (HT.sIx xs.length 0 lo)).take (HT.sIx xs.length xs.length hi - HT.sIx xs.length 0 lo)
theorem F6 (xs:List V) (lo hi:Option Int):(KW xs lo hi).length <= xs.length:=by
  unfold KW
  rw [List.length_take,List.length_drop]
  omega
def Vh (K:PySem.W.Frag):V->Option Int->Option Int->Hp->VK->Prop:=fun x lo hi H Q=>∃ a xs,x=.ref a /\ SqT K H a xs /\
  ¬ (HT.sIx xs.length 0 lo=0 /\ HT.sIx xs.length xs.length hi=xs.length) /\ ∀ p,H p=none->Q (.ref p) (upd H p (.tup (KW xs lo hi)))
theorem Si:SlR X (Vh X.K):=by
  intro pins s σ H x v vl vu lo hi sl Q I rx hs pl pu h
  obtain ⟨a,xs,rfl,hx,hw,q⟩:=h
  cases rx
  obtain ⟨its,r,ht,hz⟩:=I.tuple hx
  have hlen:its.toArray.size=xs.length:=by rw [List.size_toArray]; exact r.length.symm
  refine ⟨"tuple",_,PyProof.Rows.slot_tuple_getitem.lookup,ht.typeIs,?_⟩
  refine HT.FM ht hs pl pu (by rw [hlen]; exact hw) ?_ (by rw [hlen]; exact hz)
  rw [hlen]
  refine ⟨.ref s.heap.objs.size,_,I.laid (t':=s.toks) (o:=.tup (KW xs lo hi)) (fun b ob q=>Heap.get?_push_of_some _ q) (Nat.le_refl _) ?_,rfl,q _ (I.hok.fresh (Nat.le_refl _))⟩
  exact ⟨Nat.le_trans (F6 xs lo hi) hz,_,(r.drop (HT.sIx xs.length 0 lo)).take (HT.sIx xs.length xs.length hi - HT.sIx xs.length 0 lo),IsTup.new _ _⟩
def Uj (K:PySem.W.Frag):R2:=fun x y H Q=>∃ a b xs ys,x=.ref a /\ y=.ref b /\ SqT K H a xs /\ SqT K H b ys /\ xs ≠ [] /\ xs.length + ys.length <= sizeLine /\
  (ys=[]->Q (.ref a) H) /\ (ys ≠ []->∀ p,H p=none->Q (.ref p) (upd H p (.tup (xs ++ ys))))
theorem Vals.nil_iff {xs:List V} {us:List Value} (r:Vals xs us):us=[] ↔ xs=[]:=by
  cases r with
  | nil=>simp
  | cons _ _=>simp
theorem RD:OpR X (binaryOp .Add) (Uj X.K):=by
  intro pins s σ H x y v u Q I rx ry h
  obtain ⟨a,b,xs,ys,rfl,rfl,ha,hb,hx,hz,q1,q2⟩:=h
  cases rx
  cases ry
  obtain ⟨its,r1,p1,_⟩:=I.tuple ha
  obtain ⟨its2,r2,p2,_⟩:=I.tuple hb
  refine HT.Rr p1 p2 (fun z=>hx (r1.nil_iff.mp z)) (fun z=>⟨.ref a,H,I,rfl,q1 (r2.nil_iff.mp z)⟩) (fun z=>?_) (by rw [← r1.length,← r2.length]; exact hz)
  refine ⟨.ref s.heap.objs.size,_,I.laid (t':=s.toks) (o:=.tup (xs ++ ys)) (fun b ob q=>Heap.get?_push_of_some _ q) (Nat.le_refl _) ?_,rfl,q2 (fun w=>z (r2.nil_iff.mpr w)) _ (I.hok.fresh (Nat.le_refl _))⟩
  exact ⟨by rw [List.length_append]; exact hz,_,r1.append r2,IsTup.new _ _⟩
theorem Kd:CF X (.type "tuple") (fun xs H Q=>∃ a ys,xs=[.ref a] /\ SqT X.K H a ys /\ Q (.ref a) H):=by
  intro pins s σ H xs us Q I r h
  obtain ⟨a,ys,rfl,ha,q⟩:=h
  obtain ⟨u,rfl,ru⟩:=GW r
  cases ru
  obtain ⟨its,_,p1,_⟩:=I.tuple ha
  exact call_tuple_same (items:=its.toArray) p1 ⟨.ref a,H,I,rfl,q⟩
end
end L2
namespace L2
open PySem PySem.Spec PyProof.Rows
def ixN (n:Nat) (i:Int):Option Nat:=if 0 <= i then (if i < n then some i.toNat else none) else if -(n:Int) <= i then some (i + n).toNat else none
def atI {α:Type} (xs:List α) (i:Int):Option α:=(ixN xs.length i).bind fun j=>xs[j]?
theorem RZ {n:Nat} {i:Int} {j:Nat} (h:ixN n i=some j):seqIndex? i n=some j /\ j < n /\ -(n:Int) <= i /\ i < n:=by
  unfold ixN at h
  by_cases h0:0 <= i
  . rw [if_pos h0] at h
    by_cases h1:i < n
    . rw [if_pos h1] at h
      have e:i.toNat=j:=Option.some.inj h
      exact ⟨by rw [seqIndex_of h0 h1,e],by omega,by omega,h1⟩
    . rw [if_neg h1] at h; cases h
  . rw [if_neg h0] at h
    by_cases h1 : -(n:Int) <= i
    . rw [if_pos h1] at h
      have e:(i + n).toNat=j:=Option.some.inj h
      exact ⟨by rw [seqIndex_neg (by omega) h1,e],by omega,h1,by omega⟩
    . rw [if_neg h1] at h; cases h
theorem JX {α:Type} {xs:List α} {i:Int} {v:α} (h:atI xs i=some v):∃ j,seqIndex? i xs.length=some j /\ xs[j]? = some v /\ j < xs.length /\ -(xs.length:Int) <= i /\ i < xs.length:=by
  unfold atI at h
  cases e:ixN xs.length i with
  | none=>rw [e] at h; cases h
  | some j=>
    rw [e] at h
    obtain ⟨h1,h2,h3,h4⟩:=RZ e
    exact ⟨j,h1,h,h2,h3,h4⟩
def Mf (b:Expr):Prop:=∀ o i,subscripted b false o i=operate [o,i] (getItem o i)
def IxR (X:Cx) (r:R2):Prop:=
  ∀ (value slice:Expr) (pins:List (Addr × Obj)) (s:Shared) (σ:St) (H:Hp) (x y:V) (v u:Value) (Q:VK),Inv X pins σ H s->RelV x v->RelV y u->r x y H Q->
    subscripted slice false v u=operate [v,u] (getItem v u)->wpAny (model X.prog X.w) X.A (subscriptTail value slice v u) (EP X pins σ Q) X.xe s
def MtR (X:Cx) (id:String) (r:V->List V->Hp->VK->Prop):Prop:=
  ∀ (pins:List (Addr × Obj)) (s:Shared) (σ:St) (H:Hp) (x:V) (xs:List V) (v:Value) (us:List Value) (Q:VK),Inv X pins σ H s->RelV x v->Vals xs us->r x xs H Q->
    wpAny (model X.prog X.w) X.A (call (.builtin id) (v :: us)) (EP X pins σ Q) X.xe s
section
variable {X:Cx} {a b:Expr} {ta tb:TE} {pos:Pos}
theorem IxR.or {r r':R2} (h:IxR X r) (h':IxR X r'):IxR X (fun x y H Q=>r x y H Q ∨ r' x y H Q):=by
  intro value slice pins s σ H x y v u Q I rx ry q hs
  rcases q with q | q
  . exact h value slice pins s σ H x y v u Q I rx ry q hs
  . exact h' value slice pins s σ H x y v u Q I rx ry q hs
theorem Ur {r:R2} (hr:IxR X r) (ha:PE X a ta) (hb:PE X b tb) (hs:Mf b):PE X (.Subscript a b pos) (tOp r ta tb):=by
  intro pins s σ H Q I h
  exact Subscript_ (T6 ha hb I h fun v u s2 x y H2 I2 rx ry q=>hr a b pins s2 σ H2 x y v u Q I2 rx ry q (hs _ _))
def Ui (K:PySem.W.Frag):R2:=fun x y H Q=>∃ p xs i v,x=.ref p /\ y=.int i /\ SqL K H p xs /\ atI xs i=some v /\ Q v H
def Ug (K:PySem.W.Frag):R2:=fun x y H Q=>∃ p xs i v,x=.ref p /\ y=.int i /\ SqT K H p xs /\ atI xs i=some v /\ Q v H
def Uh:R2:=fun x y H Q=>∃ z i c,x=.str z /\ y=.int i /\ z.length <= sizeLine /\ atI z.cps.toList i=some c /\ Q (.str ⟨#[c]⟩) H
theorem ix_list:IxR X (Ui X.K):=by
  intro value slice pins s σ H x y v u Q I rx ry h hs
  obtain ⟨p,xs,i,z,rfl,rfl,hq,he,q⟩:=h
  cases rx
  obtain ⟨t,rfl⟩:=ry
  obtain ⟨its,r,pl,hz⟩:=I.list hq
  obtain ⟨j,h1,h2,h3,h4,h5⟩:=JX he
  obtain ⟨w,ew,rw'⟩:=r.get h2
  have hl:=r.length
  have hn:=Fc
  have fin:EP X pins σ Q w s:=⟨z,H,I,rw',q⟩
  by_cases h0:0 <= i
  . have hj:i.toNat=j:=by
      rw [seqIndex_of h0 h5] at h1
      exact Option.some.inj h1
    exact item_listR pl.isList h0 (by omega) (by rw [hj]; simpa using ew) fin hs
  . have hj:(i + (its.toArray.size:Int)).toNat=j:=by
      rw [seqIndex_neg (by omega) h4] at h1
      rw [List.size_toArray,← hl]
      exact Option.some.inj h1
    exact subscriptTail_builtinR (x:=w) pl.isList.typeIs slot_list_getitem.lookup
      (wpAny_getItem_list_neg (Q:=fun r s'=>r=w /\ EP X pins σ Q r s') pl.isList (by omega) (by rw [List.size_toArray] <;> omega) (by omega) (by rw [hj]; simpa using ew) ⟨rfl,fin⟩) hs
theorem ix_tup:IxR X (Ug X.K):=by
  intro value slice pins s σ H x y v u Q I rx ry h hs
  obtain ⟨p,xs,i,z,rfl,rfl,hq,he,q⟩:=h
  cases rx
  obtain ⟨t,rfl⟩:=ry
  obtain ⟨its,r,pl,hz⟩:=I.tuple hq
  obtain ⟨j,h1,h2,h3,h4,h5⟩:=JX he
  obtain ⟨w,ew,rw'⟩:=r.get h2
  have hl:=r.length
  have hn:=Fc
  have fin:EP X pins σ Q w s:=⟨z,H,I,rw',q⟩
  exact subscriptTail_builtinR (x:=w) pl.typeIs slot_tuple_getitem.lookup
    (getItem_tuple (j:=j) (Q:=fun r s'=>r=w /\ EP X pins σ Q r s') pl (by omega) (by omega) (by rw [List.size_toArray,← hl]; exact h1) (by simpa using ew) ⟨rfl,fin⟩) hs
theorem Ts:IxR X Uh:=by
  intro value slice pins s σ H x y v u Q I rx ry h hs
  obtain ⟨z,i,c,rfl,rfl,hz,he,q⟩:=h
  obtain ⟨t,rfl⟩:=rx
  obtain ⟨t',rfl⟩:=ry
  obtain ⟨j,h1,h2,h3,h4,h5⟩:=JX he
  have hl:z.cps.toList.length=z.length:=by simp [Str.length]
  rw [hl] at h1 h4 h5
  have hn:=Fc
  exact tail_any (typeIs_str s z t) slot_str_getitem.lookup (getItem_str (c:=c) (by
    have e1:decide (i < -(2 ^ 63:Int))=false:=decide_eq_false (by omega)
    have e2:decide (i ≥ 2 ^ 63)=false:=decide_eq_false (by omega)
    rw [e1,e2,Bool.or_false]) (by rw [h1]; simpa using h2) ⟨.str ⟨#[c]⟩,H,I.tok _,⟨_,rfl⟩,q⟩) hs
def rIx (K:PySem.W.Frag):R2:=fun x y H Q=>Ui K x y H Q ∨ Ug K x y H Q ∨ Uh x y H Q
theorem LF:IxR X (rIx X.K):=ix_list.or (ix_tup.or Ts)
theorem Ip (lo hi:Option Int) (n:Nat):(sliceBounds lo hi none n).1=((HT.sIx n 0 lo:Nat):Int) /\ (sliceBounds lo hi none n).2.1=((HT.sIx n n hi:Nat):Int) /\ (sliceBounds lo hi none n).2.2=1:=by
  refine ⟨?_,?_,rfl⟩
  . cases lo with
    | none=>simp [sliceBounds,HT.sIx]
    | some i=>
      simp only [sliceBounds,HT.sIx,Option.getD_none,show (1:Int) > 0 by decide,if_true]
      by_cases h:i < 0
      . simp only [h,if_true] <;> omega
      . simp only [h,if_false] <;> omega
  . cases hi with
    | none=>simp [sliceBounds,HT.sIx]
    | some i=>
      simp only [sliceBounds,HT.sIx,Option.getD_none,show (1:Int) > 0 by decide,if_true]
      by_cases h:i < 0
      . simp only [h,if_true] <;> omega
      . simp only [h,if_false] <;> omega
theorem Hh (its:List Value) (lo hi:Option Int):slicePick its.toArray lo hi none=((its.drop (HT.sIx its.length 0 lo)).take (HT.sIx its.length its.length hi - HT.sIx its.length 0 lo)).toArray:=by
  obtain ⟨h1,h2,h3⟩:=Ip lo hi its.toArray.size
  unfold slicePick
  rw [h1,h2,h3]
  simp only [sliceRange_one,pick_run,List.size_toArray] <;> rfl
def Vi (K:PySem.W.Frag):V->Option Int->Option Int->Hp->VK->Prop:=fun x lo hi H Q=>∃ a xs,x=.ref a /\ SqL K H a xs /\ ∀ p,H p=none->Q (.ref p) (upd H p (.lst (KW xs lo hi)))
theorem QY:SlR X (Vi X.K):=by
  intro pins s σ H x v vl vu lo hi sl Q I rx hs pl pu h
  obtain ⟨a,xs,rfl,hx,q⟩:=h
  cases rx
  obtain ⟨its,r,ht,hz⟩:=I.list hx
  have hlen:=r.length
  refine ⟨"list",_,slot_list_getitem.lookup,ht.isList.typeIs,?_⟩
  refine wpAny_getItem_list_slice ht.isList hs pl pu .none (by simp) ?_ (by rw [List.size_toArray] <;> omega)
  rw [Hh,← hlen]
  refine ⟨.ref s.heap.objs.size,_,I.laid (t':=s.toks) (o:=.lst (KW xs lo hi)) (fun b ob q=>Heap.get?_push_of_some _ q) (Nat.le_refl _) ?_,rfl,q _ (I.hok.fresh (Nat.le_refl _))⟩
  exact ⟨Nat.le_trans (F6 xs lo hi) hz,_,0,(r.drop (HT.sIx xs.length 0 lo)).take (HT.sIx xs.length xs.length hi - HT.sIx xs.length 0 lo),Heap.get?_push_size _ rfl⟩
def DB:V->Bool
  | .non=>true
  | .bl _=>true
  | .int _=>true
  | .str _=>true
  | _=>false
def eqV:V->V->Bool
  | .non,.non=>true
  | .bl a,.bl b=>a == b
  | .bl a,.int b=>(if a then 1 else 0) == b
  | .int a,.bl b=>a == (if b then 1 else 0)
  | .int a,.int b=>a == b
  | .str a,.str b=>a == b
  | _,_=>false
theorem T4 {A:Around} {s:Shared} {y x:V} {u v:Value} (ry:RelV y u) (rx:RelV x v) (fy:DB y=true) (fx:DB x=true):SeqAt.EqAt A s u v (eqV y x):=by
  cases y with
  | non=>
    cases ry
    cases x with
    | non=>cases rx; exact SeqAt.EqAt.same _
    | bl b=>cases rx; exact SeqAt.EqAt.none_bool b
    | int b=>obtain ⟨t,rfl⟩:=rx; exact SeqAt.EqAt.none_int b t
    | str b=>obtain ⟨t,rfl⟩:=rx; exact SeqAt.EqAt.none_str b t
    | _=>exact absurd (show false=true from fx) Bool.false_ne_true
  | bl a=>
    cases ry
    cases x with
    | non=>cases rx; exact SeqAt.EqAt.bool_none a
    | bl b=>cases rx; exact SeqAt.EqAt.bool_bool a b
    | int b=>obtain ⟨t,rfl⟩:=rx; exact SeqAt.EqAt.bool_int a b t
    | str b=>obtain ⟨t,rfl⟩:=rx; exact SeqAt.EqAt.bool_str a b t
    | _=>exact absurd (show false=true from fx) Bool.false_ne_true
  | int a=>
    obtain ⟨t',rfl⟩:=ry
    cases x with
    | non=>cases rx; exact SeqAt.EqAt.int_none a t'
    | bl b=>cases rx; exact SeqAt.EqAt.int_bool a t' b
    | int b=>obtain ⟨t,rfl⟩:=rx; exact SeqAt.EqAt.int_int a t' b t
    | str b=>obtain ⟨t,rfl⟩:=rx; exact SeqAt.EqAt.int_str a t' b t
    | _=>exact absurd (show false=true from fx) Bool.false_ne_true
  | str a=>
    obtain ⟨t',rfl⟩:=ry
    cases x with
    | non=>cases rx; exact SeqAt.EqAt.str_none a t'
    | bl b=>cases rx; exact SeqAt.EqAt.str_bool a t' b
    | int b=>obtain ⟨t,rfl⟩:=rx; exact SeqAt.EqAt.str_int a t' b t
    | str b=>obtain ⟨t,rfl⟩:=rx; exact SeqAt.EqAt.str_str a t' b t
    | _=>exact absurd (show false=true from fx) Bool.false_ne_true
  | _=>exact absurd (show false=true from fy) Bool.false_ne_true
def eqU (x:V) (u:Value):Bool:=match u with
  | .none=>eqV .non x
  | .bool b=>eqV (.bl b) x
  | .int i _=>eqV (.int i) x
  | .str z _=>eqV (.str z) x
  | _=>false
theorem JT {x y:V} {u:Value} (r:RelV y u) (f:DB y=true):eqU x u=eqV y x:=by
  cases y with
  | non=>cases r; rfl
  | bl b=>cases r; rfl
  | int i=>obtain ⟨t,rfl⟩:=r; rfl
  | str z=>obtain ⟨t,rfl⟩:=r; rfl
  | _=>exact absurd (show false=true from f) Bool.false_ne_true
theorem FU {x:V}:∀ {xs:List V} {us:List Value},Vals xs us->xs.all DB=true->us.any (eqU x)=xs.any fun y=>eqV y x
  | _,_,.nil,_=>rfl
  | y :: xs,u :: us,.cons r t,f=>by
    rw [List.all_cons,Bool.and_eq_true] at f
    rw [List.any_cons,List.any_cons,JT r f.1,FU t f.2]
theorem Dd {A:Around} {s:Shared} {x:V} {v:Value} (rx:RelV x v) (fx:DB x=true):∀ {xs:List V} {us:List Value},Vals xs us->xs.all DB=true->∀ u ∈ us,SeqAt.EqAt A s u v (eqU x u)
  | _,_,.nil,_=>fun u hu=>by cases hu
  | y :: xs,u :: us,.cons r t,f=>fun u' hu=>by
    rw [List.all_cons,Bool.and_eq_true] at f
    rcases List.mem_cons.mp hu with rfl | hu
    . rw [JT r f.1]; exact T4 r rx f.1 fx
    . exact Dd rx fx t f.2 u' hu
def inV (x:V) (xs:List V):Bool:=xs.any fun y=>eqV y x
def rIn (K:PySem.W.Frag) (neg:Bool):R2:=fun x y H Q=>∃ p xs,y=.ref p /\ (SqL K H p xs ∨ SqT K H p xs) /\ DB x=true /\ xs.all DB=true /\ Q (.bl (if neg then !inV x xs else inV x xs)) H
theorem NH:OpR X (compareOp .In) (rIn X.K false):=by
  intro pins s σ H x y v u Q I rx ry h
  obtain ⟨p,xs,rfl,hq,fx,fs,q⟩:=h
  cases ry
  rcases hq with hq | hq
  . obtain ⟨its,r,pl,hz⟩:=I.list hq
    refine SeqAt.in_listAt (eqU x) pl.isList (fun w hw=>Dd rx fx r fs w (by simpa using hw)) ⟨.bl _,H,I,rfl,?_⟩
    rw [show its.toArray.any (eqU x)=its.any (eqU x) by simp,FU r fs]
    exact q
  . obtain ⟨its,r,pl,hz⟩:=I.tuple hq
    refine SeqAt.in_tupleAt (eqU x) pl (fun w hw=>Dd rx fx r fs w (by simpa using hw)) ⟨.bl _,H,I,rfl,?_⟩
    rw [show its.toArray.any (eqU x)=its.any (eqU x) by simp,FU r fs]
    exact q
theorem JF:OpR X (compareOp .NotIn) (rIn X.K true):=by
  intro pins s σ H x y v u Q I rx ry h
  obtain ⟨p,xs,rfl,hq,fx,fs,q⟩:=h
  cases ry
  rcases hq with hq | hq
  . obtain ⟨its,r,pl,hz⟩:=I.list hq
    refine SeqAt.notIn_listAt (eqU x) pl.isList (fun w hw=>Dd rx fx r fs w (by simpa using hw)) ⟨.bl _,H,I,rfl,?_⟩
    rw [show its.toArray.any (eqU x)=its.any (eqU x) by simp,FU r fs]
    exact q
  . obtain ⟨its,r,pl,hz⟩:=I.tuple hq
    refine SeqAt.notIn_tupleAt (eqU x) pl (fun w hw=>Dd rx fx r fs w (by simpa using hw)) ⟨.bl _,H,I,rfl,?_⟩
    rw [show its.toArray.any (eqU x)=its.any (eqU x) by simp,FU r fs]
    exact q
def tyV (K:PySem.W.Frag) (T:String) (x:V) (H:Hp):Prop:=match x with
  | .str _=>T = "str"
  | .int _=>T = "int"
  | .ref p=>(T = "list" /\ ∃ xs,SqL K H p xs) ∨ (T = "tuple" /\ ∃ o,K.lookup p=some o /\ o.cls=.type "tuple" /\ o.dict=none) ∨
      (T = "dict" /\ ((∃ kvs,H p=some (.dK kvs)) ∨ ∃ kvs,H p=some (.dT kvs))) ∨ (T = "set" /\ ∃ S n,H p=some (.set S n))
  | _=>False
theorem N4 {pins:List (Addr × Obj)} {σ:St} {H:Hp} {s:Shared} {T:String} {x:V} {v:Value} (I:Inv X pins σ H s) (r:RelV x v) (ty:tyV X.K T x H) :
    s.TypeIs v T /\ ∀ a,v=.ref a->∃ ob,s.heap.get? a=some ob /\ ob.dict=none:=by
  cases x with
  | str z=>
    obtain ⟨t,rfl⟩:=r
    cases (show T = "str" from ty)
    exact ⟨typeIs_str s z t,fun _ e=>nomatch e⟩
  | int i=>
    obtain ⟨t,rfl⟩:=r
    cases (show T = "int" from ty)
    exact ⟨typeIs_int s i t,fun _ e=>nomatch e⟩
  | ref p=>
    cases r
    rcases ty with ⟨rfl,xs,hq⟩ | ⟨rfl,o,hk,hc,hd⟩ | ⟨rfl,hk⟩ | ⟨rfl,S,n,hk⟩
    . obtain ⟨its,_,pl,_⟩:=I.list hq
      refine ⟨pl.isList.typeIs,fun a e=>?_⟩
      cases e
      obtain ⟨o,n,e,c,hd,_⟩:=pl
      exact ⟨o,e,hd⟩
    . refine ⟨⟨o,I.kIn p o hk,hc⟩,fun a e=>?_⟩
      cases e
      exact ⟨o,I.kIn _ o hk,hd⟩
    . have z:∃ o,s.heap.get? p=some o /\ o.ExactDict:=by
        rcases hk with ⟨kvs,hk⟩ | ⟨kvs,hk⟩
        . obtain ⟨_,_,_,_,o,_,_,e,ex,_⟩:=I.hok p _ hk
          exact ⟨o,e,ex⟩
        . obtain ⟨_,_,_,_,o,_,_,e,ex,_⟩:=I.hok p _ hk
          exact ⟨o,e,ex⟩
      obtain ⟨o,e,ex⟩:=z
      refine ⟨⟨o,e,ex.1⟩,fun a e2=>?_⟩
      cases e2
      exact ⟨o,e,ex.2.1⟩
    . obtain ⟨o,_,_,_,e,ex,_⟩:=I.hok p _ hk
      refine ⟨⟨o,e,ex.1⟩,fun a e2=>?_⟩
      cases e2
      exact ⟨o,e,ex.2.1⟩
  | _=>exact False.elim ty
def UY (K:PySem.W.Frag) (T:String) (r:V->List V->Hp->VK->Prop) (to:TE):TE:=fun σ H Q=>to σ H fun x H1=>tyV K T x H1 /\ r x [] H1 Q
def tBM (K:PySem.W.Frag) (T:String) (r:V->List V->Hp->VK->Prop) (to:TE) (t:TA):TE:=fun σ H Q=>to σ H fun x H1=>tyV K T x H1 /\ t σ H1 fun xs H2=>r x xs H2 Q
variable {o e:Expr} {es:List Expr} {to:TE} {t:TA} {name:Str} {apos cpos:Pos} {T id:String} {r:V->List V->Hp->VK->Prop}
theorem TQ (pa:PlainAttrs T) (slot:Slot T name id) (hty:typeOf (.builtin id)=pure (.type "method_descriptor")) (hm:MtR X id r) (ho:PE X o to)
    (hbase:attributeBase o name X.env (eval o X.env)=eval o X.env:=by rfl) (hline:(apos.endLine == cpos.line)=true:=by rfl):PE X (.Call (.Attribute o name apos) [] [] cpos) (UY X.K T r to):=by
  intro pins s σ H Q I h
  refine wpAny_Call_method0_late hbase hline (thn (ho pins s σ H _ I h) fun v s1 ⟨x,H1,I1,r1,ty,q1⟩=>?_)
  obtain ⟨h1,h2⟩:=N4 I1 r1 ty
  exact ⟨T,id,pa,slot,hty,h1,h2,Calls.callWith_builtin rfl (PySem.evalArgs_none (hm pins s1 σ H1 x [] v [] Q I1 r1 .nil q1))⟩
theorem Us (pa:PlainAttrs T) (slot:Slot T name id) (hty:typeOf (.builtin id)=pure (.type "method_descriptor")) (hm:MtR X id r) (ho:PE X o to) (ha:PA X (e :: es) t)
    (hbase:attributeBase o name X.env (eval o X.env)=eval o X.env:=by rfl)
    (hfew:((backTo cpos (starEach (e :: es) X.env)).all (fun x=>!x.1) && (backToKw cpos (keywordEach [] X.env)).all (fun x=>x.1.isSome)
      && decide ((e :: es).length + ([]:List Keyword).length + (if ([]:List Keyword).isEmpty then 0 else 1) < 30))=true:=by rfl)
    (hline:(apos.endLine == cpos.line)=true:=by rfl) (hs:starEach (e :: es) X.env=(false,eval e X.env) :: starEach es X.env:=by rfl) (hplain:(backTo cpos (starEach es X.env)).any (·.1)=false:=by rfl) :
    PE X (.Call (.Attribute o name apos) (e :: es) [] cpos) (tBM X.K T r to t):=by
  intro pins s σ H Q I h
  refine wpAny_Call_method_late hbase hfew hline rfl (thn (ho pins s σ H _ I h) fun v s1 ⟨x,H1,I1,r1,ty,q1⟩=>?_)
  obtain ⟨h1,h2⟩:=N4 I1 r1 ty
  refine ⟨T,id,pa,slot,hty,h1,h2,?_⟩
  have hA:=ha cpos pins s1 σ H1 _ I1 q1
  rw [hs] at hA ⊢
  refine Calls.callWith_builtin (by show (false || (backTo cpos (starEach es X.env)).any (·.1))=false; rw [hplain] <;> rfl) (Calls.evalArgs_plain ?_)
  exact thn hA fun us s2 ⟨vs,H2,I2,r2,q2⟩=>hm pins s2 σ H2 x vs v us Q I2 r1 r2 q2
end
end L2
namespace L2
open PySem PySem.Spec PyProof.Rows
def MtM (X:Cx) (id:String) (r:V->List V->Hp->VK->Prop):Prop:=
  ∀ (pins:List (Addr × Obj)) (s:Shared) (σ:St) (H:Hp) (x:V) (xs:List V) (v:Value) (us:List Value) (Q:VK),Inv X pins σ H s->RelV x v->Vals xs us->r x xs H Q->
    wpAny (model X.prog X.w) X.A (call (.builtin id) (v :: us)) (EP X pins σ Q) X.xe s
theorem Vals.one:∀ {x:V} {us:List Value},Vals [x] us->∃ u,us=[u] /\ RelV x u
  | _,_,.cons r .nil=>⟨_,rfl,r⟩
theorem Vals.two:∀ {x y:V} {us:List Value},Vals [x,y] us->∃ u v,us=[u,v] /\ RelV x u /\ RelV y v
  | _,_,_,.cons r (.cons q .nil)=>⟨_,_,rfl,r,q⟩
theorem Vals.zero:∀ {us:List Value},Vals [] us->us=[]
  | _,.nil=>rfl
theorem Vals.dropLast {xs:List V} {us:List Value} (h:Vals xs us):Vals xs.dropLast us.dropLast:=by
  induction h with
  | nil=>exact .nil
  | cons r t ih=>
    cases t with
    | nil=>exact .nil
    | cons q t'=>exact .cons r ih
theorem Vals.rep {xs:List V} {us:List Value} (h:Vals xs us):∀ k:Nat,Vals (List.replicate k xs).flatten (List.replicate k us).flatten
  | 0=>.nil
  | k + 1=>by
    rw [List.replicate_succ,List.replicate_succ,List.flatten_cons,List.flatten_cons]
    exact Vals.append h (Vals.rep h k)
theorem LM {α:Type} (l:List α):l.eraseIdx (l.length - 1)=l.dropLast:=by
  induction l with
  | nil=>rfl
  | cons a r ih=>
    cases r with
    | nil=>rfl
    | cons b r=>
      have e:(a :: b :: r).length - 1=((b :: r).length - 1) + 1:=by
        have h1:(a :: b :: r).length=r.length + 2:=rfl
        have h2:(b :: r).length=r.length + 1:=rfl
        omega
      rw [e,List.eraseIdx_cons_succ,ih]
      all_goals rfl
theorem IS (its:List Value):∀ (k:Nat) (acc:List Value),
    List.foldl (fun x1 x2=>x1 ++ x2) acc.toArray (List.replicate k its.toArray)=(acc ++ (List.replicate k its).flatten).toArray
  | 0,acc=>by simp
  | k + 1,acc=>by
    have e:acc.toArray ++ its.toArray=(acc ++ its).toArray:=by simp
    have e2:(acc ++ its) ++ (List.replicate k its).flatten=acc ++ (List.replicate (k + 1) its).flatten:=by
      rw [List.replicate_succ,List.flatten_cons,List.append_assoc]
    rw [← e2,← IS its k (acc ++ its),← e,List.replicate_succ,List.foldl_cons]
section
variable {X:Cx} {pins:List (Addr × Obj)} {σ:St} {H:Hp} {s:Shared} {l b:Addr} {xs ys zs:List V}
theorem Inv.lset {its its':List Value} {n:Nat} {f:Array Value->Array Value} {t':Nat} (I:Inv X pins σ H s) (hH:H l=some (.lst xs))
    (e:s.heap.get? l=some { cls:=.type "list",data:=.seq its.toArray n }) (hf:f its.toArray=its'.toArray) (hv:Vals ys its') (hz:ys.length <= sizeLine) :
    Inv X pins σ (upd H l (.lst ys)) { s with heap:=s.heap.update l (Obj.mapSeq f),toks:=t' }:=by
  have q:=PySem.IsL.update e f
  rw [hf] at q
  refine I.write (x:=l) (e:=l) (by rw [hH]; exact trivial) (.inl rfl) (fun b' u hb hu=>(Heap.get?_update_other s.heap (Obj.mapSeq f) (Ne.symm hb)).trans hu) ⟨_,q⟩ ?_
  exact ⟨hz,its',_,hv,q⟩
theorem Inv.lnew {its:List Value} {t':Nat} (I:Inv X pins σ H s) (hv:Vals ys its) (hz:ys.length <= sizeLine) :
    Inv X pins σ (upd H s.heap.objs.size (.lst ys)) { s with heap:=s.heap.push { cls:=.type "list",data:=.seq its.toArray },toks:=t' }:=
  I.laid (fun _ _ q=>Heap.get?_push_of_some _ q) (Nat.le_refl _) ⟨hz,its,0,hv,Heap.get?_push_size _ rfl⟩
theorem Inv.fresh (I:Inv X pins σ H s):H s.heap.objs.size=none:=I.hok.fresh (Nat.le_refl _)
theorem Inv.lstM (I:Inv X pins σ H s) (hH:H l=some (.lst xs)):xs.length <= sizeLine /\ ∃ (its:List Value) (n:Nat),Vals xs its /\ xs.length=its.length /\ s.heap.get? l=some { cls:=.type "list",data:=.seq its.toArray n }:=by
  obtain ⟨z,its,n,r,e⟩:=I.hok l _ hH
  exact ⟨z,its,n,r,r.length,e⟩
theorem O3 {n:Nat} (h:n <= sizeLine):Builtin.List.listTooLong n=false:=by
  unfold Builtin.List.listTooLong
  exact decide_eq_false (by omega)
end
section
variable {X:Cx}
def Qp:V->List V->Hp->VK->Prop:=fun x vs H Q=>∃ l xs y,x=.ref l /\ vs=[y] /\ H l=some (.lst xs) /\ xs.length < sizeLine /\ Q .non (upd H l (.lst (xs ++ [y])))
theorem NN:MtM X "list.append" Qp:=by
  intro pins s σ H x vs v us Q I rx rv h
  obtain ⟨l,xs,y,rfl,rfl,hH,hz,q⟩:=h
  cases rx
  obtain ⟨u,rfl,ru⟩:=rv.one
  obtain ⟨z,its,n,r,hl,e⟩:=I.lstM hH
  refine call_meets F.slot_list_append ⟨_,e,rfl⟩ F.entry_list_append (F.args_list_append_2 _ _) (PySem.list_append l its.toArray n u (by rw [List.size_toArray]; omega)) ⟨e,?_⟩
  refine ⟨.non,_,I.lset (its':=its ++ [u]) hH e (by simp) (r.append (.cons ru .nil)) ?_,rfl,q⟩
  rw [List.length_append,List.length_singleton]
  omega
def Vk:V->List V->Hp->VK->Prop:=fun x vs H Q=>∃ l xs y,x=.ref l /\ vs=[] /\ H l=some (.lst xs) /\ xs[xs.length - 1]? = some y /\ Q y (upd H l (.lst xs.dropLast))
theorem Tj:MtM X "list.pop" Vk:=by
  intro pins s σ H x vs v us Q I rx rv h
  obtain ⟨l,xs,y,rfl,rfl,hH,hy,q⟩:=h
  cases rx
  have hus:=rv.zero
  subst hus
  obtain ⟨z,its,n,r,hl,e⟩:=I.lstM hH
  obtain ⟨u,hu,ru⟩:=r.get hy
  have hy':its.toArray[its.toArray.size - 1]? = some u:=by
    show its.toArray[its.length - 1]? = some u
    rw [← Array.getElem?_toList,← hl]
    exact hu
  refine call_meets F.slot_list_pop ⟨_,e,rfl⟩ F.entry_list_pop (F.args_list_pop_1 _) (MeetsSeq.list_pop_last l its.toArray n u hy' (by rw [List.size_toArray]; omega)) ⟨e,?_⟩
  refine ⟨y,_,I.lset (its':=its.dropLast) hH e ?_ r.dropLast ?_,ru,q⟩
  . show its.toArray.eraseIdxIfInBounds (its.toArray.size - 1)=its.dropLast.toArray
    rw [List.size_toArray,List.eraseIdxIfInBounds_toArray,LM]
  . rw [List.length_dropLast]
    omega
def Vn:R2:=fun x y H Q=>∃ l b xs zs,x=.ref l /\ y=.ref b /\ H l=some (.lst xs) /\ H b=some (.lst zs) /\ xs.length + zs.length <= sizeLine /\ ∀ p,H p=none->Q (.ref p) (upd H p (.lst (xs ++ zs)))
theorem Tf:OpR X (binaryOp .Add) Vn:=by
  intro pins s σ H x y v u Q I rx ry h
  obtain ⟨l,b,xs,zs,rfl,rfl,hH,hB,hz,q⟩:=h
  cases rx
  cases ry
  obtain ⟨z,its,n,r,hl,e⟩:=I.lstM hH
  obtain ⟨z2,its2,n2,r2,hl2,e2⟩:=I.lstM hB
  refine PySem.P.add_list e e2 ?_ (by rw [List.size_toArray,List.size_toArray]; omega)
  have ea:its.toArray ++ its2.toArray=(its ++ its2).toArray:=by simp
  rw [ea]
  exact ⟨.ref _,_,I.lnew (t':=s.toks) (r.append r2) (by rw [List.length_append]; omega),rfl,q _ I.fresh⟩
def Vj:R2:=fun x y H Q=>∃ l k xs,x=.ref l /\ y=.int k /\ H l=some (.lst xs) /\ -(2 ^ 63) <= k /\ k < 2 ^ 63 /\ xs.length * k.toNat <= sizeLine /\
  ∀ p,H p=none->Q (.ref p) (upd H p (.lst (List.replicate k.toNat xs).flatten))
theorem MC {α:Type} (xs:List α) (k:Nat):(List.replicate k xs).flatten.length=k * xs.length:=by
  induction k with
  | zero=>simp
  | succ k ih=>rw [List.replicate_succ,List.flatten_cons,List.length_append,ih,Nat.succ_mul,Nat.add_comm]
theorem TY:OpR X (binaryOp .Mult) Vj:=by
  intro pins s σ H x y v u Q I rx ry h
  obtain ⟨l,k,xs,rfl,rfl,hH,h1,h2,hz,q⟩:=h
  cases rx
  obtain ⟨t,rfl⟩:=ry
  obtain ⟨z,its,n,r,hl,e⟩:=I.lstM hH
  have hlen:its.toArray.size * k.toNat <= sizeLine:=by rw [List.size_toArray,← hl]; exact hz
  have hcap : ¬ its.toArray.size * k.toNat > (2 ^ 63 - 1) / 8:=by
    have:(sizeLine:Nat) <= (2 ^ 63 - 1) / 8:=by decide
    omega
  have hfit : ¬ (!Builtin.List.listFitsIndex k)=true:=by
    rw [fitsIndex_both h1 h2]
    exact Bool.false_ne_true
  have hlong : ¬ Builtin.List.listTooLong (its.toArray.size * k.toNat)=true:=by
    rw [O3 hlen]
    exact Bool.false_ne_true
  have hnew:List.foldl (fun x1 x2=>x1 ++ x2) #[] (List.replicate (if its.toArray.isEmpty=true then 0 else k.toNat) its.toArray)=(List.replicate k.toNat its).flatten.toArray:=by
    have f0:∀ m:Nat,List.foldl (fun x1 x2=>x1 ++ x2) #[] (List.replicate m its.toArray)=(List.replicate m its).flatten.toArray:=fun m=>by
      have:=IS its m []
      rw [List.nil_append] at this
      exact this
    rw [f0]
    cases its with
    | nil=>simp
    | cons a r'=>rw [if_neg (by simp)]
  refine wpAny_binaryOp_repeat_ref (T := "list") (U := "int") (by decide) ⟨_,e,rfl⟩ (fun s'=>typeIs_int s' k t) noFill_list_mul F.fills_int_mul F.slot_int_rmul repeat_list F.slot_int_index.lookup
    (call_meets F.slot_int_rmul (typeIs_int s k t) F.entry_int_rmul (F.args_int_rmul_2 _ _) (int___rmul___int_list k t l its.toArray n)
      ⟨e,rfl,⟨_,e,rfl⟩,call_meets F.slot_list_mul ⟨_,e,rfl⟩ F.entry_list_mul (F.args_list_mul_2 _ _) (AutoListH.list___mul___list_int_3 l its.toArray n k t hfit hcap hlong) ⟨e,?_⟩⟩)
  rw [hnew]
  exact ⟨.ref _,_,I.lnew (t':=s.toks) (r.rep k.toNat) (by rw [MC,Nat.mul_comm]; exact hz),rfl,q _ I.fresh⟩
end
section
variable {prog:Program} {w:World} {A:Around} {E:Value->Shared->Prop} {s:Shared}
end
section
variable {X:Cx}
end
end L2
namespace L2
open PySem PySem.Spec PyProof.Rows
section
variable {κ:Type} [DecidableEq κ]
def D5 (kvs:List (κ × V)) (k:κ):Option V:=(kvs.find? fun kv=>decide (kv.1=k)).map (·.2)
def FC (kvs:List (κ × V)) (k:κ) (v:V):List (κ × V):=
  if (kvs.any fun kv=>decide (kv.1=k))=true then kvs.map (fun kv=>if kv.1=k then (kv.1,v) else kv) else kvs ++ [(k,v)]
def F4 (kvs:List (κ × V)) (k:κ):List (κ × V):=kvs.filter fun kv=>decide (kv.1 ≠ k)
theorem GX {p:κ × V} {r:List (κ × V)} {k:κ} (e:p.1=k):D5 (p :: r) k=some p.2:=by simp [D5,List.find?_cons,e]
theorem GY {p:κ × V} {r:List (κ × V)} {k:κ} (e : ¬ p.1=k):D5 (p :: r) k=D5 r k:=by simp [D5,List.find?_cons,e]
theorem Jd (k:κ):∀ kvs:List (κ × V),(kvs.any fun kv=>decide (kv.1=k))=(D5 kvs k).isSome
  | []=>rfl
  | p :: r=>by
    rw [List.any_cons]
    by_cases e:p.1=k
    . simp only [GX e,decide_eq_true e,Bool.true_or,Option.isSome_some]
    . rw [GY e,decide_eq_false e,Bool.false_or]; exact Jd k r
theorem Fy (kvs:List (κ × V)) (k:κ) (v:V):(FC kvs k v).length <= kvs.length + 1:=by
  unfold FC
  split
  . rw [List.length_map]; omega
  . rw [List.length_append,List.length_cons,List.length_nil]; omega
theorem RelO.isSome_eq {o:Option V} {u:Option Value} (r:RelO o u):o.isSome=u.isSome:=by
  cases o with
  | none=>cases u with
    | none=>rfl
    | some _=>exact (show False from r).elim
  | some _=>cases u with
    | none=>exact (show False from r).elim
    | some _=>rfl
theorem KV.val {kvs:List (κ × V)} {vs:List (κ × Value)} (r:KV kvs vs) (k:κ):RelO (D5 kvs k) (valueAt vs k):=by
  unfold KV at r
  induction r with
  | nil=>exact True.intro
  | @cons p q ps qs h t ih=>
    obtain ⟨h1,h2⟩:=h
    by_cases e:p.1=k
    . have e':q.1=k:=h1.symm.trans e
      have b:valueAt (q :: qs) k=some q.2:=by simp [valueAt,List.find?_cons,e']
      rw [GX e,b]; exact h2
    . have e' : ¬ q.1=k:=fun z=>e (h1.trans z)
      have b:valueAt (q :: qs) k=valueAt qs k:=by simp [valueAt,List.find?_cons,e']
      rw [GY e,b]; exact ih
theorem KV.any {kvs:List (κ × V)} {vs:List (κ × Value)} (r:KV kvs vs) (k:κ):(kvs.any fun kv=>decide (kv.1=k))=vs.any fun kv=>decide (kv.1=k):=by
  unfold KV at r
  induction r with
  | nil=>rfl
  | cons h t ih=>rw [List.any_cons,List.any_cons,ih,h.1]
theorem KV.repl {kvs:List (κ × V)} {vs:List (κ × Value)} (r:KV kvs vs) (k:κ) {y:V} {u:Value} (ry:RelV y u) :
    KV (kvs.map fun kv=>if kv.1=k then (kv.1,y) else kv) (vs.map fun kv=>if kv.1=k then (kv.1,u) else kv):=by
  unfold KV at r ⊢
  induction r with
  | nil=>exact .nil
  | @cons p q ps qs h t ih=>
    rw [List.map_cons,List.map_cons]
    refine .cons ?_ ih
    obtain ⟨h1,h2⟩:=h
    by_cases e:p.1=k
    . rw [if_pos e,if_pos (h1.symm.trans e)]; exact ⟨h1,ry⟩
    . rw [if_neg e,if_neg (fun z=>e (h1.trans z))]; exact ⟨h1,h2⟩
theorem KV.put {kvs:List (κ × V)} {vs:List (κ × Value)} (r:KV kvs vs) (k:κ) {y:V} {u:Value} (ry:RelV y u):KV (FC kvs k y) (stored vs k u):=by
  unfold FC stored
  rw [r.any k]
  by_cases e:(vs.any fun kv=>decide (kv.1=k))=true
  . rw [if_pos e,if_pos e]; exact r.repl k ry
  . rw [if_neg e,if_neg e]; exact Paired.snoc r ⟨rfl,ry⟩
theorem KV.drop {kvs:List (κ × V)} {vs:List (κ × Value)} (r:KV kvs vs) (k:κ):KV (F4 kvs k) (without vs k):=by
  unfold KV at r ⊢
  unfold F4 without
  induction r with
  | nil=>exact .nil
  | @cons p q ps qs h t ih=>
    obtain ⟨h1,h2⟩:=h
    rw [List.filter_cons,List.filter_cons]
    by_cases e:p.1=k
    . have a : ¬ decide (p.1 ≠ k)=true:=by simp [e]
      have b : ¬ decide (q.1 ≠ k)=true:=by simp [h1.symm.trans e]
      rw [if_neg a,if_neg b]; exact ih
    . have e' : ¬ q.1=k:=fun z=>e (h1.trans z)
      have a:decide (p.1 ≠ k)=true:=by simp [e]
      have b:decide (q.1 ≠ k)=true:=by simp [e']
      rw [if_pos a,if_pos b]; exact .cons ⟨h1,h2⟩ ih
theorem KV.length {kvs:List (κ × V)} {vs:List (κ × Value)} (r:KV kvs vs):kvs.length=vs.length:=Paired.length r
theorem Pu (kvs:List (κ × V)) (k:κ):(F4 kvs k).length <= kvs.length:=List.length_filter_le _ _
end
theorem KB {P:Program} {w:World} {k:Key} {u:Value} (r:RelV (kV k) u):(BK P w).is k u=true:=by
  cases k with
  | inl i=>obtain ⟨t,e⟩:=(show ∃ t,u=Value.int i t from r); subst e; exact J6 P w i t
  | inr x=>obtain ⟨t,e⟩:=(show ∃ t,u=Value.str x t from r); subst e; exact J5 P w x t
theorem IL {P:Program} {w:World}:∀ {ks:List Key} {us:List Value},Vals (ks.map kV) us->ItemsAre (BK P w) ks us
  | [],_,r=>by rw [List.map_nil] at r; cases r; exact .nil
  | k :: ks,_,r=>by
    rw [List.map_cons] at r
    cases r with
    | cons h t=>exact .cons (KB h) (IL t)
abbrev KT (H:Hp):List (List Key × V)->List (List Key × Addr × Value)->Prop:=Paired fun p q=>p.1=q.1 /\ H q.2.1=some (.tup (p.1.map kV)) /\ RelV p.2 q.2.2
theorem KT.val {H:Hp} {kvs:List (List Key × V)} {xs:List (List Key × Addr × Value)} (r:KT H kvs xs) (k:List Key):RelO (D5 kvs k) ((atKey xs k).map (·.2)):=by
  induction r with
  | nil=>exact True.intro
  | @cons p q ps qs h t ih=>
    obtain ⟨h1,_,h2⟩:=h
    by_cases e:p.1=k
    . have e':q.1=k:=h1.symm.trans e
      have b:atKey (q :: qs) k=some q.2:=by simp [atKey,List.find?_cons,e']
      rw [GX e,b]; exact h2
    . have e' : ¬ q.1=k:=fun z=>e (h1.trans z)
      have b:atKey (q :: qs) k=atKey qs k:=by simp [atKey,List.find?_cons,e']
      rw [GY e,b]; exact ih
theorem KT.repl {H:Hp} {kvs:List (List Key × V)} {xs:List (List Key × Addr × Value)} (r:KT H kvs xs) (k:List Key) {y:V} {u:Value} (ry:RelV y u) :
    KT H (kvs.map fun kv=>if kv.1=k then (kv.1,y) else kv) (xs.map (putAt k u)):=by
  induction r with
  | nil=>exact .nil
  | @cons p q ps qs h t ih=>
    rw [List.map_cons,List.map_cons]
    refine .cons ?_ ih
    obtain ⟨h1,h2,h3⟩:=h
    unfold putAt
    by_cases e:p.1=k
    . rw [if_pos e,if_pos (h1.symm.trans e)]; exact ⟨h1,h2,ry⟩
    . rw [if_neg e,if_neg (fun z=>e (h1.trans z))]; exact ⟨h1,h2,h3⟩
theorem KT.put {H:Hp} {kvs:List (List Key × V)} {xs:List (List Key × Addr × Value)} (r:KT H kvs xs) (k:List Key) {b:Addr} {y:V} {u:Value} (hb:H b=some (.tup (k.map kV))) (ry:RelV y u) :
    KT H (FC kvs k y) (storedH xs k b u):=by
  have e:(kvs.any fun kv=>decide (kv.1=k))=(atKey xs k).isSome:=by
    rw [Jd,(r.val k).isSome_eq,Option.isSome_map]
  unfold FC storedH
  rw [e]
  by_cases q:(atKey xs k).isSome=true
  . rw [if_pos q,if_pos q]; exact r.repl k ry
  . rw [if_neg q,if_neg q]; exact Paired.snoc r ⟨rfl,hb,ry⟩
theorem KT.keeps {H H':Hp} {kvs:List (List Key × V)} {xs:List (List Key × Addr × Value)} (r:KT H kvs xs) (ht:∀ b ys,H b=some (.tup ys)->H' b=some (.tup ys)):KT H' kvs xs:=
  Paired.mapP r fun _ _ z=>⟨z.1,ht _ _ z.2.1,z.2.2⟩
section
variable {P:Program} {w:World} {H:Hp} {h:Heap} {a:Addr}
theorem R7 {u:HO} (ok:HOk P w H h) (e:Rd H a u):ObjOk P w H h a u:=e.ok ok
theorem KP {kvs:List (Key × V)} (ok:HOk P w H h) (e:Rd H a (.dK kvs)):kvs.length <= sizeLine /\ (a == sysModules)=false /\ ∃ vs,KV kvs vs /\ h.DictOf (BK P w) a vs:=
  show ObjOk P w H h a (.dK kvs) from R7 ok e
theorem SM {kvs:List (Key × V)} (ok:HOk P w H h) (e:H a=some (.dK kvs)):kvs.length <= sizeLine /\ (a == sysModules)=false /\ ∃ vs,KV kvs vs /\ h.DictOf (BK P w) a vs:=KP ok (.inl e)
theorem JK {ks:List Key} (ok:HOk P w H h) (e:H a=some (.tup (ks.map kV))):(tupleKind (BK P w)).is h ks a:=by
  obtain ⟨_,its,r,o,h1,h2,n,h3⟩:=(show ObjOk P w H h a (.tup (ks.map kV)) from ok a _ e)
  exact ⟨o,its.toArray,n,h1,h2,h3,by simpa using IL r⟩
theorem KO {kvs:List (List Key × V)} (ok:HOk P w H h) (e:Rd H a (.dT kvs)):kvs.length <= sizeLine /\ (a == sysModules)=false /\
    ∃ xs,KT H kvs xs /\ h.DictOfH (tupleKind (BK P w)) a xs:=by
  obtain ⟨z,y,xs,r,o,es,ep,h1,h2,h3,h4,h5⟩:=(show ObjOk P w H h a (.dT kvs) from R7 ok e)
  refine ⟨z,y,xs,r,o,es,ep,h1,h2,h3,h4,fun x hx=>?_,h5⟩
  have all:∀ {l:List (List Key × V)} {m:List (List Key × Addr × Value)},KT H l m->∀ x ∈ m,(tupleKind (BK P w)).is h x.1 x.2.1:=by
    intro l m q
    induction q with
    | nil=>intro x hx; exact nomatch hx
    | @cons p q ps qs hq t ih=>
      intro x hx
      rcases List.mem_cons.mp hx with e | hx
      . subst e
        exact JK ok (by rw [← hq.1]; exact hq.2.1)
      . exact ih x hx
  exact all r x hx
theorem VL {kvs:List (List Key × V)} (ok:HOk P w H h) (e:H a=some (.dT kvs)):kvs.length <= sizeLine /\ (a == sysModules)=false /\
    ∃ xs,KT H kvs xs /\ h.DictOfH (tupleKind (BK P w)) a xs:=KO ok (.inl e)
end
def DGet (H:Hp) (a:Addr) (y:V) (r:Option V):Prop:=
  (∃ kvs k,Rd H a (.dK kvs) /\ y=kV k /\ r=D5 kvs k) ∨ ∃ kvs k b,Rd H a (.dT kvs) /\ y=.ref b /\ H b=some (.tup (k.map kV)) /\ r=D5 kvs k
def DPut (H:Hp) (a:Addr) (y v:V) (H':Hp):Prop:=
  (∃ kvs k,H a=some (.dK kvs) /\ y=kV k /\ kvs.length < sizeLine /\ H'=upd H a (.dK (FC kvs k v))) ∨
  ∃ kvs k b,H a=some (.dT kvs) /\ y=.ref b /\ H b=some (.tup (k.map kV)) /\ kvs.length < sizeLine /\ H'=upd H a (.dT (FC kvs k v))
theorem DGet.k {H:Hp} {a:Addr} {kvs:List (Key × V)} {k:Key} (e:H a=some (.dK kvs)):DGet H a (kV k) (D5 kvs k):=.inl ⟨kvs,k,.inl e,rfl,rfl⟩
theorem DPut.k {H:Hp} {a:Addr} {kvs:List (Key × V)} {k:Key} {v:V} (e:H a=some (.dK kvs)) (hl:kvs.length < sizeLine):DPut H a (kV k) v (upd H a (.dK (FC kvs k v))):=.inl ⟨kvs,k,e,rfl,hl,rfl⟩
section
variable {X:Cx} {pins:List (Addr × Obj)} {σ:St} {H:Hp} {s:Shared} {a:Addr} {y v:V} {u r:Value} {o:Option V} {A:Around} {E:Value->Shared->Prop}
theorem Inv.big (I:Inv X pins σ H s):sysModules < s.heap.objs.size:=by
  have h:mainGlobals < s.heap.objs.size:=(I.mod.glob.keeps I.bk).lt
  exact Nat.lt_trans (by decide) h
theorem Nl {Q:Value->Shared->Prop} (hu:A.units + 1 < cLine) (I:Inv X pins σ H s) (g:DGet H a y (some v)) (ry:RelV y u) (h:∀ w' s',Inv X pins σ H s'->RelV v w'->Q w' s') :
    wpAny (model X.prog X.w) A (getItem (.ref a) u) Q E s:=by
  rcases g with ⟨kvs,k,e,ey,l⟩ | ⟨kvs,k,b,e,ey,eb,l⟩
  . subst ey
    obtain ⟨z,hd,vs,rel,dd⟩:=KP I.hok e
    obtain ⟨w',hw,rw'⟩:=RelO.some_of (v:=v) (o:=valueAt vs k) (by rw [l]; exact rel.val k)
    exact wpAny_getItem_of (KB ry) dd.mapOf hw (h w' _ (I.tok _) rw')
  . subst ey
    cases (show u=Value.ref b from ry)
    obtain ⟨z,hd,xs,rel,dd⟩:=KO I.hok e
    obtain ⟨w',hw,rw'⟩:=RelO.some_of (v:=v) (o:=(atKey xs k).map (·.2)) (by rw [l]; exact rel.val k)
    obtain ⟨p,hp,hp2⟩:=Option.map_eq_some_iff.mp hw
    refine wpAny_getItem_heap (tupleKind_room_in1 hu) (JK I.hok eb) dd hp ?_
    rw [hp2]
    exact h w' _ (I.tok _) rw'
theorem Vz {Q:Value->Shared->Prop} (hu:A.units + 1 < cLine) (I:Inv X pins σ H s) (g:DGet H a y o) (ry:RelV y u) (h:∀ s',Inv X pins σ H s'->Q (.bool o.isSome) s') :
    wpAny (model X.prog X.w) A (compareOp .In u (.ref a)) Q E s:=by
  rcases g with ⟨kvs,k,e,ey,l⟩ | ⟨kvs,k,b,e,ey,eb,l⟩
  . subst ey
    obtain ⟨z,hd,vs,rel,dd⟩:=KP I.hok e
    refine wpAny_in_of (KB ry) hd dd.mapOf ?_
    rw [← (rel.val k).isSome_eq,← l]
    exact h _ (I.tok _)
  . subst ey
    cases (show u=Value.ref b from ry)
    obtain ⟨z,hd,xs,rel,dd⟩:=KO I.hok e
    refine wpAny_in_heap (tupleKind_room_in1 hu) (JK I.hok eb) hd dd ?_
    have q:=(rel.val k).isSome_eq
    rw [Option.isSome_map] at q
    rw [← q,← l]
    exact h _ (I.tok _)
theorem GS {h':Heap} {t':Nat} {ob:HO} (I:Inv X pins σ H s) (mu:Mut (H a)) (hs:Heap.SameBut a s.heap h') (he:∃ q,h'.get? a=some q) (new:ObjOk X.prog X.w (upd H a ob) h' a ob) :
    Inv X pins σ (upd H a ob) { s with heap:=h',toks:=t' }:=
  I.write (x:=a) (e:=a) mu (.inl rfl) (fun b q hb z=>(hs.2 b hb).trans z) he new
theorem Pv {P:Program} {w:World} {H':Hp} {h':Heap} {kvs:List (Key × V)} {vs:List (Key × Value)} (z:kvs.length <= sizeLine) (hd:(a == sysModules)=false) (rel:KV kvs vs) (dd:h'.DictOf (BK P w) a vs) :
    ObjOk P w H' h' a (.dK kvs):=⟨z,hd,vs,rel,dd⟩
theorem Nj {H':Hp} {Q:Unit->Shared->Prop} (hu:A.units + 1 < cLine) (I:Inv X pins σ H s) (g:DPut H a y v H') (ry:RelV y u) (rv:RelV v r) (h:∀ s',Inv X pins σ H' s'->Q () s') :
    wpAny (model X.prog X.w) A (setItem (.ref a) u r) Q E s:=by
  rcases g with ⟨kvs,k,e,ey,l,eH⟩ | ⟨kvs,k,b,e,ey,eb,l,eH⟩
  . subst ey eH
    obtain ⟨z,hd,vs,rel,dd⟩:=SM I.hok e
    have hz:vs.length <= sizeLine:=by rw [← rel.length]; exact z
    have hl:(FC kvs k v).length <= sizeLine:=by have:=Fy kvs k v; omega
    refine wpAny_setItem_pairs (hsz:=hz) (KB ry) dd fun h' dd' hs=>h _ ?_
    have he:∃ q,h'.get? a=some q:=let ⟨q,_,_,hq,_⟩:=dd'; ⟨q,hq⟩
    exact GS I (by rw [e]; exact True.intro) hs he (Pv hl hd (rel.put k rv) dd')
  . subst ey eH
    cases (show u=Value.ref b from ry)
    obtain ⟨z,hd,xs,rel,dd⟩:=VL I.hok e
    have hz:xs.length <= sizeLine:=by rw [← Paired.length rel]; exact z
    have hl:(FC kvs k v).length <= sizeLine:=by have:=Fy kvs k v; omega
    refine wpAny_setItem_heap (hsz:=hz) (tupleKind_room_in1 hu) (JK I.hok eb) dd fun h' dd' hs=>h _ ?_
    obtain ⟨q,es,ep,hq,h2,h3,h4,_,h5⟩:=dd'
    refine GS I (by rw [e]; exact True.intro) hs ⟨q,hq⟩ ⟨hl,hd,_,(rel.put k eb rv).keeps fun c ys ec=>?_,q,es,ep,hq,h2,h3,h4,h5⟩
    rw [Aw (U7 ec e (fun z=>nomatch z))]
    exact ec
end
section
variable {X:Cx} {pins:List (Addr × Obj)} {σ:St} {H:Hp} {s:Shared} {a:Addr} {kvs:List (Key × V)} {k:Key} {u:Value} {A:Around} {E:Value->Shared->Prop}
theorem VN {v:V} {more:List Value} {Q:Value->Shared->Prop} (I:Inv X pins σ H s) (e:H a=some (.dK kvs)) (ry:RelV (kV k) u) (l:D5 kvs k=some v) (hm:more=[] ∨ ∃ x,more=[x])
    (h:∀ w' s',Inv X pins σ (upd H a (.dK (F4 kvs k))) s'->RelV v w'->Q w' s'):wpAny (model X.prog X.w) A (call (.builtin "dict.pop") (.ref a :: u :: more)) Q E s:=by
  obtain ⟨z,hd,vs,rel,dd⟩:=SM I.hok e
  obtain ⟨w',hw,rw'⟩:=RelO.some_of (v:=v) (o:=valueAt vs k) (by rw [← l]; exact rel.val k)
  have hp:(keyPart u).isSome=true:=by
    cases k with
    | inl i=>obtain ⟨t,q⟩:=(show ∃ t,u=Value.int i t from ry); subst q; rfl
    | inr x=>obtain ⟨t,q⟩:=(show ∃ t,u=Value.str x t from ry); subst q; rfl
  have ha:argsOk "dict.pop" ⟨.ref a :: u :: more,[]⟩:=by
    rcases hm with q | ⟨x,q⟩
    . subst q; exact PySem.F.args_dict_pop_2 _ _
    . subst q; exact PySem.F.args_dict_pop_3 _ _ _
  refine call_meetsIn PySem.F.slot_dict_pop dd.typeIs PySem.F.entry_dict_pop ha (meets_dict_pop_there (BK X.prog X.w) a (KB ry) more hm hp)
    ⟨vs,w',dd,by rw [← rel.length]; exact z,hw,fun h' dd' hs=>h w' _ ?_ rw'⟩
  have he:∃ q,h'.get? a=some q:=let ⟨q,_,_,hq,_⟩:=dd'; ⟨q,hq⟩
  exact GS I (by rw [e]; exact True.intro) hs he (Pv (Nat.le_trans (Pu kvs k) z) hd (rel.drop k) dd')
end
def UB (i:Expr):Prop:=∀ ov iv,subscripted i false ov iv=operate [ov,iv] (getItem ov iv)
theorem QT {prog:Program} {w:World} {A:Around} {E:Value->Shared->Prop} {s:Shared} {env:Env} {value slice:Expr} {pos:Pos} {T id:String} {Q:Value->Shared->Prop}
    (hl:typeLookup (.type T) "__getitem__" = pure (some (.builtin id))) (hs:UB slice)
    (h:wpAny (model prog w) A (eval value env) (fun o s₁=>wpAny (model prog w) A (eval slice env) (fun i s₂=>s₂.TypeIs o T /\ wpAny (model prog w) A (getItem o i) Q E s₂) E s₁) E s) :
    wpAny (model prog w) A (eval (.Subscript value slice pos) env) Q E s:=by
  refine Subscript_ (wpAny_mono h (fun o s₁ h₁=>wpAny_mono h₁ (fun i s₂ h₂=>?_) fun _ _ x=>x) fun _ _ x=>x)
  obtain ⟨hT,h₂⟩:=h₂
  unfold subscriptTail
  refine wpAny_bind ?_
  rw [getitemInPython_of_ne hT.not_modules]
  refine wpAny_bind (wpAny_specialOf hT hl ?_)
  have fin:wpAny (model prog w) A (subscripted slice false o i) (fun r s₃=>wpAny (model prog w) A (letTemporaryGo value o r >>= fun _=>pure r) Q E s₃) E s₂:=by
    rw [hs o i]
    exact wpAny_operating (wpAny_mono h₂ (fun r s₃ h₃=>wpAny_bind (wpAny_letTemporaryGo (wpAny_pure h₃))) fun _ _ x=>x)
  first
    | exact wpAny_pure (wpAny_bind fin)
    | exact wpAny_bind (wpAny_pure (wpAny_bind fin))
    | exact wpAny_bind fin
theorem KR {X:Cx} {pins:List (Addr × Obj)} {σ:St} {H:Hp} {s:Shared} {a:Addr} {y:V} {o:Option V} (I:Inv X pins σ H s) (g:DGet H a y o):s.TypeIs (.ref a) "dict" := by
  rcases g with ⟨kvs,k,e,_,_⟩ | ⟨kvs,k,b,e,_,_,_⟩
  . obtain ⟨_,_,vs,_,dd⟩:=KP I.hok e
    exact dd.typeIs
  . obtain ⟨_,_,xs,_,dd⟩:=KO I.hok e
    exact dd.typeIs
def UU (td ty:TE):TE:=fun σ H Q=>td σ H fun x H1=>ty σ H1 fun y H2=>∃ a v,x=.ref a /\ DGet H2 a y (some v) /\ Q v H2
def UT (ty td:TE):TE:=fun σ H Q=>ty σ H fun y H1=>td σ H1 fun x H2=>∃ a o,x=.ref a /\ DGet H2 a y o /\ Q (.bl o.isSome) H2
def Uc (td ty tv:TE):TS:=fun D σ H=>tv σ H fun v H1=>td σ H1 fun x H2=>ty σ H2 fun y H3=>∃ a H4,x=.ref a /\ DPut H3 a y v H4 /\ D.nx σ H4
section
variable {X:Cx} {o i e value:Expr} {pos pos' tpos:Pos} {td ty tv:TE}
theorem Q4 (hu:X.A.units + 1 < cLine) (ho:PE X o td) (hi:PE X i ty) (hs:UB i):PE X (.Subscript o i pos) (UU td ty):=by
  intro pins s σ H Q I h
  refine QT PySem.F.slot_dict_getitem.lookup hs (thn (ho pins s σ H _ I h) fun u s1 ⟨x,H1,I1,rx,q1⟩=>thn (hi pins s1 σ H1 _ I1 q1) fun iv s2 ⟨y,H2,I2,ry,a,v,ex,g,q2⟩=>?_)
  subst ex
  obtain rfl:u=Value.ref a:=rx
  exact ⟨KR I2 g,Nl hu I2 g ry fun w' s3 I3 rw'=>⟨v,H2,I3,rw',q2⟩⟩
theorem TU (hu:X.A.units + 1 < cLine) (hi:PE X i ty) (ho:PE X o td):PC X .In i o (UT ty td):=by
  intro pins s σ H Q I h
  refine thn (hi pins s σ H _ I h) fun iv s1 ⟨y,H1,I1,ry,q1⟩=>thn (ho pins s1 σ H1 _ I1 q1) fun u s2 ⟨x,H2,I2,rx,a,ov,ex,g,q2⟩=>?_
  subst ex
  obtain rfl:u=Value.ref a:=rx
  exact Vz hu I2 g ry fun s3 I3=>⟨.bl ov.isSome,H2,I3,rfl,q2⟩
theorem Qy (hu:X.A.units + 1 < cLine) (ho:PE X o td) (hi:PE X i ty) (hv:PE X value tv) (hs:swapsWith value (some (.Subscript o i pos')) pos.line X.env=pure false) :
    PS X (.Assign [.Subscript o i pos'] value pos) (Uc td ty tv):=by
  intro pins s σ H D I h
  refine wpAny_Assign_Subscript (thn (hv pins s σ H _ I h) fun r s1 ⟨v,H1,I1,rv,q1⟩=>thn (ho pins s1 σ H1 _ I1 q1) fun u s2 ⟨x,H2,I2,rx,q2⟩=>thn (hi pins s2 σ H2 _ I2 q2) fun iv s3 ⟨y,H3,I3,ry,a,H4,ex,g,q3⟩=>?_) hs
  subst ex
  obtain rfl:u=Value.ref a:=rx
  exact Nj hu I3 g ry rv fun s4 I4=>⟨σ,H4,I4,q3⟩
end
theorem Pw {P:Program} {w:World} {H:Hp} (h:Heap) (hb:sysModules < h.objs.size):ObjOk P w H (h.push { cls:=.type "dict",data:=.dict #[] }) h.objs.size (.dK []):=
  ⟨Nat.zero_le _,beq_eq_false_iff_ne.mpr (Ne.symm (Nat.ne_of_lt hb)),[],.nil,Heap.DictOf.new h⟩
def Se:TE:=fun _ H Q=>∀ p,H p=none->Q (.ref p) (upd H p (.dK []))
section
variable {X:Cx} {pos:Pos}
theorem Ou:PE X (.Dict [] [] pos) Se:=fun pins s σ H Q I h=>
  wpAny_Dict_empty ⟨.ref s.heap.objs.size,_,I.laid (a:=s.heap.objs.size) (o:=.dK []) (t':=s.toks) (fun _ _ q=>Heap.get?_push_of_some _ q) (Nat.le_refl _) (Pw s.heap I.big),rfl,h _ (I.hok.fresh (Nat.le_refl _))⟩
end
structure M1 (X:Cx) (o:Expr) (m:Str) (apos:Pos) (e:Expr) (cpos:Pos):Prop where
  base:attributeBase o m X.env (eval o X.env)=eval o X.env
  few:((backTo cpos (starEach [e] X.env)).all (fun x=>!x.1) && (backToKw cpos (keywordEach [] X.env)).all (fun x=>x.1.isSome)
    && decide (([e]:List Expr).length + ([]:List Keyword).length + (if ([]:List Keyword).isEmpty then 0 else 1) < 30))=true
  line:(apos.endLine == cpos.line)=true
  trees:backTo cpos (starEach [e] X.env)=[(false,eval e X.env)]
def IsD (H:Hp) (a:Addr):Prop:=(∃ kvs,Rd H a (.dK kvs)) ∨ ∃ kvs,Rd H a (.dT kvs)
theorem Tv {X:Cx} {pins:List (Addr × Obj)} {σ:St} {H:Hp} {s:Shared} {a:Addr} (I:Inv X pins σ H s) (d:IsD H a) :
    s.TypeIs (.ref a) "dict" /\ (∀ b,Value.ref a=.ref b->∃ ob,s.heap.get? b=some ob /\ ob.dict=none) /\ (a == sysModules)=false:=by
  rcases d with ⟨kvs,e⟩ | ⟨kvs,e⟩
  . obtain ⟨_,hd,vs,_,dd⟩:=KP I.hok e
    refine ⟨dd.typeIs,fun b q=>?_,hd⟩
    cases q
    obtain ⟨ob,_,_,h1,h2,_⟩:=dd
    exact ⟨ob,h1,h2.2.1⟩
  . obtain ⟨_,hd,xs,_,dd⟩:=KO I.hok e
    refine ⟨dd.typeIs,fun b q=>?_,hd⟩
    cases q
    obtain ⟨ob,_,_,h1,h2,_⟩:=dd
    exact ⟨ob,h1,h2.2.1⟩
section
variable {X:Cx} {pins:List (Addr × Obj)} {σ:St} {H:Hp} {s:Shared} {a:Addr} {y d:V} {u r:Value} {o:Option V} {A:Around} {E:Value->Shared->Prop}
end
def Sd (td ty:TE):TE:=fun σ H Q=>td σ H fun x H1=>∃ a,x=.ref a /\ IsD H1 a /\ ty σ H1 fun y H2=>∃ kvs k v,H2 a=some (.dK kvs) /\ y=kV k /\ D5 kvs k=some v /\ Q v (upd H2 a (.dK (F4 kvs k)))
section
variable {X:Cx} {o e f:Expr} {apos cpos:Pos} {td ty tx:TE}
theorem Ot (ho:PE X o td) (he:PE X e ty) (m:M1 X o "pop" apos e cpos):PE X (.Call (.Attribute o "pop" apos) [e] [] cpos) (Sd td ty):=by
  intro pins s σ H Q I h
  refine wpAny_Call_method m.base m.few m.line PySem.F.plainAttrs_dict PySem.F.slot_dict_pop PySem.F.type_dict_pop (thn (ho pins s σ H _ I h) fun u s1 ⟨x,H1,I1,rx,a,ex,d,q1⟩=>?_)
  subst ex
  obtain rfl:u=Value.ref a:=rx
  obtain ⟨t1,t2,_⟩:=Tv I1 d
  refine ⟨t1,t2,?_⟩
  rw [m.trees]
  refine Calls.callWith_builtin rfl (Calls.evalArgs_plain (Calls.spliced_cons (thn (he pins s1 σ H1 _ I1 q1) fun iv s2 ⟨y,H2,I2,ry,kvs,k,v,ea,ey,l,q2⟩=>Calls.spliced_nil ?_)))
  subst ey
  exact VN I2 ea ry l (.inl rfl) fun w' s3 I3 rw'=>⟨v,_,I3,rw',q2⟩
end
section
variable {X:Cx} {pins:List (Addr × Obj)} {σ:St} {H:Hp} {s:Shared} {a:Addr} {kvs:List (Key × V)} {A:Around} {E:Value->Shared->Prop}
end
section
variable {X:Cx} {pins:List (Addr × Obj)} {σ:St} {H:Hp} {s:Shared} {a:Addr} {y:V} {u:Value} {A:Around} {E:Value->Shared->Prop}
end
end L2
namespace Att
open PySem PySem.W PySem.Calls PyProof.Rows
theorem GA {P:Params} {h:Heap}:∀ (ns:List Int) (vs:List Value),WellAll P h vs (ns.map WData.int)->IntsAre vs ns:=by
  intro ns
  induction ns with
  | nil=>
    intro vs w
    rw [List.map_nil] at w
    cases w
    exact .nil
  | cons n ns ih=>
    intro vs w
    rw [List.map_cons] at w
    cases w with
    | cons a b=>
      cases a
      exact .cons _ _ (ih _ b)
theorem M0 {l:OpenLaw} {n:Nat} (hn:l.most=some n) {P:Params} {h:Heap} {args:List WData} {vals:List Value}
    (hpre:l.row.toRowW.claim.pre args=true) (hwl:WellAll P h vals args) :
    ∃ a vs ns,vals=[Value.ref a] /\ args=[WData.list (ns.map WData.int)] /\ h.get? a=some { cls:=.type "list",data:=.seq vs.toArray } /\ IntsAre vs ns /\ ns.length <= n:=by
  have hsh:WShape.hasAll [] args [.list .int]=true:=(pre_splitW hpre).1
  have hc:l.pre.holds [] { args:=args }=true:=(pre_splitW hpre).2
  obtain ⟨d,r,rfl,h1,h2⟩:=hasAllW_cons hsh
  obtain rfl:=hasAllW_nil h2
  obtain ⟨xs,rfl,h3⟩:=hasW_list h1
  obtain ⟨ns,rfl⟩:=items_int h3
  have hlen:ns.length <= n:=by
    unfold OpenLaw.pre at hc
    have h4:(WTm.not (.lt (.lit (.int (n:Int))) (.len (.arg 0)))).holds [] { args:=[.list (ns.map .int)] }=true:=by
      have h4:=(holds_andW hc).1
      rw [hn] at h4
      exact h4
    have h5:=condW_of h4 (w_not (w_lt w_lit (w_len_list (w_arg rfl))))
    rw [List.length_map] at h5
    refine Nat.le_of_not_lt fun q=>?_
    have q':(n:Int) < ((ns.length:Nat):Int):=by omega
    first
      | (rw [decide_eq_true q'] at h5; exact absurd h5 (by decide))
      | (simp at h5; omega)
  cases hwl with
  | cons w1 w2=>
    cases w2
    cases w1 with
    | list ho hall=>exact ⟨_,_,ns,rfl,rfl,ho,GA ns _ hall,hlen⟩
theorem NB (l:OpenLaw) (args:List WData):l.row.toRowW.claim.post args (.bool true) args=true:=
  postW_of (r:=l.row.toRowW) (X:=(true == true))
    (show WShape.has [] (.bool true) .bool=true by first | rfl | decide | simp [WShape.has,WShape.arms,WShape.armsAll])
    (show (WTm.eq .res (.lit (.bool true))).value [] { args:=args,res:=some (.bool true),after:=args }=some (.bool (true == true)) from w_eq_bool (w_res rfl) w_lit) rfl
theorem Kg {l:OpenLaw} {n:Nat} {q:Program} {loose:List Str} {XP:(Str->Option Value)->Heap->Prop} {YP:World->Heap->Prop} {d:DefRec}
    (hn:l.most=some n) (hdf:d.params.defaults=[])
    (call:∀ (w:World) (s₀ s₁:Shared) (mg mb:Str->Option Value) (fa:Addr) (o:Obj) (pm cd doc:Value) (a:Addr) (vs:List Value) (ns:List Int),
      Ground q loose [] XP w s₀ mg mb s₁.heap->YP w s₁.heap->
      s₁.heap.get? fa=some o->o.data=.func (docDef d.name d.params d.body d.scope pm cd doc)->s₁.heap.CodeRec cd d.name->mg d.name=some (.ref fa)->
      s₁.heap.get? a=some { cls:=.type "list",data:=.seq vs.toArray }->IntsAre vs ns->ns.length <= n->s₁.gens = #[]->
      codeAny (model l.prog w) callerA (.call (.ref fa) ⟨[.ref a],[]⟩) (fun r s'=>r=.ok (.ret (.bool true)) /\ OldK s₁.heap s'.heap /\ s'.os=s₁.os /\ AllBare s'.gens) s₁) :
    WalkO q loose XP YP l.row.toRowW d [] (fun f vs=>PySem.call f vs):=by
  intro w s₀ s₁ mg mb G Y fa o pm cd doc dV kV ho hd hcd hD hmg hg args vals as hpre hlay hrd hwl hlo
  obtain rfl:dV=.none:=Dflts.none hD hdf
  obtain rfl:kV=.none:=Dflts.noKw hD
  obtain ⟨a,vs,ns,rfl,rfl,hobj,hints,hlen⟩:=M0 hn hpre hwl
  refine enter_call (codeAny_mono (call w s₀ s₁ mg mb fa o pm cd doc a vs ns G Y ho (fd_plain hd) hcd hmg hobj hints hlen hg) fun r s' hq=>?_)
  obtain ⟨rfl,h2,h3,h4⟩:=hq
  exact ⟨.inl ⟨.bool true,.bool true,[],rfl,fun _=>rfl,.bool true,NB l _,fun _=>⟨List.Pairwise.nil,fun _ hm=>(nomatch hm)⟩⟩,h2,h3,h4⟩
section
variable {prog:Program} {w:World} {A:Around} {E:Value->Shared->Prop} {s:Shared} {K:Frag}
end
end Att
namespace L2
open PySem PySem.Spec PyProof.Rows
theorem EZ:∀ {vs:List Value} {ns:List Int},IntsAre vs ns->Vals (ns.map V.int) vs
  | _,_,.nil=>.nil
  | _,_,.cons n t h=>.cons ⟨t,rfl⟩ (EZ h)
def Ry (H:Hp):Prop:=∀ b,H b=none ∨ ∃ o xs,H b=some (.frz o (.lst xs))
theorem PL {P:Program} {w:World} {K:PySem.W.Frag} {mg mb:Str->Option Value} {CX:CXT} {k:Nat} {fa a:Addr} {fd:FuncData} {x:Str} {sp:Sp} {s₁:Shared} {vs:List Value} {ns:List Int}
    (KX:K.In s₁.heap) (hns:s₁.heap.Ns mainGlobals mg) (hb:s₁.heap.Ns builtinsNs mb) (hbb:∀ x:Str,x ≠ "__name__" -> mb x=bootBuiltins x) (hlim:s₁.heap.NoLimit) (hg:s₁.gens = #[])
    (ha:s₁.heap.get? a=some { cls:=.type "list",data:=.seq vs.toArray }) (hi:IntsAre vs ns) (hl:ns.length <= sizeLine) (hr:Room k callerA)
    (F:∀ base:Heap,K.In base->base.Ns mainGlobals mg->FnOk P w K mg base CX k fa fd [x] sp) (hbind:∀ (s:Shared) (u:Value),BindsTo s fd ⟨[u],[]⟩ [(x,u)])
    (hsp:∀ H:Hp,Ry H->SqL K H a (ns.map V.int)->sp [.ref a] H (fun v _=>v=.bl true) fun _ _ _=>False)
    (hCX:∀ H e s',CX [] H s₁ (fun _ _ _=>False) e s'->False) :
    codeAny (model P w) callerA (.call (.ref fa) ⟨[.ref a],[]⟩) (fun r s'=>r=.ok (.ret (.bool true)) /\ OldK s₁.heap s'.heap /\ s'.os=s₁.os /\ AllBare s'.gens) s₁:=by
  have rv:=EZ hi
  have lenV:=hi.length
  have core:∀ H:Hp,Ry H->SqL K H a (ns.map V.int)->HOk P w H s₁.heap->(∀ b,H b ≠ none->b=a)->(H a ≠ none->K.lookup a=none)->
      codeAny (model P w) callerA (.call (.ref fa) ⟨[.ref a],[]⟩) (fun r s'=>r=.ok (.ret (.bool true)) /\ OldK s₁.heap s'.heap /\ s'.os=s₁.os /\ AllBare s'.gens) s₁:=by
    intro H hO hS hok hA hK
    have base_of:∀ {b:Addr} {o:Obj},s₁.heap.get? b=some o->H b=none->(JO s₁.heap H).get? b=some o:=fun e n=>Pb e n
    have noA:∀ {b:Addr} {o:Obj} {es:Array DictEntry} {ep:Nat},s₁.heap.get? b=some o->o.data=.dict es ep->H b=none:=fun {b o es ep} e d=>by
      cases q:H b with
      | none=>rfl
      | some u=>
        have e':b=a:=hA b (by rw [q]; simp)
        subst e'
        rw [ha] at e; cases e
        have d':Data.seq vs.toArray _=Data.dict es ep:=d
        cases d'
    have nsK:∀ {b:Addr} {m:Str->Option Value},s₁.heap.Ns b m->(JO s₁.heap H).Ns b m:=fun {b m} ⟨o,es,ep,e,d,r⟩=>⟨o,es,ep,base_of e (noA e d),d,r⟩
    have hKb:K.In (JO s₁.heap H):=fun b o e=>base_of (KX b o e) (by
      cases q:H b with
      | none=>rfl
      | some u=>
        have e':b=a:=hA b (by rw [q]; simp)
        subst e'
        rw [hK (by rw [q]; simp)] at e; cases e)
    have hM:Mod K mg (JO s₁.heap H):=⟨hKb,nsK hns,⟨mb,nsK hb,hbb⟩,let ⟨mc,h1,h2⟩:=hlim; ⟨mc,nsK h1,h2⟩⟩
    have e0:Rz P w K mg (JO s₁.heap H) callerA [] s₁ H:=⟨rfl,hM,fun b o e=>RH e,Nat.le_of_eq (NX _ _),trivial,fun b hb=>absurd (show b ∈ ([]:List Addr) from hb) (by simp),hok,.of_eq hg⟩
    refine codeAny_mono ((F _ hKb (nsK hns)).run callerA [] s₁ H ⟨[.ref a],[]⟩ [.ref a] [.ref a] _ _ hr e0 (hbind s₁ (.ref a)) (.cons rfl .nil) (hsp H hO hS)) fun r s' h=>?_
    cases r with
    | error e=>exact (hCX H e s' h).elim
    | ok fl=>
      cases fl with
      | next=>exact False.elim h
      | brk=>exact False.elim h
      | cont=>exact False.elim h
      | ret u=>
        obtain ⟨v,H',os,bare,un,hok',r',q⟩:=h
        have q':v=.bl true:=q
        subst q'
        obtain rfl:u=Value.bool true:=r'
        refine ⟨rfl,OldK.of_keep fun b o e=>?_,os,bare⟩
        cases q:H b with
        | none=>exact un.keep b o e q (by intro z; exact absurd (show b ∈ ([]:List Addr) from z) (by simp)) (by simp)
        | some u=>
          rcases hO b with z | ⟨ob,xs,z⟩
          . rw [q] at z; cases z
          . have z2:=un.frzs b ob _ z
            obtain ⟨e1,_⟩:=hok b _ z
            obtain ⟨e2,_⟩:=hok' b _ z2
            rw [e] at e1; cases e1
            exact e2
  cases hk:K.lookup a with
  | some o=>
    have e:=KX a o hk
    rw [ha] at e
    cases e
    refine core (fun _=>none) (fun _=>.inl rfl) (.inr ⟨_,vs.toArray,_,hk,rfl,rfl,rfl,by rw [List.size_toArray,lenV]; exact hl,by simpa using rv⟩) (fun b u z=>by have z':(none:Option HO)=some u:=z; cases z') (fun b z=>absurd rfl z) fun z=>absurd rfl z
  | none=>
    refine core (fun b=>if b=a then some (.frz { cls:=.type "list",data:=.seq vs.toArray } (.lst (ns.map V.int))) else none) (fun b=>?_) (.inl (.inr ⟨{ cls:=.type "list",data:=.seq vs.toArray },if_pos rfl⟩)) (fun b u z=>?_) (fun b z=>?_) fun _=>hk
    . by_cases hb:b=a
      . exact .inr ⟨_,_,if_pos hb⟩
      . exact .inl (if_neg hb)
    . by_cases hb:b=a
      . have z':=(if_pos hb).symm.trans z
        cases z'
        subst hb
        exact ⟨ha,by rw [List.length_map]; exact hl,vs,_,rv,ha⟩
      . have z':=(if_neg hb).symm.trans z
        cases z'
    . by_cases hb:b=a
      . exact hb
      . exact absurd (if_neg hb) z
end L2
namespace L2
open PySem PySem.Spec PyProof.Rows
theorem QJ {l:PySem.W.OpenLaw} {n k:Nat} {q:Program} {loose:List Str} {XP:(Str->Option Value)->Heap->Prop} {YP:World->Heap->Prop} {d:DefRec} {K:Params->PySem.W.Frag} {CX:World->CXT} {sp:World->Sp} {x:Str}
    (hn:l.most=some n) (hn2:n <= sizeLine) (hdf:d.params.defaults=[]) (hr:Room k callerA)
    (hY:∀ (w:World) (h:Heap),YP w h->(K w.params).In h)
    (F:∀ (w:World) (mg:Str->Option Value) (fa:Addr) (h:Heap),(K w.params).In h->h.Ns mainGlobals mg->mg d.name=some (.ref fa)->
      ∃ fd:FuncData,(∀ (s:Shared) (u:Value),BindsTo s fd ⟨[u],[]⟩ [(x,u)]) /\
        ∀ base:Heap,(K w.params).In base->base.Ns mainGlobals mg->FnOk l.prog w (K w.params) mg base (CX w) k fa fd [x] (sp w))
    (hsp:∀ (w:World) (H:Hp) (a:Addr) (ns:List Int),ns.length <= n->Ry H->SqL (K w.params) H a (ns.map V.int)->sp w [.ref a] H (fun v _=>v=.bl true) fun _ _ _=>False)
    (hCX:∀ (w:World) (H:Hp) (s:Shared) (e:Value) (s':Shared),CX w [] H s (fun _ _ _=>False) e s'->False) :
    PySem.W.WalkO q loose XP YP l.row.toRowW d [] (fun f vs=>PySem.call f vs):=by
  refine Att.Kg hn hdf fun w s₀ s₁ mg mb fa o pm cd doc a vs ns G Y ho hd hcd hmg hobj hints hlen hg=>?_
  have KX:=hY w _ Y
  obtain ⟨fd,hb,hF⟩:=F w mg fa _ KX G.T.g hmg
  exact PL KX G.T.g G.T.b G.T.builtins G.T.nolimit hg hobj hints (Nat.le_trans hlen hn2) hr hF hb (fun H hO hS=>hsp w H a ns hlen hO hS) fun H e s'=>hCX w H s₁ e s'
end L2
namespace L2
open PySem PySem.Spec PyProof.Rows
def FR (s:Stmt):Arguments:=match s with
  | .FunctionDef _ a _ _ _ _ _ _ _ _=>a
  | _=>{ posonlyargs:=[],args:=[],vararg:=none,kwonlyargs:=[],kw_defaults:=[],kwarg:=none,defaults:=[] }
def Ad (s:Stmt):List Stmt:=match s with
  | .FunctionDef _ _ b _ _ _ _ _ _ _=>b
  | _=>[]
def AH (s:Stmt):Scope:=match s with
  | .FunctionDef _ _ _ _ _ _ sc _ _ _=>sc
  | _=>{ kind:=.function,names:=[],isGenerator:=false,isCoroutine:=false }
abbrev CX0:CXT:=fun _ _ _ _ _ _=>False
abbrev E0:XK:=fun _ _ _=>False
theorem Uu {X:Cx}:LX CX0 X E0:=fun _ _ _ _ _ _ _ h=>h.elim
structure Fun (K:PySem.W.Frag) (x qual:Str) (st:Stmt) (f:Addr) (fd:FuncData):Prop where
  ex:∃ (oc:Value) (od:Option Addr) (kV doc pm:Value) (an:Option Addr) (cdv ct:Value) (osl:Array (Option Value)),
    fd=PySem.W.fnOf x qual (FR st) (Ad st) (AH st) .none kV doc pm an cdv ct /\ K.lookup f=some ⟨oc,od,.func fd,osl⟩ /\ PySem.W.codeIn K cdv qual=true
  kp:PySem.W.keepIn K (.ref f)=true
section
variable {P:Program} {w:World} {K:PySem.W.Frag} {mg:Str->Option Value} {base:Heap}
theorem Fun.ok {x qual:Str} {st:Stmt} {f:Addr} {fd:FuncData} {N ps:List Str} {k:Nat} {sp:Sp} (F:Fun K x qual st f fd) (S:Ag N ps (AH st)) (len:∀ vs H Q E,sp vs H Q E->vs.length=ps.length)
    (hbody:∀ (cdv:Value) (A:Around) (outer:List Env) (s:Shared) (H:Hp) (vs:List V) (Q:VK) (E:XK),Room k (A.deeper (envOfC qual (AH st) s.heap.objs.size f cdv))->sp vs H Q E->
      ∃ t,PSs (BT CX0 P w K mg base N qual (AH st) f cdv A outer s H E).nox (Ad st) t /\ t { nx:=fun _ H'=>Q .non H',rt:=Q } (start N vs) H):FnOk P w K mg base CX0 (k + 1) f fd ps sp:=by
  obtain ⟨oc,od,kV,doc,pm,an,cdv,ct,osl,rfl,lk,hcd⟩:=F.ex
  refine VJ lk hcd S len fun A outer s H vs Q E hr hsp=>?_
  obtain ⟨t,h,q⟩:=hbody cdv A outer s H vs Q E hr hsp
  exact ⟨t,h.nox,q⟩
theorem Fun.binds {x qual:Str} {st:Stmt} {f:Addr} {fd:FuncData} {ps:List Str} (F:Fun K x qual st f fd)
    (h:∀ (kV doc pm:Value) (an:Option Addr) (cdv ct:Value) (us:List Value),us.length=ps.length->bindArgs (PySem.W.fnOf x qual (FR st) (Ad st) (AH st) .none kV doc pm an cdv ct) ⟨us,[]⟩=pure (ps.zip us)):Binds K fd ps []:=by
  obtain ⟨oc,od,kV,doc,pm,an,cdv,ct,osl,rfl,lk,hcd⟩:=F.ex
  exact .all (h kV doc pm an cdv ct)
theorem T0 {x qual:Str} {st:Stmt} {f:Addr} {oc:Value} {od an:Option Addr} {osl:Array (Option Value)} {kV doc pm cdv ct:Value} (l:K.lookup f=some ⟨oc,od,.func (PySem.W.fnOf x qual (FR st) (Ad st) (AH st) .none kV doc pm an cdv ct),osl⟩)
    (c:PySem.W.codeIn K cdv qual=true) (k:PySem.W.keepIn K (.ref f)=true):Fun K x qual st f (PySem.W.fnOf x qual (FR st) (Ad st) (AH st) .none kV doc pm an cdv ct):=⟨⟨oc,od,kV,doc,pm,an,cdv,ct,osl,rfl,l,c⟩,k⟩
end
theorem Pa {A:Around} {k:Nat} (hr:Room k A):A.units + 1 < cLine:=Nat.lt_of_le_of_lt (Nat.add_le_add_left (by decide:1 <= 64) _) hr.units
section
variable {X:Cx}
end
section
variable {κ:Type} [DecidableEq κ]
end
end L2
namespace L2
open PySem PySem.Spec PyProof.Rows
def EX (env:Env):List (Str × NameKind)->List (Str × Addr)->List (Str × Addr)
  | [],cs=>cs
  | (n,k) :: r,cs=>EX env r (if k == .free then (match env.cells.lookup n with | some c=>(n,c) :: cs | none=>cs) else cs)
theorem Cj {env:Env}:∀ (l:List (Str × NameKind)) (cs:List (Str × Addr)),(∀ x ∈ l,x.2=.free->∃ c,env.cells.lookup x.1=some c)->
    (forIn l cs fun (x:Str × NameKind) (r:List (Str × Addr))=>(if (x.2 == NameKind.free)=true then (do let a ← cellOf env x.1; pure (ForInStep.yield ((x.1,a) :: r))) else pure (ForInStep.yield r):Sem (ForInStep (List (Str × Addr)))))=pure (EX env l cs)
  | [],cs,_=>by rw [List.forIn_nil]; rfl
  | (n,k) :: r,cs,h=>by
    have hr:∀ x ∈ r,x.2=.free->∃ c,env.cells.lookup x.1=some c:=fun x hx=>h x (List.mem_cons_of_mem _ hx)
    rw [List.forIn_cons]
    by_cases hk:k=.free
    . subst hk
      obtain ⟨c,hc⟩:=h (n,.free) List.mem_cons_self rfl
      have e:cellOf env n=pure c:=by unfold cellOf; rw [hc]
      dsimp only
      rw [if_pos (by decide),e,pure_bind,pure_bind]
      dsimp only
      rw [Cj r _ hr]
      show _=pure (EX env r (if (NameKind.free == NameKind.free)=true then (match env.cells.lookup n with | some c=>(n,c) :: cs | none=>cs) else cs))
      rw [if_pos (by decide),hc]
    . have hb : ¬ (k == NameKind.free)=true:=by simpa using hk
      dsimp only
      rw [if_neg hb,pure_bind]
      dsimp only
      rw [Cj r _ hr]
      show _=pure (EX env r (if (k == NameKind.free)=true then (match env.cells.lookup n with | some c=>(n,c) :: cs | none=>cs) else cs))
      rw [if_neg hb]
theorem Dm {scope:Scope} {env:Env} (h:∀ x ∈ scope.names,x.2=.free->∃ c,env.cells.lookup x.1=some c):closureFor scope env=pure (EX env scope.names []):=by
  have e:=Cj (env:=env) scope.names [] h
  unfold closureFor
  dsimp only
  rw [← bind_pure (pure (EX env scope.names [])),← e]
theorem EW {env:Env}:∀ (l:List (Str × NameKind)) (cs:List (Str × Addr)),(∀ x c,cs.lookup x=some c->env.cells.lookup x=some c)->∀ x c,(EX env l cs).lookup x=some c->env.cells.lookup x=some c
  | [],cs,h=>h
  | (n,k) :: r,cs,h=>by
    refine EW r _ ?_
    intro x c
    by_cases hk:(k == NameKind.free)=true
    . rw [if_pos hk]
      cases hl:env.cells.lookup n with
      | none=>exact h x c
      | some d=>
        intro q
        by_cases hx:x=n
        . subst hx
          rw [List.lookup_cons_self] at q
          rw [hl]; exact q
        . have hb:(x == n)=false:=beq_eq_false_iff_ne.mpr hx
          simp only [List.lookup_cons,hb] at q
          exact h x c q
    . rw [if_neg hk]; exact h x c
theorem HV {env:Env}:∀ (l:List (Str × NameKind)) (cs:List (Str × Addr)) (x:Str),(cs.lookup x).isSome=true->((EX env l cs).lookup x).isSome=true
  | [],cs,x,h=>h
  | (n,k) :: r,cs,x,h=>by
    refine HV r _ x ?_
    by_cases hk:(k == NameKind.free)=true
    . rw [if_pos hk]
      cases hl:env.cells.lookup n with
      | none=>exact h
      | some d=>
        by_cases hx:(x == n)=true
        . simp only [List.lookup_cons,hx,Option.isSome_some]
        . have hb:(x == n)=false:=by simpa using hx
          simp only [List.lookup_cons,hb]; exact h
    . rw [if_neg hk]; exact h
theorem Kb {env:Env}:∀ (l:List (Str × NameKind)) (cs:List (Str × Addr)) (x:Str) (c:Addr),(x,NameKind.free) ∈ l->env.cells.lookup x=some c->((EX env l cs).lookup x).isSome=true
  | [],cs,x,c,h,_=>by simp at h
  | (n,k) :: r,cs,x,c,h,hc=>by
    rcases List.mem_cons.mp h with e | e
    . obtain ⟨rfl,rfl⟩:=Prod.mk.inj e
      refine HV r _ _ ?_
      rw [if_pos (by decide),hc]
      simp only [List.lookup_cons_self,Option.isSome_some]
    . exact Kb r _ x c e hc
theorem Ib {env:Env} {l:List (Str × NameKind)} {x:Str} {c:Addr} (h:(x,NameKind.free) ∈ l) (hc:env.cells.lookup x=some c):(EX env l []).lookup x=some c:=by
  obtain ⟨d,hd⟩:=Option.isSome_iff_exists.mp (Kb l [] x c h hc)
  have:=EW l [] (fun _ _ z=>by simp at z) x d hd
  rw [hc] at this; cases this
  exact hd
def Bs:List (Str × NameKind)->List Str
  | []=>[]
  | (n,.free) :: r=>n :: Bs r
  | _ :: r=>Bs r
theorem Ew {x:Str}:∀ {l:List (Str × NameKind)},x ∈ Bs l->(x,NameKind.free) ∈ l
  | [],h=>by simp [Bs] at h
  | (n,k) :: r,h=>by
    cases k <;> first
      | (rcases List.mem_cons.mp (show x ∈ n :: Bs r from h) with e | e
         . subst e; exact List.mem_cons_self
         . exact List.mem_cons_of_mem _ (Ew e))
      | exact List.mem_cons_of_mem _ (Ew (show x ∈ Bs r from h))
theorem IQ {x:Str}:∀ {l:List (Str × NameKind)},(x,NameKind.free) ∈ l->x ∈ Bs l
  | [],h=>by simp at h
  | (n,k) :: r,h=>by
    rcases List.mem_cons.mp h with e | e
    . cases e; exact List.mem_cons_self
    . have ih:=IQ e
      cases k <;> first
        | exact List.mem_cons_of_mem _ ih
        | exact ih
theorem EL {x:Str} (f:Str × NameKind->Str × NameKind) (hf:∀ p,f p=p ∨ p.2=.free /\ f p=(p.1,.cell)):∀ (l:List (Str × NameKind)) (k:NameKind),(l.map f).lookup x=some k->l.lookup x=some k ∨ l.lookup x=some .free /\ k=.cell
  | [],_,h=>nomatch h
  | (y,j) :: l,k,h=>by
    have rest:=EL (x:=x) f hf l k
    rw [List.map_cons] at h
    rcases hf (y,j) with e | ⟨ej,e⟩ <;> rw [e] at h <;> cases he:x == y <;> simp only [List.lookup_cons,he] at h ⊢
    . exact rest h
    . exact .inl h
    . exact rest h
    . cases h
      cases (show j=NameKind.free from ej)
      exact .inr ⟨rfl,rfl⟩
theorem C6 {scope:Scope} {env:Env} {x:Str} {k:NameKind} (h:(relabel scope env).names.lookup x=some k):scope.names.lookup x=some k ∨ scope.names.lookup x=some .free /\ k=.cell:=by
  unfold relabel at h
  refine EL _ (fun p=>?_) _ _ h
  obtain ⟨n,j⟩:=p
  dsimp only
  split
  . rename_i hc
    refine .inr ⟨?_,rfl⟩
    simp only [Bool.and_eq_true,beq_iff_eq] at hc
    exact hc.1.1
  . exact .inl rfl
def IE (ix:List Nat) (σ:St):St:=ix.map fun j=>(σ[j]?).getD none
def cxB (X:Cx) (scope:Scope) (tgs:List Str) (fp:List Addr) (C:Addr) (s:Shared) (H:Hp):Cx:=
  { X with N:=tgs ++ Bs scope.names,s₀:=s,H₀:=H,env:=compEnvC scope (EX X.env scope.names []) C X.env,outer:=X.stack,ex:=fp,fn:=fun _=>false,pn:=[],xe:=fun _ _=>False }
def UC {α:Type} (P:α->Prop):List α->Prop
  | []=>True
  | x :: r=>P x /\ UC P r
theorem Hd {α:Type} {P:α->Prop}:∀ {l:List α},UC P l->∀ x ∈ l,P x
  | [],_,_,h=>by simp at h
  | _ :: _,h,x,hx=>by
    rcases List.mem_cons.mp hx with e | e
    . subst e; exact h.1
    . exact Hd h.2 x e
structure BScope (X:Cx) (scope:Scope) (tgs:List Str) (ix:List Nat):Prop where
  kind:scope.kind=.function
  nocell:∀ y ∈ scope.names,y.2 ≠ .cell
  loc:∀ y ∈ scope.names,y.2=.local->scope.names.lookup y.1=some .local
  fre:UC (fun x=>X.env.kindOf x=some .cell ∨ X.env.kindOf x=some .free) (Bs scope.names)
  ixs:(Bs scope.names).map some=ix.map fun j=>X.N[j]?
  ndl:∀ x ∈ Bs scope.names,scope.names.lookup x=some .free
section
variable {X:Cx} {scope:Scope} {tgs:List Str} {ix:List Nat}
theorem BScope.cells (S:BScope X scope tgs ix) (ok:X.Ok):∀ x ∈ scope.names,x.2=.free->∃ c,X.env.cells.lookup x.1=some c:=fun x hx hk=>by
  obtain ⟨n,k⟩:=x
  subst hk
  exact ok.has n (Hd S.fre n (IQ hx))
theorem Inv.cellLt {pins:List (Addr × Obj)} {σ:St} {H:Hp} {s:Shared} (I:Inv X pins σ H s) {x:Str} {c:Addr} (e:X.env.cells.lookup x=some c):c < s.heap.objs.size:=by
  obtain ⟨v,q⟩:=I.cell x c e
  exact q.lt
theorem Inv.track {pins:List (Addr × Obj)} {σ:St} {H:Hp} {s:Shared} {D:Addr} {o:HO} (I:Inv X pins σ H s) (f:FW X pins H D) (new:ObjOk X.prog X.w (upd H D o) s.heap D o):Inv X pins σ (upd H D o) s:=by
  obtain ⟨f0,f1,f2,f3,f4,f5⟩:=f
  have nD:∀ b u,H b=some u->b ≠ D:=fun b u e z=>by rw [z,f0] at e; cases e
  have:=I.step (h':=s.heap) (H':=upd H D o) (g':=s.gens) (t':=s.toks) (d':=s.drawn) (ch:=[D]) (fun b hb=>?_) (fun b u _ _ _ e _=>e) (fun b u _ _ _ e _=>⟨u.slots,e⟩) (fun b u hb e n=>?_) (fun b u _ e=>⟨u,e⟩)
    (fun b xs e=>?_) (fun b u v e=>?_) (fun b ps e=>?_) (fun m hm=>hm) (fun b u e=>?_) I.bare
  . exact this
  . have e:b=D:=by simpa using hb
    subst e
    exact ⟨f3,f1,f4,f5⟩
  . rw [Aw (fun z=>hb (by simp [z]))]; exact n
  . rw [Aw (nD b _ e)]; exact e
  . rw [Aw (nD b _ e)]; exact e
  . exact ⟨#[],by rw [Aw (nD b _ e),e]; simp⟩
  . by_cases hb:b=D
    . subst hb; rw [BF] at e; cases e; exact new
    . rw [Aw hb] at e
      exact (I.hok b u e).stay (fun _ _ _ q=>q) (fun c q=>by rw [Aw (nD c _ q)]; exact q) fun c xs q=>by rw [Aw (nD c _ q)]; exact q
theorem Py {pins:List (Addr × Obj)} {σ:St} {H:Hp} {s:Shared} {fp:List Addr} {C:Addr} (S:BScope X scope tgs ix) (I:Inv X pins σ H s) (hf:∀ b ∈ fp,FW X pins H b) (hfo:∀ b ∈ fp,b < s.heap.objs.size) (hC:s.heap.objs.size <= C) :
    (cxB X scope tgs fp C s H).Ok:=by
  have sub:∀ x c,(EX X.env scope.names []).lookup x=some c->X.env.cells.lookup x=some c:=EW scope.names [] (fun _ _ z=>by simp at z)
  refine ⟨I.ok.mod,S.kind,I.ok.glob,I.ok.blt,hC,fun x y c h1 h2=>I.ok.inj x y c (sub x c h1) (sub y c h2),fun x hx=>?_,fun x c h=>absurd h (by simp [cxB]),I.ok.hd,I.ok.frames,.inl rfl,fun b hb=>⟨?_,fun x c e=>?_⟩,fun b o e=>I.bs b o e,
    Nat.le_trans I.ok.bsz I.sz,fun b o e hb=>?_,fun b hb hz=>?_,I.stack,I.stkFree⟩
  . have hx':(relabel scope X.env).names.lookup x=some .cell ∨ (relabel scope X.env).names.lookup x=some .free:=hx
    have hm:(x,NameKind.free) ∈ scope.names:=by
      rcases hx' with h | h
      . rcases C6 h with q | q
        . exact absurd rfl (S.nocell _ (PySem.mem_of_lookup q))
        . exact PySem.mem_of_lookup q.1
      . rcases C6 h with q | q
        . exact PySem.mem_of_lookup q
        . exact absurd q.2 (by decide)
    obtain ⟨c,hc⟩:=S.cells I.ok _ hm rfl
    exact ⟨c,Ib hm hc⟩
  . exact fun z=>absurd (hfo b hb) (by rw [z]; exact Nat.not_lt.mpr hC)
  . exact (hf b hb).2.2.2.2.1 x c (sub x c e)
  . obtain ⟨f0,f1,f2,f3,f4,f5⟩:=hf b hb
    rcases f3 with z | z
    . exact I.ok.noex b o e z
    . exact absurd (Heap.lt_size (I.ok.bs b o e).1) (Nat.not_lt.mpr z)
  . obtain ⟨f0,f1,f2,f3,f4,f5⟩:=hf b hb
    rcases List.mem_cons.mp (I.stkSub b hz) with z | z
    . exact f1 z
    . exact f2 z
end
end L2
namespace L2
open PySem PySem.Spec PyProof.Rows
section
variable {X:Cx} {scope:Scope} {tgs:List Str} {ix:List Nat}
abbrev CI (tgs:List Str) (ix:List Nat) (σ:St):St:=List.replicate tgs.length none ++ IE ix σ
theorem Gc {σ:St} {k:Nat} {v:V} (h:(CI tgs ix σ)[k]? = some (some v)):tgs.length <= k /\ ∃ j,ix[k - tgs.length]? = some j /\ σ[j]? = some (some v):=by
  have hk:tgs.length <= k:=by
    rcases Nat.lt_or_ge k tgs.length with z | z
    . rw [List.getElem?_append_left (by simpa using z),List.getElem?_replicate,if_pos z] at h
      cases h
    . exact z
  refine ⟨hk,?_⟩
  rw [List.getElem?_append_right (by simpa using hk),List.length_replicate] at h
  unfold IE at h
  rw [List.getElem?_map] at h
  cases e:ix[k - tgs.length]? with
  | none=>rw [e] at h; cases h
  | some j=>
    rw [e] at h
    refine ⟨j,rfl,?_⟩
    have h':(σ[j]?).getD none=some v:=Option.some.inj h
    cases q:σ[j]? with
    | none=>rw [q] at h'; cases h'
    | some o=>
      rw [q] at h'
      have h'':o=some v:=h'
      rw [h'']
theorem LI {pins:List (Addr × Obj)} {σ:St} {H:Hp} {s s4:Shared} {fp:List Addr} {C D:Addr} {o:Obj} (S:BScope X scope tgs ix) (I:Inv X pins σ H s) (hf:∀ b ∈ fp,FW X pins H b) (hfo:∀ b ∈ fp,b < s.heap.objs.size)
    (hC:s.heap.objs.size <= C) (hD:s.heap.objs.size <= D) (hDC:D ≠ C) {m:Str->Option Value} (hn:s4.heap.Ns C m) (hk:∀ b u,s.heap.get? b=some u->s4.heap.get? b=some u) (hos:s4.os=s.os) (hg:s4.gens=s.gens)
    (hDo:s4.heap.get? D=some o) (hcell:∀ v,o.data ≠ .cell v):Inv (cxB X scope tgs fp C s H) [(D,o)] (CI tgs ix σ) H s4:=by
  have ok:=Py (tgs:=tgs) (ix:=ix) (C:=C) S I hf hfo hC
  have sub:∀ x c,(EX X.env scope.names []).lookup x=some c->X.env.cells.lookup x=some c:=EW scope.names [] (fun _ _ z=>by simp at z)
  refine ⟨ok,hos,by rw [hg]; exact I.bare,Un.kept hk,⟨m,hn,fun k x v h1 h2 h3=>?_⟩,fun x c e=>?_,I.hok.fresh hC,fun x c e=>I.freeC x c (sub x c e),fun p hp=>?_,I.hok.kept hk,?_⟩
  . obtain ⟨hkl,j,hj,hσ⟩:=Gc h2
    have h1':(Bs scope.names)[k - tgs.length]? = some x:=by
      have:(tgs ++ Bs scope.names)[k]? = some x:=h1
      rwa [List.getElem?_append_right hkl] at this
    have hx:x ∈ Bs scope.names:=List.mem_of_getElem? h1'
    have hXN:X.N[j]? = some x:=by
      have e:=congrArg (fun l=>l[k - tgs.length]?) S.ixs
      simp only [List.getElem?_map,h1',hj,Option.map_some] at e
      exact (Option.some.inj e).symm
    have kx:=Hd S.fre x hx
    obtain ⟨m0,hn0,hl⟩:=I.loc
    obtain ⟨u,r,l⟩:=hl j x v hXN hσ (by rcases kx with z | z; exact .inr (.inl z); exact .inr (.inr z))
    refine ⟨u,r,?_⟩
    rcases l with ⟨z,_⟩ | ⟨_,c,hc,q⟩
    . rcases kx with y | y <;> rw [z] at y <;> cases y
    . refine .inr ⟨?_,c,Ib (Ew hx) hc,?_⟩
      . have h3':(relabel scope X.env).names.lookup x=some .local ∨ (relabel scope X.env).names.lookup x=some .cell ∨ (relabel scope X.env).names.lookup x=some .free:=h3
        rcases h3' with z | z | z
        . exfalso
          rcases C6 z with w | w
          . have lk:scope.names.lookup x=some .local:=w
            have:=S.ndl x hx
            rw [lk] at this; cases this
          . exact absurd w.2 (by decide)
        . exact .inl z
        . exact .inr z
      . obtain ⟨oc,hoc,hd⟩:=q
        exact ⟨oc,hk c oc hoc,hd⟩
  . obtain ⟨v,oc,hoc,hd⟩:=I.cell x c (sub x c e)
    exact ⟨v,oc,hk c oc hoc,hd⟩
  . have e:p=(D,o):=by simpa [cxB] using hp
    subst e
    refine ⟨hDo,I.hok.fresh hD,hDC,fun hz=>?_,hcell⟩
    have hz':D ∈ frs X.stack:=hz
    rcases List.mem_cons.mp (I.stkSub D hz') with z | z
    . exact absurd I.lt (by rw [← z]; exact Nat.not_lt.mpr hD)
    . exact I.nofs hD z
  . show (List.replicate tgs.length none ++ IE ix σ).length=(tgs ++ Bs scope.names).length
    have e:=congrArg List.length S.ixs
    simp only [List.length_map] at e
    rw [List.length_append,List.length_append,List.length_replicate,e]
    unfold IE
    rw [List.length_map]
def Jb (X:Cx) (ifs:List Expr) (tc:TT):Prop:=
  ∀ (pins:List (Addr × Obj)) (s:Shared) (σ:St) (H:Hp) (Q:Bool->Hp->Prop),Inv X pins σ H s->tc σ H Q->
    wpAny (model X.prog X.w) X.A (forIn ifs true fun c r=>if r=true then do let ok ← isTrue c X.env (eval c X.env); pure (ForInStep.yield ok) else pure (ForInStep.yield r)) (TP X pins σ Q) X.xe s
def UM:TT:=fun _ H Q=>Q true H
theorem Oj:Jb X [] UM:=fun pins s σ H Q I h=>wpAny_tests_nil ⟨H,I,h⟩
theorem Oi {c:Expr} {tc:TT} (h:PT X c tc):Jb X [c] tc:=fun pins s σ H Q I hw=>wpAny_tests_one (h pins s σ H Q I hw)
def GK (n:Nat) (g:TG):Prop:=∀ x σ H Q,g x σ H Q->g x σ H fun σ2 H2=>Q σ2 H2 /\ σ2.length=σ.length /\ σ2.drop n=σ.drop n
theorem MK {n i:Nat} (h:i < n):GK n (Es i):=fun x σ H Q q=>⟨q,by simp,by rw [List.drop_set_of_lt h]⟩
def VT (tgs:List Str) (ix:List Nat) (g:TG) (tc:TT) (te:TE) (σ:St) (Q:VK) (J:It) (H1:Hp):Prop:=∃ W:Nat->Nat->List V->Hp->Prop,(∃ m,W 0 m [] H1) /\ ∀ i m ys H,W i m ys H->
  (J.stop i H /\ ys.length <= sizeLine /\ ∀ p,H p=none->Q (.ref p) (upd H p (.lst ys))) ∨
  (J.go i H /\ ys.length < sizeLine /\ ∃ N:List V->Hp->Prop,(∀ ys' H',N ys' H'->∃ m',m' < m /\ W (i + 1) m' ys' H') /\ ∀ x H',J.yld i H x H'->g x (CI tgs ix σ) H' fun σ2 H2=>tc σ2 H2 fun b H3=>
    if b=true then te σ2 H3 fun v H4=>N (ys ++ [v]) H4 else N ys H3)
def OC (tgs:List Str) (ix:List Nat) (wi:TI) (g:TG) (tc:TT) (te:TE):TE:=fun σ H Q=>wi σ H fun J H1=>VT tgs ix g tc te σ Q J H1
theorem LO {α:Type} {t:Sem α} {Q Q':α->Shared->Prop} {M:Model} {A:Around} {E:Value->Shared->Prop} {s:Shared} (h:wpAny M A t Q (fun _ _=>False) s) (hQ:∀ a s,Q a s->Q' a s):wpAny M A t Q' E s:=wpAny_mono h hQ fun _ _ x=>x.elim
theorem NE {α:Type} {u:Sem Unit} {t:Sem α} {P:Unit->Shared->Prop} {Q:α->Shared->Prop} {M:Model} {A:Around} {E:Value->Shared->Prop} {s:Shared} (hu:u=pure ()) (h:wpAny M A u P E s) (k:∀ s',P () s'->wpAny M A t Q E s'):wpAny M A t Q E s:=by
  subst hu
  have z:wpAny M A ((pure ():Sem Unit) >>= fun _=>t) Q E s:=wpAny_bind (wpAny_mono h (fun _ s' p=>k s' p) fun _ _ x=>x)
  exact z
end
end L2
namespace L2
open PySem PySem.Spec PyProof.Rows
section
variable {X:Cx} {scope:Scope} {tgs:List Str} {ix:List Nat}
abbrev JI (its:List Value) (k:Nat):Obj:={ cls:=.type "list",data:=.seq its.toArray k }
theorem R6 {fp:List Addr} {C:Addr} {s0:Shared} {H0:Hp} {pins:List (Addr × Obj)} {σ σ6:St} {H:Hp} {s:Shared} (I:Inv (cxB X scope tgs fp C s0 H0) pins σ6 H s) (l6:σ6.length=(CI tgs ix σ).length)
    (d6:σ6.drop tgs.length=(CI tgs ix σ).drop tgs.length):Inv (cxB X scope tgs fp C s0 H0) pins (CI tgs ix σ) H s:=by
  refine I.weak l6.symm fun k v e=>?_
  obtain ⟨hk,_⟩:=Gc e
  have e1:σ6[k]? = (σ6.drop tgs.length)[k - tgs.length]?:=by rw [List.getElem?_drop]; congr 1; omega
  have e2:(CI tgs ix σ)[k]? = ((CI tgs ix σ).drop tgs.length)[k - tgs.length]?:=by rw [List.getElem?_drop]; congr 1; omega
  rw [e1,d6,← e2]
  exact e
theorem HU {elt tg iter:Expr} {ifs:List Expr} {pos:Pos} {g:TG} {tc:TT} {te:TE} {pins:List (Addr × Obj)} {σ:St} {H2:Hp} {s2:Shared} {it:Addr} {fp:List Addr} {tn:Nat->Heap->Prop} {J:It} {Q:VK}
    (S:BScope X scope tgs ix) (ht:∀ o v,letOwnedTupleGo tg o v=pure ()) (hc:X.calm=true) (hg:∀ fp C s H,PG (cxB X scope tgs fp C s H) tg g) (hgk:GK tgs.length g) (hi:∀ fp C s H,Jb (cxB X scope tgs fp C s H) ifs tc) (he:∀ fp C s H,PE (cxB X scope tgs fp C s H) elt te)
    (I2:Inv X pins σ H2 s2) (T:Km X.prog X.w X.K tg J fp it tn) (t0:tn 0 s2.heap) (hf:∀ b ∈ fp,FW X pins H2 b)
    (W:Nat->Nat->List V->Hp->Prop) (w0:∃ m,W 0 m [] H2)
    (turn:∀ i m ys H,W i m ys H->(J.stop i H /\ ys.length <= sizeLine /\ ∀ p,H p=none->Q (.ref p) (upd H p (.lst ys))) ∨
      (J.go i H /\ ys.length < sizeLine /\ ∃ N:List V->Hp->Prop,(∀ ys' H',N ys' H'->∃ m',m' < m /\ W (i + 1) m' ys' H') /\ ∀ x H',J.yld i H x H'->g x (CI tgs ix σ) H' fun σ2 H2=>tc σ2 H2 fun b H3=>
        if b=true then te σ2 H3 fun v H4=>N (ys ++ [v]) H4 else N ys H3))
    {RR:Value->Addr->Result->Shared->Prop}
    (fin:∀ (D C:Addr) (s':Shared) (H':Hp) (m:Str->Option Value),Inv X pins σ H' s'->Q (.ref D) H'->s'.heap.Ns C m->FW X pins H' C->RR (.ref D) C (.ok .next) s') :
    wpAny (model X.prog X.w) X.A (newList []) (fun acc s₃=>wpAny (model X.prog X.w) X.A (newFunctionEnv scope X.env.globals (EX X.env scope.names []) [] X.env.qual none .none (some X.env)) (fun cenv s₄=>
      codeAny (model X.prog X.w) X.A (.compStart (.ListComp elt [⟨tg,iter,ifs,0⟩] scope pos) 0 (.ref it) acc { cenv with scope:=relabel scope X.env }) (RR acc cenv.locals) s₄) X.xe s₃) X.xe s2:=by
  refine wpAny_newObj_type (wpAny_newFunctionEnv S.nocell (by intro y hy; simp at hy) (fun h₁ hns₁ hsb₁=>?_) S.kind)
  dsimp only at hns₁ hsb₁ ⊢
  generalize hH2:s2.heap.push { cls:=.type "list",dict:=none,data:=.seq ([]:List Value).toArray }=G2 at hns₁ hsb₁ ⊢
  have hC:G2.objs.size=s2.heap.objs.size + 1:=by rw [← hH2,Heap.size_push]
  have hCle:s2.heap.objs.size <= G2.objs.size:=by rw [hC]; exact Nat.le_succ _
  have hDC:s2.heap.objs.size ≠ G2.objs.size:=by rw [hC]; exact Nat.ne_of_lt (Nat.lt_succ_self _)
  have below:∀ b,b < s2.heap.objs.size->b ≠ G2.objs.size /\ b ≠ s2.heap.objs.size:=fun b hb=>⟨by rw [hC]; exact Nat.ne_of_lt (Nat.lt_succ_of_lt hb),Nat.ne_of_lt hb⟩
  have old:∀ b o,s2.heap.get? b=some o->h₁.get? b=some o:=fun b o e=>hsb₁.extBut b o (below b (Heap.lt_size e)).1 (Heap.get?_push_of_some _ (hH2 ▸ Heap.get?_push_of_some _ e))
  have hacc:h₁.get? s2.heap.objs.size=some (JI [] 0):=hsb₁.extBut _ _ hDC (Heap.get?_push_of_some _ (hH2 ▸ Heap.get?_push_size _ rfl))
  have hfo:∀ b ∈ fp,b < s2.heap.objs.size:=fun b hb=>let ⟨o,e,_⟩:=T.obj 0 _ t0 b hb; Heap.lt_size e
  have ok:=Py (tgs:=tgs) (ix:=ix) (C:=G2.objs.size) S I2 hf hfo hCle
  have sub:∀ x c,(EX X.env scope.names []).lookup x=some c->X.env.cells.lookup x=some c:=EW scope.names [] (fun _ _ z=>by simp at z)
  have nDfs:s2.heap.objs.size ∉ frs X.stack:=fun hz=>by
    rcases List.mem_cons.mp (I2.stkSub _ hz) with z | z
    . exact absurd I2.lt (by rw [← z]; exact Nat.lt_irrefl _)
    . exact I2.nofs (Nat.le_refl _) z
  have nDcell:∀ x c,(EX X.env scope.names []).lookup x=some c->c ≠ s2.heap.objs.size:=fun x c e=>Nat.ne_of_lt (I2.cellLt (sub x c e))
  have ncell:∀ (its:List Value) (k:Nat) (v:Option Value),(JI its k).data ≠ .cell v:=fun its k v z=>by cases z
  have stat:∀ {Hx:Hp} {o:Obj},(∀ b ∈ fp,Hx b=none)->∀ b ∈ fp,FW (cxB X scope tgs fp G2.objs.size s2 H2) [(s2.heap.objs.size,o)] Hx b:=fun {Hx o} hn b hb=>
    ⟨hn b hb,(ok.exf b hb).1,ok.exfs b hb,.inl hb,(ok.exf b hb).2,fun p hp z=>by
      have e:p=(s2.heap.objs.size,o):=by simpa [cxB] using hp
      subst e
      exact absurd (hfo b hb) (by rw [← z]; exact Nat.lt_irrefl _)⟩
  have loop:∀ s₃:Shared,s₃={ s2 with heap:=h₁,toks:=s2.toks + ([]:List (Str × Value)).length }->
      codeAny (model X.prog X.w) X.A (.compLoop (.ListComp elt [⟨tg,iter,ifs,0⟩] scope pos) 0 (.ref it) (.ref s2.heap.objs.size) (compEnvC scope (EX X.env scope.names []) G2.objs.size X.env)) (RR (.ref s2.heap.objs.size) G2.objs.size) s₃:=by
    rintro s₃ rfl
    obtain ⟨m0,w0⟩:=w0
    refine codeAny_compLoop_tests (fun n s=>∃ i ys its k H,Inv (cxB X scope tgs fp G2.objs.size s2 H2) [(s2.heap.objs.size,JI its k)] (CI tgs ix σ) H s /\ tn i s.heap /\ (∀ b ∈ fp,H b=none) /\ Vals ys its /\ W i n ys H) ?_ m0
      ⟨0,[],[],0,H2,LI S I2 hf hfo hCle (Nat.le_refl _) hDC hns₁ old rfl rfl hacc (ncell _ _),T.keep 0 _ _ t0 fun b _ o e=>old b o e,fun b hb=>(hf b hb).1,.nil,w0⟩ (ht _)
    rintro n s ⟨i,ys,its,k,H,I,st,fr,rv,w⟩
    rcases turn i n ys H w with ⟨stop,hz,q⟩ | ⟨go,hz8,N,hN,step⟩
    . refine thn (T.done (cxB X scope tgs fp G2.objs.size s2 H2) rfl rfl rfl hc i _ s _ H _ I (stat fr) st stop) fun r s1 ⟨hr,I1⟩=>?_
      subst hr
      obtain ⟨pe,pn,_⟩:=I1.pin (s2.heap.objs.size,JI its k) (List.mem_append_right _ (by simp))
      have J0:Inv X pins σ H s1:=I2.call' I1.os I1.base I1.hok I1.bare fun b hb=>⟨(hf b hb).2.2.2.1,(hf b hb).2.1,(hf b hb).2.2.2.2.1,(hf b hb).2.2.2.2.2⟩
      have J1:Inv X pins σ (upd H s2.heap.objs.size (.lst ys)) s1:=J0.track (I2.fpOk (Nat.le_refl _) pn) ⟨hz,its,k,rv,pe⟩
      obtain ⟨m,hn,_⟩:=I1.loc
      exact fin _ _ s1 _ m J1 (q _ pn) hn (I2.fpOk hCle (by rw [Aw (Ne.symm hDC)]; exact I1.free))
    . refine thn (T.item (cxB X scope tgs fp G2.objs.size s2 H2) rfl rfl rfl hc i _ s _ H _ I (stat fr) st go) fun r s1 ⟨u,hr,h1⟩=>?_
      subst hr
      refine NE (ht _ _) h1 fun s5 ⟨x,H5,I5,r5,y5,st5,fr5⟩=>?_
      have I5':=I5.pinned (stat fr5) (T.obj _ _ st5)
      refine LO (hg fp G2.objs.size s2 H2 _ s5 _ H5 x u _ I5' r5 (hgk _ _ _ _ (step x H5 y5))) fun _ s6 ⟨σ6,H6,I6,q6,l6,d6⟩=>?_
      refine LO (hi fp G2.objs.size s2 H2 _ s6 σ6 H6 _ I6 q6) fun okb s7 ⟨H7,I7,q7⟩=>?_
      cases okb with
      | false=>
        rw [if_neg Bool.false_ne_true] at q7 ⊢
        obtain ⟨m',hm,w7⟩:=hN _ _ q7
        refine ⟨m',hm,i + 1,ys,its,k,H7,R6 I7.unpinned l6 d6,T.keep _ _ _ st5 fun b hb o e=>(I7.pin (b,o) (List.mem_append_right _ (List.mem_append_right _ (CO hb e)))).1,fun b hb=>?_,rv,w7⟩
        obtain ⟨o,e,_⟩:=T.obj _ _ st5 b hb
        exact (I7.pin (b,o) (List.mem_append_right _ (List.mem_append_right _ (CO hb e)))).2.1
      | true=>
        rw [if_pos rfl] at q7 ⊢
        refine LO (he fp G2.objs.size s2 H2 _ s7 σ6 H7 _ I7 q7) fun xv s8 ⟨v,H8,I8,rv8,q8⟩=>?_
        obtain ⟨m',hm,w8⟩:=hN _ _ q8
        obtain ⟨pe,pn,_⟩:=I8.pin (s2.heap.objs.size,JI its k) (List.mem_append_right _ (List.mem_append_left _ (by simp)))
        have hlen:=rv.length
        refine call_meets PySem.F.slot_list_append ⟨_,pe,rfl⟩ PySem.F.entry_list_append (PySem.F.args_list_append_2 _ _) (PySem.list_append s2.heap.objs.size its.toArray k xv (by rw [List.size_toArray]; omega)) ⟨pe,?_⟩
        have hp:its.toArray.push xv=(its ++ [xv]).toArray:=by simp
        have q':∃ k',(s8.heap.update s2.heap.objs.size (Obj.mapSeq (fun a=>a.push xv))).get? s2.heap.objs.size=some (JI (its ++ [xv]) k'):=⟨_,by
          unfold JI
          rw [← hp]
          exact PySem.IsL.update pe (fun a=>a.push xv)⟩
        obtain ⟨k',q'⟩:=q'
        have I9:Inv (cxB X scope tgs fp G2.objs.size s2 H2) [] σ6 H8 { s8 with heap:=s8.heap.update s2.heap.objs.size (Obj.mapSeq (fun a=>a.push xv)) }:=
          (I8.pins_of (pins':=[]) (fun p hp=>absurd hp (by simp))).turned (t':=s8.toks) (fun b o hb e=>(Heap.get?_update_other s8.heap (Obj.mapSeq (fun a=>a.push xv)) (Ne.symm hb)).trans e) pn hDC (.inr (Nat.le_refl _)) nDcell (fun p hp=>absurd hp (by simp [cxB]))
        have I10:Inv (cxB X scope tgs fp G2.objs.size s2 H2) [(s2.heap.objs.size,JI (its ++ [xv]) k')] σ6 H8 { s8 with heap:=s8.heap.update s2.heap.objs.size (Obj.mapSeq (fun a=>a.push xv)) }:=
          I9.pins_of fun p hp=>by
            have e:p=(s2.heap.objs.size,JI (its ++ [xv]) k'):=by simpa using hp
            subst e
            exact ⟨q',pn,hDC,nDfs,ncell _ _⟩
        refine ⟨m',hm,i + 1,ys ++ [v],its ++ [xv],k',H8,R6 I10 l6 d6,T.keep _ _ _ st5 fun b hb o e=>?_,fun b hb=>?_,rv.append (.cons rv8 .nil),w8⟩
        . exact (Heap.get?_update_other s8.heap (Obj.mapSeq (fun a=>a.push xv)) (Ne.symm (below b (hfo b hb)).2)).trans (I8.pin (b,o) (List.mem_append_right _ (List.mem_append_right _ (CO hb e)))).1
        . obtain ⟨o,e,_⟩:=T.obj _ _ st5 b hb
          exact (I8.pin (b,o) (List.mem_append_right _ (List.mem_append_right _ (CO hb e)))).2.1
  exact codeAny_compStart_list (loop _ rfl) (T.self _ 0 _ _ _ (T.keep 0 _ _ t0 fun b _ o e=>old b o e) (loop _ rfl))
theorem Q5 {elt tg iter:Expr} {ifs:List Expr} {pos:Pos} {wi:TI} {g:TG} {tc:TT} {te:TE} (S:BScope X scope tgs ix) (hc:X.calm=true) (hi:PI X tg iter wi) (hg:∀ fp C s H,PG (cxB X scope tgs fp C s H) tg g) (hgk:GK tgs.length g)
    (hif:∀ fp C s H,Jb (cxB X scope tgs fp C s H) ifs tc) (he:∀ fp C s H,PE (cxB X scope tgs fp C s H) elt te) (hs:∀ x,foldedSetIterable iter X.env x=pure x:=by intro _; rfl) (ht:∀ o v,letOwnedTupleGo tg o v=pure ():=by intro _ _; rfl) :
    PE X (.ListComp elt [⟨tg,iter,ifs,0⟩] scope pos) (OC tgs ix wi g tc te):=by
  intro pins s σ H Q I h
  rw [eval_ListComp]
  refine wpAny_comprehension_free (use:=none) rfl hs (Dm (S.cells I.ok)) S.kind S.loc ?_
  show wpAny _ _ (eval iter X.env) _ _ s
  refine thn (hi pins s σ H _ I h) fun v s1 h1=>thn h1 fun itv s2 h2=>?_
  obtain ⟨it,fp,tn,J,H2,e,I2,T,t0,f2,W,w0,turn⟩:=h2
  subst e
  refine HU (RR:=fun acc C=>compPost (model X.prog X.w) X.A X.xe none (EP X pins σ Q) acc C) S ht hc hg hgk hif he I2 T t0 f2 W w0 turn ?_
  intro D C s' H' m J1 q hn fC
  obtain ⟨f0,f1,f2,f3,f4,f5⟩:=fC
  exact ⟨m,hn,fun h' sb=>⟨.ref D,H',J1.turned (t':=s'.toks) (fun b o hb e=>(sb.2 b hb).trans e) f0 f1 f3 f4 f5,rfl,q⟩⟩
theorem K6 {i:Nat} {y:Str} {py:Pos} {elt tg iter:Expr} {ifs:List Expr} {pos spos:Pos} {wi:TI} {g:TG} {tc:TT} {te:TE} (hN:X.N.Nodup) (hiN:X.N[i]? = some y) (hy:X.env.scope.names.lookup y=some .local)
    (S:BScope X scope tgs ix) (hc:X.calm=true) (hi:PI X tg iter wi) (hg:∀ fp C s H,PG (cxB X scope tgs fp C s H) tg g) (hgk:GK tgs.length g)
    (hif:∀ fp C s H,Jb (cxB X scope tgs fp C s H) ifs tc) (he:∀ fp C s H,PE (cxB X scope tgs fp C s H) elt te)
    (hsw:swapsWith (.ListComp elt [⟨tg,iter,ifs,0⟩] scope pos) (some (.Name y py)) spos.line X.env=pure true:=by rfl) (hs:∀ x,foldedSetIterable iter X.env x=pure x:=by intro _; rfl) (ht:∀ o v,letOwnedTupleGo tg o v=pure ():=by intro _ _; rfl) :
    PS X (.Assign [.Name y py] (.ListComp elt [⟨tg,iter,ifs,0⟩] scope pos) spos) (Sf (OC tgs ix wi g tc te) (Es i)):=by
  intro pins s σ H D0 I h
  rw [exec_Assign_Name_used _ _ _ _ hsw]
  refine wpAny_bind (wpAny_standAt (wpAny_bind ?_))
  show wpAny _ X.A (do let _ ← comprehension (.ListComp elt [⟨tg,iter,ifs,0⟩] scope pos) scope X.env _ (newList []) false (eval iter X.env) (some (assign (.Name y py) X.env))) _ _ s
  refine wpAny_bind (wpAny_mono (wpAny_comprehension_free (use:=some (assign (.Name y py) X.env)) (Q:=fun _ s'=>SP X pins D0 .next s') rfl hs (Dm (S.cells I.ok)) S.kind S.loc ?_) (fun _ s' hq=>wpAny_pure (wpAny_pure hq)) fun _ _ e=>e)
  refine thn (hi pins s σ H _ I h) fun v s1 h1=>thn h1 fun itv s2 h2=>?_
  obtain ⟨it,fp,tn,J,H2,e,I2,T,t0,f2,W,w0,turn⟩:=h2
  subst e
  refine HU (Q:=fun x H1=>Es i x σ H1 D0.nx) (RR:=fun acc C=>compPost (model X.prog X.w) X.A X.xe (some (assign (.Name y py) X.env)) (fun _ s'=>SP X pins D0 .next s') acc C) S ht hc hg hgk hif he I2 T t0 f2 W w0 turn ?_
  intro D C s' H' m J1 q hn fC
  obtain ⟨f0,f1,f2,f3,f4,f5⟩:=fC
  show wpAny _ X.A (assign (.Name y py) X.env (.ref D)) _ _ _
  refine wpAny_assign_Name (Hy (v:=.ref D) J1 hN hiN (.inl hy) rfl (fun s'' I'' hsb=>?_) (.inr hy))
  obtain ⟨a,sb,ha⟩:=hsb
  have hCa:C ≠ a:=by
    rcases ha with z | z
    . rw [z]; exact f1
    . exact Ne.symm (f4 y a z)
  exact ⟨m,hn.sameBut sb hCa,fun h' sb'=>⟨_,H',I''.turned (t':=s''.toks) (fun b o hb e=>(sb'.2 b hb).trans e) f0 f1 f3 f4 f5,q⟩⟩
end
end L2
namespace L2
open PySem PySem.Spec PyProof.Rows
section
variable {X:Cx}
theorem Kf:CF X (.builtin "isinstance") (fun xs H Q=>∃ x T t b,xs=[x,.ty T] /\ FV X.K H x t /\ PySem.W.kitOne X.K t (.type T)=some b /\ Q (.bl b) H):=by
  intro pins s σ H xs us Q I r h
  obtain ⟨x,T,t,b,rfl,ty,e,q⟩:=h
  obtain ⟨u,w',rfl,rx,ry⟩:=UF r
  cases ry
  exact NU I rx ty e fun tk=>⟨.bl b,H,I.tok tk,rfl,q⟩
end
section
variable {prog:Program} {w:World} {A:Around} {E:Value->Shared->Prop} {s:Shared}
end
end L2
namespace L2
open PySem PySem.Spec PyProof.Rows
section
variable {prog:Program} {w:World} {A:Around} {R:Result->Shared->Prop}
end
section
variable {X:Cx}
end
end L2
namespace L2
open PySem PySem.Spec PyProof.Rows
section
variable {X:Cx}
end
mutual
inductive DatV (K:PySem.W.Frag) (H:Hp):V->PyData->Prop
  | non:DatV K H .non .none
  | bl (b:Bool):DatV K H (.bl b) (.bool b)
  | int (i:Int):DatV K H (.int i) (.int i)
  | str (x:Str):DatV K H (.str x) (.str x)
  | tup {a:Addr} {xs:List V} {ds:List PyData}:SqT K H a xs->DatVs K H xs ds->DatV K H (.ref a) (.tuple ds)
  | lst {a:Addr} {xs:List V} {ds:List PyData}:SqL K H a xs->DatVs K H xs ds->DatV K H (.ref a) (.list ds)
inductive DatVs (K:PySem.W.Frag) (H:Hp):List V->List PyData->Prop
  | nil:DatVs K H [] []
  | cons {v:V} {d:PyData} {vs:List V} {ds:List PyData}:DatV K H v d->DatVs K H vs ds->DatVs K H (v :: vs) (d :: ds)
end
section
variable {X:Cx} {pins:List (Addr × Obj)} {σ:St} {H:Hp} {s:Shared}
mutual
theorem DatV.reads (I:Inv X pins σ H s):∀ {v:V} {d:PyData},DatV X.K H v d->∀ {u:Value},RelV v u->∃ as,Reads s.heap u d as
  | _,_,.non,_,r=>by cases r; exact ⟨[],.none⟩
  | _,_,.bl b,_,r=>by cases r; exact ⟨[],.bool b⟩
  | _,_,.int i,_,r=>by obtain ⟨t,rfl⟩:=r; exact ⟨[],.int i t⟩
  | _,_,.str x,_,r=>by obtain ⟨t,rfl⟩:=r; exact ⟨[],.str x t⟩
  | _,_,.tup hq hs,_,r=>by
    cases r
    obtain ⟨its,rv,⟨o,e,c,n,d⟩,_⟩:=I.tuple hq
    obtain ⟨as,ra⟩:=DatVs.reads I hs rv
    exact ⟨_,.tuple e c d (by simpa using ra)⟩
  | _,_,.lst hq hs,_,r=>by
    cases r
    obtain ⟨its,rv,⟨o,n,e,c,_,d⟩,_⟩:=I.list hq
    obtain ⟨as,ra⟩:=DatVs.reads I hs rv
    exact ⟨_,.list e c d (by simpa using ra)⟩
theorem DatVs.reads (I:Inv X pins σ H s):∀ {vs:List V} {ds:List PyData},DatVs X.K H vs ds->∀ {us:List Value},Vals vs us->∃ as,ReadsAll s.heap us ds as
  | _,_,.nil,_,.nil=>⟨[],.nil⟩
  | _,_,.cons h t,_,.cons r rr=>by
    obtain ⟨a,ra⟩:=DatV.reads I h r
    obtain ⟨b,rb⟩:=DatVs.reads I t rr
    exact ⟨_,.cons ra rb⟩
end
end
section
variable {X:Cx}
theorem Te (hu:X.A.units + 64 < cLine):OpR X (compareOp .Eq) (fun x y H Q=>∃ d d',DatV X.K H x d /\ DatV X.K H y d' /\ SeqAt.shaped d=true /\ SeqAt.shaped d'=true /\ Q (.bl (PyData.eqv d d')) H):=by
  intro pins s σ H x y v u Q I rx ry h
  obtain ⟨d,d',h1,h2,s1,s2,q⟩:=h
  obtain ⟨as,ra⟩:=h1.reads I rx
  obtain ⟨bs,rb⟩:=h2.reads I ry
  exact SeqAt.compareEq_shaped ra rb s1 s2 hu ⟨.bl _,H,I,rfl,q⟩
theorem Ta (hu:X.A.units + 64 < cLine):OpR X (compareOp .NotEq) (fun x y H Q=>∃ d d',DatV X.K H x d /\ DatV X.K H y d' /\ SeqAt.shaped d=true /\ SeqAt.shaped d'=true /\ Q (.bl (!PyData.eqv d d')) H):=by
  intro pins s σ H x y v u Q I rx ry h
  obtain ⟨d,d',h1,h2,s1,s2,q⟩:=h
  obtain ⟨as,ra⟩:=h1.reads I rx
  obtain ⟨bs,rb⟩:=h2.reads I ry
  exact SeqAt.compareNe_shaped ra rb s1 s2 hu ⟨.bl _,H,I,rfl,q⟩
theorem OJ {A:Around} {k:Nat} (hr:Room k A):A.units + 64 < cLine:=hr.units
end
end L2
namespace L2
open PySem PySem.Spec PyProof.Rows
theorem Inv.turnedL {X:Cx} {pins:List (Addr × Obj)} {σ:St} {H:Hp} {s:Shared} {h':Heap} {t':Nat} {ch:List Addr} (I:Inv X pins σ H s) (k:∀ b o,b ∉ ch->s.heap.get? b=some o->h'.get? b=some o) (hf:∀ b ∈ ch,FW X pins H b):Inv X pins σ H { s with heap:=h',toks:=t' }:=by
  have nit:∀ b u,H b=some u->b ∉ ch:=fun b u e z=>by rw [(hf b z).1] at e; cases e
  refine I.step (g':=s.gens) (d':=s.drawn) (ch:=ch) (fun b hb=>⟨(hf b hb).2.2.2.1,(hf b hb).2.1,(hf b hb).2.2.2.2.1,(hf b hb).2.2.2.2.2⟩) (fun b o _ _ hc e _=>k b o hc e) (fun b o _ _ hc e _=>⟨o.slots,k b o hc e⟩) (fun _ _ _ _ n=>n)
    (fun b o hc e=>⟨o,k b o hc e⟩) (fun _ _ e=>e) (fun _ _ _ e=>e) (fun b ps e=>⟨#[],by rw [e]; simp⟩) (fun m hm=>?_) (fun b u e=>?_) I.bare
  . obtain ⟨o,es,ep,ho,r⟩:=hm
    exact ⟨o,es,ep,k _ o (fun z=>(hf _ z).2.1 rfl) ho,r⟩
  . refine (I.hok b u e).stay (fun c v hc q=>k c v ?_ q) (fun _ q=>q) fun _ _ q=>q
    rcases hc with z | z
    . rw [z]; exact nit b u e
    . exact nit c _ z
def ItP (K:PySem.W.Frag) (n:Nat) (src:Nat->List V) (Cond:PySem.W.Frag->Hp->Prop):It:=
  ⟨fun i H=>i < n /\ Cond K H,fun i H v H'=>∃ T,H T=none /\ v=.ref T /\ H'=upd H T (.tup (src i)),fun i H=>i=n /\ Cond K H⟩
theorem Ga {P:Program} {w:World} {K:PySem.W.Frag} {es:List Expr} {k0:Nat} {pos:Pos} {I0:Addr} {ι:Type} {fp wr:List Addr} {n:Nat} {src:Nat->List V} {good:ι->Prop} {Pt:ι->Nat->Array Value->Prop} {Sw:ι->Nat->Heap->Prop} {Mid:ι->Nat->Addr->Heap->Prop} {tn:Nat->Heap->Prop} {Cond:PySem.W.Frag->Hp->Prop}
    (W:∀ A:Around,A.handled=none->∀ z,good z->WalksT P w A I0 fp wr n (Pt z) (Sw z) (Mid z)) (hmem:I0 ∈ wr) (hPt:∀ z i vals,good z->Pt z i vals->Vals (src i) vals.toList) (hlen:∀ i,(src i).length <= sizeLine)
    (obj:∀ i h,tn i h->∀ b ∈ wr,∃ o,h.get? b=some o /\ ∀ v,o.data ≠ .cell v)
    (keep:∀ i h h',tn i h->(∀ b ∈ wr,∀ o,h.get? b=some o->h'.get? b=some o)->tn i h')
    (into:∀ (X:Cx) (pins:List (Addr × Obj)) (σ:St) (H:Hp) (s:Shared) (i:Nat),X.prog=P->X.w=w->X.K=K->Inv X pins σ H s->Cond K H->tn i s.heap->∃ z,good z /\ Sw z i s.heap) (out:∀ z i h,Sw z i h->tn i h)
    (self:∀ (A:Around) (i:Nat) (s:Shared) (Q:Value->Shared->Prop) (E:Value->Shared->Prop),tn i s.heap->Q (.ref I0) s->wpAny (model P w) A (pyIter (.ref I0)) Q E s) :
    Km P w K (.Tuple es k0 pos) (ItP K n src Cond) wr I0 tn where
  mem:=hmem
  obj:=obj
  keep:=keep
  item:=by
    intro X hP hw hK hc i pins s σ H E I hf st hg
    obtain ⟨hi,hcond⟩:=hg
    obtain ⟨z,gz,sz⟩:=into X pins σ H s i hP hw hK I hcond st
    have W':=W X.A (I.ok.hd hc) z gz
    refine W'.item i s _ _ hi sz fun T vals h' tk hp hT ht hm kk=>⟨_,rfl,?_⟩
    have I1:Inv X pins σ H { s with heap:=h',toks:=tk }:=I.turnedL kk hf
    refine W'.go es k0 pos i T _ _ _ hm fun h2 st2 kk2=>?_
    have I2:Inv X pins σ H { s with heap:=h2,toks:=tk }:=I1.turnedL (t':=tk) kk2 hf
    have hn:H T=none:=I.hok.fresh hT
    have ht2:IsTup h2 T vals:=by
      obtain ⟨o,e,r⟩:=ht
      exact ⟨o,kk2 T o (W'.apart i T _ hm) e,r⟩
    refine ⟨.ref T,upd H T (.tup (src i)),I2.track (I.fpOk hT hn) ⟨hlen i,vals.toList,hPt z i vals gz hp,by simpa using ht2⟩,rfl,⟨T,hn,rfl,rfl⟩,out z _ _ st2,fun b hb=>?_⟩
    have hbT:b ≠ T:=fun z=>W'.apart i T _ hm (by rw [← z]; exact hb)
    rw [Aw hbT]
    exact (hf b hb).1
  done:=by
    intro X hP hw hK hc i pins s σ H E I hf st hg
    obtain ⟨hi,hcond⟩:=hg
    subst hi
    obtain ⟨z,gz,sz⟩:=into X pins σ H s i hP hw hK I hcond st
    exact (W X.A (I.ok.hd hc) z gz).done s _ _ sz fun h' tk kk=>⟨rfl,I.turnedL kk hf⟩
  self:=self
def ES (xs:List V) (i:Nat):List V:=[.int i,xs.getD i .non]
theorem HP {xs:List V} {its:List Value} (r:Vals xs its) {i:Nat} {vals:Array Value} (h:∃ t x,its.toArray[i]? = some x /\ vals = #[.int i t,x]):Vals (ES xs i) vals.toList:=by
  obtain ⟨t,x,hx,rfl⟩:=h
  have hx':its[i]? = some x:=by simpa using hx
  have hlt:i < its.length:=(List.getElem?_eq_some_iff.mp hx').1
  have hl:=r.length
  have hv:xs[i]? = some (xs.getD i .non):=by
    rw [List.getElem?_eq_getElem (by omega)]
    simp [List.getD,show i < xs.length by omega]
  obtain ⟨u,hu,ru⟩:=r.get hv
  rw [hx'] at hu; cases hu
  exact .cons ⟨t,rfl⟩ (.cons ru .nil)
theorem MU {P:Program} {w:World} {e it:Addr} {f:Nat->Heap->Prop} (A:Around) (i:Nat) (s:Shared) (Q:Value->Shared->Prop) (E:Value->Shared->Prop) (st:(∃ old,IsEnum s.heap e it i old) /\ f i s.heap) (h:Q (.ref e) s):wpAny (model P w) A (pyIter (.ref e)) Q E s:=by
  obtain ⟨⟨old,he⟩,_⟩:=st
  exact wpAny_pyIter_enum he h
theorem Pq {e it:Addr} {h:Heap} {i:Nat} {o:Obj} (he:∃ old,IsEnum h e it i old) (ho:h.get? it=some o) (hd:∃ vs,o.data=.fields vs):∀ b ∈ [e,it],∃ o,h.get? b=some o /\ ∀ v,o.data ≠ .cell v:=fun b hb=>by
  rcases List.mem_cons.mp hb with z | z
  . subst z
    obtain ⟨old,he⟩:=he
    exact ⟨_,he,fun v q=>by cases q⟩
  . rw [List.mem_singleton.mp z]
    obtain ⟨vs,hd⟩:=hd
    exact ⟨o,ho,fun v q=>by rw [hd] at q; cases q⟩
theorem Kr {P:Program} {w:World} {K:PySem.W.Frag} {es:List Expr} {k0:Nat} {pos:Pos} (a e it:Addr) (xs:List V) (hei:e ≠ it) (hea:e ≠ a) (hai:a ≠ it) :
    Km P w K (.Tuple es k0 pos) (ItP K xs.length (ES xs) fun K H=>SqL K H a xs) [e,it] e (fun i h=>(∃ old,IsEnum h e it i old) /\ h.IsListIter it a i):=
  Ga (ι:=List Value) (good:=fun its=>Vals xs its) (Pt:=fun its i vals=>∃ t x,its.toArray[i]? = some x /\ vals = #[.int i t,x]) (Sw:=fun its i h=>(∃ old,IsEnum h e it i old) /\ h.IsListIter it a i /\ h.IsList a its.toArray)
    (fun A hA its r=>by
      have hl:xs.length=its.toArray.size:=by rw [List.size_toArray]; exact r.length
      rw [hl]
      exact WalksT.enumerateD (Draws.list (show A.in1.handled=none from hA) it a hai its.toArray) e hei (by simp [hei,hea]) (by simp))
    (by simp) (fun its i vals r h=>HP r h) (fun i=>(by show 2 <= sizeLine; decide))
    (fun i h st=>by obtain ⟨o,ho,_,hd⟩:=st.2; exact Pq st.1 ho ⟨_,hd⟩)
    (fun i h h' st k=>⟨by obtain ⟨old,q⟩:=st.1; exact ⟨old,k e (by simp) _ q⟩,st.2.at fun o q=>k it (by simp) o q⟩)
    (fun X pins σ H s i hP hw hK I hc st=>by
      subst hK
      obtain ⟨its,r,p,_⟩:=I.list hc
      exact ⟨its,r,st.1,st.2,p.isList⟩)
    (fun z i h st=>⟨st.1,st.2.1⟩) (fun A i s Q E st h=>MU (f:=fun i h=>h.IsListIter it a i) A i s Q E st h)
end L2
namespace L2
open PySem PySem.Spec PyProof.Rows
open AutoSeq1 (wpAny_loadPart')
section
variable {X:Cx} {es:List Expr} {k0:Nat} {tpos:Pos}
def Tz (K:PySem.W.Frag) (ta:TA):TI:=fun σ H R=>ta σ H fun vs H1=>∃ a xs,vs=[.ref a] /\ SqL K H1 a xs /\ R (ItP K xs.length (ES xs) fun K H=>SqL K H a xs) H1
theorem Ig:bootBuiltins "enumerate" = some (.type "enumerate"):=by decide +kernel
theorem N5 {pins:List (Addr × Obj)} {σ:St} {H:Hp} {s:Shared} (I:Inv X pins σ H s):∀ b ∈ [s.heap.objs.size + 1,s.heap.objs.size],FW X pins H b:=fun b hb=>by
  have hb':b=s.heap.objs.size + 1 ∨ b=s.heap.objs.size:=by simpa using hb
  rcases hb' with e | e <;> subst e
  . exact I.fpOk (Nat.le_succ _) (I.hok.fresh (Nat.le_succ _))
  . exact I.fpOk (Nat.le_refl _) (I.hok.fresh (Nat.le_refl _))
theorem Oo {a:Expr} {ta:TA} {p pos:Pos} (hg:Gl X "enumerate") (hm:X.mg "enumerate" = none) (ha:PA X [a] ta) (hs:starEach [a] X.env=[(false,eval a X.env)]:=by rfl):PI X (.Tuple es k0 tpos) (.Call (.Name "enumerate" p) [a] [] pos) (Tz X.K ta):=by
  intro pins s σ H R I h
  refine Call_ (Fd I hg hm Ig (PyProof.Rows.callWith_type1 (thn (ha pos pins s σ H _ I h) fun us s1 ⟨vs,H1,I1,r1,q1⟩=>?_) hs rfl))
  obtain ⟨l,xs,e,hq,q⟩:=q1
  subst e
  obtain ⟨u,rfl,ru⟩:=GW r1
  cases ru
  obtain ⟨its,rv,pl,hz⟩:=I1.list hq
  have hlt:l < s1.heap.objs.size:=by obtain ⟨o,n,e,_⟩:=pl; exact Heap.lt_size e
  refine call_enumerate_list pl.isList fun h' he hit hsz kk=>wpAny_pyIter_enum he ?_
  exact ⟨s1.heap.objs.size + 1,[s1.heap.objs.size + 1,s1.heap.objs.size],_,_,H1,rfl,I1.kept (t':=s1.toks) kk,Kr l _ _ xs (Nat.succ_ne_self _) (Nat.ne_of_gt (Nat.lt_succ_of_lt hlt)) (Nat.ne_of_lt hlt),⟨⟨_,he⟩,hit⟩,N5 I1,q⟩
end
end L2
namespace L2
open PySem PySem.Spec PyProof.Rows
section
variable {X:Cx} {pins:List (Addr × Obj)} {σ:St} {H:Hp} {s:Shared} {a:Addr} {y v:V} {u r:Value} {o:Option V} {A:Around} {E:Value->Shared->Prop}
end
section
variable {X:Cx} {o i e value:Expr} {pos pos' tpos:Pos} {td ty tv:TE}
end
end L2
namespace L2
open PySem PySem.Spec PyProof.Rows
section
variable {X:Cx} {value e e2:Expr} {es:List Expr} {pos:Pos} {tv t t2:TE} {ts:List TE}
end
end L2
namespace Nk
open PySem PySem.Spec PyProof.Rows
inductive NK where
  | int (i:Int) | tup (ks:List NK)
noncomputable instance:DecidableEq NK:=fun _ _=>Classical.propDecidable _
mutual
def NK.deep:NK->Nat
  | .int _=>0
  | .tup ks=>NK.deeps ks + 1
def NK.deeps:List NK->Nat
  | []=>0
  | k :: ks=>max (NK.deep k) (NK.deeps ks)
end
mutual
def NK.hash:NK->Int
  | .int i=>hashInt i
  | .tup ks=>reduceHash (Builtin.Tuple.tupleHashOf (NK.hashes ks))
def NK.hashes:List NK->List Int
  | []=>[]
  | k :: ks=>NK.hash k :: NK.hashes ks
end
mutual
def NK.draws:NK->Nat
  | .int _=>1
  | .tup ks=>NK.drawsL ks + 1
def NK.drawsL:List NK->Nat
  | []=>0
  | k :: ks=>NK.draws k + NK.drawsL ks
end
mutual
def At (h:Heap):NK->Value->Prop
  | .int i,v=>∃ t,v=.int i t
  | .tup ks,v=>∃ a o items n,v=.ref a /\ h.get? a=some o /\ o.cls=.type "tuple" /\ o.data=.seq items n /\ Ats h ks items.toList
def Ats (h:Heap):List NK->List Value->Prop
  | [],vs=>vs=[]
  | k :: ks,vs=>∃ v vs',vs=v :: vs' /\ At h k v /\ Ats h ks vs'
end
mutual
theorem At.inj {h:Heap}:∀ {k j:NK} {v:Value},At h k v->At h j v->k=j
  | .int i,.int j,v,a,b=>by
    unfold At at a b
    obtain ⟨t,rfl⟩:=a
    obtain ⟨u,e⟩:=b
    injection e with e1 _
    rw [e1]
  | .int i,.tup js,v,a,b=>by
    unfold At at a b
    obtain ⟨t,rfl⟩:=a
    obtain ⟨_,_,_,_,e,_⟩:=b
    cases e
  | .tup ks,.int j,v,a,b=>by
    unfold At at a b
    obtain ⟨t,rfl⟩:=b
    obtain ⟨_,_,_,_,e,_⟩:=a
    cases e
  | .tup ks,.tup js,v,a,b=>by
    unfold At at a b
    obtain ⟨x,o,items,n,rfl,h1,_,h3,h4⟩:=a
    obtain ⟨x',o',items',n',e,h1',_,h3',h4'⟩:=b
    cases e
    rw [h1] at h1'; cases h1'
    rw [h3] at h3'; cases h3'
    rw [Ats.inj h4 h4']
theorem Ats.inj {h:Heap}:∀ {ks js:List NK} {vs:List Value},Ats h ks vs->Ats h js vs->ks=js
  | [],[],_,_,_=>rfl
  | [],_ :: _,vs,a,b=>by
    unfold Ats at a b
    subst a
    obtain ⟨_,_,e,_⟩:=b
    cases e
  | _ :: _,[],vs,a,b=>by
    unfold Ats at a b
    subst b
    obtain ⟨_,_,e,_⟩:=a
    cases e
  | k :: ks,j :: js,vs,a,b=>by
    unfold Ats at a b
    obtain ⟨v,vs',rfl,a1,a2⟩:=a
    obtain ⟨v',vs'',e,b1,b2⟩:=b
    cases e
    rw [At.inj a1 b1,Ats.inj a2 b2]
end
mutual
theorem At.kept {h h':Heap}:∀ {k:NK} {v:Value},At h k v->(∀ a o items n,h.get? a=some o->o.cls=.type "tuple" -> o.data=.seq items n->h'.get? a=some o)->At h' k v
  | .int i,v,a,_=>by unfold At at a ⊢; exact a
  | .tup ks,v,a,kp=>by
    unfold At at a ⊢
    obtain ⟨x,o,items,n,rfl,h1,h2,h3,h4⟩:=a
    exact ⟨x,o,items,n,rfl,kp x o items n h1 h2 h3,h2,h3,Ats.kept h4 kp⟩
theorem Ats.kept {h h':Heap}:∀ {ks:List NK} {vs:List Value},Ats h ks vs->(∀ a o items n,h.get? a=some o->o.cls=.type "tuple" -> o.data=.seq items n->h'.get? a=some o)->Ats h' ks vs
  | [],vs,a,_=>by unfold Ats at a ⊢; exact a
  | k :: ks,vs,a,kp=>by
    unfold Ats at a ⊢
    obtain ⟨v,vs',rfl,a1,a2⟩:=a
    exact ⟨v,vs',rfl,At.kept a1 kp,Ats.kept a2 kp⟩
end
section
variable {prog:Program} {w:World} {A:Around} {E:Value->Shared->Prop} {s:Shared}
theorem Pd {a:Addr} {o:Obj} {items:Array Value} {n:Nat} {hs:List Int} {d:Nat} {Q:Int->Shared->Prop} (hu:A.units < cLine) (ho:s.heap.get? a=some o) (hc:o.cls=.type "tuple") (hd:o.data=.seq items n)
    (each:∀ (P:Array Int->Shared->Prop),P hs.toArray { s with toks:=s.toks + d }->wpAny (model prog w) A.in1 (forIn items.toList (#[]:Array Int) fun x r=>do let y ← pyHash x; pure (ForInStep.yield (r.push y))) P E s)
    (q:Q (reduceHash (Builtin.Tuple.tupleHashOf hs)) { s with toks:=s.toks + (d + 1) }):wpAny (model prog w) A (pyHash (.ref a)) Q E s:=by
  have hT:s.TypeIs (.ref a) "tuple" := ⟨o,ho,hc⟩
  show wpAny _ _ (pyHashByItsType (.ref a)) Q E s
  unfold pyHashByItsType
  refine wpAny_bind (wpAny_cRoomFor_or (.inr hu) (wpAny_bind (wpAny_specialOf hT PySem.F.slot_tuple_hash.lookup ?_)))
  rw [if_neg (by rw [beq_builtin_none]; exact Bool.false_ne_true)]
  refine wpAny_bind (wpAny_specialOf hT PySem.F.slot_tuple_hash.lookup ?_)
  show wpAny _ _ (callSpecialIfBoundUnlessNone? (.ref a) "__hash__" _ >>= _) Q E s
  refine wpAny_bind (wpAny_callSpecialIfBoundUnlessNone?_slot hT PySem.F.slot_tuple_hash (wpAny_call_entry PySem.F.slot_tuple_hash hT PySem.F.entry_tuple_hash ?_ (PySem.F.args_tuple_hash_1 _)))
  show wpAny _ _ (Builtin.Tuple.tupleItemsOf (.ref a) >>= _) _ _ s
  refine wpAny_bind (wpAny_tupleItemsOf ho hd (wpAny_bind ?_))
  rw [← Array.forIn_toList]
  refine each _ ?_
  show wpAny _ _ (retInt (Builtin.Tuple.tupleHashOf hs.toArray.toList)) _ _ _
  refine wpAny_ret_mkInt ?_
  show wpAny _ _ (pyHashByItsType.reduced _) Q E _
  unfold pyHashByItsType.reduced
  unfold reduceHash at q
  split
  . rename_i hr
    rw [if_pos hr] at q
    exact wpAny_pure q
  . rename_i hr
    rw [if_neg hr] at q
    exact wpAny_bind (wpAny_rule (wpAny_pure q))
mutual
theorem At.hash:∀ {k:NK} {v:Value} {A:Around} {E:Value->Shared->Prop} {s:Shared} {Q:Int->Shared->Prop},A.units + k.deep < cLine->At s.heap k v->Q k.hash { s with toks:=s.toks + k.draws }->wpAny (model prog w) A (pyHash v) Q E s
  | .int i,v,A,E,s,Q,hu,hk,q=>by
    unfold At at hk
    obtain ⟨t,rfl⟩:=hk
    exact (intKind prog w).pyHash (k:=i) (by simp [intKind,Value.isInt]) q
  | .tup ks,v,A,E,s,Q,hu,hk,q=>by
    unfold At at hk
    obtain ⟨a,o,items,n,rfl,h1,h2,h3,h4⟩:=hk
    have hu':A.units + (NK.deeps ks + 1) < cLine:=hu
    refine Pd (hs:=NK.hashes ks) (d:=NK.drawsL ks) (by omega) h1 h2 h3 (fun P p=>?_) q
    exact Ats.hash (A:=A.in1) (by show A.units + 1 + NK.deeps ks < cLine; omega) h4 (acc:=#[]) (by simpa using p)
theorem Ats.hash:∀ {ks:List NK} {vs:List Value} {A:Around} {E:Value->Shared->Prop} {s:Shared} {acc:Array Int} {P:Array Int->Shared->Prop},A.units + NK.deeps ks < cLine->Ats s.heap ks vs->P (acc ++ (NK.hashes ks).toArray) { s with toks:=s.toks + NK.drawsL ks }->
    wpAny (model prog w) A (forIn vs acc fun x r=>do let y ← pyHash x; pure (ForInStep.yield (r.push y))) P E s
  | [],vs,A,E,s,acc,P,hu,hk,q=>by
    unfold Ats at hk
    subst hk
    rw [List.forIn_nil]
    exact wpAny_pure (by simpa [NK.hashes,NK.drawsL] using q)
  | k :: ks,vs,A,E,s,acc,P,hu,hk,q=>by
    unfold Ats at hk
    obtain ⟨v,vs',rfl,a1,a2⟩:=hk
    rw [List.forIn_cons]
    have hu':A.units + max (NK.deep k) (NK.deeps ks) < cLine:=hu
    refine wpAny_bind (wpAny_bind (At.hash (by omega) a1 (wpAny_pure ?_)))
    refine Ats.hash (by omega) (s:={ s with toks:=s.toks + k.draws }) a2 ?_
    simpa [NK.hashes,NK.drawsL,Nat.add_assoc] using q
end
end
end Nk
namespace Nk
open PySem PySem.Spec PyProof.Rows PySem.MeetsSeq PySem.SeqAt
theorem Ats.len {h:Heap}:∀ {ks:List NK} {vs:List Value},Ats h ks vs->vs.length=ks.length
  | [],_,a=>by unfold Ats at a; subst a; rfl
  | k :: ks,_,a=>by
    unfold Ats at a
    obtain ⟨v,vs',rfl,_,a2⟩:=a
    simp [Ats.len a2]
noncomputable def G5 (ks js:List NK) (j:Nat):Bool:=decide (ks[j]? = js[j]?)
theorem NR {ks js:List NK}:((List.range (min ks.length js.length)).all (G5 ks js) && ks.length == js.length)=decide (NK.tup ks=NK.tup js):=by
  by_cases e:ks=js
  . subst e
    rw [decide_eq_true rfl,beq_self_eq_true,Bool.and_true,List.all_eq_true]
    intro j _
    exact decide_eq_true rfl
  . rw [decide_eq_false (fun z=>e (NK.tup.inj z))]
    by_cases hl:ks.length=js.length
    . rw [beq_iff_eq.mpr hl,Bool.and_true,← Bool.not_eq_true]
      intro z
      rw [List.all_eq_true] at z
      refine e (List.ext_getElem? fun j=>?_)
      by_cases hj:j < ks.length
      . exact of_decide_eq_true (z j (List.mem_range.mpr (by omega)))
      . rw [List.getElem?_eq_none (by omega),List.getElem?_eq_none (by omega)]
    . rw [beq_eq_false_iff_ne.mpr hl,Bool.and_false]
mutual
theorem At.eq:∀ {k j:NK} {u v:Value} {A:Around} {s:Shared},A.units + k.deep < cLine->At s.heap k u->At s.heap j v->EqAt A s u v (decide (k=j))
  | .int i,.int j,u,v,A,s,hu,a,b=>by
    unfold At at a b
    obtain ⟨t,rfl⟩:=a
    obtain ⟨t',rfl⟩:=b
    have:decide (NK.int i=NK.int j)=(i == j):=by
      by_cases e:i=j
      . subst e; simp
      . rw [decide_eq_false (fun z=>e (NK.int.inj z)),beq_eq_false_iff_ne.mpr e]
    rw [this]
    exact EqAt.int_int i t j t'
  | .int i,.tup js,u,v,A,s,hu,a,b=>by
    unfold At at a b
    obtain ⟨t,rfl⟩:=a
    obtain ⟨x,o,items,n,rfl,h1,h2,h3,_⟩:=b
    rw [decide_eq_false (by intro z; cases z)]
    exact EqAt.int_tuple i t ⟨o,h1,h2,n,h3⟩ (Nat.lt_of_le_of_lt (Nat.le_add_right _ _) hu)
  | .tup ks,.int j,u,v,A,s,hu,a,b=>by
    unfold At at a b
    obtain ⟨t,rfl⟩:=b
    obtain ⟨x,o,items,n,rfl,h1,h2,h3,_⟩:=a
    rw [decide_eq_false (by intro z; cases z)]
    exact EqAt.tuple_int j t ⟨o,h1,h2,n,h3⟩ (Nat.lt_of_le_of_lt (Nat.le_add_right _ _) hu)
  | .tup ks,.tup js,u,v,A,s,hu,a,b=>by
    have a':=a
    have b':=b
    unfold At at a b
    obtain ⟨x,o,items,n,rfl,h1,h2,h3,h4⟩:=a
    obtain ⟨y,o',items',n',rfl,h1',h2',h3',h4'⟩:=b
    have hu':A.units + (NK.deeps ks + 1) < cLine:=hu
    by_cases e:x=y
    . subst e
      rw [At.inj a' b',decide_eq_true rfl]
      exact EqAt.same _
    . rw [← NR]
      have l1:=h4.len
      have l2:=h4'.len
      rw [Array.length_toList] at l1 l2
      rw [← l1,← l2]
      refine EqAt.of_refs e (RcAt.tuples ⟨o,h1,h2,n,h3⟩ ⟨o',h1',h2',n',h3'⟩ (by omega) fun j g1 g2=>?_)
      have:=Ats.eqs (A:=A.in1) (by show A.units + 1 + NK.deeps ks < cLine; omega) h4 h4' j (by simpa using g1) (by simpa using g2)
      simpa using this
theorem Ats.eqs:∀ {ks js:List NK} {us vs:List Value} {A:Around} {s:Shared},A.units + NK.deeps ks < cLine->Ats s.heap ks us->Ats s.heap js vs->∀ (j:Nat) (h1:j < us.length) (h2:j < vs.length),EqAt A s us[j] vs[j] (G5 ks js j)
  | [],js,us,vs,A,s,hu,a,b,j,h1,h2=>by unfold Ats at a; subst a; simp at h1
  | k :: ks,[],us,vs,A,s,hu,a,b,j,h1,h2=>by unfold Ats at b; subst b; simp at h2
  | k :: ks,l :: js,us,vs,A,s,hu,a,b,j,h1,h2=>by
    unfold Ats at a b
    obtain ⟨u,us',rfl,a1,a2⟩:=a
    obtain ⟨v,vs',rfl,b1,b2⟩:=b
    have hu':A.units + max (NK.deep k) (NK.deeps ks) < cLine:=hu
    cases j with
    | zero=>
      have:=At.eq (k:=k) (j:=l) (A:=A) (by omega) a1 b1
      have e:G5 (k :: ks) (l :: js) 0=decide (k=l):=by unfold G5; simp
      rw [e]
      exact this
    | succ j=>
      have:=Ats.eqs (A:=A) (by omega) a2 b2 j (by simpa using h1) (by simpa using h2)
      have e:G5 (k :: ks) (l :: js) (j + 1)=G5 ks js j:=by unfold G5; simp
      rw [e]
      simpa using this
end
section
variable {prog:Program} {w:World}
theorem At.quiet:∀ (d:Nat) {k:NK} {v:Value} {A:Around} {E:Value->Shared->Prop} {s:Shared} {Q:Bool->Shared->Prop},k.deep <= d->At s.heap k v->Q true s->wpAny (model prog w) A (eqIsQuiet d v) Q E s
  | d,.int i,v,A,E,s,Q,hd,a,q=>by
    unfold At at a
    obtain ⟨t,rfl⟩:=a
    unfold eqIsQuiet
    exact wpAny_pure q
  | 0,.tup ks,v,A,E,s,Q,hd,a,q=>by
    have hd':NK.deeps ks + 1 <= 0:=hd
    omega
  | d' + 1,.tup ks,v,A,E,s,Q,hd,a,q=>by
    have hd':NK.deeps ks + 1 <= d' + 1:=hd
    unfold At at a
    obtain ⟨x,o,items,n,rfl,h1,h2,h3,h4⟩:=a
    have hT:s.TypeIs (.ref x) "tuple" := ⟨o,h1,h2⟩
    unfold eqIsQuiet
    refine wpAny_bind (wpAny_specialOf hT PySem.F.slot_tuple_eq.lookup ?_)
    show wpAny _ _ (isInstance (.ref x) (.type "tuple") >>= _) _ _ s
    refine wpAny_bind (wpAny_isInstance hT isSubtype_tuple_tuple ?_)
    simp only [Bool.not_true,Bool.false_eq_true,if_false]
    refine wpAny_bind (wpAny_seqItems h1 h3 (wpAny_bind ?_))
    show wpAny _ _ (forIn items _ _) _ _ s
    rw [← Array.forIn_toList]
    refine wpAny_forIn_list _ (fun rest r s'=>r.1=none /\ s'=s /\ ∃ ks',NK.deeps ks' <= d' /\ Ats s.heap ks' rest) _ ?_ ?_ _ _ ⟨rfl,rfl,ks,by omega,h4⟩
    . rintro y rest r s' ⟨hr,rfl,ks',hk,at'⟩
      cases ks' with
      | nil=>unfold Ats at at'; cases at'
      | cons k' ks'=>
        unfold Ats at at'
        obtain ⟨_,_,e,a1,a2⟩:=at'
        cases e
        have hk':max (NK.deep k') (NK.deeps ks') <= d':=hk
        refine wpAny_bind (At.quiet d' (k:=k') (by omega) a1 ?_)
        simp only [Bool.not_true,Bool.false_eq_true,if_false]
        exact wpAny_pure ⟨rfl,rfl,ks',by omega,a2⟩
    . rintro ⟨r1,r2⟩ s' ⟨hr,rfl,_⟩
      simp only at hr
      subst hr
      exact wpAny_pure q
noncomputable def kind (prog:Program) (w:World):HeapKind prog w NK where
  is:=fun h k a=>At h k (.ref a) /\ k.deep <= 8
  hash:=NK.hash
  draws:=NK.draws
  room:=fun A=>A.units + 8 < cLine
  inj:=fun hx hy=>hx.1.inj hy.1
  keeps:=fun {h h' k a d o es ep} x ho hd hs=>⟨x.1.kept fun b o' items n e _ e3=>by
    have hne:b ≠ d:=by
      intro z
      subst z
      rw [ho] at e
      cases e
      rw [hd] at e3
      cases e3
    exact (hs.2 b hne).trans e,x.2⟩
  pyHash:=fun hu hk h=>At.hash (by have:=hk.2; omega) hk.1 h
  eqBool:=fun {A E s x y a b Q} hu hx hy h=>At.eq (by have:=hx.2; omega) hx.1 hy.1 _ _ E Q h
  quiet:=fun hk h=>At.quiet 8 hk.2 hk.1 h
end
abbrev Cs:=Int × Int × List Int
def csK (c:Cs):NK:=.tup [.int c.1,.int c.2.1,.tup (c.2.2.map NK.int)]
open L2 in
def Dl (p:Addr) (l:List (Cs × Addr × V)):HO:=.ext fun h=>∃ (us:List Value) (o:Obj) (es:Array DictEntry) (ep:Nat),Vals (l.map (·.2.2)) us /\ h.get? p=some o /\ o.ExactDict /\ o.data=.dict es ep /\
  es.toList=(l.zip us).map (fun x=>{ key:=.ref x.1.2.1,hash:=(csK x.1.1).hash,val:=x.2 }) /\ (l.map (·.1)).Nodup /\ l.length <= sizeLine /\ (p == sysModules)=false
end Nk
namespace Mi
open PySem L2 Nk
inductive D where
  | non | bl (b:Bool) | int (i:Int) | str (x:Str) | ty (n:String) | scr (ns:List Int) | tup (xs:List D) | lst (xs:List D) | ref (n:Nat)
inductive MO where
  | lst (xs:List D) | dK (kvs:List (Key × D)) | dC (kvs:List (Cs × D))
abbrev Mh:=List MO
abbrev M (α:Type):=Mh->Option (α × Mh)
abbrev Sl:=List (Option D)
def ret {α:Type} (a:α):M α:=fun μ=>some (a,μ)
def bnd {α β:Type} (m:M α) (f:α->M β):M β:=fun μ=>match m μ with
  | some (a,μ1)=>f a μ1
  | none=>none
def BS {α:Type}:M α:=fun _=>none
theorem AG {α β:Type} {m:M α} {f:α->M β} {μ:Mh} {r:β × Mh} (h:bnd m f μ=some r):∃ a μ1,m μ=some (a,μ1) /\ f a μ1=some r:=by
  unfold bnd at h
  cases e:m μ with
  | none=>rw [e] at h; cases h
  | some p=>obtain ⟨a,μ1⟩:=p; rw [e] at h; exact ⟨a,μ1,rfl,h⟩
@[simp] theorem VU {α β:Type} (a:α) (f:α->M β):bnd (ret a) f=f a:=rfl
theorem AL {α β:Type} {m:M α} {f:α->M β} {μ μ1:Mh} {a:α} (h:m μ=some (a,μ1)):bnd m f μ=f a μ1:=by unfold bnd; rw [h]
def ScrAt (K:PySem.W.Frag) (H:Hp) (a:Addr) (xs:List V):Prop:=
  (∃ o,H a=some (.frz o (.lst xs))) ∨ ∃ (o:Obj) (its:Array Value) (n:Nat),K.lookup a=some o /\ o.cls=.type "list" /\ o.dict=none /\ o.data=.seq its n /\ its.size <= sizeLine /\ Vals xs its.toList
theorem ScrAt.sq {K:PySem.W.Frag} {H:Hp} {a:Addr} {xs:List V} (h:ScrAt K H a xs):SqL K H a xs:=h.elim (fun z=>.inl (.inr z)) .inr
mutual
def Is (K:PySem.W.Frag) (ι:Nat->Addr) (k:Nat) (H:Hp):D->V->Prop
  | .non,v=>v=.non
  | .bl b,v=>v=.bl b
  | .int i,v=>v=.int i
  | .str x,v=>v=.str x
  | .ty n,v=>v=.ty n
  | .scr ns,v=>∃ p,v=.ref p /\ ScrAt K H p (ns.map V.int)
  | .tup ds,v=>∃ p vs,v=.ref p /\ SqT K H p vs /\ IsL K ι k H ds vs
  | .lst ds,v=>∃ p vs,v=.ref p /\ H p=some (.lst vs) /\ (∀ n,n < k->ι n ≠ p) /\ IsL K ι k H ds vs
  | .ref n,v=>n < k /\ v=.ref (ι n)
def IsL (K:PySem.W.Frag) (ι:Nat->Addr) (k:Nat) (H:Hp):List D->List V->Prop
  | [],vs=>vs=[]
  | d :: ds,vs=>∃ v vs',vs=v :: vs' /\ Is K ι k H d v /\ IsL K ι k H ds vs'
end
section
variable {K:PySem.W.Frag} {ι ι' ι2:Nat->Addr} {k k' k2:Nat} {H H' H2:Hp}
theorem IsL.length:∀ {ds:List D} {vs:List V},IsL K ι k H ds vs->vs.length=ds.length
  | [],_,h=>by unfold IsL at h; subst h; rfl
  | _ :: _,_,h=>by
    unfold IsL at h
    obtain ⟨v,vs',rfl,_,h⟩:=h
    simp only [List.length_cons,IsL.length h]
theorem IsL.get:∀ {ds:List D} {vs:List V} {i:Nat} {d:D},IsL K ι k H ds vs->ds[i]? = some d->∃ v,vs[i]? = some v /\ Is K ι k H d v
  | [],_,_,_,_,e=>by simp at e
  | _ :: _,_,0,_,h,e=>by
    unfold IsL at h
    obtain ⟨v,vs',rfl,h1,_⟩:=h
    simp at e; subst e
    exact ⟨v,rfl,h1⟩
  | _ :: _,_,i + 1,d,h,e=>by
    unfold IsL at h
    obtain ⟨v,vs',rfl,_,h⟩:=h
    obtain ⟨u,e1,e2⟩:=IsL.get (i:=i) (d:=d) h (by simpa using e)
    exact ⟨u,by simpa using e1,e2⟩
theorem IsL.append:∀ {ds es:List D} {vs us:List V},IsL K ι k H ds vs->IsL K ι k H es us->IsL K ι k H (ds ++ es) (vs ++ us)
  | [],_,_,_,h,q=>by unfold IsL at h; subst h; exact q
  | _ :: _,_,_,_,h,q=>by
    unfold IsL at h
    obtain ⟨v,vs',rfl,h1,h⟩:=h
    show IsL K ι k H (_ :: (_ ++ _)) _
    unfold IsL
    exact ⟨v,_,rfl,h1,IsL.append h q⟩
theorem IsL.take:∀ (n:Nat) {ds:List D} {vs:List V},IsL K ι k H ds vs->IsL K ι k H (ds.take n) (vs.take n)
  | 0,ds,vs,_=>by rw [List.take_zero,List.take_zero]; unfold IsL; rfl
  | n + 1,[],_,h=>by unfold IsL at h; subst h; simp only [List.take_nil]; unfold IsL; rfl
  | n + 1,_ :: _,_,h=>by
    unfold IsL at h
    obtain ⟨v,vs',rfl,h1,h⟩:=h
    simp only [List.take_succ_cons]
    unfold IsL
    exact ⟨v,_,rfl,h1,IsL.take n h⟩
theorem IsL.drop:∀ (n:Nat) {ds:List D} {vs:List V},IsL K ι k H ds vs->IsL K ι k H (ds.drop n) (vs.drop n)
  | 0,_,_,h=>h
  | n + 1,[],_,h=>by unfold IsL at h; subst h; simp only [List.drop_nil]; unfold IsL; rfl
  | n + 1,_ :: _,_,h=>by
    unfold IsL at h
    obtain ⟨v,vs',rfl,h1,h⟩:=h
    simp only [List.drop_succ_cons]
    exact IsL.drop n h
theorem IsL.cons {d:D} {ds:List D} {v:V} {vs:List V} (h:Is K ι k H d v) (t:IsL K ι k H ds vs):IsL K ι k H (d :: ds) (v :: vs):=by
  unfold IsL
  exact ⟨v,vs,rfl,h,t⟩
theorem IsL.nil:IsL K ι k H [] []:=by unfold IsL; rfl
theorem IsL.one {d:D} {v:V} (h:Is K ι k H d v):IsL K ι k H [d] [v]:=.cons h .nil
theorem IsL.ints:∀ {ns:List Int} {vs:List V},IsL K ι k H (ns.map D.int) vs->vs=ns.map V.int
  | [],_,h=>by unfold IsL at h; exact h
  | _ :: _,_,h=>by
    unfold List.map IsL at h
    obtain ⟨v,vs',rfl,h1,h⟩:=h
    unfold Is at h1
    rw [h1,IsL.ints h]; rfl
theorem IsL.ofInts:∀ (ns:List Int),IsL K ι k H (ns.map D.int) (ns.map V.int)
  | []=>.nil
  | n :: r=>.cons (by unfold Is; rfl) (IsL.ofInts r)
def PX:HO->Bool
  | .lst _=>true
  | .dK _=>true
  | .ext _=>true
  | _=>false
def Muts (ι:Nat->Addr) (k:Nat) (H:Hp):Prop:=∀ n,n < k->∃ o,H (ι n)=some o /\ PX o=true
structure Ext (ι:Nat->Addr) (k:Nat) (H:Hp) (ι':Nat->Addr) (k':Nat) (H':Hp):Prop where
  le:k <= k'
  agree:∀ n,n < k->ι' n=ι n
  fresh:∀ n,k <= n->n < k'->H (ι' n)=none
  keep:∀ p o,H p=some o->(∀ n,n < k->ι n ≠ p)->H' p=some o
  was:Muts ι k H
  there:Muts ι k H'
theorem Ext.refl (h:Muts ι k H):Ext ι k H ι k H:=⟨Nat.le_refl _,fun _ _=>rfl,fun n h1 h2=>absurd h1 (by omega),fun _ _ e _=>e,h,h⟩
theorem Ext.trans (a:Ext ι k H ι' k' H') (b:Ext ι' k' H' ι2 k2 H2):Ext ι k H ι2 k2 H2 where
  le:=Nat.le_trans a.le b.le
  agree:=fun n h=>(b.agree n (Nat.lt_of_lt_of_le h a.le)).trans (a.agree n h)
  fresh:=fun n h1 h2=>by
    rcases Nat.lt_or_ge n k' with z | z
    . rw [b.agree n z]; exact a.fresh n h1 z
    . have q:=b.fresh n z h2
      cases e:H (ι2 n) with
      | none=>rfl
      | some o=>
        by_cases hx:∃ m,m < k /\ ι m=ι2 n
        . obtain ⟨m,hm,e2⟩:=hx
          obtain ⟨o',q',_⟩:=a.there m hm
          rw [e2,q] at q'; cases q'
        . have:=a.keep _ o e (fun m hm e2=>hx ⟨m,hm,e2⟩)
          rw [q] at this; cases this
  keep:=fun p o e hn=>b.keep p o (a.keep p o e hn) (fun n hlt e2=>by
    rcases Nat.lt_or_ge n k with z | z
    . rw [a.agree n z] at e2; exact hn n z e2
    . have:=a.fresh n z hlt
      rw [e2,e] at this; cases this)
  was:=a.was
  there:=fun n h=>by
    have:=b.there n (Nat.lt_of_lt_of_le h a.le)
    rw [a.agree n h] at this; exact this
theorem Ext.out (a:Ext ι k H ι' k' H') {p:Addr} {o:HO} (e:H p=some o) (hn:∀ n,n < k->ι n ≠ p):∀ n,n < k'->ι' n ≠ p:=fun n h e2=>by
  rcases Nat.lt_or_ge n k with z | z
  . rw [a.agree n z] at e2; exact hn n z e2
  . have:=a.fresh n z h
    rw [e2,e] at this; cases this
theorem Muts.ne (a:Muts ι k H) {p:Addr} {o:HO} (e:H p=some o) (hm:PX o=false):∀ n,n < k->ι n ≠ p:=fun n hn e2=>by
  obtain ⟨o',q,h⟩:=a n hn
  rw [e2,e] at q; cases q
  rw [hm] at h; cases h
theorem Io {p:Addr} {vs:List V} (a:Ext ι k H ι' k' H') (h:SqT K H p vs):SqT K H' p vs:=by
  rcases h with h | h
  . rcases h with h | ⟨o,h⟩
    . exact .inl (.inl (a.keep p _ h (a.was.ne h rfl)))
    . exact .inl (.inr ⟨o,a.keep p _ h (a.was.ne h rfl)⟩)
  . exact .inr h
theorem Ir {p:Addr} {vs:List V} (a:Ext ι k H ι' k' H') (h:ScrAt K H p vs):ScrAt K H' p vs:=by
  rcases h with ⟨o,h⟩ | h
  . exact .inl ⟨o,a.keep p _ h (a.was.ne h rfl)⟩
  . exact .inr h
mutual
theorem Is.ext (a:Ext ι k H ι' k' H'):∀ {d:D} {v:V},Is K ι k H d v->Is K ι' k' H' d v
  | .non,_,h=>by unfold Is at h ⊢; exact h
  | .bl _,_,h=>by unfold Is at h ⊢; exact h
  | .int _,_,h=>by unfold Is at h ⊢; exact h
  | .str _,_,h=>by unfold Is at h ⊢; exact h
  | .ty _,_,h=>by unfold Is at h ⊢; exact h
  | .scr ns,_,h=>by
    unfold Is at h ⊢
    obtain ⟨p,rfl,h⟩:=h
    exact ⟨p,rfl,Ir a h⟩
  | .tup ds,_,h=>by
    unfold Is at h ⊢
    obtain ⟨p,vs,rfl,h1,h2⟩:=h
    exact ⟨p,vs,rfl,Io a h1,IsL.ext a h2⟩
  | .lst ds,_,h=>by
    unfold Is at h ⊢
    obtain ⟨p,vs,rfl,h1,hn,h2⟩:=h
    exact ⟨p,vs,rfl,a.keep p _ h1 hn,a.out h1 hn,IsL.ext a h2⟩
  | .ref n,_,h=>by
    unfold Is at h ⊢
    obtain ⟨h,rfl⟩:=h
    exact ⟨Nat.lt_of_lt_of_le h a.le,by rw [a.agree n h]⟩
theorem IsL.ext (a:Ext ι k H ι' k' H'):∀ {ds:List D} {vs:List V},IsL K ι k H ds vs->IsL K ι' k' H' ds vs
  | [],_,h=>by unfold IsL at h ⊢; exact h
  | _ :: _,_,h=>by
    unfold IsL at h ⊢
    obtain ⟨v,vs',rfl,h1,h2⟩:=h
    exact ⟨v,vs',rfl,Is.ext a h1,IsL.ext a h2⟩
end
def KVs (K:PySem.W.Frag) (ι:Nat->Addr) (k:Nat) (H:Hp):List (Key × D)->List (Key × V)->Prop
  | [],r=>r=[]
  | (y,d) :: l,r=>∃ v r',r=(y,v) :: r' /\ Is K ι k H d v /\ KVs K ι k H l r'
theorem KVs.ext (a:Ext ι k H ι' k' H'):∀ {l:List (Key × D)} {r:List (Key × V)},KVs K ι k H l r->KVs K ι' k' H' l r
  | [],_,h=>h
  | (_,_) :: _,_,h=>by
    obtain ⟨v,r',rfl,h1,h2⟩:=h
    exact ⟨v,r',rfl,h1.ext a,h2.ext a⟩
def csD (c:Cs):D:=.tup [.int c.1,.int c.2.1,.tup (c.2.2.map D.int)]
def CVs (K:PySem.W.Frag) (ι:Nat->Addr) (k:Nat) (H:Hp):List (Cs × D)->List (Cs × Addr × V)->Prop
  | [],r=>r=[]
  | (y,d) :: l,r=>∃ a v r',r=(y,a,v) :: r' /\ Is K ι k H (csD y) (.ref a) /\ Is K ι k H d v /\ CVs K ι k H l r'
theorem CVs.ext (a:Ext ι k H ι' k' H'):∀ {l:List (Cs × D)} {r:List (Cs × Addr × V)},CVs K ι k H l r->CVs K ι' k' H' l r
  | [],_,h=>h
  | (_,_) :: _,_,h=>by
    obtain ⟨b,v,r',rfl,h1,h2,h3⟩:=h
    exact ⟨b,v,r',rfl,h1.ext a,h2.ext a,h3.ext a⟩
def ObjIs (K:PySem.W.Frag) (ι:Nat->Addr) (k:Nat) (H:Hp) (p:Addr):MO->HO->Prop
  | .lst ds,o=>∃ vs,o=.lst vs /\ IsL K ι k H ds vs
  | .dK l,o=>∃ r,o=.dK r /\ KVs K ι k H l r
  | .dC l,o=>∃ r,o=Dl p r /\ CVs K ι k H l r
structure RelH (K:PySem.W.Frag) (ι:Nat->Addr) (μ:Mh) (H:Hp):Prop where
  inj:∀ i j,i < μ.length->j < μ.length->ι i=ι j->i=j
  obj:∀ n o,μ[n]? = some o->∃ u,H (ι n)=some u /\ ObjIs K ι μ.length H (ι n) o u
theorem ObjIs.mut {p:Addr} {o:MO} {u:HO} (h:ObjIs K ι k H p o u):PX u=true:=by
  cases o with
  | lst ds=>obtain ⟨vs,rfl,_⟩:=h; rfl
  | dK l=>obtain ⟨r,rfl,_⟩:=h; rfl
  | dC l=>obtain ⟨r,rfl,_⟩:=h; rfl
theorem ObjIs.ext (a:Ext ι k H ι' k' H') {p:Addr} {o:MO} {u:HO} (h:ObjIs K ι k H p o u):ObjIs K ι' k' H' p o u:=by
  cases o with
  | lst ds=>obtain ⟨vs,rfl,h⟩:=h; exact ⟨vs,rfl,h.ext a⟩
  | dK l=>obtain ⟨r,rfl,h⟩:=h; exact ⟨r,rfl,h.ext a⟩
  | dC l=>obtain ⟨r,rfl,h⟩:=h; exact ⟨r,rfl,h.ext a⟩
theorem RelH.muts {μ:Mh} (r:RelH K ι μ H):Muts ι μ.length H:=fun n hn=>by
  obtain ⟨u,e,h⟩:=r.obj n μ[n] (by simp [hn])
  exact ⟨u,e,h.mut⟩
theorem RelH.ext0 {μ:Mh} (r:RelH K ι μ H):Ext ι μ.length H ι μ.length H:=Ext.refl r.muts
theorem RelH.laid {μ:Mh} (r:RelH K ι μ H) {p:Addr} (o:HO) (hp:H p=none):Ext ι μ.length H ι μ.length (upd H p o) /\ RelH K ι μ (upd H p o):=by
  have kp:∀ q u,H q=some u->upd H p o q=some u:=fun q u e=>by rw [Aw (Br e hp)]; exact e
  have a:Ext ι μ.length H ι μ.length (upd H p o):=⟨Nat.le_refl _,fun _ _=>rfl,fun n h1 h2=>absurd h1 (by omega),fun q u e _=>kp q u e,r.muts,fun n hn=>by
    obtain ⟨u,e,h⟩:=r.muts n hn
    exact ⟨u,kp _ _ e,h⟩⟩
  refine ⟨a,r.inj,fun n o' e=>?_⟩
  obtain ⟨u,e1,h⟩:=r.obj n o' e
  exact ⟨u,kp _ _ e1,h.ext a⟩
theorem RelH.grown {μ:Mh} (r:RelH K ι μ H) {p:Addr} {o:HO} {m:MO} (hp:H p=none) (h:ObjIs K ι μ.length H p m o) :
    ∃ ι',Ext ι μ.length H ι' (μ ++ [m]).length (upd H p o) /\ RelH K ι' (μ ++ [m]) (upd H p o) /\ ι' μ.length=p:=by
  have kp:∀ q u,H q=some u->upd H p o q=some u:=fun q u e=>by rw [Aw (Br e hp)]; exact e
  let ι':Nat->Addr:=fun n=>if n=μ.length then p else ι n
  have e0:ι' μ.length=p:=if_pos rfl
  have e1:∀ n,n < μ.length->ι' n=ι n:=fun n hn=>if_neg (by omega)
  have a:Ext ι μ.length H ι' (μ ++ [m]).length (upd H p o):=⟨by simp,e1,fun n h1 h2=>by
      have:n=μ.length:=by simp at h2; omega
      rw [this,e0]; exact hp,fun q u e _=>kp q u e,r.muts,fun n hn=>by
    obtain ⟨u,e,h⟩:=r.muts n hn
    exact ⟨u,kp _ _ e,h⟩⟩
  refine ⟨ι',a,⟨fun i j hi hj e=>?_,fun n o' e=>?_⟩,e0⟩
  . simp at hi hj
    have old:∀ i,i < μ.length->ι' i ≠ p:=fun i hi e=>by
      obtain ⟨u,q,_⟩:=r.muts i hi
      rw [← e1 i hi,e,hp] at q; cases q
    rcases Nat.lt_or_ge i μ.length with zi | zi <;> rcases Nat.lt_or_ge j μ.length with zj | zj
    . rw [e1 i zi,e1 j zj] at e; exact r.inj i j zi zj e
    . have:j=μ.length:=by omega
      subst this; rw [e0] at e; exact absurd e (old i zi)
    . have:i=μ.length:=by omega
      subst this; rw [e0] at e; exact absurd e.symm (old j zj)
    . omega
  . rcases Nat.lt_or_ge n μ.length with z | z
    . rw [List.getElem?_append_left z] at e
      obtain ⟨u,q,hq⟩:=r.obj n o' e
      exact ⟨u,by rw [e1 n z]; exact kp _ _ q,by rw [e1 n z]; exact hq.ext a⟩
    . have hn:n=μ.length:=by
        have:=(List.getElem?_eq_some_iff.mp e).1
        simp at this; omega
      subst hn
      rw [List.getElem?_append_right (Nat.le_refl _),Nat.sub_self] at e
      simp at e; subst e
      exact ⟨o,by rw [e0,BF],by rw [e0]; exact h.ext a⟩
theorem RelH.changed {μ:Mh} (r:RelH K ι μ H) {n:Nat} {o:HO} {m:MO} (hn:n < μ.length) (h:ObjIs K ι μ.length H (ι n) m o) :
    Ext ι μ.length H ι (μ.set n m).length (upd H (ι n) o) /\ RelH K ι (μ.set n m) (upd H (ι n) o):=by
  have ne:∀ i,i < μ.length->i ≠ n->ι i ≠ ι n:=fun i hi hne e=>hne (r.inj i n hi hn e)
  have a:Ext ι μ.length H ι (μ.set n m).length (upd H (ι n) o):=⟨by simp,fun _ _=>rfl,fun i h1 h2=>by simp at h2; omega,fun q u e hq=>by rw [Aw (fun z=>hq n hn z.symm)]; exact e,r.muts,fun i hi=>by
    by_cases z:i=n
    . subst z; exact ⟨o,BF,h.mut⟩
    . obtain ⟨u,e,hu⟩:=r.muts i hi
      exact ⟨u,by rw [Aw (ne i hi z)]; exact e,hu⟩⟩
  refine ⟨a,fun i j hi hj=>r.inj i j (by simpa using hi) (by simpa using hj),fun i o' e=>?_⟩
  by_cases z:i=n
  . subst z
    rw [List.getElem?_set_self hn] at e
    cases e
    exact ⟨o,BF,h.ext a⟩
  . rw [List.getElem?_set_ne (Ne.symm z)] at e
    have hi:i < μ.length:=(List.getElem?_eq_some_iff.mp e).1
    obtain ⟨u,q,hq⟩:=r.obj i o' e
    exact ⟨u,by rw [Aw (ne i hi z)]; exact q,hq.ext a⟩
structure RelS (K:PySem.W.Frag) (ι:Nat->Addr) (k:Nat) (H:Hp) (τ:Sl) (σ:St):Prop where
  len:σ.length=τ.length
  get:∀ (i:Nat) (d:D),τ[i]? = some (some d)->∃ v,σ[i]? = some (some v) /\ Is K ι k H d v
theorem RelS.ext {τ:Sl} {σ:St} (a:Ext ι k H ι' k' H') (r:RelS K ι k H τ σ):RelS K ι' k' H' τ σ:=⟨r.len,fun i d e=>by
  obtain ⟨v,e1,h⟩:=r.get i d e
  exact ⟨v,e1,h.ext a⟩⟩
theorem RelS.set {τ:Sl} {σ:St} (r:RelS K ι k H τ σ) {d:D} {v:V} (i:Nat) (h:Is K ι k H d v):RelS K ι k H (τ.set i (some d)) (σ.set i (some v)):=⟨by simp [r.len],fun j e q=>by
  by_cases z:i=j
  . subst z
    have hi:i < τ.length:=by
      have:=(List.getElem?_eq_some_iff.mp q).1
      simpa using this
    rw [List.getElem?_set_self hi] at q
    cases q
    exact ⟨v,List.getElem?_set_self (by rw [r.len]; exact hi),h⟩
  . rw [List.getElem?_set_ne z] at q
    obtain ⟨u,e1,hu⟩:=r.get j e q
    exact ⟨u,by rw [List.getElem?_set_ne z]; exact e1,hu⟩⟩
end
end Mi
namespace Mi
open PySem L2
inductive Fl where
  | next | brk | cont | rt (d:D)
abbrev Aft (K:PySem.W.Frag) (ι:Nat->Addr) (μ:Mh) (H:Hp) (μ':Mh) (φ:(Nat->Addr)->Hp->Prop):Prop:=
  ∀ ι' H',Ext ι μ.length H ι' μ'.length H'->RelH K ι' μ' H'->φ ι' H'
def tE (K:PySem.W.Frag) (m:Sl->M D):TE:=fun σ H Q=>∃ ι μ τ d μ',RelH K ι μ H /\ RelS K ι μ.length H τ σ /\ m τ μ=some (d,μ') /\
  Aft K ι μ H μ' fun ι' H'=>∀ v,Is K ι' μ'.length H' d v->Q v H'
def tT (K:PySem.W.Frag) (m:Sl->M Bool):TT:=fun σ H Q=>∃ ι μ τ b μ',RelH K ι μ H /\ RelS K ι μ.length H τ σ /\ m τ μ=some (b,μ') /\
  Aft K ι μ H μ' fun _ H'=>Q b H'
def tL (K:PySem.W.Frag) (m:Sl->M (List D)):TA:=fun σ H Q=>∃ ι μ τ ds μ',RelH K ι μ H /\ RelS K ι μ.length H τ σ /\ m τ μ=some (ds,μ') /\
  Aft K ι μ H μ' fun ι' H'=>∀ vs,IsL K ι' μ'.length H' ds vs->Q vs H'
def FlP (K:PySem.W.Frag) (Dn:LY) (ι':Nat->Addr) (k:Nat) (H':Hp) (τ':Sl) (σ':St):Fl->Prop
  | .next=>Dn.nx σ' H'
  | .brk=>Dn.bk σ' H'
  | .cont=>Dn.ct σ' H'
  | .rt d=>∀ v,Is K ι' k H' d v->Dn.rt v H'
def tSt (K:PySem.W.Frag) (m:Sl->M (Fl × Sl)):TS:=fun Dn σ H=>∃ ι μ τ f τ' μ',RelH K ι μ H /\ RelS K ι μ.length H τ σ /\ m τ μ=some ((f,τ'),μ') /\
  Aft K ι μ H μ' fun ι' H'=>∀ σ',RelS K ι' μ'.length H' τ' σ'->FlP K Dn ι' μ'.length H' τ' σ' f
structure RE (X:Cx) (e:Expr) (m:Sl->M D):Prop where
  pe:PE X e (tE X.K m)
structure RT (X:Cx) (e:Expr) (m:Sl->M Bool):Prop where
  pe:PT X e (tT X.K m)
structure RW (X:Cx) (e:Expr) (m:Sl->M Bool):Prop where
  pe:PW X e (tT X.K m)
structure RA (X:Cx) (es:List Expr) (m:Sl->M (List D)):Prop where
  pe:PA X es (tL X.K m)
structure RS (X:Cx) (st:Stmt) (m:Sl->M (Fl × Sl)):Prop where
  pe:PS X st (tSt X.K m)
structure RSs (X:Cx) (st:List Stmt) (m:Sl->M (Fl × Sl)):Prop where
  pe:PSs X st (tSt X.K m)
section
variable {X:Cx} {e a b c:Expr} {es:List Expr} {pos:Pos}
theorem PE.wk {t t':TE} (h:PE X e t) (w:∀ σ H Q,t' σ H Q->t σ H Q):PE X e t':=fun pins s σ H Q I q=>h pins s σ H Q I (w σ H Q q)
theorem RE.wk {m:Sl->M D} {t:TE} (h:PE X e t) (w:∀ σ H Q,tE X.K m σ H Q->t σ H Q):RE X e m:=⟨PE.wk h w⟩
theorem PT.wk {t t':TT} (h:PT X e t) (w:∀ σ H Q,t' σ H Q->t σ H Q):PT X e t':=fun pins s σ H Q I q=>h pins s σ H Q I (w σ H Q q)
theorem RT.wk {m:Sl->M Bool} {t:TT} (h:PT X e t) (w:∀ σ H Q,tT X.K m σ H Q->t σ H Q):RT X e m:=⟨PT.wk h w⟩
theorem PW.wk {t t':TT} (h:PW X e t) (w:∀ σ H Q,t' σ H Q->t σ H Q):PW X e t':=fun wh pins s σ H Q I q=>h wh pins s σ H Q I (w σ H Q q)
theorem RW.wk {m:Sl->M Bool} {t:TT} (h:PW X e t) (w:∀ σ H Q,tT X.K m σ H Q->t σ H Q):RW X e m:=⟨PW.wk h w⟩
theorem PA.wk {t t':TA} (h:PA X es t) (w:∀ σ H Q,t' σ H Q->t σ H Q):PA X es t':=fun p pins s σ H Q I q=>h p pins s σ H Q I (w σ H Q q)
theorem RA.wk {m:Sl->M (List D)} {t:TA} (h:PA X es t) (w:∀ σ H Q,tL X.K m σ H Q->t σ H Q):RA X es m:=⟨PA.wk h w⟩
theorem PS.wk {st:Stmt} {t t':TS} (h:PS X st t) (w:∀ D σ H,t' D σ H->t D σ H):PS X st t':=fun pins s σ H D I q=>h pins s σ H D I (w D σ H q)
theorem RS.wk {m:Sl->M (Fl × Sl)} {st:Stmt} {t:TS} (h:PS X st t) (w:∀ D σ H,tSt X.K m D σ H->t D σ H):RS X st m:=⟨PS.wk h w⟩
theorem PSs.wk {st:List Stmt} {t t':TS} (h:PSs X st t) (w:∀ D σ H,t' D σ H->t D σ H):PSs X st t':=fun pins s σ H D I q=>h pins s σ H D I (w D σ H q)
theorem RSs.wk {m:Sl->M (Fl × Sl)} {st:List Stmt} {t:TS} (h:PSs X st t) (w:∀ D σ H,tSt X.K m D σ H->t D σ H):RSs X st m:=⟨PSs.wk h w⟩
theorem OpR.wk {f:Value->Value->Sem Value} {r r':R2} (h:OpR X f r) (w:∀ x y H Q,r' x y H Q->r x y H Q):OpR X f r':=fun pins s σ H x y v u Q I rx ry q=>h pins s σ H x y v u Q I rx ry (w x y H Q q)
def Fe:Expr->Bool
  | .Starred _ _=>true
  | _=>false
theorem Az {e:Expr} {es:List Expr} {env:Env} (h:Fe e=false):starEach (e :: es) env=(false,eval e env) :: starEach es env:=by
  cases e <;> first | rfl | cases h
theorem CJ {pos:Pos} {env:Env}:∀ {es:List Expr},(es.all fun e=>!Fe e)=true->(backTo pos (starEach es env)).any (·.1)=false
  | [],_=>rfl
  | e :: es,h=>by
    rw [List.all_cons,Bool.and_eq_true] at h
    have h1:Fe e=false:=by simpa using h.1
    have ih:=CJ (pos:=pos) (env:=env) h.2
    rw [Az h1]
    unfold backTo at ih ⊢
    simpa using ih
def AB (i:Nat):Sl->M D:=fun τ μ=>match τ[i]? with
  | some (some d)=>some (d,μ)
  | _=>none
def mC (d:D):Sl->M D:=fun _=>ret d
theorem AD (i:Nat) {x:Str} (hN:X.N[i]? = some x:=by rfl) (hv:Vis X.env.scope x:=by first | exact Or.inl rfl | exact Or.inr (Or.inl rfl) | exact Or.inr (Or.inr rfl)) (hd:(x == ("__debug__" : Str))=false:=by decide)
    (hcd:(x == ("__classdict__" : Str))=false:=by decide):RE X (.Name x pos) (AB i):=RE.wk (TD hN hv hd hcd) fun σ H Q h=>by
  obtain ⟨ι,μ,τ,d,μ',R,S,e,q⟩:=h
  unfold AB at e
  split at e
  . rename_i d' ed
    cases e
    obtain ⟨v,e1,h1⟩:=S.get i _ ed
    exact ⟨v,e1,q ι H R.ext0 R v h1⟩
  . cases e
theorem M5 {t:TE} {d:D} {v:V} (h:PE X e (tC v)) (hd:∀ ι k H,Is X.K ι k H d v):RE X e (mC d):=RE.wk h fun σ H Q h=>by
  obtain ⟨ι,μ,τ,d,μ',R,S,e,q⟩:=h
  cases e
  exact q ι H R.ext0 R v (hd _ _ _)
theorem AI {i j}:RE X (.Constant (.int i) j pos) (mC (.int i)):=M5 (t:=fun _ _ _=>True) TM fun _ _ _=>by unfold Is; rfl
theorem Ax {i j}:RE X (.Constant (.bool i) j pos) (mC (.bl i)):=M5 (t:=fun _ _ _=>True) Ut fun _ _ _=>by unfold Is; rfl
theorem DL {j}:RE X (.Constant .none j pos) (mC .non):=M5 (t:=fun _ _ _=>True) TL fun _ _ _=>by unfold Is; rfl
theorem AT {i j}:RE X (.Constant (.str i) j pos) (mC (.str i)):=M5 (t:=fun _ _ _=>True) TH fun _ _ _=>by unfold Is; rfl
theorem Qj {x:Str} {v:V} {u:Value} {d:D} (hm:X.mg x=some u) (r:RelV v u) (hd:∀ ι k H,Is X.K ι k H d v) (hg:Gl X x:=by rfl) (hdb:(x == ("__debug__" : Str))=false:=by decide):RE X (.Name x pos) (mC d):=
  M5 (t:=fun _ _ _=>True) (Q3 hg hm r hdb) hd
def mOp (g:D->D->M D) (ma mb:Sl->M D):Sl->M D:=fun τ=>bnd (ma τ) fun x=>bnd (mb τ) fun y=>g x y
def mUn (g:D->M D) (ma:Sl->M D):Sl->M D:=fun τ=>bnd (ma τ) g
def rM (K:PySem.W.Frag) (g:D->D->M D):R2:=fun x y H Q=>∃ ι μ a b d μ',RelH K ι μ H /\ Is K ι μ.length H a x /\ Is K ι μ.length H b y /\ g a b μ=some (d,μ') /\
  Aft K ι μ H μ' fun ι' H'=>∀ v,Is K ι' μ'.length H' d v->Q v H'
def rM1 (K:PySem.W.Frag) (g:D->M D):V->Hp->VK->Prop:=fun x H Q=>∃ ι μ a d μ',RelH K ι μ H /\ Is K ι μ.length H a x /\ g a μ=some (d,μ') /\
  Aft K ι μ H μ' fun ι' H'=>∀ v,Is K ι' μ'.length H' d v->Q v H'
def rMA (K:PySem.W.Frag) (g:List D->M D):List V->Hp->VK->Prop:=fun xs H Q=>∃ ι μ as d μ',RelH K ι μ H /\ IsL K ι μ.length H as xs /\ g as μ=some (d,μ') /\
  Aft K ι μ H μ' fun ι' H'=>∀ v,Is K ι' μ'.length H' d v->Q v H'
theorem Lj {K:PySem.W.Frag} {g:D->D->M D} {ma mb:Sl->M D} {σ:St} {H:Hp} {Q:VK} (h:tE K (mOp g ma mb) σ H Q):tOp (rM K g) (tE K ma) (tE K mb) σ H Q:=by
  obtain ⟨ι,μ,τ,d,μ',R,S,e,q⟩:=h
  obtain ⟨x,μ1,e1,e⟩:=AG e
  obtain ⟨y,μ2,e2,e3⟩:=AG e
  refine ⟨ι,μ,τ,x,μ1,R,S,e1,fun ι1 H1 E1 R1 v1 i1=>?_⟩
  refine ⟨ι1,μ1,τ,y,μ2,R1,S.ext E1,e2,fun ι2 H2 E2 R2 v2 i2=>?_⟩
  exact ⟨ι2,μ2,x,y,d,μ',R2,i1.ext E2,i2,e3,fun ι3 H3 E3 R3 v3 i3=>q ι3 H3 ((E1.trans E2).trans E3) R3 v3 i3⟩
theorem UR {K:PySem.W.Frag} {g:D->M D} {ma:Sl->M D} {σ:St} {H:Hp} {Q:VK} (h:tE K (mUn g ma) σ H Q):tUn (rM1 K g) (tE K ma) σ H Q:=by
  obtain ⟨ι,μ,τ,d,μ',R,S,e,q⟩:=h
  obtain ⟨x,μ1,e1,e⟩:=AG e
  refine ⟨ι,μ,τ,x,μ1,R,S,e1,fun ι1 H1 E1 R1 v1 i1=>?_⟩
  exact ⟨ι1,μ1,x,d,μ',R1,i1,e,fun ι3 H3 E3 R3 v3 i3=>q ι3 H3 (E1.trans E3) R3 v3 i3⟩
theorem AZ {op:Operator} {g:D->D->M D} {ma mb:Sl->M D} (ho:OpR X (binaryOp op) (rM X.K g)) (ha:RE X a ma) (hb:RE X b mb):RE X (.BinOp a op b pos) (mOp g ma mb):=RE.wk (Uq ho ha.pe hb.pe) fun _ _ _ h=>Lj h
theorem Ud {op:UnaryOp} {g:D->M D} {ma:Sl->M D} (ho:UnR X (unaryOp op) (rM1 X.K g)) (ha:RE X a ma):RE X (.UnaryOp op a pos) (mUn g ma):=RE.wk (Uo ho ha.pe) fun _ _ _ h=>UR h
theorem DM {op:CmpOp} {g:D->D->M D} {ma mb:Sl->M D} (ho:OpR X (compareOp op) (rM X.K g)) (ha:RE X a ma) (hb:RE X b mb) (hm:behindInMarks op b=false:=by first | exact O5 _ | rfl):RE X (.Compare a [op] [b] pos) (mOp g ma mb):=
  RE.wk (Q6 ho ha.pe hb.pe hm) fun _ _ _ h=>Lj h
theorem AW {g:D->D->M D} {ma mb:Sl->M D} (ho:IxR X (rM X.K g)) (ha:RE X a ma) (hb:RE X b mb) (hs:Mf b:=by exact fun _ _=>rfl):RE X (.Subscript a b pos) (mOp g ma mb):=RE.wk (Ur ho ha.pe hb.pe hs) fun _ _ _ h=>Lj h
def asB:D->M Bool
  | .bl b=>ret b
  | _=>BS
def AR (m:Sl->M D):Sl->M Bool:=fun τ=>bnd (m τ) asB
theorem Lh {K:PySem.W.Frag} {m:Sl->M D} {σ:St} {H:Hp} {Q:Bool->Hp->Prop} (h:tT K (AR m) σ H Q):tE K m σ H fun x H'=>∃ k,x=.bl k /\ Q k H':=by
  obtain ⟨ι,μ,τ,b,μ',R,S,e,q⟩:=h
  obtain ⟨x,μ1,e1,e⟩:=AG e
  refine ⟨ι,μ,τ,x,μ1,R,S,e1,fun ι1 H1 E1 R1 v1 i1=>?_⟩
  cases x with
  | bl k=>
    cases e
    unfold Is at i1
    exact ⟨b,i1,q ι1 H1 E1 R1⟩
  | _=>cases e
theorem Au {op:CmpOp} {g:D->D->M D} {ma mb:Sl->M D} (ho:OpR X (compareOp op) (rM X.K g)) (ha:RE X a ma) (hb:RE X b mb) (hm:behindInMarks op b=false:=by first | exact O5 _ | rfl):RT X (.Compare a [op] [b] pos) (AR (mOp g ma mb)):=
  RT.wk (Qu ho ha.pe hb.pe hm) fun σ H Q h=>Lj (Q:=fun x H'=>∃ k,x=.bl k /\ Q k H') (Lh h)
theorem Bq {m:Sl->M D} (h:RE X e m) (he:∀ whole,isTrue e X.env whole=(do let v ← whole; standAt e.pos; holding [v] (truthy v)):=by intro _; rfl):RT X e (AR m):=
  RT.wk (S5 h.pe he) fun _ _ _ q=>Lh q
def G3 (ma mb:Sl->M Bool):Sl->M Bool:=fun τ=>bnd (ma τ) fun x=>if x=true then mb τ else ret false
def mOr (ma mb:Sl->M Bool):Sl->M Bool:=fun τ=>bnd (ma τ) fun x=>if x=true then ret true else mb τ
def CG (ma:Sl->M Bool):Sl->M Bool:=fun τ=>bnd (ma τ) fun x=>ret (!x)
theorem CL {ma:Sl->M Bool} (ha:RT X a ma):RT X (.UnaryOp .Not a pos) (CG ma):=RT.wk (S6 ha.pe) fun σ H Q h=>by
  obtain ⟨ι,μ,τ,b,μ',R,S,e,q⟩:=h
  obtain ⟨x,μ1,e1,e⟩:=AG e
  cases e
  exact ⟨ι,μ,τ,x,_,R,S,e1,q⟩
theorem Lq {ma:Sl->M Bool} (ha:RT X a ma):RW X (.BoolOp .And [a] pos) ma:=⟨Qs ha.pe⟩
theorem Kx {ma:Sl->M Bool} (ha:RT X a ma):RW X (.BoolOp .Or [a] pos) ma:=⟨Sy ha.pe⟩
theorem Ky {rest:List Expr} {ma mb:Sl->M Bool} (ha:RT X a ma) (hb:RW X (.BoolOp .And (b :: rest) pos) mb):RW X (.BoolOp .And (a :: b :: rest) pos) (G3 ma mb):=RW.wk (Sz ha.pe hb.pe) fun σ H Q h=>by
  obtain ⟨ι,μ,τ,z,μ',R,S,e,q⟩:=h
  obtain ⟨x,μ1,e1,e⟩:=AG e
  refine ⟨ι,μ,τ,x,μ1,R,S,e1,fun ι1 H1 E1 R1=>?_⟩
  cases x with
  | true=>exact ⟨ι1,μ1,τ,z,μ',R1,S.ext E1,e,fun ι2 H2 E2 R2=>q ι2 H2 (E1.trans E2) R2⟩
  | false=>cases e; exact q ι1 H1 E1 R1
theorem Lp {rest:List Expr} {ma mb:Sl->M Bool} (ha:RT X a ma) (hb:RW X (.BoolOp .Or (b :: rest) pos) mb):RW X (.BoolOp .Or (a :: b :: rest) pos) (mOr ma mb):=RW.wk (Ul ha.pe hb.pe) fun σ H Q h=>by
  obtain ⟨ι,μ,τ,z,μ',R,S,e,q⟩:=h
  obtain ⟨x,μ1,e1,e⟩:=AG e
  refine ⟨ι,μ,τ,x,μ1,R,S,e1,fun ι1 H1 E1 R1=>?_⟩
  cases x with
  | true=>cases e; exact q ι1 H1 E1 R1
  | false=>exact ⟨ι1,μ1,τ,z,μ',R1,S.ext E1,e,fun ι2 H2 E2 R2=>q ι2 H2 (E1.trans E2) R2⟩
theorem RW.rt {m:Sl->M Bool} (h:RW X e m):RT X e m:=⟨h.pe.pt⟩
def mIf (mc:Sl->M Bool) (ma mb:Sl->M D):Sl->M D:=fun τ=>bnd (mc τ) fun x=>if x=true then ma τ else mb τ
theorem Gp {mc:Sl->M Bool} {ma mb:Sl->M D} (hc:RT X c mc) (ha:RE X a ma) (hb:RE X b mb):RE X (.IfExp c a b pos) (mIf mc ma mb):=RE.wk (Os hc.pe ha.pe hb.pe) fun σ H Q h=>by
  obtain ⟨ι,μ,τ,z,μ',R,S,e,q⟩:=h
  obtain ⟨x,μ1,e1,e⟩:=AG e
  refine ⟨ι,μ,τ,x,μ1,R,S,e1,fun ι1 H1 E1 R1=>?_⟩
  cases x with
  | true=>exact ⟨ι1,μ1,τ,z,μ',R1,S.ext E1,e,fun ι2 H2 E2 R2=>q ι2 H2 (E1.trans E2) R2⟩
  | false=>exact ⟨ι1,μ1,τ,z,μ',R1,S.ext E1,e,fun ι2 H2 E2 R2=>q ι2 H2 (E1.trans E2) R2⟩
def EK (ma mb:Sl->M D):Sl->M D:=fun τ=>bnd (ma τ) fun x=>bnd (asB x) fun c=>if c=true then mb τ else ret (.bl false)
def J8 (ma:Sl->M D):Sl->M D:=fun τ=>bnd (ma τ) fun x=>bnd (asB x) fun c=>ret (.bl (!c))
theorem Hc {x:D} {μ μ1:Mh} {c:Bool} (h:asB x μ=some (c,μ1)):x=.bl c /\ μ1=μ:=by
  cases x with
  | bl k=>cases h; exact ⟨rfl,rfl⟩
  | _=>cases h
theorem K1 {op} {m:Sl->M D} (h:RE X a m):RE X (.BoolOp op [a] pos) m:=⟨TJ h.pe⟩
theorem Ix {rest:List Expr} {ma mb:Sl->M D} (ha:RE X a ma) (hb:RE X (.BoolOp .And (b :: rest) pos) mb):RE X (.BoolOp .And (a :: b :: rest) pos) (EK ma mb):=RE.wk (TR ha.pe hb.pe) fun σ H Q h=>by
  obtain ⟨ι,μ,τ,z,μ',R,S,e,q⟩:=h
  obtain ⟨x,μ1,e1,e⟩:=AG e
  obtain ⟨c,μ2,e2,e⟩:=AG e
  obtain ⟨rfl,rfl⟩:=Hc e2
  refine ⟨ι,μ,τ,_,μ2,R,S,e1,fun ι1 H1 E1 R1 v1 i1=>⟨c,by unfold Is at i1; exact i1,?_⟩⟩
  cases c with
  | true=>exact ⟨ι1,μ2,τ,z,μ',R1,S.ext E1,e,fun ι2 H2 E2 R2=>q ι2 H2 (E1.trans E2) R2⟩
  | false=>cases e; exact q ι1 H1 E1 R1 _ (by unfold Is; rfl)
theorem Su {ma:Sl->M D} (ha:RE X a ma):RE X (.UnaryOp .Not a pos) (J8 ma):=RE.wk (TK ha.pe) fun σ H Q h=>by
  obtain ⟨ι,μ,τ,z,μ',R,S,e,q⟩:=h
  obtain ⟨x,μ1,e1,e⟩:=AG e
  obtain ⟨c,μ2,e2,e⟩:=AG e
  obtain ⟨rfl,rfl⟩:=Hc e2
  cases e
  exact ⟨ι,μ,τ,_,_,R,S,e1,fun ι1 H1 E1 R1 v1 i1=>⟨c,by unfold Is at i1; exact i1,q ι1 H1 E1 R1 _ (by unfold Is; rfl)⟩⟩
def EJ (g g':D->D->M D) (ma mb mc:Sl->M D):Sl->M D:=fun τ=>bnd (ma τ) fun x=>bnd (mb τ) fun y=>bnd (g x y) fun z=>bnd (asB z) fun k=>if k=true then bnd (mc τ) fun w=>g' y w else ret (.bl false)
def AJ:Sl->M (List D):=fun _=>ret []
def AC (m:Sl->M D) (r:Sl->M (List D)):Sl->M (List D):=fun τ=>bnd (m τ) fun x=>bnd (r τ) fun xs=>ret (x :: xs)
theorem AF:RA X [] AJ:=RA.wk Gy fun σ H Q h=>by
  obtain ⟨ι,μ,τ,z,μ',R,S,e,q⟩:=h
  cases e
  exact q ι H R.ext0 R [] .nil
theorem AA {m:Sl->M D} {r:Sl->M (List D)} (h:RE X e m) (hr:RA X es r) (hs:starEach (e :: es) X.env=(false,eval e X.env) :: starEach es X.env:=by exact Az rfl):RA X (e :: es) (AC m r):=RA.wk (FE h.pe hr.pe hs) fun σ H Q h=>by
  obtain ⟨ι,μ,τ,z,μ',R,S,e,q⟩:=h
  obtain ⟨x,μ1,e1,e⟩:=AG e
  obtain ⟨xs,μ2,e2,e⟩:=AG e
  cases e
  exact ⟨ι,μ,τ,x,μ1,R,S,e1,fun ι1 H1 E1 R1 v1 i1=>⟨ι1,μ1,τ,xs,_,R1,S.ext E1,e2,fun ι2 H2 E2 R2 vs i2=>q ι2 H2 (E1.trans E2) R2 _ (.cons (i1.ext E2) i2)⟩⟩
def lim (n:Nat):M Unit:=fun μ=>if n <= sizeLine then some ((),μ) else none
theorem Dh {n:Nat} {μ μ1:Mh} {u:Unit} (h:lim n μ=some (u,μ1)):n <= sizeLine /\ μ1=μ:=by
  unfold lim at h
  split at h
  . rename_i hn; cases h; exact ⟨hn,rfl⟩
  . cases h
def AX (ds:List D):M D:=bnd (lim ds.length) fun _=>ret (.tup ds)
def Ar (ds:List D):M D:=bnd (lim ds.length) fun _=>ret (.lst ds)
def Hm (ds:List D):M D:=bnd (lim ds.length) fun _=>fun μ=>some (.ref μ.length,μ ++ [.lst ds])
def AE (f:List D->M D) (m:Sl->M (List D)):Sl->M D:=fun τ=>bnd (m τ) f
theorem L5 {K:PySem.W.Frag} {ι:Nat->Addr} {μ μ':Mh} {H:Hp} {ds:List D} {vs:List V} {d:D} {Q:VK} (R:RelH K ι μ H) (i:IsL K ι μ.length H ds vs) (e:AX ds μ=some (d,μ')) (q:Aft K ι μ H μ' fun ι' H'=>∀ v,Is K ι' μ'.length H' d v->Q v H') :
    vs.length <= sizeLine /\ ∀ p,H p=none->Q (.ref p) (upd H p (.tup vs)):=by
  obtain ⟨u,μ1,e1,e2⟩:=AG e
  clear e
  obtain ⟨hl,e3⟩:=Dh e1
  cases e2
  cases e3
  refine ⟨by rw [i.length]; exact hl,fun p hp=>?_⟩
  obtain ⟨E1,R1⟩:=R.laid (.tup vs) hp
  exact q ι _ E1 R1 _ (by unfold Is; exact ⟨p,vs,rfl,SqT.of BF,i.ext E1⟩)
theorem DJ {K:PySem.W.Frag} {ι:Nat->Addr} {μ μ':Mh} {H:Hp} {ds:List D} {vs:List V} {d:D} {Q:VK} (R:RelH K ι μ H) (i:IsL K ι μ.length H ds vs) (e:Ar ds μ=some (d,μ')) (q:Aft K ι μ H μ' fun ι' H'=>∀ v,Is K ι' μ'.length H' d v->Q v H') :
    vs.length <= sizeLine /\ ∀ p,H p=none->Q (.ref p) (upd H p (.lst vs)):=by
  obtain ⟨u,μ1,e1,e2⟩:=AG e
  clear e
  obtain ⟨hl,e3⟩:=Dh e1
  cases e2
  cases e3
  refine ⟨by rw [i.length]; exact hl,fun p hp=>?_⟩
  obtain ⟨E1,R1⟩:=R.laid (.lst vs) hp
  have ho:∀ n,n < μ.length->ι n ≠ p:=fun n hn z=>by
    obtain ⟨o,e,_⟩:=R.muts n hn
    rw [z,hp] at e; cases e
  exact q ι _ E1 R1 _ (by unfold Is; exact ⟨p,vs,rfl,BF,ho,i.ext E1⟩)
theorem RM {K:PySem.W.Frag} {ι:Nat->Addr} {μ μ':Mh} {H:Hp} {ds:List D} {vs:List V} {d:D} {Q:VK} (R:RelH K ι μ H) (i:IsL K ι μ.length H ds vs) (e:Hm ds μ=some (d,μ')) (q:Aft K ι μ H μ' fun ι' H'=>∀ v,Is K ι' μ'.length H' d v->Q v H') :
    vs.length <= sizeLine /\ ∀ p,H p=none->Q (.ref p) (upd H p (.lst vs)):=by
  obtain ⟨u,μ1,e1,e2⟩:=AG e
  clear e
  obtain ⟨hl,e3⟩:=Dh e1
  cases e2
  cases e3
  refine ⟨by rw [i.length]; exact hl,fun p hp=>?_⟩
  obtain ⟨ι',E1,R1,e0⟩:=R.grown (m:=.lst ds) hp ⟨vs,rfl,i⟩
  exact q ι' _ E1 R1 _ (by unfold Is; exact ⟨by simp,by rw [e0]⟩)
theorem Ea {K:PySem.W.Frag} {f:List D->M D} {m:Sl->M (List D)} {σ:St} {H:Hp} {Q:VK} {R:List V->Hp->Prop} (h:tE K (AE f m) σ H Q)
    (hf:∀ ι μ μ' H ds vs d,RelH K ι μ H->IsL K ι μ.length H ds vs->f ds μ=some (d,μ')->(Aft K ι μ H μ' fun ι' H'=>∀ v,Is K ι' μ'.length H' d v->Q v H')->R vs H):tL K m σ H R:=by
  obtain ⟨ι,μ,τ,z,μ',S1,S,e,q⟩:=h
  obtain ⟨ds,μ1,e1,e⟩:=AG e
  exact ⟨ι,μ,τ,ds,μ1,S1,S,e1,fun ι1 H1 E1 R1 vs iv=>hf ι1 μ1 μ' H1 ds vs z R1 iv e fun ι2 H2 E2 R2=>q ι2 H2 (E1.trans E2) R2⟩
theorem AQ {x1} {m:Sl->M (List D)} (h:RA X es m):RE X (.Tuple es x1 pos) (AE AX m):=RE.wk (TF h.pe) fun _ _ _ q=>Ea q fun _ _ _ _ _ _ _ R i e q=>L5 R i e q
theorem An {m:Sl->M (List D)} (h:RA X es m):RE X (.List es pos) (AE Ar m):=RE.wk (Oq h.pe) fun _ _ _ q=>Ea q fun _ _ _ _ _ _ _ R i e q=>DJ R i e q
theorem Iw {m:Sl->M (List D)} (h:RA X es m):RE X (.List es pos) (AE Hm m):=RE.wk (Oq h.pe) fun _ _ _ q=>Ea q fun _ _ _ _ _ _ _ R i e q=>RM R i e q
theorem BP {id:String} {x:Str} {g:List D->M D} {m:Sl->M (List D)} {p:Pos} (hc:CF X (.builtin id) (rMA X.K g)) (hm:X.mg x=none) (hv:bootBuiltins x=some (.builtin id)) (ha:RA X (e :: es) m) (hg:Gl X x:=by rfl) (hn:x ≠ "__name__" := by decide) (hdb:(x == ("__debug__" : Str))=false:=by decide)
    (he:starEach (e :: es) X.env=(false,eval e X.env) :: starEach es X.env:=by exact Az rfl) (hpl:(backTo pos (starEach es X.env)).any (·.1)=false:=by exact CJ rfl):RE X (.Call (.Name x p) (e :: es) [] pos) (AE g m):=
  RE.wk (Jz hc hg hm hv ha.pe hn hdb he hpl) fun _ _ _ q=>Ea q fun ι μ μ' H ds vs d R i e q=>⟨ι,μ,ds,d,μ',R,i,e,q⟩
theorem DZ {T:String} {x:Str} {g:List D->M D} {m:Sl->M (List D)} {p:Pos} (hc:CF X (.type T) (rMA X.K g)) (hm:X.mg x=none) (hv:bootBuiltins x=some (.type T)) (ha:RA X (e :: es) m) (hg:Gl X x:=by rfl) (hn:x ≠ "__name__" := by decide) (hdb:(x == ("__debug__" : Str))=false:=by decide)
    (he:starEach (e :: es) X.env=(false,eval e X.env) :: starEach es X.env:=by exact Az rfl) (hpl:(backTo pos (starEach es X.env)).any (·.1)=false:=by exact CJ rfl):RE X (.Call (.Name x p) (e :: es) [] pos) (AE g m):=
  RE.wk (Ed hc hg hm hv ha.pe hn hdb he hpl) fun _ _ _ q=>Ea q fun ι μ μ' H ds vs d R i e q=>⟨ι,μ,ds,d,μ',R,i,e,q⟩
def spM (K:PySem.W.Frag) (n:Nat) (φ:List D->M D):Sp:=fun vs H Q _=>vs.length=n /\ rMA K φ vs H Q
theorem Qn {n k:Nat} {φ:List D->M D} {f:Addr} {fd:FuncData} {ps:List Str} {x:Str} {m:Sl->M (List D)} {p:Pos} (F:FnOk X.prog X.w X.K X.mg X.base CX0 k f fd ps (spM X.K n φ)) (hr:Room k X.A) (hm:X.mg x=some (.ref f)) (hk:PySem.W.keepIn X.K (.ref f)=true) (hb:Binds X.K fd ps [])
    (hφ:∀ ds μ r,φ ds μ=some r->ds.length=n) (ha:RA X (e :: es) m) (hg:Gl X x:=by rfl) (hdb:(x == ("__debug__" : Str))=false:=by decide) (he:starEach (e :: es) X.env=(false,eval e X.env) :: starEach es X.env:=by exact Az rfl) (hpl:(backTo pos (starEach es X.env)).any (·.1)=false:=by exact CJ rfl) :
    RE X (.Call (.Name x p) (e :: es) [] pos) (AE φ m):=
  RE.wk (Q7 F hr hg hm hk hb .nil Uu ha.pe hdb he hpl) fun _ _ _ q=>Ea q fun ι μ μ' H ds vs d R i e q=>by
    rw [List.append_nil]
    exact ⟨by rw [i.length]; exact hφ ds μ _ e,ι,μ,ds,d,μ',R,i,e,q⟩
end
end Mi
namespace Mi
open PySem L2
section
variable {X:Cx} {e a b c tg iter:Expr} {es:List Expr} {pos:Pos} {st:Stmt} {rest body:List Stmt}
def A1:Sl->M (Fl × Sl):=fun τ=>ret (.next,τ)
def AV (m1 m2:Sl->M (Fl × Sl)):Sl->M (Fl × Sl):=fun τ=>bnd (m1 τ) fun r=>match r.1 with
  | .next=>m2 r.2
  | f=>ret (f,r.2)
theorem Ai:RSs X [] A1:=RSs.wk Qw fun Dn σ H h=>by
  obtain ⟨ι,μ,τ,f,τ',μ',R,S,e,q⟩:=h
  cases e
  exact q ι H R.ext0 R σ S
theorem AK {m1 m2:Sl->M (Fl × Sl)} (h1:RS X st m1) (h2:RSs X rest m2):RSs X (st :: rest) (AV m1 m2):=RSs.wk (Oe h1.pe h2.pe) fun Dn σ H h=>by
  obtain ⟨ι,μ,τ,f,τ',μ',R,S,e,q⟩:=h
  obtain ⟨⟨f1,τ1⟩,μ1,e1,e⟩:=AG e
  refine ⟨ι,μ,τ,f1,τ1,μ1,R,S,e1,fun ι1 H1 E1 R1 σ1 S1=>?_⟩
  cases f1 with
  | next=>exact ⟨ι1,μ1,τ1,f,τ',μ',R1,S1,e,fun ι2 H2 E2 R2=>q ι2 H2 (E1.trans E2) R2⟩
  | brk=>cases e; exact q ι1 H1 E1 R1 σ1 S1
  | cont=>cases e; exact q ι1 H1 E1 R1 σ1 S1
  | rt d=>cases e; exact q ι1 H1 E1 R1 σ1 S1
theorem AO {m:Sl->M (Fl × Sl)} (h:RS X st m):RSs X [st] m:=⟨Qv h.pe⟩
def Bu (m:Sl->M D):Sl->M (Fl × Sl):=fun τ=>bnd (m τ) fun _=>ret (.next,τ)
theorem Dr {m:Sl->M D} (h:RE X e m) (hs:swapsWith e none pos.line X.env=pure false:=by rfl):RS X (.Expr e pos) (Bu m):=RS.wk (Qx h.pe hs) fun Dn σ H h=>by
  obtain ⟨ι,μ,τ,f,τ',μ',R,S,e,q⟩:=h
  obtain ⟨x,μ1,e1,e⟩:=AG e
  cases e
  exact ⟨ι,μ,_,x,_,R,S,e1,fun ι1 H1 E1 R1 v i1=>q ι1 H1 E1 R1 σ (S.ext E1)⟩
def Am (m:Sl->M D):Sl->M (Fl × Sl):=fun τ=>bnd (m τ) fun d=>ret (.rt d,τ)
theorem Aa {m:Sl->M D} (h:RE X e m):RS X (.Return (some e) pos) (Am m):=RS.wk (S8 h.pe) fun Dn σ H h=>by
  obtain ⟨ι,μ,τ,f,τ',μ',R,S,e,q⟩:=h
  obtain ⟨x,μ1,e1,e⟩:=AG e
  cases e
  exact ⟨ι,μ,_,x,_,R,S,e1,fun ι1 H1 E1 R1 v i1=>q ι1 H1 E1 R1 σ (S.ext E1) v i1⟩
def sIf (mc:Sl->M Bool) (m1 m2:Sl->M (Fl × Sl)):Sl->M (Fl × Sl):=fun τ=>bnd (mc τ) fun x=>if x=true then m1 τ else m2 τ
theorem A8 {mc:Sl->M Bool} {m1 m2:Sl->M (Fl × Sl)} (hc:RT X c mc) (h1:RSs X body m1) (h2:RSs X rest m2):RS X (.If c body rest pos) (sIf mc m1 m2):=RS.wk (Um hc.pe h1.pe h2.pe) fun Dn σ H h=>by
  obtain ⟨ι,μ,τ,f,τ',μ',R,S,e,q⟩:=h
  obtain ⟨x,μ1,e1,e⟩:=AG e
  refine ⟨ι,μ,τ,x,μ1,R,S,e1,fun ι1 H1 E1 R1=>?_⟩
  cases x with
  | true=>exact ⟨ι1,μ1,τ,f,τ',μ',R1,S.ext E1,e,fun ι2 H2 E2 R2=>q ι2 H2 (E1.trans E2) R2⟩
  | false=>exact ⟨ι1,μ1,τ,f,τ',μ',R1,S.ext E1,e,fun ι2 H2 E2 R2=>q ι2 H2 (E1.trans E2) R2⟩
def C4:Sl->M (Fl × Sl):=fun _=>BS
theorem Gk:RS X st C4:=RS.wk Og fun Dn σ H h=>by
  obtain ⟨ι,μ,τ,f,τ',μ',R,S,e,q⟩:=h
  cases e
def tG (K:PySem.W.Frag) (bf:D->Sl->M Sl):TG:=fun v σ H Q=>∃ ι μ τ d τ' μ',RelH K ι μ H /\ RelS K ι μ.length H τ σ /\ Is K ι μ.length H d v /\ bf d τ μ=some (τ',μ') /\
  Aft K ι μ H μ' fun ι' H'=>∀ σ',RelS K ι' μ'.length H' τ' σ'->Q σ' H'
structure RG (X:Cx) (tg:Expr) (bf:D->Sl->M Sl):Prop where
  pe:PG X tg (tG X.K bf)
theorem PG.wk {t t':TG} (h:PG X tg t) (w:∀ v σ H Q,t' v σ H Q->t v σ H Q):PG X tg t':=fun pins s σ H v u Q I r q=>h pins s σ H v u Q I r (w v σ H Q q)
theorem RG.wk {bf:D->Sl->M Sl} {t:TG} (h:PG X tg t) (w:∀ v σ H Q,tG X.K bf v σ H Q->t v σ H Q):RG X tg bf:=⟨PG.wk h w⟩
def AM (i:Nat):D->Sl->M Sl:=fun d τ=>ret (τ.set i (some d))
theorem Li {K:PySem.W.Frag} {i:Nat} {v:V} {σ:St} {H:Hp} {Q:St->Hp->Prop} (h:tG K (AM i) v σ H Q):Es i v σ H Q:=by
  obtain ⟨ι,μ,τ,d,τ',μ',R,S,i1,e,q⟩:=h
  cases e
  exact q ι H R.ext0 R _ (S.set i i1)
theorem E9 (i:Nat) {x:Str} (hN:X.N.Nodup) (hi:X.N[i]? = some x:=by rfl) (hx:Loc X.env.scope x:=by first | exact Or.inl rfl | exact Or.inr rfl) (hf:X.fn x=true ∨ X.env.scope.names.lookup x=some .local:=by first | exact .inl rfl | exact .inr rfl | assumption):RG X (.Name x pos) (AM i):=
  RG.wk (A4 hN hi hx hf) fun _ _ _ _ h=>Li h
def JW:List Nat->List D->Sl->M Sl
  | [],[],τ=>ret τ
  | i :: is,d :: ds,τ=>bnd (AM i d τ) fun τ1=>JW is ds τ1
  | _,_,_=>BS
def Hb (is:List Nat):D->Sl->M Sl
  | .tup ds,τ=>if ds.length=is.length then JW is ds τ else BS
  | _,_=>BS
def LJ:List Nat->TGs
  | []=>VI
  | i :: is=>SJ (Es i) (LJ is)
theorem IP {K:PySem.W.Frag}:∀ {is:List Nat} {ds:List D} {vs:List V} {τ τ':Sl} {σ:St} {ι:Nat->Addr} {μ μ':Mh} {H:Hp} {Q:St->Hp->Prop},RelH K ι μ H->RelS K ι μ.length H τ σ->IsL K ι μ.length H ds vs->JW is ds τ μ=some (τ',μ')->
    (μ'=μ->∀ σ',RelS K ι μ.length H τ' σ'->Q σ' H)->LJ is vs σ H Q
  | [],[],_,_,_,_,_,_,_,_,_,R,S,i,e,q=>by
    cases e
    unfold IsL at i; subst i
    exact ⟨rfl,q rfl _ S⟩
  | _ :: is,_ :: ds,_,τ,τ',σ,ι,μ,μ',H,Q,R,S,i,e,q=>by
    unfold IsL at i
    obtain ⟨v,vs',rfl,i1,i2⟩:=i
    exact ⟨v,vs',rfl,IP (is:=is) (ds:=ds) R (S.set _ i1) i2 e q⟩
  | [],_ :: _,_,_,_,_,_,_,_,_,_,_,_,_,e,_=>by cases e
  | _ :: _,[],_,_,_,_,_,_,_,_,_,_,_,_,e,_=>by cases e
theorem Gm {is:List Nat} {k:Nat} (hc:X.calm=true) (h:PGs X es (LJ is)) (hn:(assignEach es X.env).length=is.length:=by rfl) (hst:(assignEach es X.env).findIdx? (·.1)=none:=by rfl):RG X (.Tuple es k pos) (Hb is):=
  RG.wk (TC hc h hn hst) fun v σ H Q h=>by
    obtain ⟨ι,μ,τ,d,τ',μ',R,S,i1,e,q⟩:=h
    cases d with
    | tup ds=>
      unfold Is at i1
      obtain ⟨p,vs,rfl,h1,h2⟩:=i1
      have e':(if ds.length=is.length then JW is ds τ else BS) μ=some (τ',μ'):=e
      by_cases hl:ds.length=is.length
      . rw [if_pos hl] at e'
        have e:=e'
        refine ⟨p,vs,rfl,h1,by rw [h2.length,hl],IP R S h2 e fun z σ' S'=>?_⟩
        subst z
        exact q ι H R.ext0 R σ' S'
      . rw [if_neg hl] at e'; cases e'
    | _=>cases e
def Ae (m:Sl->M D) (bf:D->Sl->M Sl):Sl->M (Fl × Sl):=fun τ=>bnd (m τ) fun d=>bnd (bf d τ) fun τ'=>ret (.next,τ')
theorem QR {K:PySem.W.Frag} {m:Sl->M D} {bf:D->Sl->M Sl} {g:TG} {Dn:LY} {σ:St} {H:Hp} (hg:∀ v H Q,tG K bf v σ H Q->g v σ H Q) (h:tSt K (Ae m bf) Dn σ H):Sf (tE K m) g Dn σ H:=by
  obtain ⟨ι,μ,τ,f,τ',μ',R,S,e,q⟩:=h
  obtain ⟨x,μ1,e1,e⟩:=AG e
  obtain ⟨τ1,μ2,e2,e⟩:=AG e
  cases e
  exact ⟨ι,μ,τ,x,μ1,R,S,e1,fun ι1 H1 E1 R1 v i1=>hg _ _ _ ⟨ι1,μ1,τ,x,_,_,R1,S.ext E1,i1,e2,fun ι2 H2 E2 R2 σ' S'=>q ι2 H2 (E1.trans E2) R2 σ' S'⟩⟩
theorem Ab (i:Nat) {x:Str} {m:Sl->M D} {pos':Pos} (hN:X.N.Nodup) (he:RE X e m) (hi:X.N[i]? = some x:=by rfl) (hx:Loc X.env.scope x:=by first | exact Or.inl rfl | exact Or.inr rfl) (hs:swapsWith e (some (.Name x pos')) pos.line X.env=pure false:=by rfl) (hf:X.fn x=true ∨ X.env.scope.names.lookup x=some .local:=by first | exact .inl rfl | exact .inr rfl | assumption) :
    RS X (.Assign [.Name x pos'] e pos) (Ae m (AM i)):=RS.wk (S7 hN hi hx he.pe hs hf) fun _ _ _ h=>QR (fun _ _ _ q=>Li q) h
def F7 (mc:Sl->M Bool) (mb:Sl->M (Fl × Sl)):Nat->Sl->M (Fl × Sl)
  | 0,_=>BS
  | n + 1,τ=>bnd (mc τ) fun x=>if x=true then bnd (mb τ) fun r=>match r.1 with
      | .next=>F7 mc mb n r.2
      | .cont=>F7 mc mb n r.2
      | .brk=>ret (.next,r.2)
      | .rt d=>ret (.rt d,r.2)
    else ret (.next,τ)
def Kw (n:Nat) (mc:Sl->M Bool) (mb:Sl->M (Fl × Sl)):Sl->M (Fl × Sl):=F7 mc mb n
theorem Jv (n:Nat) {mc:Sl->M Bool} {mb:Sl->M (Fl × Sl)} (hp:PassesOwn (model X.prog X.w) X.A X.env X.xe) (hc:RT X c mc) (hb:RSs X body mb):RS X (.While c body [] pos) (Kw n mc mb):=RS.wk (Of hp hc.pe hb.pe) fun Dn σ H h=>by
  refine ⟨fun n σ H=>tSt X.K (F7 mc mb n) Dn σ H,⟨n,h⟩,?_⟩
  intro n σ H h
  obtain ⟨ι,μ,τ,f,τ',μ',R,S,e,q⟩:=h
  cases n with
  | zero=>cases e
  | succ n=>
    obtain ⟨x,μ1,e1,e⟩:=AG e
    refine ⟨ι,μ,τ,x,μ1,R,S,e1,fun ι1 H1 E1 R1=>?_⟩
    cases x with
    | false=>cases e; exact q ι1 H1 E1 R1 σ (S.ext E1)
    | true=>
      obtain ⟨⟨f2,τ2⟩,μ2,e2,e⟩:=AG e
      refine ⟨fun σ' H'=>tSt X.K (F7 mc mb n) Dn σ' H',fun σ' H' z=>⟨n,Nat.lt_succ_self n,z⟩,?_⟩
      refine ⟨ι1,μ1,τ,f2,τ2,μ2,R1,S.ext E1,e2,fun ι2 H2 E2 R2 σ2 S2=>?_⟩
      have E12:=E1.trans E2
      cases f2 with
      | next=>exact ⟨ι2,μ2,τ2,f,τ',μ',R2,S2,e,fun ι3 H3 E3 R3=>q ι3 H3 (E12.trans E3) R3⟩
      | cont=>exact ⟨ι2,μ2,τ2,f,τ',μ',R2,S2,e,fun ι3 H3 E3 R3=>q ι3 H3 (E12.trans E3) R3⟩
      | brk=>cases e; exact q ι2 H2 E12 R2 σ2 S2
      | rt d=>cases e; exact q ι2 H2 E12 R2 σ2 S2
def ItM (K:PySem.W.Frag) (J:It) (ds:List D) (ι:Nat->Addr) (μ:Mh) (H:Hp):Prop:=∀ ι' (μ':Mh) H',Ext ι μ.length H ι' μ'.length H'->RelH K ι' μ' H'->
  (∀ i,i < ds.length->J.go i H') /\ J.stop ds.length H' /\ ∀ (i:Nat) x H2 d,ds[i]? = some d->J.yld i H' x H2->Ext ι' μ'.length H' ι' μ'.length H2 /\ RelH K ι' μ' H2 /\ Is K ι' μ'.length H2 d x
theorem ItM.ext {K:PySem.W.Frag} {J:It} {ds:List D} {ι ι':Nat->Addr} {μ μ':Mh} {H H':Hp} (h:ItM K J ds ι μ H) (E:Ext ι μ.length H ι' μ'.length H'):ItM K J ds ι' μ' H':=fun ι2 μ2 H2 E2 R2=>h ι2 μ2 H2 (E.trans E2) R2
def tI (K:PySem.W.Frag) (m:Sl->M (List D)):TI:=fun σ H R=>∃ ι μ τ ds μ',RelH K ι μ H /\ RelS K ι μ.length H τ σ /\ m τ μ=some (ds,μ') /\
  Aft K ι μ H μ' fun ι' H'=>∀ J,ItM K J ds ι' μ' H'->R J H'
structure RI (X:Cx) (tg iter:Expr) (m:Sl->M (List D)):Prop where
  pe:PI X tg iter (tI X.K m)
theorem PI.wk {t t':TI} (h:PI X tg iter t) (w:∀ σ H R,t' σ H R->t σ H R):PI X tg iter t':=fun pins s σ H R I q=>h pins s σ H R I (w σ H R q)
theorem RI.wk {m:Sl->M (List D)} {t:TI} (h:PI X tg iter t) (w:∀ σ H R,tI X.K m σ H R->t σ H R):RI X tg iter m:=⟨PI.wk h w⟩
theorem PI.or {t t':TI} (h:PI X tg iter t) (h':PI X tg iter t'):PI X tg iter (fun σ H R=>t σ H R ∨ t' σ H R):=fun pins s σ H R I q=>q.elim (h pins s σ H R I) (h' pins s σ H R I)
def VR:D->M (List D)
  | .lst ds=>ret ds
  | .tup ds=>ret ds
  | .scr ns=>ret (ns.map D.int)
  | _=>BS
def Ce (m:Sl->M D):Sl->M (List D):=fun τ=>bnd (m τ) VR
theorem KC {K:PySem.W.Frag} {ι:Nat->Addr} {μ:Mh} {H:Hp} {p:Addr} {vs:List V} {ds:List D} (st:∀ ι' (μ':Mh) H',Ext ι μ.length H ι' μ'.length H'->RelH K ι' μ' H'->SqL K H' p vs) (i:IsL K ι μ.length H ds vs):ItM K (Itl K p) ds ι μ H:=by
  intro ι' μ' H' E R
  have h:=st ι' μ' H' E R
  have hl:=i.length
  refine ⟨fun j hj=>⟨vs,vs[j],h,by simp⟩,⟨vs,h,by omega⟩,fun j x H2 d hd y=>?_⟩
  obtain ⟨e,y⟩:=y
  subst e
  obtain ⟨v,ev,iv⟩:=(i.ext E).get hd
  have:=y vs h
  rw [ev] at this; cases this
  exact ⟨R.ext0,R,iv⟩
theorem Ra {K:PySem.W.Frag} {ι:Nat->Addr} {μ:Mh} {H:Hp} {p:Addr} {vs:List V} {ds:List D} (h:SqT K H p vs) (i:IsL K ι μ.length H ds vs):ItM K (Itt K p) ds ι μ H:=by
  intro ι' μ' H' E R
  have h:=Io E h
  have hl:=i.length
  refine ⟨fun j hj=>⟨vs,vs[j],h,by simp⟩,⟨vs,h,by omega⟩,fun j x H2 d hd y=>?_⟩
  obtain ⟨e,y⟩:=y
  subst e
  obtain ⟨v,ev,iv⟩:=(i.ext E).get hd
  have:=y vs h
  rw [ev] at this; cases this
  exact ⟨R.ext0,R,iv⟩
theorem Qh {m:Sl->M D} {σ:St} {H:Hp} {R:It->Hp->Prop} {K:PySem.W.Frag} (q:tI K (Ce m) σ H R):SI K (tE K m) σ H R ∨ VG K (tE K m) σ H R:=by
  obtain ⟨ι,μ,τ,ds,μ',R0,S,e,q⟩:=q
  obtain ⟨x,μ1,e1,e⟩:=AG e
  cases x with
  | lst es=>
    cases e
    refine .inl ⟨ι,μ,τ,_,_,R0,S,e1,fun ι1 H1 E1 R1 v i1=>?_⟩
    unfold Is at i1
    obtain ⟨p,vs,rfl,h1,hn,h2⟩:=i1
    exact ⟨p,rfl,⟨vs,SqL.of h1⟩,q ι1 H1 E1 R1 _ (KC (fun ι' μ' H' E _=>SqL.of (E.keep p _ h1 hn)) h2)⟩
  | tup es=>
    cases e
    refine .inr ⟨ι,μ,τ,_,_,R0,S,e1,fun ι1 H1 E1 R1 v i1=>?_⟩
    unfold Is at i1
    obtain ⟨p,vs,rfl,h1,h2⟩:=i1
    exact ⟨p,rfl,⟨vs,h1⟩,q ι1 H1 E1 R1 _ (Ra h1 h2)⟩
  | scr ns=>
    cases e
    refine .inl ⟨ι,μ,τ,_,_,R0,S,e1,fun ι1 H1 E1 R1 v i1=>?_⟩
    unfold Is at i1
    obtain ⟨p,rfl,h1⟩:=i1
    exact ⟨p,rfl,⟨_,h1.sq⟩,q ι1 H1 E1 R1 _ (KC (fun ι' μ' H' E _=>(Ir E h1).sq) (IsL.ofInts ns))⟩
  | non=>cases e
  | bl _=>cases e
  | int _=>cases e
  | str _=>cases e
  | ty _=>cases e
  | ref _=>cases e
theorem B3 {m:Sl->M D} (h:RE X e m):RI X tg e (Ce m):=RI.wk (PI.or (L0 h.pe) (TB h.pe)) fun _ _ _ q=>Qh q
def OK (lo hi:Int):List D:=(List.range (hi - lo).toNat).map fun (j:Nat)=>D.int (lo + (j:Int))
def OL:List D->M (List D)
  | [.int j]=>fun μ=>if -(2 ^ 62) <= j /\ j < 2 ^ 62 then some (OK 0 j,μ) else none
  | _=>BS
def MB (m:Sl->M (List D)):Sl->M (List D):=fun τ=>bnd (m τ) OL
theorem Rb {K:PySem.W.Frag} {ι:Nat->Addr} {μ:Mh} {H:Hp} {lo hi:Int}:ItM K (Itr lo (hi - lo).toNat) (OK lo hi) ι μ H:=by
  intro ι' μ' H' E R
  have hl:(OK lo hi).length=(hi - lo).toNat:=by simp [OK]
  rw [hl]
  refine ⟨fun j hj=>hj,Nat.le_refl _,fun j x H2 d hd y=>?_⟩
  obtain ⟨e,y⟩:=y
  subst e
  unfold OK at hd
  rw [List.getElem?_map] at hd
  cases q:(List.range (hi - lo).toNat)[j]? with
  | none=>rw [q] at hd; cases hd
  | some z=>
    rw [q] at hd
    have hz:z=j:=by
      have:=(List.getElem?_eq_some_iff.mp q).2
      simpa using this.symm
    subst hz
    cases hd
    exact ⟨R.ext0,R,by unfold Is; exact y⟩
theorem M2 {a:Expr} {m:Sl->M (List D)} {p:Pos} (hm:X.mg "range" = none) (ha:RA X [a] m) (hg:Gl X "range" := by rfl) (hs:starEach [a] X.env=[(false,eval a X.env)]:=by rfl):RI X tg (.Call (.Name "range" p) [a] [] pos) (MB m):=
  RI.wk (ND hg hm ha.pe hs) fun σ H R q=>by
    obtain ⟨ι,μ,τ,ds,μ',R0,S,e,q⟩:=q
    obtain ⟨xs,μ1,e1,e⟩:=AG e
    refine ⟨ι,μ,τ,xs,μ1,R0,S,e1,fun ι1 H1 E1 R1 vs i1=>?_⟩
    unfold OL at e
    split at e
    . rename_i j
      split at e
      . rename_i hb
        cases e
        unfold IsL Is at i1
        obtain ⟨v,vs',rfl,rfl,i2⟩:=i1
        unfold IsL at i2
        subst i2
        refine ⟨j,rfl,hb.1,hb.2,q ι1 H1 E1 R1 _ ?_⟩
        have:=Rb (K:=X.K) (ι:=ι1) (μ:=μ') (H:=H1) (lo:=0) (hi:=j)
        rw [Int.sub_zero] at this
        exact this
      . cases e
    . cases e
def DA (bf:D->Sl->M Sl) (mb:Sl->M (Fl × Sl)):List D->Sl->M (Fl × Sl)
  | [],τ=>ret (.next,τ)
  | x :: xs,τ=>bnd (bf x τ) fun τ1=>bnd (mb τ1) fun r=>match r.1 with
    | .next=>DA bf mb xs r.2
    | .cont=>DA bf mb xs r.2
    | .brk=>ret (.next,r.2)
    | .rt d=>ret (.rt d,r.2)
def Ep (src:Sl->M (List D)) (bf:D->Sl->M Sl) (mb:Sl->M (Fl × Sl)):Sl->M (Fl × Sl):=fun τ=>bnd (src τ) fun ds=>DA bf mb ds τ
theorem Dq {src:Sl->M (List D)} {bf:D->Sl->M Sl} {mb:Sl->M (Fl × Sl)} (hp:PassesOwn (model X.prog X.w) X.A X.env X.xe) (hc:X.calm=true) (hi:RI X tg iter src) (hg:RG X tg bf) (hb:RSs X body mb)
    (hs:∀ x,foldedSetIterable iter X.env x=pure x:=by intro _; rfl):RS X (.For tg iter body [] pos) (Ep src bf mb):=RS.wk (Oh hp hc hi.pe hg.pe hb.pe hs) fun Dn σ H h=>by
  obtain ⟨ι,μ,τ,f,τ',μ',R,S,e,q⟩:=h
  obtain ⟨ds,μ1,e1,e⟩:=AG e
  refine ⟨ι,μ,τ,ds,μ1,R,S,e1,fun ι1 H1 E1 R1 J it=>?_⟩
  let W:Nat->Nat->St->Hp->Prop:=fun i m σ H=>m=ds.length - i /\ i <= ds.length /\ ∃ ι μ τ f τ' μ',RelH X.K ι μ H /\ RelS X.K ι μ.length H τ σ /\ ItM X.K J ds ι μ H /\ DA bf mb (ds.drop i) τ μ=some ((f,τ'),μ') /\
    Aft X.K ι μ H μ' fun ι' H'=>∀ σ',RelS X.K ι' μ'.length H' τ' σ'->FlP X.K Dn ι' μ'.length H' τ' σ' f
  refine ⟨W,⟨ds.length,by simp,Nat.zero_le _,ι1,μ1,τ,f,τ',μ',R1,S.ext E1,it,e,fun ι2 H2 E2 R2=>q ι2 H2 (E1.trans E2) R2⟩,?_⟩
  rintro i m σ H ⟨hm,hil,ι,μ,τ,f,τ',μ',R,S,it,e,q⟩
  obtain ⟨go,stop,yl⟩:=it ι μ H R.ext0 R
  by_cases hlt:i < ds.length
  . refine .inr ⟨go i hlt,fun σ' H'=>W (i + 1) (ds.length - (i + 1)) σ' H',fun σ' H' z=>⟨_,by omega,z⟩,fun x H2 y=>?_⟩
    have hd:ds[i]? = some ds[i]:=by simp [hlt]
    obtain ⟨E2,R2,ix⟩:=yl i x H2 _ hd y
    rw [List.drop_eq_getElem_cons hlt] at e
    obtain ⟨τ1,μ1,e1,e⟩:=AG e
    obtain ⟨⟨f2,τ2⟩,μ2,e2,e⟩:=AG e
    refine ⟨ι,μ,τ,_,τ1,μ1,R2,S.ext E2,ix,e1,fun ι3 H3 E3 R3 σ3 S3=>?_⟩
    refine ⟨ι3,μ1,τ1,f2,τ2,μ2,R3,S3,e2,fun ι4 H4 E4 R4 σ4 S4=>?_⟩
    have E14:=(E2.trans E3).trans E4
    cases f2 with
    | next=>exact ⟨rfl,hlt,ι4,μ2,τ2,f,τ',μ',R4,S4,it.ext E14,e,fun ι5 H5 E5 R5=>q ι5 H5 (E14.trans E5) R5⟩
    | cont=>exact ⟨rfl,hlt,ι4,μ2,τ2,f,τ',μ',R4,S4,it.ext E14,e,fun ι5 H5 E5 R5=>q ι5 H5 (E14.trans E5) R5⟩
    | brk=>cases e; exact q ι4 H4 E14 R4 σ4 S4
    | rt d=>cases e; exact q ι4 H4 E14 R4 σ4 S4
  . have hi':i=ds.length:=by omega
    subst hi'
    rw [List.drop_length] at e
    cases e
    exact .inl ⟨stop,q ι H R.ext0 R σ S⟩
end
end Mi
namespace Mi
open PySem L2
section
variable {X:Cx} {scope:Scope} {tgs:List Str} {ix:List Nat} {elt tg iter:Expr} {pos:Pos}
def Om (ix:List Nat) (τ:Sl):Sl:=ix.map fun j=>(τ[j]?).getD none
def DH (n:Nat) (ix:List Nat) (τ:Sl):Sl:=List.replicate n none ++ Om ix τ
def ET (bf:D->Sl->M Sl) (mc:Sl->M Bool) (me:Sl->M D) (τ0:Sl):List D->List D->M (List D)
  | [],ys=>ret ys
  | x :: xs,ys=>bnd (bf x τ0) fun τ1=>bnd (mc τ1) fun c=>if c=true then bnd (me τ1) fun y=>ET bf mc me τ0 xs (ys ++ [y]) else ET bf mc me τ0 xs ys
def Cm (n:Nat) (ix:List Nat) (src:Sl->M (List D)) (bf:D->Sl->M Sl) (mc:Sl->M Bool) (me:Sl->M D) (fin:List D->M D):Sl->M D:=fun τ=>bnd (src τ) fun ds=>bnd (lim ds.length) fun _=>bnd (ET bf mc me (DH n ix τ) ds []) fin
def Bv:Sl->M Bool:=fun _=>ret true
theorem RelS.block {K:PySem.W.Frag} {ι:Nat->Addr} {k:Nat} {H:Hp} {τ:Sl} {σ:St} (S:RelS K ι k H τ σ):RelS K ι k H (DH tgs.length ix τ) (CI tgs ix σ):=by
  refine ⟨by simp [DH,CI,Om,IE],fun i d e=>?_⟩
  unfold DH at e
  have hk:tgs.length <= i:=by
    rcases Nat.lt_or_ge i tgs.length with z | z
    . rw [List.getElem?_append_left (by simpa using z),List.getElem?_replicate,if_pos z] at e
      cases e
    . exact z
  rw [List.getElem?_append_right (by simpa using hk),List.length_replicate] at e
  unfold Om at e
  rw [List.getElem?_map] at e
  cases q:ix[i - tgs.length]? with
  | none=>rw [q] at e; cases e
  | some j=>
    rw [q] at e
    have e':(τ[j]?).getD none=some d:=Option.some.inj e
    cases q2:τ[j]? with
    | none=>rw [q2] at e'; cases e'
    | some o=>
      rw [q2] at e'
      have e'':o=some d:=e'
      subst e''
      obtain ⟨v,ev,iv⟩:=S.get j d q2
      refine ⟨v,?_,iv⟩
      unfold CI
      rw [List.getElem?_append_right (by simpa using hk),List.length_replicate]
      unfold IE
      rw [List.getElem?_map,q,Option.map_some,ev]
      rfl
theorem Lk {K:PySem.W.Frag} {n:Nat} {src:Sl->M (List D)} {i:Nat} {mc:Sl->M Bool} {me:Sl->M D} {fin:List D->M D} {σ:St} {H:Hp} {Q:VK} (hn:tgs.length=n) (hf:∀ ι μ μ' H ds vs d (Q:VK),RelH K ι μ H->IsL K ι μ.length H ds vs->fin ds μ=some (d,μ')->(Aft K ι μ H μ' fun ι' H'=>∀ v,Is K ι' μ'.length H' d v->Q v H')->
      vs.length <= sizeLine /\ ∀ p,H p=none->Q (.ref p) (upd H p (.lst vs)))
    (h:tE K (Cm n ix src (AM i) mc me fin) σ H Q):OC tgs ix (tI K src) (Es i) (tT K mc) (tE K me) σ H Q:=by
  subst hn
  obtain ⟨ι,μ,τ,d,μ',R,S,e,q⟩:=h
  obtain ⟨ds,μ1,e1,e5⟩:=AG e
  obtain ⟨u,μ2,e2,e6⟩:=AG e5
  obtain ⟨zs,μ3,e3,e7⟩:=AG e6
  obtain ⟨hl,e4⟩:=Dh e2
  clear e e5 e6
  subst e4
  refine ⟨ι,μ,τ,ds,_,R,S,e1,fun ι1 H1 E1 R1 J it=>?_⟩
  refine ⟨fun i' m ys H=>m=ds.length - i' /\ i' <= ds.length /\ ys.length <= i' /\ ∃ (ι:Nat->Addr) (μ:Mh) (as:List D),RelH K ι μ H /\ RelS K ι μ.length H τ σ /\ ItM K J ds ι μ H /\ IsL K ι μ.length H as ys /\ ET (AM i) mc me (DH tgs.length ix τ) (ds.drop i') as μ=some (zs,μ3) /\
    Aft K ι μ H μ' fun ι' H'=>∀ v,Is K ι' μ'.length H' d v->Q v H',⟨ds.length,by simp,Nat.zero_le _,Nat.le_refl _,ι1,_,[],R1,S.ext E1,it,.nil,e3,fun ι2 H2 E2 R2=>q ι2 H2 (E1.trans E2) R2⟩,?_⟩
  rintro i' m ys H ⟨hm,hil,hyl,ι,μ,as,R,S,it,ia,e3,q⟩
  obtain ⟨go,stop,yl⟩:=it ι μ H R.ext0 R
  by_cases hlt:i' < ds.length
  . refine .inr ⟨go i' hlt,by omega,fun ys' H'=>ys'.length <= i' + 1 /\ ∃ (ι:Nat->Addr) (μ:Mh) (as:List D),RelH K ι μ H' /\ RelS K ι μ.length H' τ σ /\ ItM K J ds ι μ H' /\ IsL K ι μ.length H' as ys' /\ ET (AM i) mc me (DH tgs.length ix τ) (ds.drop (i' + 1)) as μ=some (zs,μ3) /\
      Aft K ι μ H' μ' fun ι' H'=>∀ v,Is K ι' μ'.length H' d v->Q v H',fun ys' H' z=>⟨_,(by omega:ds.length - (i' + 1) < m),rfl,hlt,z⟩,fun x H2 y=>?_⟩
    have hd:ds[i']? = some ds[i']:=by simp [hlt]
    obtain ⟨E2,R2,ix2⟩:=yl i' x H2 _ hd y
    rw [List.drop_eq_getElem_cons hlt] at e3
    obtain ⟨τ1,μ1,e1,e3⟩:=AG e3
    cases e1
    obtain ⟨cc,μ2,e2,e3⟩:=AG e3
    have S2:=(S.ext E2).block (tgs:=tgs) (ix:=ix)
    show tT K mc _ H2 _
    refine ⟨ι,_,_,cc,μ2,R2,S2.set i ix2,e2,fun ι3 H3 E3 R3=>?_⟩
    have E13:=E2.trans E3
    cases cc with
    | false=>
      exact ⟨by omega,ι3,μ2,as,R3,S.ext E13,it.ext E13,ia.ext E13,e3,fun ι5 H5 E5 R5=>q ι5 H5 (E13.trans E5) R5⟩
    | true=>
      obtain ⟨y',μ4,e4,e3⟩:=AG e3
      refine ⟨ι3,μ2,_,y',μ4,R3,(S2.set i ix2).ext E3,e4,fun ι4 H4 E4 R4 v iv=>?_⟩
      have E14:=E13.trans E4
      exact ⟨by simp; omega,ι4,μ4,as ++ [y'],R4,S.ext E14,it.ext E14,(ia.ext E14).append (.one iv),e3,fun ι5 H5 E5 R5=>q ι5 H5 (E14.trans E5) R5⟩
  . have hi':i'=ds.length:=by omega
    subst hi'
    rw [List.drop_length] at e3
    cases e3
    obtain ⟨z1,z2⟩:=hf ι _ μ' H _ ys d Q R ia e7 q
    exact .inl ⟨stop,z1,z2⟩
theorem GD {n:Nat} {ifs:List Expr} {src:Sl->M (List D)} {i:Nat} {mc:Sl->M Bool} {me:Sl->M D} (S:BScope X scope tgs ix) (hc:X.calm=true) (hi:RI X tg iter src) (hg:∀ fp C s H,PG (cxB X scope tgs fp C s H) tg (Es i)) (hif:∀ fp C s H,Jb (cxB X scope tgs fp C s H) ifs (tT X.K mc)) (he:∀ fp C s H,RE (cxB X scope tgs fp C s H) elt me)
    (hin:i < tgs.length:=by decide) (hn:tgs.length=n:=by rfl) (hs:∀ x,foldedSetIterable iter X.env x=pure x:=by intro _; rfl) (ht:∀ o v,letOwnedTupleGo tg o v=pure ():=by intro _ _; rfl):RE X (.ListComp elt [⟨tg,iter,ifs,0⟩] scope pos) (Cm n ix src (AM i) mc me Ar):=
  RE.wk (Q5 (te:=tE X.K me) S hc hi.pe hg (MK hin) hif (fun fp C s H=>(he fp C s H).pe) hs ht) fun _ _ _ h=>Lk hn (fun _ _ _ _ _ _ _ _ R i e q=>DJ R i e q) h
theorem C5 {K:PySem.W.Frag}:Jb X [] (tT K Bv):=fun pins s σ H Q I h=>by
  obtain ⟨ι,μ,τ,b,μ',R,S,e,q⟩:=h
  cases e
  exact Oj pins s σ H Q I (q ι H R.ext0 R)
theorem ON {c:Expr} {mc:Sl->M Bool} (h:RT X c mc):Jb X [c] (tT X.K mc):=Oi h.pe
theorem Dp (k:Nat) {n:Nat} {y:Str} {py spos:Pos} {ifs:List Expr} {src:Sl->M (List D)} {i:Nat} {mc:Sl->M Bool} {me:Sl->M D} {fin:List D->M D} (hN:X.N.Nodup) (S:BScope X scope tgs ix) (hc:X.calm=true) (hi:RI X tg iter src) (hg:∀ fp C s H,PG (cxB X scope tgs fp C s H) tg (Es i)) (hif:∀ fp C s H,Jb (cxB X scope tgs fp C s H) ifs (tT X.K mc)) (he:∀ fp C s H,RE (cxB X scope tgs fp C s H) elt me)
    (hfin:∀ ι μ μ' H ds vs d (Q:VK),RelH X.K ι μ H->IsL X.K ι μ.length H ds vs->fin ds μ=some (d,μ')->(Aft X.K ι μ H μ' fun ι' H'=>∀ v,Is X.K ι' μ'.length H' d v->Q v H')->vs.length <= sizeLine /\ ∀ p,H p=none->Q (.ref p) (upd H p (.lst vs)))
    (hiN:X.N[k]? = some y:=by rfl) (hy:X.env.scope.names.lookup y=some .local:=by rfl) (hin:i < tgs.length:=by decide) (hn:tgs.length=n:=by rfl)
    (hsw:swapsWith (.ListComp elt [⟨tg,iter,ifs,0⟩] scope pos) (some (.Name y py)) spos.line X.env=pure true:=by rfl) (hs:∀ x,foldedSetIterable iter X.env x=pure x:=by intro _; rfl) (ht:∀ o v,letOwnedTupleGo tg o v=pure ():=by intro _ _; rfl) :
    RS X (.Assign [.Name y py] (.ListComp elt [⟨tg,iter,ifs,0⟩] scope pos) spos) (Ae (Cm n ix src (AM i) mc me fin) (AM k)):=
  RS.wk (K6 (te:=tE X.K me) hN hiN hy S hc hi.pe hg (MK hin) hif (fun fp C s H=>(he fp C s H).pe) hsw hs ht) fun Dn σ H h=>by
    obtain ⟨ι,μ,τ,f,τ',μ',R,S,e,q⟩:=h
    obtain ⟨x,μ1,e1,e⟩:=AG e
    obtain ⟨τ1,μ2,e2,e⟩:=AG e
    cases e2
    cases e
    refine Lk hn hfin ⟨ι,μ,τ,x,_,R,S,e1,fun ι1 H1 E1 R1 v i1=>?_⟩
    exact q ι1 H1 E1 R1 _ ((S.ext E1).set k i1)
mutual
def Cl (k:Nat):D->Prop
  | .tup ds=>ClL k ds
  | .lst ds=>ClL k ds
  | .ref n=>n < k
  | _=>True
def ClL (k:Nat):List D->Prop
  | []=>True
  | d :: ds=>Cl k d /\ ClL k ds
end
def ClO (k:Nat):MO->Prop
  | .lst ds=>ClL k ds
  | .dK l=>ClL k (l.map (·.2))
  | .dC l=>ClL k (l.map (·.2))
section
variable {K:PySem.W.Frag} {ι:Nat->Addr} {k k':Nat} {H:Hp}
mutual
theorem Is.down (hk:k <= k'):∀ {d:D} {v:V},Cl k d->Is K ι k' H d v->Is K ι k H d v
  | .non,_,_,h=>by unfold Is at h ⊢; exact h
  | .bl _,_,_,h=>by unfold Is at h ⊢; exact h
  | .int _,_,_,h=>by unfold Is at h ⊢; exact h
  | .str _,_,_,h=>by unfold Is at h ⊢; exact h
  | .ty _,_,_,h=>by unfold Is at h ⊢; exact h
  | .scr _,_,_,h=>by unfold Is at h ⊢; exact h
  | .tup ds,_,c,h=>by
    unfold Is at h ⊢
    obtain ⟨p,vs,e,h1,h2⟩:=h
    exact ⟨p,vs,e,h1,IsL.down hk (by unfold Cl at c; exact c) h2⟩
  | .lst ds,_,c,h=>by
    unfold Is at h ⊢
    obtain ⟨p,vs,e,h1,hn,h2⟩:=h
    exact ⟨p,vs,e,h1,fun n z=>hn n (Nat.lt_of_lt_of_le z hk),IsL.down hk (by unfold Cl at c; exact c) h2⟩
  | .ref n,_,c,h=>by
    unfold Is at h ⊢
    exact ⟨by unfold Cl at c; exact c,h.2⟩
theorem IsL.down (hk:k <= k'):∀ {ds:List D} {vs:List V},ClL k ds->IsL K ι k' H ds vs->IsL K ι k H ds vs
  | [],_,_,h=>by unfold IsL at h ⊢; exact h
  | _ :: _,_,c,h=>by
    unfold IsL at h ⊢
    unfold ClL at c
    obtain ⟨v,vs',e,h1,h2⟩:=h
    exact ⟨v,vs',e,Is.down hk c.1 h1,IsL.down hk c.2 h2⟩
end
mutual
theorem Is.cl:∀ {d:D} {v:V},Is K ι k H d v->Cl k d
  | .non,_,_=>by unfold Cl; trivial
  | .bl _,_,_=>by unfold Cl; trivial
  | .int _,_,_=>by unfold Cl; trivial
  | .str _,_,_=>by unfold Cl; trivial
  | .ty _,_,_=>by unfold Cl; trivial
  | .scr _,_,_=>by unfold Cl; trivial
  | .tup ds,_,h=>by
    unfold Is at h; unfold Cl
    obtain ⟨p,vs,e,h1,h2⟩:=h
    exact IsL.cl h2
  | .lst ds,_,h=>by
    unfold Is at h; unfold Cl
    obtain ⟨p,vs,e,h1,hn,h2⟩:=h
    exact IsL.cl h2
  | .ref n,_,h=>by
    unfold Is at h; unfold Cl
    exact h.1
theorem IsL.cl:∀ {ds:List D} {vs:List V},IsL K ι k H ds vs->ClL k ds
  | [],_,_=>by unfold ClL; trivial
  | _ :: _,_,h=>by
    unfold IsL at h; unfold ClL
    obtain ⟨v,vs',e,h1,h2⟩:=h
    exact ⟨Is.cl h1,IsL.cl h2⟩
end
theorem KVs.cl:∀ {l:List (Key × D)} {r:List (Key × V)},KVs K ι k H l r->ClL k (l.map (·.2))
  | [],_,_=>by unfold List.map ClL; trivial
  | (_,_) :: _,_,h=>by
    obtain ⟨v,r',e,h1,h2⟩:=h
    rw [List.map_cons]
    unfold ClL
    exact ⟨h1.cl,KVs.cl h2⟩
theorem KVs.down (hk:k <= k'):∀ {l:List (Key × D)} {r:List (Key × V)},ClL k (l.map (·.2))->KVs K ι k' H l r->KVs K ι k H l r
  | [],_,_,h=>h
  | (_,_) :: _,_,c,h=>by
    rw [List.map_cons] at c
    unfold ClL at c
    obtain ⟨v,r',e,h1,h2⟩:=h
    exact ⟨v,r',e,h1.down hk c.1,KVs.down hk c.2 h2⟩
theorem Ma:∀ l:List Int,ClL k (l.map D.int)
  | []=>by unfold List.map ClL; trivial
  | _ :: l=>by unfold List.map ClL; exact ⟨by unfold Cl; trivial,Ma l⟩
theorem EU (c:Nk.Cs):Cl k (csD c):=by
  unfold csD Cl ClL
  refine ⟨by unfold Cl; trivial,?_⟩
  unfold ClL
  refine ⟨by unfold Cl; trivial,?_⟩
  unfold ClL
  exact ⟨by unfold Cl; exact Ma _,by unfold ClL; trivial⟩
theorem CVs.cl:∀ {l:List (Nk.Cs × D)} {r:List (Nk.Cs × Addr × V)},CVs K ι k H l r->ClL k (l.map (·.2))
  | [],_,_=>by unfold List.map ClL; trivial
  | (_,_) :: _,_,h=>by
    obtain ⟨a,v,r',rfl,_,h1,h2⟩:=h
    rw [List.map_cons]
    unfold ClL
    exact ⟨h1.cl,CVs.cl h2⟩
theorem CVs.down (hk:k <= k'):∀ {l:List (Nk.Cs × D)} {r:List (Nk.Cs × Addr × V)},ClL k (l.map (·.2))->CVs K ι k' H l r->CVs K ι k H l r
  | [],_,_,h=>h
  | (_,_) :: _,_,c,h=>by
    rw [List.map_cons] at c
    unfold ClL at c
    obtain ⟨a,v,r',e,h0,h1,h2⟩:=h
    exact ⟨a,v,r',e,h0.down hk (EU _),h1.down hk c.1,CVs.down hk c.2 h2⟩
theorem ObjIs.cl {p:Addr} {o:MO} {u:HO} (h:ObjIs K ι k H p o u):ClO k o:=by
  cases o with
  | lst ds=>obtain ⟨vs,_,h⟩:=h; exact h.cl
  | dK l=>obtain ⟨r,_,h⟩:=h; exact h.cl
  | dC l=>obtain ⟨r,_,h⟩:=h; exact h.cl
theorem ObjIs.down (hk:k <= k') {p:Addr} {o:MO} {u:HO} (c:ClO k o) (h:ObjIs K ι k' H p o u):ObjIs K ι k H p o u:=by
  cases o with
  | lst ds=>obtain ⟨vs,e,h⟩:=h; exact ⟨vs,e,h.down hk c⟩
  | dK l=>obtain ⟨r,e,h⟩:=h; exact ⟨r,e,h.down hk c⟩
  | dC l=>obtain ⟨r,e,h⟩:=h; exact ⟨r,e,h.down hk c⟩
end
def V6 (μ2 μ':Mh) (d' d:D):Prop:=(d'=d /\ Cl μ'.length d) ∨ ∃ n ds,d'=.ref n /\ μ2[n]? = some (.lst ds) /\ μ'.length <= n /\ d=.lst ds /\ ClL μ'.length ds
structure He (μ μ2 μ':Mh) (d' d:D):Prop where
  grow:∃ g,μ2=μ' ++ g
  le:μ.length <= μ'.length
  old:∀ (n:Nat) (o:MO),μ'[n]? = some o->μ[n]? = some o ∨ ClO μ'.length o
  conv:V6 μ2 μ' d' d
def Go:Fl->D
  | .rt d=>d
  | _=>.non
theorem N9 {K:PySem.W.Frag} {ι ι2:Nat->Addr} {μ μ2 μ':Mh} {H H2:Hp} {d' d:D} (R:RelH K ι μ H) (E:Ext ι μ.length H ι2 μ2.length H2) (R2:RelH K ι2 μ2 H2) (t:He μ μ2 μ' d' d) :
    Ext ι μ.length H ι2 μ'.length H2 /\ RelH K ι2 μ' H2 /\ ∀ v,Is K ι2 μ2.length H2 d' v->Is K ι2 μ'.length H2 d v:=by
  obtain ⟨⟨g,hg⟩,le,old,conv⟩:=t
  have hle:μ'.length <= μ2.length:=by rw [hg]; simp
  have hget:∀ (n:Nat) (o:MO),μ'[n]? = some o->μ2[n]? = some o:=fun n o e=>by
    rw [hg,List.getElem?_append_left (List.getElem?_eq_some_iff.mp e).1]; exact e
  refine ⟨⟨le,E.agree,fun n h1 h2=>E.fresh n h1 (Nat.lt_of_lt_of_le h2 hle),E.keep,E.was,E.there⟩,⟨fun i j hi hj=>R2.inj i j (Nat.lt_of_lt_of_le hi hle) (Nat.lt_of_lt_of_le hj hle),fun n o e=>?_⟩,fun v iv=>?_⟩
  . obtain ⟨u,q,hq⟩:=R2.obj n o (hget n o e)
    refine ⟨u,q,hq.down hle ?_⟩
    rcases old n o e with z | z
    . obtain ⟨u0,_,h0⟩:=R.obj n o z
      have c:=h0.cl
      cases o with
      | lst ds=>exact clL_mono le c
      | dK l=>exact clL_mono le c
      | dC l=>exact clL_mono le c
    . exact z
  . rcases conv with ⟨rfl,c⟩ | ⟨n,ds,rfl,hn,hle2,rfl,c⟩
    . exact iv.down hle c
    . obtain ⟨u,q,vs,rfl,il⟩:=R2.obj n _ hn
      have hn2:n < μ2.length:=(List.getElem?_eq_some_iff.mp hn).1
      unfold Is at iv ⊢
      refine ⟨ι2 n,vs,iv.2,q,fun m hm z=>?_,il.down hle c⟩
      have:=R2.inj m n (Nat.lt_of_lt_of_le hm hle) hn2 z
      omega
where
  cl_mono {k k':Nat} (h:k <= k'):∀ {d:D},Cl k d->Cl k' d
    | .non,_=>by unfold Cl; trivial
    | .bl _,_=>by unfold Cl; trivial
    | .int _,_=>by unfold Cl; trivial
    | .str _,_=>by unfold Cl; trivial
    | .ty _,_=>by unfold Cl; trivial
    | .scr _,_=>by unfold Cl; trivial
    | .tup ds,c=>by unfold Cl at c ⊢; exact clL_mono h c
    | .lst ds,c=>by unfold Cl at c ⊢; exact clL_mono h c
    | .ref n,c=>by unfold Cl at c ⊢; exact Nat.lt_of_lt_of_le c h
  clL_mono {k k':Nat} (h:k <= k'):∀ {ds:List D},ClL k ds->ClL k' ds
    | [],_=>by unfold ClL; trivial
    | _ :: _,c=>by unfold ClL at c ⊢; exact ⟨cl_mono h c.1,clL_mono h c.2⟩
def Bx (n:Nat) (ds:List D):Sl:=ds.map some ++ List.replicate (n - ds.length) none
theorem RelS.start {K:PySem.W.Frag} {ι:Nat->Addr} {k:Nat} {H:Hp} {N:List Str} {ds:List D} {vs:List V} (i:IsL K ι k H ds vs):RelS K ι k H (Bx N.length ds) (L2.start N vs):=by
  have hl:=i.length
  refine ⟨by simp [Bx,L2.start,hl],fun j d e=>?_⟩
  unfold Bx at e
  unfold L2.start
  rcases Nat.lt_or_ge j ds.length with z | z
  . rw [List.getElem?_append_left (by simpa using z),List.getElem?_map] at e
    rw [List.getElem?_append_left (by simpa [hl] using z),List.getElem?_map]
    cases q:ds[j]? with
    | none=>rw [q] at e; cases e
    | some d0=>
      rw [q] at e
      cases e
      obtain ⟨v,ev,iv⟩:=i.get q
      exact ⟨v,by rw [ev]; rfl,iv⟩
  . rw [List.getElem?_append_right (by simpa using z),List.getElem?_replicate] at e
    split at e <;> cases e
theorem IT {P:Program} {w:World} {K:PySem.W.Frag} {mg:Str->Option Value} {base:Heap} {x qual:Str} {st:Stmt} {f:Addr} {fd:FuncData} {N ps:List Str} {k n:Nat} {φ:List D->M D} {mb:Sl->M (Fl × Sl)} (F:Fun K x qual st f fd) (S:Ag N ps (AH st)) (hn:ps.length=n:=by rfl)
    (body:∀ (cdv:Value) (A:Around) (outer:List Env) (s:Shared) (H:Hp) (E:XK),Room k (A.deeper (PyProof.Rows.envOfC qual (AH st) s.heap.objs.size f cdv))->RSs (BT CX0 P w K mg base N qual (AH st) f cdv A outer s H E).nox (Ad st) mb)
    (run:∀ ds μ d μ',φ ds μ=some (d,μ')->∃ fl τ2 μ2,mb (Bx N.length ds) μ=some ((fl,τ2),μ2) /\ (fl=.next ∨ ∃ d,fl=.rt d) /\ He μ μ2 μ' (Go fl) d):FnOk P w K mg base CX0 (k + 1) f fd ps (spM K n φ):=by
  refine F.ok S (fun vs H Q E h=>by rw [hn]; exact h.1) (fun cdv A outer s H vs Q E hr h=>⟨_,(body cdv A outer s H E hr).pe,?_⟩)
  obtain ⟨hl,ι,μ,ds,d,μ',R,i,e,q⟩:=h
  obtain ⟨fl,τ2,μ2,e2,hfl,t⟩:=run ds μ d μ' e
  refine ⟨ι,μ,_,fl,τ2,μ2,R,RelS.start i,e2,fun ι2 H2 E2 R2 σ2 S2=>?_⟩
  obtain ⟨E3,R3,c⟩:=N9 R E2 R2 t
  rcases hfl with rfl | ⟨d0,rfl⟩
  . exact q ι2 H2 E3 R3 _ (c _ (by unfold Go Is; rfl))
  . exact fun v iv=>q ι2 H2 E3 R3 v (c v iv)
end
end Mi
namespace Mi
open PySem L2
def Ck:D->M (List D)
  | .lst ds=>ret ds
  | .scr ns=>ret (ns.map D.int)
  | .ref n=>fun μ=>match μ[n]? with
    | some (.lst ds)=>some (ds,μ)
    | _=>none
  | _=>BS
section
variable {K:PySem.W.Frag} {ι:Nat->Addr} {μ μ':Mh} {H:Hp} {d a b:D} {v x y:V} {ds:List D}
theorem CW (R:RelH K ι μ H) (i:Is K ι μ.length H d v) (e:Ck d μ=some (ds,μ')):μ'=μ /\ ∃ p vs,v=.ref p /\ SqL K H p vs /\ IsL K ι μ.length H ds vs:=by
  cases d with
  | lst es=>
    cases e
    unfold Is at i
    obtain ⟨p,vs,rfl,h1,hn,h2⟩:=i
    exact ⟨rfl,p,vs,rfl,SqL.of h1,h2⟩
  | scr ns=>
    cases e
    unfold Is at i
    obtain ⟨p,rfl,h1⟩:=i
    exact ⟨rfl,p,_,rfl,h1.sq,IsL.ofInts ns⟩
  | ref n=>
    unfold Is at i
    obtain ⟨hn,rfl⟩:=i
    have e':(match μ[n]? with | some (.lst ds)=>some (ds,μ) | _=>none)=some (ds,μ'):=e
    split at e'
    . rename_i es hq
      cases e'
      obtain ⟨u,h1,vs,rfl,h2⟩:=R.obj n _ hq
      exact ⟨rfl,_,vs,rfl,SqL.of h1,h2⟩
    . cases e'
  | _=>cases e
theorem Bg {i:Int} (h:Is K ι μ.length H (.int i) v):v=.int i:=by unfold Is at h; exact h
theorem Du {i:Str} (h:Is K ι μ.length H (.str i) v):v=.str i:=by unfold Is at h; exact h
theorem SH {i:Bool} (h:Is K ι μ.length H (.bl i) v):v=.bl i:=by unfold Is at h; exact h
theorem LG (h:Is K ι μ.length H .non v):v=.non:=by unfold Is at h; exact h
theorem VF {n:String} (h:Is K ι μ.length H (.ty n) v):v=.ty n:=by unfold Is at h; exact h
theorem ofI {k:Nat} (i:Int):Is K ι k H (.int i) (.int i):=by unfold Is; rfl
theorem ofS {k:Nat} (i:Str):Is K ι k H (.str i) (.str i):=by unfold Is; rfl
theorem ofB {k:Nat} (i:Bool):Is K ι k H (.bl i) (.bl i):=by unfold Is; rfl
theorem ofN {k:Nat}:Is K ι k H .non .non:=by unfold Is; rfl
theorem Fg {d:D} {vs:List V} {k:Nat} (h:IsL K ι k H [d] vs):∃ v,vs=[v] /\ Is K ι k H d v:=by
  unfold IsL at h
  obtain ⟨v,vs',rfl,h1,h2⟩:=h
  unfold IsL at h2
  subst h2
  exact ⟨v,rfl,h1⟩
theorem Vx {d d':D} {vs:List V} {k:Nat} (h:IsL K ι k H [d,d'] vs):∃ v v',vs=[v,v'] /\ Is K ι k H d v /\ Is K ι k H d' v':=by
  unfold IsL at h
  obtain ⟨v,vs',rfl,h1,h2⟩:=h
  obtain ⟨v',rfl,h3⟩:=Fg h2
  exact ⟨v,v',rfl,h1,h3⟩
theorem T9 {i:Int} {vs:List V} {k:Nat} (h:IsL K ι k H ds vs) (e:atI ds i=some d):∃ v,atI vs i=some v /\ Is K ι k H d v:=by
  unfold atI at e ⊢
  rw [h.length]
  cases q:ixN ds.length i with
  | none=>rw [q] at e; cases e
  | some j=>
    rw [q] at e
    exact h.get e
theorem Pz {vs:List V} {k:Nat} {lo hi:Option Int} (h:IsL K ι k H ds vs):IsL K ι k H ((ds.drop (HT.sIx ds.length 0 lo)).take (HT.sIx ds.length ds.length hi - HT.sIx ds.length 0 lo)) (KW vs lo hi):=by
  unfold KW
  rw [h.length]
  exact (h.drop _).take _
end
def JN (C:Int->Int->Prop) [∀ i j,Decidable (C i j)] (g:Int->Int->D):D->D->M D
  | .int i,.int j=>fun μ=>if C i j then some (g i j,μ) else none
  | _,_=>BS
def Da:D->D->M D:=JN (fun _ _=>True) fun i j=>.int (i - j)
def BR:D->D->M D:=JN (fun _ j=>0 < j /\ j < 1073741824) fun i j=>.int (i / j)
def BE:D->D->M D:=JN (fun _ j=>0 < j) fun i j=>.int (i % j)
def IC:D->D->M D:=JN (fun i j=>0 <= j /\ j <= 1000000 /\ i.natAbs < 2 ^ 64) fun i j=>.int (i ^ j.toNat)
def Qr:D->D->M D:=JN (fun _ _=>True) fun i j=>.bl (decide (i < j))
def Hl:D->D->M D:=JN (fun _ _=>True) fun i j=>.bl (decide (i <= j))
def K5:D->D->M D:=JN (fun _ _=>True) fun i j=>.bl (decide (j < i))
def Ob:D->D->M D:=JN (fun _ _=>True) fun i j=>.bl (decide (j <= i))
section
variable {X:Cx}
theorem EE {f:Value->Value->Sem Value} {C:Int->Int->Prop} [∀ i j,Decidable (C i j)] {g:Int->Int->D} {gv:Int->Int->V} (hg:∀ i j ι k H,Is X.K ι k H (g i j) (gv i j)) (ho:OpR X f (rI C gv)):OpR X f (rM X.K (JN C g)):=OpR.wk ho fun x y H Q h=>by
  obtain ⟨ι,μ,a,b,d,μ',R,ia,ib,e,q⟩:=h
  cases a with
  | int i=>
    cases b with
    | int j=>
      have e':(if C i j then some (g i j,μ) else none)=some (d,μ'):=e
      split at e'
      . rename_i hc
        cases e'
        exact ⟨i,j,Bg ia,Bg ib,hc,q ι H R.ext0 R _ (hg i j _ _ _)⟩
      . cases e'
    | _=>cases e
  | _=>cases e
theorem OpR.ofI0 {f:Value->Value->Sem Value} {gv:Int->Int->V} (ho:OpR X f (rI0 gv)):OpR X f (rI (fun _ _=>True) gv):=OpR.wk ho fun x y H Q h=>by
  obtain ⟨i,j,h1,h2,_,q⟩:=h
  exact ⟨i,j,h1,h2,q⟩
theorem Gz:OpR X (binaryOp .Sub) (rM X.K Da):=EE (fun _ _ _ _ _=>ofI _) (OpR.ofI0 TX)
theorem Ds:OpR X (binaryOp .FloorDiv) (rM X.K BR):=EE (fun _ _ _ _ _=>ofI _) RC
theorem Dc:OpR X (binaryOp .Mod) (rM X.K BE):=EE (fun _ _ _ _ _=>ofI _) Tc
theorem R8:OpR X (binaryOp .Pow) (rM X.K IC):=EE (fun _ _ _ _ _=>ofI _) TZ
theorem Vq:OpR X (compareOp .Lt) (rM X.K Qr):=EE (fun _ _ _ _ _=>ofB _) (OpR.ofI0 Uv)
theorem RJ:OpR X (compareOp .LtE) (rM X.K Hl):=EE (fun _ _ _ _ _=>ofB _) (OpR.ofI0 Uw)
theorem U5:OpR X (compareOp .Gt) (rM X.K K5):=EE (fun _ _ _ _ _=>ofB _) (OpR.ofI0 Ux)
theorem Vr:OpR X (compareOp .GtE) (rM X.K Ob):=EE (fun _ _ _ _ _=>ofB _) (OpR.ofI0 Uy)
def Oa:D->M D
  | .int i=>ret (.int (-i))
  | _=>BS
theorem U2:UnR X (unaryOp .USub) (rM1 X.K Oa):=fun pins s σ H x v Q I r h=>by
  obtain ⟨ι,μ,a,d,μ',R,ia,e,q⟩:=h
  cases a with
  | int i=>
    cases e
    have z:=Bg ia
    subst z
    exact SU pins s σ H _ v Q I r ⟨i,rfl,q ι H R.ext0 R _ (ofI _)⟩
  | _=>cases e
def Oc:D->D->M D
  | .int i,.int j=>ret (.int (i + j))
  | .str i,.str j=>bnd (lim (i.length + j.length)) fun _=>ret (.str (i ++ j))
  | .lst a,.lst b=>Ar (a ++ b)
  | .tup [],.tup b=>BS
  | .tup (a :: as),.tup b=>AX (a :: as ++ b)
  | _,_=>BS
theorem U6:OpR X (binaryOp .Add) (rM X.K Oc):=fun pins s σ H x y v u Q I rx ry h=>by
  obtain ⟨ι,μ,a,b,d,μ',R,ia,ib,e,q⟩:=h
  unfold Oc at e
  split at e
  . cases e
    cases Bg ia
    cases Bg ib
    exact Tg pins s σ H _ _ v u Q I rx ry ⟨_,_,rfl,rfl,q ι H R.ext0 R _ (ofI _)⟩
  . obtain ⟨_,μ1,e1,e2⟩:=AG e
    obtain ⟨hl,rfl⟩:=Dh e1
    cases e2
    cases Du ia
    cases Du ib
    exact K8 pins s σ H _ _ v u Q I rx ry ⟨_,_,rfl,rfl,hl,q ι H R.ext0 R _ (ofS _)⟩
  . unfold Is at ia ib
    obtain ⟨p,vs,rfl,h1,hn,h2⟩:=ia
    obtain ⟨p',vs',rfl,h1',hn',h2'⟩:=ib
    obtain ⟨hl,w⟩:=DJ R (h2.append h2') e q
    exact Tf pins s σ H _ _ v u Q I rx ry ⟨p,p',vs,vs',rfl,rfl,h1,h1',by rw [← List.length_append]; exact hl,w⟩
  . cases e
  . rename_i a as bs
    unfold Is at ia ib
    obtain ⟨p,vs,rfl,h1,h2⟩:=ia
    obtain ⟨p',vs',rfl,h1',h2'⟩:=ib
    obtain ⟨hl,w⟩:=L5 R (h2.append h2') e q
    refine RD pins s σ H _ _ v u Q I rx ry ⟨p,p',vs,vs',rfl,rfl,h1,h1',fun z=>?_,by rw [← List.length_append]; exact hl,fun z=>?_,fun _=>w⟩
    . have:=h2.length
      rw [z] at this; cases this
    . subst z
      have hb:bs=[]:=by
        have:=h2'.length
        cases bs with
        | nil=>rfl
        | cons _ _=>cases this
      subst hb
      obtain ⟨_,μ1,e1,e2⟩:=AG e
      obtain ⟨hl,rfl⟩:=Dh e1
      cases e2
      exact q ι H R.ext0 R _ (by unfold Is; exact ⟨p,vs,rfl,h1,by rw [List.append_nil]; exact h2⟩)
  . cases e
def FB:D->D->M D
  | .int i,.int j=>fun μ=>if (-(2 ^ 64) < i /\ i < 2 ^ 64) ∨ (-(2 ^ 64) < j /\ j < 2 ^ 64) then some (.int (i * j),μ) else none
  | .lst a,.int j=>fun μ=>if -(2 ^ 63) <= j /\ j < 2 ^ 63 /\ a.length * j.toNat <= sizeLine then Ar (List.replicate j.toNat a).flatten μ else none
  | _,_=>BS
theorem IsL.rep {K:PySem.W.Frag} {ι:Nat->Addr} {k:Nat} {H:Hp} {ds:List D} {vs:List V} (h:IsL K ι k H ds vs):∀ n:Nat,IsL K ι k H (List.replicate n ds).flatten (List.replicate n vs).flatten
  | 0=>.nil
  | n + 1=>by
    rw [List.replicate_succ,List.replicate_succ,List.flatten_cons,List.flatten_cons]
    exact h.append (IsL.rep h n)
theorem L1:OpR X (binaryOp .Mult) (rM X.K FB):=fun pins s σ H x y v u Q I rx ry h=>by
  obtain ⟨ι,μ,a,b,d,μ',R,ia,ib,e,q⟩:=h
  unfold FB at e
  split at e
  . split at e
    . rename_i hc
      cases e
      cases Bg ia
      cases Bg ib
      exact Tb pins s σ H _ _ v u Q I rx ry ⟨_,_,rfl,rfl,hc,q ι H R.ext0 R _ (ofI _)⟩
    . cases e
  . split at e
    . rename_i hc
      cases Bg ib
      unfold Is at ia
      obtain ⟨p,vs,rfl,h1,hn,h2⟩:=ia
      obtain ⟨hl,w⟩:=DJ R (h2.rep _) e q
      exact TY pins s σ H _ _ v u Q I rx ry ⟨p,_,vs,rfl,rfl,h1,hc.1,hc.2.1,by rw [h2.length]; exact hc.2.2,w⟩
    . cases e
  . cases e
mutual
def toP (μ:Mh):D->Option PyData
  | .non=>some .none
  | .bl b=>some (.bool b)
  | .int i=>some (.int i)
  | .str x=>some (.str x)
  | .ty _=>none
  | .scr ns=>some (.list (ns.map PyData.int))
  | .tup ds=>(F8 μ ds).map PyData.tuple
  | .lst ds=>(F8 μ ds).map PyData.list
  | .ref _=>none
def F8 (μ:Mh):List D->Option (List PyData)
  | []=>some []
  | d :: ds=>(toP μ d).bind fun p=>(F8 μ ds).map (p :: ·)
end
def N8 (μ:Mh):D->Option PyData
  | .ref n=>match μ[n]? with
    | some (.lst ds)=>(F8 μ ds).map PyData.list
    | _=>none
  | d=>toP μ d
section
variable {K:PySem.W.Frag} {ι:Nat->Addr} {μ:Mh} {H:Hp} {k:Nat}
theorem MV:∀ (ns:List Int),DatVs K H (ns.map V.int) (ns.map PyData.int)
  | []=>.nil
  | n :: r=>.cons (.int n) (MV r)
mutual
theorem Is.dat:∀ {d:D} {v:V} {p:PyData},Is K ι k H d v->toP μ d=some p->DatV K H v p
  | .non,_,_,h,e=>by unfold Is at h; unfold toP at e; cases e; subst h; exact .non
  | .bl b,_,_,h,e=>by unfold Is at h; unfold toP at e; cases e; subst h; exact .bl b
  | .int b,_,_,h,e=>by unfold Is at h; unfold toP at e; cases e; subst h; exact .int b
  | .str b,_,_,h,e=>by unfold Is at h; unfold toP at e; cases e; subst h; exact .str b
  | .ty b,_,_,h,e=>by unfold toP at e; cases e
  | .scr ns,_,_,h,e=>by
    unfold Is at h; unfold toP at e; cases e
    obtain ⟨p,rfl,h⟩:=h
    exact .lst h.sq (MV ns)
  | .tup ds,_,_,h,e=>by
    unfold Is at h; unfold toP at e
    obtain ⟨p,vs,rfl,h1,h2⟩:=h
    cases q:F8 μ ds with
    | none=>rw [q] at e; cases e
    | some ps=>rw [q] at e; cases e; exact .tup h1 (IsL.dat h2 q)
  | .lst ds,_,_,h,e=>by
    unfold Is at h; unfold toP at e
    obtain ⟨p,vs,rfl,h1,_,h2⟩:=h
    cases q:F8 μ ds with
    | none=>rw [q] at e; cases e
    | some ps=>rw [q] at e; cases e; exact .lst (SqL.of h1) (IsL.dat h2 q)
  | .ref n,_,_,h,e=>by unfold toP at e; cases e
theorem IsL.dat:∀ {ds:List D} {vs:List V} {ps:List PyData},IsL K ι k H ds vs->F8 μ ds=some ps->DatVs K H vs ps
  | [],_,_,h,e=>by unfold IsL at h; unfold F8 at e; cases e; subst h; exact .nil
  | d :: ds,_,_,h,e=>by
    unfold IsL at h; unfold F8 at e
    obtain ⟨v,vs',rfl,h1,h2⟩:=h
    cases q:toP μ d with
    | none=>rw [q] at e; cases e
    | some p=>
      rw [q] at e
      cases q2:F8 μ ds with
      | none=>rw [q2] at e; cases e
      | some ps=>rw [q2] at e; cases e; exact .cons (Is.dat h1 q) (IsL.dat h2 q2)
end
theorem Rm (R:RelH K ι μ H) {d:D} {v:V} {p:PyData} (h:Is K ι μ.length H d v) (e:N8 μ d=some p):DatV K H v p:=by
  cases d with
  | ref n=>
    unfold Is at h
    obtain ⟨_,rfl⟩:=h
    have e':(match μ[n]? with | some (.lst ds)=>(F8 μ ds).map PyData.list | _=>none)=some p:=e
    split at e'
    . rename_i ds hq
      obtain ⟨u,h1,vs,rfl,h2⟩:=R.obj n _ hq
      cases q:F8 μ ds with
      | none=>rw [q] at e'; cases e'
      | some ps=>rw [q] at e'; cases e'; exact .lst (SqL.of h1) (IsL.dat h2 q)
    . cases e'
  | _=>exact Is.dat (μ:=μ) h e
end
def Ly (neg:Bool) (a b:D):M D:=fun μ=>match N8 μ a,N8 μ b with
  | some p,some q=>if SeqAt.shaped p=true /\ SeqAt.shaped q=true then some (.bl (if neg then !PyData.eqv p q else PyData.eqv p q),μ) else none
  | _,_=>none
def Aj:D->D->M D:=Ly false
def Qq:D->D->M D:=Ly true
theorem Gw {neg:Bool} {a b d:D} {μ μ':Mh} (e:Ly neg a b μ=some (d,μ')):∃ p q,N8 μ a=some p /\ N8 μ b=some q /\ SeqAt.shaped p=true /\ SeqAt.shaped q=true /\ d=.bl (if neg then !PyData.eqv p q else PyData.eqv p q) /\ μ'=μ:=by
  unfold Ly at e
  split at e
  . rename_i p q e1 e2
    split at e
    . rename_i h
      cases e
      exact ⟨p,q,e1,e2,h.1,h.2,rfl,rfl⟩
    . cases e
  . cases e
theorem Cd {k:Nat} (hr:Room k X.A):OpR X (compareOp .Eq) (rM X.K Aj):=OpR.wk (Te (OJ hr)) fun x y H Q h=>by
  obtain ⟨ι,μ,a,b,d,μ',R,ia,ib,e,q⟩:=h
  obtain ⟨p,p',e1,e2,s1,s2,rfl,rfl⟩:=Gw e
  exact ⟨p,p',Rm R ia e1,Rm R ib e2,s1,s2,q ι H R.ext0 R _ (ofB _)⟩
theorem Vp {k:Nat} (hr:Room k X.A):OpR X (compareOp .NotEq) (rM X.K Qq):=OpR.wk (Ta (OJ hr)) fun x y H Q h=>by
  obtain ⟨ι,μ,a,b,d,μ',R,ia,ib,e,q⟩:=h
  obtain ⟨p,p',e1,e2,s1,s2,rfl,rfl⟩:=Gw e
  exact ⟨p,p',Rm R ia e1,Rm R ib e2,s1,s2,q ι H R.ext0 R _ (ofB _)⟩
def isN:D->Bool
  | .non=>true
  | _=>false
def Jy (neg:Bool):D->D->M D
  | a,.non=>ret (.bl (if neg then !isN a else isN a))
  | _,_=>BS
theorem MI {K:PySem.W.Frag} {ι:Nat->Addr} {k:Nat} {H:Hp} {a:D} {x:V} (h:Is K ι k H a x):decide (x=V.non)=isN a:=by
  cases a with
  | non=>unfold Is at h; subst h; rfl
  | bl b=>unfold Is at h; subst h; rfl
  | int b=>unfold Is at h; subst h; rfl
  | str b=>unfold Is at h; subst h; rfl
  | ty b=>unfold Is at h; subst h; rfl
  | scr ns=>unfold Is at h; obtain ⟨p,rfl,_⟩:=h; rfl
  | tup ns=>unfold Is at h; obtain ⟨p,o,rfl,_⟩:=h; rfl
  | lst ns=>unfold Is at h; obtain ⟨p,o,rfl,_⟩:=h; rfl
  | ref ns=>unfold Is at h; obtain ⟨_,rfl⟩:=h; rfl
theorem U3:OpR X (compareOp .Is) (rM X.K (Jy false)):=OpR.wk Td fun x y H Q h=>by
  obtain ⟨ι,μ,a,b,d,μ',R,ia,ib,e,q⟩:=h
  cases b with
  | non=>cases e; exact ⟨LG ib,by rw [MI ia]; exact q ι H R.ext0 R _ (ofB _)⟩
  | _=>cases e
theorem RK:OpR X (compareOp .IsNot) (rM X.K (Jy true)):=OpR.wk RB fun x y H Q h=>by
  obtain ⟨ι,μ,a,b,d,μ',R,ia,ib,e,q⟩:=h
  cases b with
  | non=>cases e; exact ⟨LG ib,by rw [MI ia]; exact q ι H R.ext0 R _ (ofB _)⟩
  | _=>cases e
def F2:D->Option V
  | .non=>some .non
  | .bl b=>some (.bl b)
  | .int i=>some (.int i)
  | .str x=>some (.str x)
  | _=>none
def Dx:List D->Option (List V)
  | []=>some []
  | d :: ds=>(F2 d).bind fun v=>(Dx ds).map (v :: ·)
section
variable {K:PySem.W.Frag} {ι:Nat->Addr} {H:Hp} {k:Nat}
theorem HI {d:D} {v x:V} (h:Is K ι k H d x) (e:F2 d=some v):x=v /\ DB v=true:=by
  cases d with
  | non=>cases e; unfold Is at h; exact ⟨h,rfl⟩
  | bl b=>cases e; unfold Is at h; exact ⟨h,rfl⟩
  | int b=>cases e; unfold Is at h; exact ⟨h,rfl⟩
  | str b=>cases e; unfold Is at h; exact ⟨h,rfl⟩
  | _=>cases e
theorem Fo:∀ {ds:List D} {vs xs:List V},IsL K ι k H ds xs->Dx ds=some vs->xs=vs /\ vs.all DB=true
  | [],_,_,h,e=>by cases e; unfold IsL at h; exact ⟨h,rfl⟩
  | d :: ds,_,_,h,e=>by
    unfold IsL at h
    obtain ⟨v,vs',rfl,h1,h2⟩:=h
    unfold Dx at e
    cases q:F2 d with
    | none=>rw [q] at e; cases e
    | some w=>
      rw [q] at e
      cases q2:Dx ds with
      | none=>rw [q2] at e; cases e
      | some ws=>
        rw [q2] at e; cases e
        obtain ⟨rfl,f1⟩:=HI h1 q
        obtain ⟨rfl,f2⟩:=Fo h2 q2
        exact ⟨rfl,by rw [List.all_cons,f1,f2]; rfl⟩
end
def BU:D->M (List D)
  | .tup ds=>ret ds
  | d=>Ck d
theorem Cz {K:PySem.W.Frag} {ι:Nat->Addr} {μ μ':Mh} {H:Hp} {d:D} {v:V} {ds:List D} (R:RelH K ι μ H) (i:Is K ι μ.length H d v) (e:BU d μ=some (ds,μ')):μ'=μ /\ ∃ p vs,v=.ref p /\ (SqL K H p vs ∨ SqT K H p vs) /\ IsL K ι μ.length H ds vs:=by
  cases d with
  | tup es=>
    cases e
    unfold Is at i
    obtain ⟨p,vs,rfl,h1,h2⟩:=i
    exact ⟨rfl,p,vs,rfl,.inr h1,h2⟩
  | lst es=>obtain ⟨h,p,vs,a,b,c⟩:=CW R i e; exact ⟨h,p,vs,a,.inl b,c⟩
  | scr es=>obtain ⟨h,p,vs,a,b,c⟩:=CW R i e; exact ⟨h,p,vs,a,.inl b,c⟩
  | ref es=>obtain ⟨h,p,vs,a,b,c⟩:=CW R i e; exact ⟨h,p,vs,a,.inl b,c⟩
  | _=>cases e
def F0 (neg:Bool) (a b:D):M D:=bnd (BU b) fun ds=>fun μ=>match F2 a,Dx ds with
  | some x,some xs=>some (.bl (if neg then !inV x xs else inV x xs),μ)
  | _,_=>none
def Er (neg:Bool):D->D->M D
  | .str i,.str j=>ret (.bl (if neg then !(!(Builtin.Str.occurrences j i 0 j.length 1).isEmpty) else !(Builtin.Str.occurrences j i 0 j.length 1).isEmpty))
  | a,b=>F0 neg a b
theorem OZ {K:PySem.W.Frag} {neg:Bool} {x y:V} {H:Hp} {Q:VK} {ι:Nat->Addr} {μ μ':Mh} {a b d:D} (R:RelH K ι μ H) (ia:Is K ι μ.length H a x) (ib:Is K ι μ.length H b y) (e:F0 neg a b μ=some (d,μ')) (q:Aft K ι μ H μ' fun ι' H'=>∀ v,Is K ι' μ'.length H' d v->Q v H'):rIn K neg x y H Q:=by
  obtain ⟨ds,μ1,e1,e2⟩:=AG e
  obtain ⟨hm,p,vs,rfl,h1,h2⟩:=Cz R ib e1
  subst hm
  split at e2
  . rename_i w ws q1 q2
    cases e2
    obtain ⟨rfl,f1⟩:=HI ia q1
    obtain ⟨rfl,f2⟩:=Fo h2 q2
    exact ⟨p,_,rfl,h1,f1,f2,q ι H R.ext0 R _ (ofB _)⟩
  . cases e2
theorem U4:OpR X (compareOp .In) (rM X.K (Er false)):=fun pins s σ H x y v u Q I rx ry h=>by
  obtain ⟨ι,μ,a,b,d,μ',R,ia,ib,e,q⟩:=h
  unfold Er at e
  split at e
  . cases e
    cases Du ia
    cases Du ib
    exact NG pins s σ H _ _ v u Q I rx ry ⟨_,_,rfl,rfl,q ι H R.ext0 R _ (ofB _)⟩
  . exact NH pins s σ H _ _ v u Q I rx ry (OZ R ia ib e q)
theorem JG:OpR X (compareOp .NotIn) (rM X.K (Er true)):=fun pins s σ H x y v u Q I rx ry h=>by
  obtain ⟨ι,μ,a,b,d,μ',R,ia,ib,e,q⟩:=h
  unfold Er at e
  split at e
  . cases e
    cases Du ia
    cases Du ib
    exact JE pins s σ H _ _ v u Q I rx ry ⟨_,_,rfl,rfl,q ι H R.ext0 R _ (ofB _)⟩
  . exact JF pins s σ H _ _ v u Q I rx ry (OZ R ia ib e q)
def ixD (ds:List D) (i:Int):M D:=fun μ=>(atI ds i).map fun d=>(d,μ)
def AN:D->D->M D
  | .str z,.int i=>fun μ=>if z.length <= sizeLine then (atI z.cps.toList i).map fun c=>(.str ⟨#[c]⟩,μ) else none
  | a,.int i=>bnd (BU a) fun ds=>ixD ds i
  | _,_=>BS
theorem Af:IxR X (rM X.K AN):=fun va sl pins s σ H x y v u Q I rx ry h hsl=>by
  obtain ⟨ι,μ,a,b,d,μ',R,ia,ib,e,q⟩:=h
  unfold AN at e
  split at e
  . split at e
    . rename_i z i hl
      cases Du ia
      cases Bg ib
      cases qq:atI z.cps.toList i with
      | none=>rw [qq] at e; cases e
      | some c=>
        rw [qq] at e; cases e
        exact LF va sl pins s σ H _ _ v u Q I rx ry (.inr (.inr ⟨z,i,c,rfl,rfl,hl,qq,q ι H R.ext0 R _ (ofS _)⟩)) hsl
    . cases e
  . cases Bg ib
    obtain ⟨ds,μ1,e1,e2⟩:=AG e
    obtain ⟨hm,p,vs,rfl,h1,h2⟩:=Cz R ia e1
    subst hm
    rename_i i _
    unfold ixD at e2
    cases qq:atI ds i with
    | none=>rw [qq] at e2; cases e2
    | some c=>
      rw [qq] at e2; cases e2
      obtain ⟨w,ew,iw⟩:=T9 h2 qq
      rcases h1 with h1 | h1
      . exact LF va sl pins s σ H _ _ v u Q I rx ry (.inl ⟨p,vs,i,w,rfl,rfl,h1,ew,q ι H R.ext0 R _ iw⟩) hsl
      . exact LF va sl pins s σ H _ _ v u Q I rx ry (.inr (.inl ⟨p,vs,i,w,rfl,rfl,h1,ew,q ι H R.ext0 R _ iw⟩)) hsl
  . cases e
def Ct:List D->M D
  | [.str z]=>fun μ=>if z.length <= sizeLine then some (.int z.length,μ) else none
  | [.ref n]=>fun μ=>match μ[n]? with
    | some (.lst ds)=>some (.int ds.length,μ)
    | _=>none
  | [d]=>bnd (BU d) fun ds=>ret (.int ds.length)
  | _=>BS
theorem HY:CF X (.builtin "len") (rMA X.K Ct):=fun pins s σ H xs us Q I r h=>by
  obtain ⟨ι,μ,as,d,μ',R,ia,e,q⟩:=h
  refine P6 pins s σ H xs us Q I r ?_
  unfold Ct at e
  split at e
  . rename_i z
    obtain ⟨v,rfl,i1⟩:=Fg ia
    split at e
    . rename_i hl
      cases e
      cases Du i1
      exact ⟨_,_,rfl,⟨hl,rfl⟩,q ι H R.ext0 R _ (ofI _)⟩
    . cases e
  . rename_i n
    obtain ⟨v,rfl,i1⟩:=Fg ia
    unfold Is at i1
    obtain ⟨_,rfl⟩:=i1
    split at e
    . rename_i ds hq
      cases e
      obtain ⟨u,h1,vs,rfl,h2⟩:=R.obj n _ hq
      exact ⟨_,_,rfl,.inl ⟨vs,SqL.of h1,rfl⟩,by rw [h2.length]; exact q ι H R.ext0 R _ (ofI _)⟩
    . cases e
  . obtain ⟨v,rfl,i1⟩:=Fg ia
    obtain ⟨ds,μ1,e1,e2⟩:=AG e
    obtain ⟨hm,p,vs,rfl,h1,h2⟩:=Cz R i1 e1
    subst hm
    cases e2
    rw [← h2.length] at q
    rcases h1 with h1 | h1
    . exact ⟨_,_,rfl,.inl ⟨vs,h1,rfl⟩,q ι H R.ext0 R _ (ofI _)⟩
    . exact ⟨_,_,rfl,.inr ⟨vs,h1,rfl⟩,q ι H R.ext0 R _ (ofI _)⟩
  . cases e
def DQ (ds:List D) (lo hi:Option Int):List D:=(ds.drop (HT.sIx ds.length 0 lo)).take (HT.sIx ds.length ds.length hi - HT.sIx ds.length 0 lo)
def Uk (lo hi:Option Int):D->M D
  | .tup ds=>if HT.sIx ds.length 0 lo=0 /\ HT.sIx ds.length ds.length hi=ds.length then BS else ret (.tup (DQ ds lo hi))
  | d=>bnd (Ck d) fun ds=>ret (.lst (DQ ds lo hi))
def rMS (K:PySem.W.Frag):V->Option Int->Option Int->Hp->VK->Prop:=fun x lo hi H Q=>∃ ι μ a d μ',RelH K ι μ H /\ Is K ι μ.length H a x /\ Uk lo hi a μ=some (d,μ') /\
  Aft K ι μ H μ' fun ι' H'=>∀ v,Is K ι' μ'.length H' d v->Q v H'
theorem PM {K:PySem.W.Frag} {ι:Nat->Addr} {μ:Mh} {H:Hp} {ds:List D} {vs:List V} {Q:VK} (R:RelH K ι μ H) (i:IsL K ι μ.length H ds vs) (q:Aft K ι μ H μ fun ι' H'=>∀ v,Is K ι' μ.length H' (.lst ds) v->Q v H') (p:Addr) (hp:H p=none):Q (.ref p) (upd H p (.lst vs)):=by
  obtain ⟨E1,R1⟩:=R.laid (.lst vs) hp
  have ho:∀ n,n < μ.length->ι n ≠ p:=fun n hn z=>by
    obtain ⟨o,e,_⟩:=R.muts n hn
    rw [z,hp] at e; cases e
  exact q ι _ E1 R1 _ (by unfold Is; exact ⟨p,vs,rfl,BF,ho,i.ext E1⟩)
theorem ME {K:PySem.W.Frag} {ι:Nat->Addr} {μ:Mh} {H:Hp} {ds:List D} {vs:List V} {Q:VK} (R:RelH K ι μ H) (i:IsL K ι μ.length H ds vs) (q:Aft K ι μ H μ fun ι' H'=>∀ v,Is K ι' μ.length H' (.tup ds) v->Q v H') (p:Addr) (hp:H p=none):Q (.ref p) (upd H p (.tup vs)):=by
  obtain ⟨E1,R1⟩:=R.laid (.tup vs) hp
  exact q ι _ E1 R1 _ (by unfold Is; exact ⟨p,vs,rfl,SqT.of BF,i.ext E1⟩)
theorem Vo:SlR X (rMS X.K):=fun pins s σ H x v vl vu lo hi sl Q I rx hs pl pu h=>by
  obtain ⟨ι,μ,a,d,μ',R,ia,e,q⟩:=h
  refine (SlR.or QY Si) pins s σ H x v vl vu lo hi sl Q I rx hs pl pu ?_
  unfold Uk at e
  split at e
  . rename_i ds
    unfold Is at ia
    obtain ⟨p,vs,rfl,h1,h2⟩:=ia
    split at e
    . cases e
    . rename_i hc
      cases e
      exact .inr ⟨p,vs,rfl,h1,by rw [h2.length]; exact hc,fun p hp=>ME R (Pz h2) q p hp⟩
  . obtain ⟨ds,μ1,e1,e2⟩:=AG e
    obtain ⟨hm,p,vs,rfl,h1,h2⟩:=CW R ia e1
    subst hm
    cases e2
    exact .inl ⟨p,vs,rfl,h1,fun p hp=>PM R (Pz h2) q p hp⟩
def C8:Sl->M (Option Int):=fun _=>ret none
def asI:D->M (Option Int)
  | .int i=>ret (some i)
  | _=>BS
def EI (m:Sl->M D):Sl->M (Option Int):=fun τ=>bnd (m τ) asI
def tPt (K:PySem.W.Frag) (m:Sl->M (Option Int)):TO:=fun σ H Q=>∃ ι μ τ b μ',RelH K ι μ H /\ RelS K ι μ.length H τ σ /\ m τ μ=some (b,μ') /\ Aft K ι μ H μ' fun _ H'=>Q b H'
structure RO (X:Cx) (e:Option Expr) (m:Sl->M (Option Int)):Prop where
  pe:PO X e (tPt X.K m)
theorem PO.wk {e:Option Expr} {t t':TO} (h:PO X e t) (w:∀ σ H Q,t' σ H Q->t σ H Q):PO X e t':=fun pins s σ H Q I q=>h pins s σ H Q I (w σ H Q q)
theorem RO.wk {e:Option Expr} {m:Sl->M (Option Int)} {t:TO} (h:PO X e t) (w:∀ σ H Q,tPt X.K m σ H Q->t σ H Q):RO X e m:=⟨PO.wk h w⟩
theorem Ec:RO X none C8:=RO.wk Q2 fun σ H Q h=>by
  obtain ⟨ι,μ,τ,b,μ',R,S,e,q⟩:=h
  cases e
  exact q ι H R.ext0 R
theorem Eb {e:Expr} {m:Sl->M D} (h:RE X e m):RO X (some e) (EI m):=RO.wk (Q1 h.pe) fun σ H Q h=>by
  obtain ⟨ι,μ,τ,b,μ',R,S,e,q⟩:=h
  obtain ⟨x,μ1,e1,e⟩:=AG e
  refine ⟨ι,μ,τ,x,μ1,R,S,e1,fun ι1 H1 E1 R1 v i1=>?_⟩
  cases x with
  | int i=>cases e; exact ⟨i,Bg i1,q ι1 H1 E1 R1⟩
  | _=>cases e
def tyD (μ:Mh):D->Option String
  | .non=>some "NoneType"
  | .bl _=>some "bool"
  | .int _=>some "int"
  | .str _=>some "str"
  | .tup _=>some "tuple"
  | .lst _=>some "list"
  | .scr _=>none
  | .ref n=>match μ[n]? with
    | some (.lst _)=>some "list"
    | some (.dK _)=>some "dict"
    | some (.dC _)=>none
    | none=>none
  | .ty _=>none
def D4 (t T:String):Option Bool:=
  if t ∈ ["NoneType", "bool", "int", "str", "tuple", "list", "dict"] /\ T ∈ ["bool", "int", "str", "tuple", "list", "dict"] then some (t == T || (t == "bool" && T == "int")) else none
theorem RV {K:PySem.W.Frag} {t T:String} {b:Bool} (h:D4 t T=some b):PySem.W.kitOne K (.type t) (.type T)=some b:=by
  unfold D4 at h
  split at h
  . rename_i hm
    obtain ⟨h1,h2⟩:=hm
    simp only [List.mem_cons,List.not_mem_nil,or_false] at h1 h2
    rcases h1 with rfl | rfl | rfl | rfl | rfl | rfl | rfl <;> rcases h2 with rfl | rfl | rfl | rfl | rfl | rfl <;> (cases h; kernel_rfl)
  . cases h
def Di:List D->M D
  | [a,.ty T]=>fun μ=>match tyD μ a with
    | some t=>(D4 t T).map fun b=>(.bl b,μ)
    | none=>none
  | _=>BS
theorem JV:CF X (.builtin "isinstance") (rMA X.K Di):=fun pins s σ H xs us Q I r h=>by
  obtain ⟨ι,μ,as,d,μ',R,ia,e,q⟩:=h
  unfold Di at e
  split at e
  . rename_i a T
    obtain ⟨v,v',rfl,i1,i2⟩:=Vx ia
    cases VF i2
    split at e
    . rename_i t ht
      cases hk:D4 t T with
      | none=>rw [hk] at e; cases e
      | some b=>
        rw [hk] at e; cases e
        have kit:=RV (K:=X.K) hk
        have fin:=q ι H R.ext0 R _ (ofB b)
        have byTy:FV X.K H v (.type t)->wpAny (model X.prog X.w) X.A (call (.builtin "isinstance") us) (EP X pins σ Q) X.xe s:=fun ty=>
          Kf pins s σ H _ us Q I r ⟨v,T,_,b,rfl,ty,kit,fin⟩
        cases a with
        | non=>cases ht; cases LG i1; exact byTy .non
        | bl x=>cases ht; cases SH i1; exact byTy (.bl x)
        | int x=>cases ht; cases Bg i1; exact byTy (.int x)
        | str x=>cases ht; cases Du i1; exact byTy (.str x)
        | ty n=>cases ht
        | lst ds=>cases ht; unfold Is at i1; obtain ⟨p,vs,rfl,h1,_⟩:=i1; exact byTy (.lst h1)
        | scr ns=>cases ht
        | ref n=>
          unfold Is at i1
          obtain ⟨_,rfl⟩:=i1
          have ht:(match μ[n]? with | some (.lst _)=>some "list" | some (.dK _)=>some "dict" | some (.dC _)=>none | none=>none)=some t:=ht
          split at ht
          . rename_i ds hq; cases ht; obtain ⟨u,h1,vs,rfl,h2⟩:=R.obj n _ hq; exact byTy (.lst h1)
          . rename_i ds hq; cases ht; obtain ⟨u,h1,vs,rfl,h2⟩:=R.obj n _ hq; exact byTy (.dK h1)
          . cases ht
          . cases ht
        | tup ds=>
          cases ht
          unfold Is at i1
          obtain ⟨p,vs,rfl,h1,h2⟩:=i1
          obtain ⟨its,_,⟨o,g1,g2,_⟩,_⟩:=I.tuple h1
          obtain ⟨u1,u2,rfl,r1,r2⟩:=Vals.two r
          cases r1
          cases r2
          exact PySem.W.kia_one PySem.W.kitx_tuple I.kIn ⟨o,g1,g2⟩ kit (fun z=>nomatch z) fun tk=>⟨.bl b,H,I.tok _,rfl,fin⟩
    . cases e
  . cases e
def D7:List D->M D
  | [.tup ds]=>ret (.tup ds)
  | [d]=>bnd (Ck d) fun ds=>ret (.tup ds)
  | _=>BS
theorem GU:CF X (.type "tuple") (rMA X.K D7):=fun pins s σ H xs us Q I r h=>by
  obtain ⟨ι,μ,as,d,μ',R,ia,e,q⟩:=h
  unfold D7 at e
  split at e
  . obtain ⟨v,rfl,i1⟩:=Fg ia
    cases e
    have i2:=i1
    unfold Is at i1
    obtain ⟨p,vs,rfl,h1,h2⟩:=i1
    exact Kd pins s σ H _ us Q I r ⟨p,vs,rfl,h1,q ι H R.ext0 R _ i2⟩
  . obtain ⟨v,rfl,i1⟩:=Fg ia
    obtain ⟨ds,μ1,e1,e2⟩:=AG e
    obtain ⟨hm,p,vs,rfl,h1,h2⟩:=CW R i1 e1
    subst hm
    cases e2
    obtain ⟨u,rfl,ru⟩:=Vals.one r
    cases ru
    obtain ⟨its,rv,pl,hz⟩:=I.list h1
    refine PySem.call_tuple_list pl.isList (fun h' hk=>?_) (by rw [List.size_toArray,← rv.length]; exact hz)
    have I1:Inv X pins σ H { s with heap:=h' }:=I.kept (t':=s.toks) hk
    have I2:Inv X pins σ (upd H h'.objs.size (.tup vs)) { s with heap:=h'.push { cls:=.type "tuple",data:=.seq its.toArray } }:=I1.laid (t':=s.toks) (o:=.tup vs) (fun b ob q=>Heap.get?_push_of_some _ q) (Nat.le_refl _) ⟨hz,its,rv,PyProof.Rows.IsTup.new _ _⟩
    exact ⟨.ref h'.objs.size,_,I2,rfl,ME R h2 q _ (I1.hok.fresh (Nat.le_refl _))⟩
  . cases e
end
end Mi
namespace Mi
open PySem L2
section
variable {X:Cx} {e a b c o i f tg:Expr} {es:List Expr} {pos apos cpos:Pos}
theorem OB {K:PySem.W.Frag} {g g':D->D->M D} {ma mb mc:Sl->M D} {σ:St} {H:Hp} {Q:VK} (h:tE K (EJ g g' ma mb mc) σ H Q):OD (rM K g) (rM K g') (tE K ma) (tE K mb) (tE K mc) σ H Q:=by
  obtain ⟨ι,μ,τ,d,μ',R,S,e,q⟩:=h
  obtain ⟨x,μ1,e1,ee1⟩:=AG e
  obtain ⟨y,μ2,e2,ee2⟩:=AG ee1
  obtain ⟨z,μ3,e3,ee3⟩:=AG ee2
  obtain ⟨k,μ4,e4,ee4⟩:=AG ee3
  obtain ⟨hz,hm⟩:=Hc e4
  subst hm
  subst hz
  refine ⟨ι,μ,τ,x,μ1,R,S,e1,fun ι1 H1 E1 R1 v1 i1=>⟨ι1,μ1,τ,y,μ2,R1,S.ext E1,e2,fun ι2 H2 E2 R2 v2 i2=>?_⟩⟩
  refine ⟨ι2,μ2,x,y,_,_,R2,i1.ext E2,i2,e3,fun ι3 H3 E3 R3 v3 i3=>⟨k,SH i3,?_⟩⟩
  have E13:=(E1.trans E2).trans E3
  cases k with
  | false=>cases ee4; exact q ι3 H3 E13 R3 _ (ofB _)
  | true=>
    obtain ⟨w,μ5,e5,ee5⟩:=AG ee4
    exact ⟨ι3,_,τ,w,μ5,R3,S.ext E13,e5,fun ι4 H4 E4 R4 v4 i4=>⟨ι4,μ5,y,w,d,μ',R4,i2.ext (E3.trans E4),i4,ee5,fun ι5 H5 E5 R5=>q ι5 H5 ((E13.trans E4).trans E5) R5⟩⟩
theorem Jx {op op':CmpOp} {g g':D->D->M D} {ma mb mc:Sl->M D} (ho:OpR X (compareOp op) (rM X.K g)) (ho':OpR X (compareOp op') (rM X.K g')) (ha:RE X a ma) (hb:RE X b mb) (hc:RE X c mc) (hm:lastMarks [op,op'] [b,c]=false:=by with_unfolding_all rfl) :
    RE X (.Compare a [op,op'] [b,c] pos) (EJ g g' ma mb mc):=RE.wk (Ow ho ho' ha.pe hb.pe hc.pe hm) fun _ _ _ h=>OB h
theorem GE {x:Str} {n:String} (hm:X.mg x=none) (hv:bootBuiltins x=some (.type n)) (hg:Gl X x:=by rfl) (hn:x ≠ "__name__" := by decide) (hdb:(x == ("__debug__" : Str))=false:=by decide):RE X (.Name x pos) (mC (.ty n)):=
  M5 (t:=fun _ _ _=>True) (Q8 (v:=.ty n) hg hm hv rfl hn hdb) fun _ _ _=>by unfold Is; rfl
def Dw (d:D):M Unit:=bnd (Ck d) fun _=>ret ()
def A9 (g:D->List D->M D) (mo:Sl->M D) (ma:Sl->M (List D)):Sl->M D:=fun τ=>bnd (mo τ) fun x=>bnd (Dw x) fun _=>bnd (ma τ) fun xs=>g x xs
def rMM (K:PySem.W.Frag) (g:D->List D->M D):V->List V->Hp->VK->Prop:=fun x xs H Q=>∃ ι μ a as d μ',RelH K ι μ H /\ Is K ι μ.length H a x /\ IsL K ι μ.length H as xs /\ g a as μ=some (d,μ') /\
  Aft K ι μ H μ' fun ι' H'=>∀ v,Is K ι' μ'.length H' d v->Q v H'
theorem F1 {K:PySem.W.Frag} {ι:Nat->Addr} {μ μ':Mh} {H:Hp} {d:D} {v:V} {u:Unit} (R:RelH K ι μ H) (i:Is K ι μ.length H d v) (e:Dw d μ=some (u,μ')):μ'=μ /\ tyV K "list" v H:=by
  obtain ⟨ds,μ1,e1,ee1⟩:=AG e
  cases ee1
  obtain ⟨hm,p,vs,rfl,h1,h2⟩:=CW R i e1
  exact ⟨hm,.inl ⟨rfl,vs,h1⟩⟩
theorem Fj {μ μ':Mh} {d:D} {u:Unit} (e:Dw d μ=some (u,μ')):μ'=μ:=by
  obtain ⟨ds,μ1,e1,ee1⟩:=AG e
  cases ee1
  cases d with
  | lst _=>cases e1; rfl
  | scr _=>cases e1; rfl
  | ref n=>
    have e1:(match μ[n]? with | some (.lst ds)=>some (ds,μ) | _=>none)=some (ds,μ'):=e1
    split at e1
    . cases e1; rfl
    . cases e1
  | _=>cases e1
theorem OA {K:PySem.W.Frag} {g:D->List D->M D} {mo:Sl->M D} {ma:Sl->M (List D)} {σ:St} {H:Hp} {Q:VK} (h:tE K (A9 g mo ma) σ H Q):tBM K "list" (rMM K g) (tE K mo) (tL K ma) σ H Q:=by
  obtain ⟨ι,μ,τ,d,μ',R,S,e,q⟩:=h
  obtain ⟨x,μ1,e1,ee1⟩:=AG e
  obtain ⟨u,μ2,e2,ee2⟩:=AG ee1
  obtain ⟨as,μ3,e3,ee3⟩:=AG ee2
  have hm:=Fj e2
  subst hm
  refine ⟨ι,μ,τ,x,_,R,S,e1,fun ι1 H1 E1 R1 v1 i1=>⟨(F1 R1 i1 e2).2,?_⟩⟩
  refine ⟨ι1,_,τ,as,μ3,R1,S.ext E1,e3,fun ι2 H2 E2 R2 vs i2=>?_⟩
  exact ⟨ι2,μ3,x,as,d,μ',R2,i1.ext E2,i2,ee3,fun ι3 H3 E3 R3=>q ι3 H3 ((E1.trans E2).trans E3) R3⟩
theorem C7 {name:Str} {id:String} {g:D->List D->M D} {mo:Sl->M D} {ma:Sl->M (List D)} (slot:Slot "list" name id) (hty:typeOf (.builtin id)=pure (.type "method_descriptor")) (hm:MtR X id (rMM X.K g)) (ho:RE X o mo) (ha:RA X (e :: es) ma)
    (hbase:attributeBase o name X.env (eval o X.env)=eval o X.env:=by rfl)
    (hfew:((backTo cpos (starEach (e :: es) X.env)).all (fun x=>!x.1) && (backToKw cpos (keywordEach [] X.env)).all (fun x=>x.1.isSome)
      && decide ((e :: es).length + ([]:List Keyword).length + (if ([]:List Keyword).isEmpty then 0 else 1) < 30))=true:=by rfl)
    (hline:(apos.endLine == cpos.line)=true:=by rfl) (hs:starEach (e :: es) X.env=(false,eval e X.env) :: starEach es X.env:=by exact Az rfl) (hplain:(backTo cpos (starEach es X.env)).any (·.1)=false:=by exact CJ rfl) :
    RE X (.Call (.Attribute o name apos) (e :: es) [] cpos) (A9 g mo ma):=RE.wk (Us PySem.F.plainAttrs_list slot hty hm ho.pe ha.pe hbase hfew hline hs hplain) fun _ _ _ h=>OA h
def Jf (n:Nat) (k:List D->Option (D × List D)):M D:=fun μ=>match μ[n]? with
  | some (.lst ds)=>(k ds).map fun r=>(r.1,μ.set n (.lst r.2))
  | _=>none
theorem Hv {n:Nat} {k:List D->Option (D × List D)} {μ μ':Mh} {d:D} (e:Jf n k μ=some (d,μ')):∃ ds es,μ[n]? = some (.lst ds) /\ k ds=some (d,es) /\ μ'=μ.set n (.lst es):=by
  unfold Jf at e
  split at e
  . rename_i ds hq
    cases hk:k ds with
    | none=>rw [hk] at e; cases e
    | some r=>rw [hk] at e; cases e; exact ⟨ds,r.2,hq,hk,rfl⟩
  . cases e
theorem Lg {K:PySem.W.Frag} {ι:Nat->Addr} {μ:Mh} {H:Hp} {n:Nat} {d:D} {es:List D} {ws:List V} {v:V} {Q:VK} {ds:List D} (R:RelH K ι μ H) (hn:μ[n]? = some (.lst ds)) (iw:IsL K ι μ.length H es ws) (iv:Is K ι μ.length H d v)
    (q:Aft K ι μ H (μ.set n (.lst es)) fun ι' H'=>∀ v,Is K ι' (μ.set n (.lst es)).length H' d v->Q v H'):Q v (upd H (ι n) (.lst ws)):=by
  have hlt:n < μ.length:=(List.getElem?_eq_some_iff.mp hn).1
  obtain ⟨E1,R1⟩:=R.changed (m:=.lst es) (o:=.lst ws) hlt ⟨ws,rfl,iw⟩
  exact q ι _ E1 R1 v (iv.ext E1)
def EY:D->List D->M D
  | .ref n,[d]=>Jf n fun ds=>if ds.length < sizeLine then some (.non,ds ++ [d]) else none
  | _,_=>BS
theorem Dg:MtR X "list.append" (rMM X.K EY):=fun pins s σ H x xs v us Q I rx rs h=>by
  obtain ⟨ι,μ,a,as,d,μ',R,ia,ib,e,q⟩:=h
  unfold EY at e
  split at e
  . rename_i n y
    obtain ⟨ds,es,h1,h2,rfl⟩:=Hv e
    split at h2
    . rename_i hl
      cases h2
      obtain ⟨w,rfl,iw⟩:=Fg ib
      unfold Is at ia
      obtain ⟨_,rfl⟩:=ia
      obtain ⟨u,g1,vs,rfl,g2⟩:=R.obj n _ h1
      exact NN pins s σ H _ _ v us Q I rx rs ⟨_,vs,w,rfl,rfl,g1,by rw [g2.length]; exact hl,Lg R h1 (g2.append (.one iw)) ofN q⟩
    . cases h2
  . cases e
def JL:D->Option Key
  | .int i=>some (.inl i)
  | .str x=>some (.inr x)
  | _=>none
def D3:D->M (Nat × List (Key × D))
  | .ref n=>fun μ=>match μ[n]? with
    | some (.dK l)=>some ((n,l),μ)
    | _=>none
  | _=>BS
def Cc (l:List (Key × D)) (k:Key):Option D:=(l.find? fun kv=>decide (kv.1=k)).map (·.2)
def Db (l:List (Key × D)) (k:Key) (d:D):List (Key × D):=
  if (l.any fun kv=>decide (kv.1=k))=true then l.map (fun kv=>if kv.1=k then (kv.1,d) else kv) else l ++ [(k,d)]
def Th:Sl->M D:=fun _ μ=>some (.ref μ.length,μ ++ [.dK []])
theorem Ql:RE X (.Dict [] [] pos) Th:=RE.wk Ou fun σ H Q h=>by
  obtain ⟨ι,μ,τ,d,μ',R,S,e,q⟩:=h
  cases e
  intro p hp
  obtain ⟨ι',E1,R1,e0⟩:=R.grown (m:=.dK []) (o:=.dK []) hp ⟨[],rfl,rfl⟩
  exact q ι' _ E1 R1 _ (by unfold Is; exact ⟨by simp,by rw [e0]⟩)
section
variable {K:PySem.W.Frag} {ι:Nat->Addr} {k:Nat} {H:Hp}
theorem KVs.val:∀ {l:List (Key × D)} {r:List (Key × V)} (y:Key),KVs K ι k H l r->(Cc l y=none /\ D5 r y=none) ∨ ∃ d v,Cc l y=some d /\ D5 r y=some v /\ Is K ι k H d v
  | [],_,y,h=>by cases h; exact .inl ⟨rfl,rfl⟩
  | (z,d) :: l,_,y,h=>by
    obtain ⟨v,r',rfl,h1,h2⟩:=h
    by_cases hz:z=y
    . subst hz
      exact .inr ⟨d,v,by simp [Cc],by simp [D5],h1⟩
    . have:=KVs.val y h2
      simpa [Cc,D5,List.find?_cons,hz] using this
theorem KVs.any:∀ {l:List (Key × D)} {r:List (Key × V)} (y:Key),KVs K ι k H l r->(l.any fun kv=>decide (kv.1=y))=(r.any fun kv=>decide (kv.1=y))
  | [],_,y,h=>by cases h; rfl
  | (z,d) :: l,_,y,h=>by
    obtain ⟨v,r',rfl,h1,h2⟩:=h
    rw [List.any_cons,List.any_cons,KVs.any y h2]
theorem KVs.length:∀ {l:List (Key × D)} {r:List (Key × V)},KVs K ι k H l r->r.length=l.length
  | [],_,h=>by cases h; rfl
  | (z,d) :: l,_,h=>by
    obtain ⟨v,r',rfl,h1,h2⟩:=h
    rw [List.length_cons,List.length_cons,KVs.length h2]
theorem KVs.app:∀ {l:List (Key × D)} {r:List (Key × V)} {y:Key} {d:D} {v:V},KVs K ι k H l r->Is K ι k H d v->KVs K ι k H (l ++ [(y,d)]) (r ++ [(y,v)])
  | [],_,y,d,v,h,h1=>by cases h; exact ⟨v,[],rfl,h1,rfl⟩
  | (z,e) :: l,_,y,d,v,h,h1=>by
    obtain ⟨w,r',rfl,h2,h3⟩:=h
    exact ⟨w,_,rfl,h2,KVs.app h3 h1⟩
theorem KVs.mapPut:∀ {l:List (Key × D)} {r:List (Key × V)} {y:Key} {d:D} {v:V},KVs K ι k H l r->Is K ι k H d v->KVs K ι k H (l.map fun kv=>if kv.1=y then (kv.1,d) else kv) (r.map fun kv=>if kv.1=y then (kv.1,v) else kv)
  | [],_,y,d,v,h,h1=>by cases h; rfl
  | (z,e) :: l,_,y,d,v,h,h1=>by
    obtain ⟨w,r',rfl,h2,h3⟩:=h
    rw [List.map_cons,List.map_cons]
    by_cases hz:z=y
    . subst hz
      simp only [if_true]
      exact ⟨v,_,rfl,h1,KVs.mapPut h3 h1⟩
    . simp only [hz,if_false]
      exact ⟨w,_,rfl,h2,KVs.mapPut h3 h1⟩
theorem KVs.put {l:List (Key × D)} {r:List (Key × V)} {y:Key} {d:D} {v:V} (h:KVs K ι k H l r) (h1:Is K ι k H d v):KVs K ι k H (Db l y d) (FC r y v):=by
  unfold Db FC
  rw [h.any y]
  split
  . exact h.mapPut h1
  . exact h.app h1
theorem GJ {d:D} {y:Key} {v:V} (h:Is K ι k H d v) (e:JL d=some y):v=kV y:=by
  cases d with
  | int i=>cases e; unfold Is at h; exact h
  | str i=>cases e; unfold Is at h; exact h
  | _=>cases e
theorem Cg {μ μ':Mh} {d:D} {v:V} {r:Nat × List (Key × D)} (R:RelH K ι μ H) (i:Is K ι μ.length H d v) (e:D3 d μ=some (r,μ')):μ'=μ /\ d=.ref r.1 /\ μ[r.1]? = some (.dK r.2) /\ v=.ref (ι r.1) /\ ∃ kvs,H (ι r.1)=some (.dK kvs) /\ KVs K ι μ.length H r.2 kvs:=by
  cases d with
  | ref n=>
    have e:(match μ[n]? with | some (.dK l)=>some ((n,l),μ) | _=>none)=some (r,μ'):=e
    split at e
    . rename_i l hq
      cases e
      unfold Is at i
      obtain ⟨u,h1,kvs,rfl,h2⟩:=R.obj n _ hq
      exact ⟨rfl,rfl,hq,i.2,kvs,h1,h2⟩
    . cases e
  | _=>cases e
end
def F5 (d y:D):M D:=bnd (D3 d) fun r=>fun μ=>((JL y).bind (Cc r.2)).map fun v=>(v,μ)
theorem Qm {mo mi:Sl->M D} {k:Nat} (hr:Room k X.A) (ho:RE X o mo) (hi:RE X i mi) (hs:UB i:=by exact fun _ _=>rfl):RE X (.Subscript o i pos) (mOp F5 mo mi):=RE.wk (Q4 (Pa hr) ho.pe hi.pe hs) fun σ H Q h=>by
  obtain ⟨ι,μ,τ,d,μ',R,S,e,q⟩:=h
  obtain ⟨x,μ1,e1,ee1⟩:=AG e
  obtain ⟨y,μ2,e2,ee2⟩:=AG ee1
  obtain ⟨r,μ3,e3,ee3⟩:=AG ee2
  refine ⟨ι,μ,τ,x,μ1,R,S,e1,fun ι1 H1 E1 R1 v1 i1=>⟨ι1,μ1,τ,y,μ2,R1,S.ext E1,e2,fun ι2 H2 E2 R2 v2 i2=>?_⟩⟩
  obtain ⟨hm,_,g1,rfl,kvs,g2,g3⟩:=Cg R2 (i1.ext E2) e3
  subst hm
  cases hk:JL y with
  | none=>rw [hk] at ee3; cases ee3
  | some ky=>
    rw [hk] at ee3
    cases GJ i2 hk
    rcases g3.val ky with ⟨z1,_⟩ | ⟨dd,vv,z1,z2,z3⟩
    . rw [Option.bind_some,z1] at ee3; cases ee3
    . rw [Option.bind_some,z1] at ee3; cases ee3
      exact ⟨_,vv,rfl,by rw [← z2]; exact DGet.k g2,q ι2 H2 (E1.trans E2) R2 vv z3⟩
def JP (d:D):M Unit:=bnd (D3 d) fun _=>ret ()
theorem NY {μ μ':Mh} {d:D} {u:Unit} (e:JP d μ=some (u,μ')):μ'=μ /\ ∃ r,D3 d μ=some (r,μ):=by
  obtain ⟨r,μ1,e1,ee1⟩:=AG e
  cases ee1
  cases d with
  | ref n=>
    have e2:(match μ[n]? with | some (.dK l)=>some ((n,l),μ) | _=>none)=some (r,μ'):=e1
    split at e2
    . cases e2; exact ⟨rfl,_,e1⟩
    . cases e2
  | _=>cases e1
def KQ (neg:Bool) (y d:D):M D:=bnd (D3 d) fun r=>fun μ=>(JL y).map fun k=>(.bl (if neg then !(Cc r.2 k).isSome else (Cc r.2 k).isSome),μ)
theorem Sc {K:PySem.W.Frag} {mi mo:Sl->M D} {σ:St} {H:Hp} {Q:VK} (h:tE K (mOp (KQ false) mi mo) σ H Q):UT (tE K mi) (tE K mo) σ H Q:=by
  obtain ⟨ι,μ,τ,d,μ',R,S,e,q⟩:=h
  obtain ⟨y,μ1,e1,ee1⟩:=AG e
  obtain ⟨x,μ2,e2,ee2⟩:=AG ee1
  obtain ⟨r,μ3,e3,ee3⟩:=AG ee2
  refine ⟨ι,μ,τ,y,μ1,R,S,e1,fun ι1 H1 E1 R1 v1 i1=>⟨ι1,μ1,τ,x,μ2,R1,S.ext E1,e2,fun ι2 H2 E2 R2 v2 i2=>?_⟩⟩
  obtain ⟨hm,_,g1,rfl,kvs,g2,g3⟩:=Cg R2 i2 e3
  subst hm
  cases hk:JL y with
  | none=>rw [hk] at ee3; cases ee3
  | some ky=>
    rw [hk] at ee3
    cases ee3
    cases GJ (i1.ext E2) hk
    refine ⟨_,D5 kvs ky,rfl,DGet.k g2,?_⟩
    rcases g3.val ky with ⟨z1,z2⟩ | ⟨dd,vv,z1,z2,z3⟩
    . rw [z2]; rw [z1] at q; exact q ι2 H2 (E1.trans E2) R2 _ (ofB _)
    . rw [z2]; rw [z1] at q; exact q ι2 H2 (E1.trans E2) R2 _ (ofB _)
theorem Sv {mo mi:Sl->M D} {k:Nat} (hr:Room k X.A) (hi:RE X i mi) (ho:RE X o mo) (h1:behindInMarks .In o=false:=by first | exact nobehind _ (by decide) (by decide) | rfl):RE X (.Compare i [.In] [o] pos) (mOp (KQ false) mi mo):=RE.wk (TN (TU (Pa hr) hi.pe ho.pe) h1) fun _ _ _ h=>Sc h
def IA (mo mi mv:Sl->M D):Sl->M (Fl × Sl):=fun τ=>bnd (mv τ) fun v=>bnd (mo τ) fun x=>bnd (mi τ) fun y=>bnd (D3 x) fun r=>fun μ=>match JL y with
  | some k=>if r.2.length < sizeLine then some ((.next,τ),μ.set r.1 (.dK (Db r.2 k v))) else none
  | none=>none
theorem Qd {value:Expr} {pos':Pos} {mo mi mv:Sl->M D} {k:Nat} (hr:Room k X.A) (ho:RE X o mo) (hi:RE X i mi) (hv:RE X value mv) (hs:swapsWith value (some (.Subscript o i pos')) pos.line X.env=pure false:=by rfl):RS X (.Assign [.Subscript o i pos'] value pos) (IA mo mi mv):=RS.wk (Qy (Pa hr) ho.pe hi.pe hv.pe hs) fun Dn σ H h=>by
  obtain ⟨ι,μ,τ,f,τ',μ',R,S,e,q⟩:=h
  obtain ⟨v,μ1,e1,ee1⟩:=AG e
  obtain ⟨x,μ2,e2,ee2⟩:=AG ee1
  obtain ⟨y,μ3,e3,ee3⟩:=AG ee2
  obtain ⟨r,μ4,e4,ee4⟩:=AG ee3
  refine ⟨ι,μ,τ,v,μ1,R,S,e1,fun ι1 H1 E1 R1 v1 i1=>⟨ι1,μ1,τ,x,μ2,R1,S.ext E1,e2,fun ι2 H2 E2 R2 v2 i2=>⟨ι2,μ2,τ,y,μ3,R2,S.ext (E1.trans E2),e3,fun ι3 H3 E3 R3 v3 i3=>?_⟩⟩⟩
  obtain ⟨hm,hx,g1,hv2,kvs,g2,g3⟩:=Cg R3 (i2.ext E3) e4
  subst hm
  have E13:=(E1.trans E2).trans E3
  cases hk:JL y with
  | none=>rw [hk] at ee4; cases ee4
  | some ky=>
    rw [hk] at ee4
    have ee4:(if r.2.length < sizeLine then some ((Fl.next,τ),List.set μ4 r.1 (MO.dK (Db r.2 ky v))) else none)=some ((f,τ'),μ'):=ee4
    split at ee4
    . rename_i hl
      cases ee4
      cases GJ i3 hk
      have hlt:r.1 < List.length μ4:=(List.getElem?_eq_some_iff.mp g1).1
      obtain ⟨E4,R4⟩:=R3.changed (m:=.dK (Db r.2 ky v)) (o:=.dK (FC kvs ky v1)) hlt ⟨_,rfl,g3.put (i1.ext (E2.trans E3))⟩
      exact ⟨_,_,hv2,DPut.k g2 (by rw [g3.length]; exact hl),q ι3 _ (E13.trans E4) R4 σ (S.ext (E13.trans E4))⟩
    . cases ee4
def Co:Nat->List D->List D
  | _,[]=>[]
  | k,d :: ds=>.tup [.int k,d] :: Co (k + 1) ds
theorem IW:∀ (k:Nat) (ds:List D),(Co k ds).length=ds.length
  | _,[]=>rfl
  | k,_ :: ds=>by unfold Co; simp [IW (k + 1) ds]
theorem IX:∀ (k:Nat) (ds:List D) (j:Nat),(Co k ds)[j]? = (ds[j]?).map fun d=>.tup [.int ((k + j:Nat):Int),d]
  | _,[],j=>by simp [Co]
  | k,d :: ds,0=>by simp [Co]
  | k,d :: ds,j + 1=>by
    unfold Co
    rw [List.getElem?_cons_succ,List.getElem?_cons_succ,IX (k + 1) ds j]
    have:k + 1 + j=k + (j + 1):=by omega
    rw [this]
def MM:List D->M (List D)
  | [.lst ds]=>ret ds
  | [.scr ns]=>ret (ns.map D.int)
  | _=>BS
def PD (m:Sl->M (List D)):Sl->M (List D):=fun τ=>bnd (m τ) fun as=>bnd (MM as) fun ds=>ret (Co 0 ds)
theorem G9 {K:PySem.W.Frag} {ι:Nat->Addr} {μ:Mh} {H:Hp} {vs:List V} {ds:List D} {Cond:PySem.W.Frag->Hp->Prop} (st:∀ ι' (μ':Mh) H',Ext ι μ.length H ι' μ'.length H'->RelH K ι' μ' H'->Cond K H') (i:IsL K ι μ.length H ds vs) :
    ItM K (ItP K vs.length (ES vs) Cond) (Co 0 ds) ι μ H:=by
  intro ι' μ' H' E R
  have h:=st ι' μ' H' E R
  rw [IW,← i.length]
  refine ⟨fun j hj=>⟨hj,h⟩,⟨rfl,h⟩,fun j x H2 d hd y=>?_⟩
  obtain ⟨T,hT,rfl,rfl⟩:=y
  obtain ⟨E2,R2⟩:=R.laid (.tup (ES vs j)) hT
  refine ⟨E2,R2,?_⟩
  rw [IX] at hd
  cases q:ds[j]? with
  | none=>rw [q] at hd; cases hd
  | some d0=>
    rw [q] at hd
    cases hd
    obtain ⟨w,ew,iw⟩:=(i.ext E).get q
    have e0:vs.getD j V.non=w:=by simp [List.getD,ew]
    have es:ES vs j=[.int j,w]:=by unfold ES; rw [e0]
    have key:IsL K ι' (List.length μ') (upd H' T (.tup (ES vs j))) [.int ((0 + j:Nat):Int),d0] [.int j,w]:=.cons (by unfold Is; simp) (.one (iw.ext E2))
    unfold Is
    exact ⟨T,_,rfl,SqT.of BF,(congrArg (IsL K ι' (List.length μ') (upd H' T (.tup (ES vs j))) [.int ((0 + j:Nat):Int),d0]) es).mpr key⟩
theorem OP {p tpos:Pos} {k0:Nat} {m:Sl->M (List D)} (hm:X.mg "enumerate" = none) (ha:RA X [a] m) (hg:Gl X "enumerate" := by rfl) (hs:starEach [a] X.env=[(false,eval a X.env)]:=by rfl):RI X (.Tuple es k0 tpos) (.Call (.Name "enumerate" p) [a] [] pos) (PD m):=
  RI.wk (Oo hg hm ha.pe hs) fun σ H R q=>by
    obtain ⟨ι,μ,τ,ds,μ',R0,S,e,q⟩:=q
    obtain ⟨xs,μ1,e1,ee1⟩:=AG e
    obtain ⟨zs,μ2,e2,ee2⟩:=AG ee1
    cases ee2
    refine ⟨ι,μ,τ,xs,μ1,R0,S,e1,fun ι1 H1 E1 R1 vs i1=>?_⟩
    unfold MM at e2
    split at e2
    . cases e2
      obtain ⟨v,rfl,i2⟩:=Fg i1
      unfold Is at i2
      obtain ⟨p,ws,rfl,h1,hn,h2⟩:=i2
      exact ⟨p,ws,rfl,SqL.of h1,q ι1 H1 E1 R1 _ (G9 (fun ι' μ' H' E _=>SqL.of (E.keep p _ h1 hn)) h2)⟩
    . cases e2
      obtain ⟨v,rfl,i2⟩:=Fg i1
      unfold Is at i2
      obtain ⟨p,rfl,h1⟩:=i2
      exact ⟨p,_,rfl,h1.sq,q ι1 H1 E1 R1 _ (G9 (fun ι' μ' H' E _=>(Ir E h1).sq) (IsL.ofInts _))⟩
    . cases e2
end
end Mi
namespace Mi
open PySem L2
theorem DE:bootBuiltins "len" = some (.builtin "len"):=by decide +kernel
theorem Bo:bootBuiltins "isinstance" = some (.builtin "isinstance"):=by decide +kernel
theorem QC:bootBuiltins "int" = some (.type "int"):=by decide +kernel
theorem Nq:bootBuiltins "bool" = some (.type "bool"):=by decide +kernel
theorem CV:bootBuiltins "tuple" = some (.type "tuple"):=by decide +kernel
theorem Ie:bootBuiltins "list" = some (.type "list"):=by decide +kernel
theorem QB:bootBuiltins "set" = some (.type "set"):=by decide +kernel
def A5:Nat:=1048576
structure Fn (P:Program) (w:World) (K:PySem.W.Frag) (mg:Str->Option Value) (base:Heap) (x:Str) (ps:List Str) (k:Nat) (φ:List D->M D):Prop where
  len:∀ ds μ r,φ ds μ=some r->ds.length=ps.length
  ex:∃ f fd,FnOk P w K mg base CX0 k f fd ps (spM K ps.length φ) /\ mg x=some (.ref f) /\ PySem.W.keepIn K (.ref f)=true /\ Binds K fd ps []
def Glo (K:PySem.W.Frag) (mg:Str->Option Value) (x:Str) (d:D):Prop:=∃ u v,mg x=some u /\ RelV v u /\ ∀ ι k H,Is K ι k H d v
section
variable {X:Cx} {e:Expr} {es:List Expr} {pos p:Pos}
theorem Ao {x:Str} {ps:List Str} {k j:Nat} {φ:List D->M D} {m:Sl->M (List D)} (F:Fn X.prog X.w X.K X.mg X.base x ps k φ) (hr:Room j X.A) (ha:RA X (e :: es) m) (hkj:k <= j:=by decide) (hg:Gl X x:=by rfl) (hdb:(x == ("__debug__" : Str))=false:=by decide)
    (he:starEach (e :: es) X.env=(false,eval e X.env) :: starEach es X.env:=by exact Az rfl) (hpl:(backTo pos (starEach es X.env)).any (·.1)=false:=by exact CJ rfl):RE X (.Call (.Name x p) (e :: es) [] pos) (AE φ m):=by
  obtain ⟨len,f,fd,F,hm,hk,hb⟩:=F
  exact Qn F (hr.mono hkj) hm hk hb len ha hg hdb he hpl
theorem DI {x:Str} {d:D} (h:Glo X.K X.mg x d) (hg:Gl X x:=by rfl) (hdb:(x == ("__debug__" : Str))=false:=by decide):RE X (.Name x pos) (mC d):=by
  obtain ⟨u,v,hm,r,hd⟩:=h
  exact Qj hm r hd hg hdb
end
theorem T1 {P:Program} {w:World} {K:PySem.W.Frag} {mg:Str->Option Value} {base:Heap} {x qual:Str} {st:Stmt} {f:Addr} {fd:FuncData} {N ps:List Str} {k:Nat} {φ:List D->M D} {mb:Sl->M (Fl × Sl)} (F:Fun K x qual st f fd) (S:Ag N ps (AH st)) (hm:mg x=some (.ref f)) (hb:Binds K fd ps [])
    (body:∀ (cdv:Value) (A:Around) (outer:List Env) (s:Shared) (H:Hp) (E:XK),Room k (A.deeper (PyProof.Rows.envOfC qual (AH st) s.heap.objs.size f cdv))->RSs (BT CX0 P w K mg base N qual (AH st) f cdv A outer s H E).nox (Ad st) mb)
    (len:∀ ds μ r,φ ds μ=some r->ds.length=ps.length)
    (run:∀ ds μ d μ',φ ds μ=some (d,μ')->∃ fl τ2 μ2,mb (Bx N.length ds) μ=some ((fl,τ2),μ2) /\ (fl=.next ∨ ∃ d,fl=.rt d) /\ He μ μ2 μ' (Go fl) d):Fn P w K mg base x ps (k + 1) φ:=
  ⟨len,f,fd,IT F S rfl body run,hm,F.kp,hb⟩
theorem Ks {μ g:Mh} {d:D} (h:Cl μ.length d):He μ (μ ++ g) μ d d:=⟨⟨g,rfl⟩,Nat.le_refl _,fun _ _ e=>.inl e,.inl ⟨rfl,h⟩⟩
end Mi
namespace Mi
open PySem L2
section
variable {X:Cx} {e a b c o i:Expr} {es:List Expr} {pos p apos cpos:Pos}
end
end Mi
namespace L2
open PySem PySem.Spec PyProof.Rows Sem
section
variable {prog:Program} {w:World} {A:Around} {E:Value->Shared->Prop} {s:Shared}
theorem Et {M:Model} {A:Around} {α:Type} {c:Prop} [Decidable c] {a b:Sem α} {Q:α->Shared->Prop} {E:Value->Shared->Prop} {s:Shared} (h : ¬ c) (hb:wpAny M A b Q E s):wpAny M A (if c then a else b) Q E s:=by
  rw [if_neg h]; exact hb
theorem Jg {it t:Addr} {i:Nat} {items:Array Value} {Q:Value->Shared->Prop} (hh:A.handled=none) (hit:s.heap.IsTupleIter it t i) (ht:s.heap.IsTuple t items)
    (more:∀ x h',items[i]? = some x->h'.IsTupleIter it t (i + 1)->Heap.SameBut it s.heap h'->Q x { s with heap:=h' })
    (over:items[i]? = none->∀ h' e,Heap.ExtBut it s.heap h'->(∃ o,h'.get? e=some o /\ o.cls=.type "StopIteration")->E (.ref e) { s with heap:=h' }) :
    wpAny (model prog w) A (Builtin.SmallTypes.nextOf (.ref it)) Q E s:=by
  have ty:=hit.typeIs
  obtain ⟨o,at_it,hc,hd⟩:=hit
  obtain ⟨ot,at_t,_,n,hdt⟩:=ht
  have put:∀ (k:Nat) (v:Value),(s.heap.update it (Obj.mapFields (fun fs=>fs.set! k v))).get? it=some (Obj.mapFields (fun fs=>fs.set! k v) o):=fun k v=>Heap.get?_update_self _ at_it (Obj.isFreed_of_fields (Obj.data_mapFields hd _))
  unfold Builtin.SmallTypes.nextOf
  refine wpAny_bind (wpAny_callSpecial?_slot ty F.slot_tuple_iterator_next (wpAny_call_entry F.slot_tuple_iterator_next ty F.entry_tuple_iterator_next ?_ (F.args_tuple_iterator_next_1 _)))
  have notNone : ¬ (Value.ref t == Value.none)=true:=Bool.false_ne_true
  refine wpAny_bind (m:=field (.ref it) 0) (wpAny_field at_it hd (x:=.ref t) rfl ?_)
  refine Et notNone ?_
  refine wpAny_bind (m:=field (.ref it) 1) (wpAny_field at_it hd (x:=.int i 0) rfl (wpAny_bind (m:=seqItems? (.ref t)) (wpAny_seqItems at_t hdt ?_)))
  have ei:((i:Int)).toNat=i:=Int.toNat_natCast i
  cases hx:items[i]? with
  | some x=>
    dsimp only
    rw [ei,hx]
    refine wpAny_bind (wpAny_setField at_it hd (by simp) (wpAny_pure ⟨x,rfl,wpAny_pure (more x _ hx ⟨_,put _ _,?_,?_⟩ (Heap.SameBut.update ..))⟩))
    . exact (Obj.cls_mapFields ..).trans hc
    . rw [Obj.data_mapFields hd]
      rfl
  | none=>
    dsimp only
    rw [ei,hx]
    refine wpAny_bind (wpAny_rule (wpAny_bind (wpAny_setField at_it hd (by simp) ?_)))
    have first:firstArgMember (.type "StopIteration") []=pure Value.none:=by first | rfl | (unfold firstArgMember; rfl)
    unfold Builtin.SmallTypes.stopIteration newExc newTuple
    refine wpAny_bind (wpAny_bind (wpAny_newObj_type (wpAny_bind (wpAny_of_eq first (wpAny_newObj_type (wpAny_raiseNew_none hh ?_) (by size_fits)))) (by size_fits)))
    exact over hx _ _ (((Heap.SameBut.update ..).extBut.push _).push _) ⟨_,Heap.get?_push_size _ rfl,rfl⟩
theorem Ni (hh:A.handled=none) (it t:Addr) (hne:t ≠ it) (items:Array Value) :
    Draws prog w A it [it,t] items.size (fun i v=>items[i]? = some v) (fun i h=>h.IsTupleIter it t i /\ h.IsTuple t items):=by
  refine ⟨fun i h st=>?_,fun i h h' st k=>⟨?_,?_⟩,fun i s Q E hi st q=>?_,fun s Q E st q=>?_⟩
  . obtain ⟨⟨o,e,_⟩,_⟩:=st
    exact ⟨o,e⟩
  . obtain ⟨⟨o,e,r⟩,_⟩:=st
    exact ⟨o,k it (by simp) o e,r⟩
  . obtain ⟨_,⟨o,e,r⟩⟩:=st
    exact ⟨o,k t (by simp) o e,r⟩
  . exact Jg hh st.1 st.2 (fun x h' hx st' sb=>q x h' s.toks hx ⟨st',st.2.extBut sb.extBut hne⟩ sb) fun no=>absurd no (by simp [hi])
  . exact Jg hh st.1 st.2 (fun x h' hx=>absurd hx (by simp)) fun _ h' e eb so=>q h' e eb so
abbrev FQ (it:Addr):Obj:={ cls:=.type "enumerate",data:=.fields #[.none,.bool false,.ref it,rawInt 0,.none,.none] }
theorem Pn (v:Value) (ob:Obj) (good:Heap->Prop) (hv:∀ (prog:Program) (w:World) (A:Around) (E:Value->Shared->Prop) (s:Shared) (Q:Value->Shared->Prop),good s.heap->Q (.ref s.heap.objs.size) { s with heap:=s.heap.push ob }->wpAny (model prog w) A (pyIter v) Q E s) :
    Meets (Builtin.«enumerate.__new__» ⟨[.type "enumerate",v],[]⟩) (fun _ R s=>good s.heap /\ R (.ok (.ret (.ref (s.heap.push ob).objs.size))) { s with heap:=(s.heap.push ob).push (FQ s.heap.objs.size) }):=by
  refine .of_wp fun prog w A R s ⟨g,q⟩=>?_
  have own:=sub_enumerate
  have walk:∀ (A:Around) (E:Value->Shared->Prop) (Q:Value->Shared->Prop),Q (.ref s.heap.objs.size) { s with heap:=s.heap.push ob }->wpAny (model prog w) A (pyIter v) Q E s:=fun A E Q z=>hv prog w A E s Q g z
  obtain ⟨hp,gs,dr,tk,os⟩:=s
  wp_walk
  refine wpAny_stack_any fun st=>wpAny_pure ?_
  split
  . rename_i c _ _ _ _ _
    cases (c == Value.type "enumerate") <;> (wp_walk using walk; exact ⟨_,rfl,q⟩)
  . wp_walk using walk
    exact ⟨_,rfl,q⟩
end
end L2
namespace L2
open PySem PySem.Spec PyProof.Rows
theorem Kq {P:Program} {w:World} {K:PySem.W.Frag} {es:List Expr} {k0:Nat} {pos:Pos} (a e it:Addr) (xs:List V) (hei:e ≠ it) (hea:e ≠ a) (hai:a ≠ it) :
    Km P w K (.Tuple es k0 pos) (ItP K xs.length (ES xs) fun K H=>SqT K H a xs) [e,it] e (fun i h=>(∃ old,IsEnum h e it i old) /\ h.IsTupleIter it a i):=by
  refine Ga (ι:=List Value) (fp:=[e,it,a]) (Mid:=fun its i T h=>(∃ x,IsEnumOut h e it ((i:Int) + 1) x T) /\ (h.IsTupleIter it a (i + 1) /\ h.IsTuple a its.toArray) /\ T ≠ e /\ T ≠ it) (good:=fun its=>Vals xs its) (Pt:=fun its i vals=>∃ t x,its.toArray[i]? = some x /\ vals = #[.int i t,x]) (Sw:=fun its i h=>(∃ old,IsEnum h e it i old) /\ h.IsTupleIter it a i /\ h.IsTuple a its.toArray)
    (fun A hA its r=>?walk) List.mem_cons_self (fun its i vals r h=>HP r h) (fun i=>(by show 2 <= sizeLine; decide)) (fun i h st=>?obj) (fun i h h' st k=>?keep) (fun X pins σ H s i hP hw hK I hc st=>?into) (fun z i h st=>⟨st.1,st.2.1⟩) (fun A i s Q E st h=>?self)
  case walk=>
    have hl:xs.length=its.toArray.size:=by rw [List.size_toArray]; exact r.length
    have D:=Ni (prog:=P) (w:=w) (A:=A.in1) hA it a hai its.toArray
    rw [hl]
    exact WalksT.enumerateD D e hei (by simp [hei,hea]) (by simp)
  case obj=>
    obtain ⟨o,ho,_,hd⟩:=st.2
    exact Pq st.1 ho ⟨_,hd⟩
  case keep=>
    obtain ⟨⟨old,q⟩,o,ho,r⟩:=st
    exact ⟨⟨old,k e (by simp) _ q⟩,o,k it (by simp) o ho,r⟩
  case into=>
    subst hK
    obtain ⟨its,r,p,_⟩:=I.tuple hc
    exact ⟨its,r,st.1,st.2,p⟩
  case self=>exact MU (f:=fun i h=>h.IsTupleIter it a i) A i s Q E st h
section
variable {X:Cx} {es:List Expr} {k0:Nat} {tpos:Pos}
def Ty (K:PySem.W.Frag) (ta:TA):TI:=fun σ H R=>ta σ H fun vs H1=>∃ a xs,vs=[.ref a] /\ SqT K H1 a xs /\ R (ItP K xs.length (ES xs) fun K H=>SqT K H a xs) H1
theorem On {a:Expr} {ta:TA} {p pos:Pos} (hg:Gl X "enumerate") (hm:X.mg "enumerate" = none) (ha:PA X [a] ta) (hs:starEach [a] X.env=[(false,eval a X.env)]:=by rfl):PI X (.Tuple es k0 tpos) (.Call (.Name "enumerate" p) [a] [] pos) (Ty X.K ta):=by
  intro pins s σ H R I h
  refine Call_ (Fd I hg hm Ig (PyProof.Rows.callWith_type1 (thn (ha pos pins s σ H _ I h) fun us s1 ⟨vs,H1,I1,r1,q1⟩=>?_) hs rfl))
  obtain ⟨l,xs,ev,hq,q⟩:=q1
  subst ev
  obtain ⟨u,eu,ru⟩:=GW r1
  subst eu
  cases ru
  obtain ⟨its,rv,pl,hz⟩:=I1.tuple hq
  have lt:l < s1.heap.objs.size:=by obtain ⟨o,e,_⟩:=pl; exact Heap.lt_size e
  have new:=Pn (.ref l) { cls:=.type "tuple_iterator",data:=.fields #[.ref l,.int 0 0] } (fun h=>h.IsTuple l its.toArray) (fun _ _ _ _ _ _ g z=>wpAny_pyIter_tuple g z)
  refine callType_new F.called_enumerate (by decide) (F.typeCall_enumerate_1 _) (F.newCall_enumerate_1 _) (fun obj=>F.args_object_init_2 obj _) F.entry_enumerate_new new ⟨pl,?_⟩
  generalize hG:s1.heap.push { cls:=.type "tuple_iterator",data:=.fields #[.ref l,.int 0 0] }=G
  have hsz:G.objs.size=s1.heap.objs.size + 1:=by rw [← hG]; exact Heap.size_push ..
  have at_e:(G.push (FQ s1.heap.objs.size)).get? (s1.heap.objs.size + 1)=some (FQ s1.heap.objs.size):=by rw [← hsz]; exact Heap.get?_push_size _ rfl
  have he:IsEnum (G.push (FQ s1.heap.objs.size)) (s1.heap.objs.size + 1) s1.heap.objs.size 0 .none:=at_e
  have at_i:(G.push (FQ s1.heap.objs.size)).IsTupleIter s1.heap.objs.size l 0:=⟨_,Heap.get?_push_of_some _ (hG ▸ Heap.get?_push_size _ rfl),rfl,rfl⟩
  show _ /\ _
  rw [hsz]
  refine ⟨⟨_,at_e,rfl⟩,wpAny_pyIter_enum he ?_⟩
  refine ⟨s1.heap.objs.size + 1,[s1.heap.objs.size + 1,s1.heap.objs.size],fun i h=>(∃ old,IsEnum h (s1.heap.objs.size + 1) s1.heap.objs.size i old) /\ h.IsTupleIter s1.heap.objs.size l i,_,H1,rfl,I1.kept (t':=s1.toks) fun b o x=>Heap.get?_push_of_some _ (hG ▸ Heap.get?_push_of_some _ x),?_,⟨⟨_,he⟩,at_i⟩,N5 I1,q⟩
  exact Kq l _ _ xs (Nat.succ_ne_self _) (Nat.ne_of_gt (Nat.lt_succ_of_lt lt)) (Nat.ne_of_lt lt)
end
end L2
namespace Mi
open PySem L2
section
variable {X:Cx} {a:Expr} {es:List Expr} {pos:Pos}
def N6:List D->M (List D)
  | [.tup ds]=>ret ds
  | _=>BS
def PB (m:Sl->M (List D)):Sl->M (List D):=fun τ=>bnd (m τ) fun as=>bnd (N6 as) fun ds=>ret (Co 0 ds)
theorem OO {p tpos:Pos} {k0:Nat} {m:Sl->M (List D)} (hm:X.mg "enumerate" = none) (ha:RA X [a] m) (hg:Gl X "enumerate" := by rfl) (hs:starEach [a] X.env=[(false,eval a X.env)]:=by exact Az rfl):RI X (.Tuple es k0 tpos) (.Call (.Name "enumerate" p) [a] [] pos) (PB m):=
  RI.wk (On hg hm ha.pe hs) fun σ H R q=>by
    obtain ⟨ι,μ,τ,ds,μ',R0,S,e,q⟩:=q
    obtain ⟨xs,μ1,e1,e2⟩:=AG e
    obtain ⟨zs,μ2,e3,e4⟩:=AG e2
    cases e4
    refine ⟨ι,μ,τ,xs,μ1,R0,S,e1,fun ι1 H1 E1 R1 vs i1=>?_⟩
    unfold N6 at e3
    split at e3
    . cases e3
      obtain ⟨v,rfl,i2⟩:=Fg i1
      unfold Is at i2
      obtain ⟨p,ws,rfl,h1,h2⟩:=i2
      exact ⟨p,ws,rfl,h1,q ι1 H1 E1 R1 _ (G9 (fun ι' μ' H' E _=>Io E h1) h2)⟩
    . cases e3
end
end Mi
namespace L2
open PySem PySem.Spec PyProof.Rows Sem
section
variable {prog:Program} {w:World} {A:Around} {E:Value->Shared->Prop} {s:Shared}
end
end L2
namespace L2
open PySem PySem.Spec PyProof.Rows
section
variable {X:Cx} {es:List Expr} {k0:Nat} {tpos:Pos}
end
end L2
namespace L2
open PySem PySem.Spec PyProof.Rows
section
variable {X:Cx} {es:List Expr} {k0:Nat} {tpos:Pos}
end
end L2
namespace Mi
open PySem L2
section
variable {X:Cx} {a b:Expr} {es:List Expr} {pos:Pos}
end
end Mi
namespace L2
open PySem PySem.Spec PyProof.Rows Sem
section
variable {prog:Program} {w:World} {A:Around} {E:Value->Shared->Prop} {s:Shared}
end
end L2
namespace L2
open PySem PySem.Spec PyProof.Rows Sem
section
variable {prog:Program} {w:World} {A:Around} {E:Value->Shared->Prop} {s:Shared}
set_option maxHeartbeats 2000000 in
theorem RN {T nid iid:String} {args:List Value} {Q Q₁:Value->Shared->Prop} (ft:TypeCalled T nid iid) (ok:checkTypeCall T ⟨args,[]⟩=pure ())
    (new:codeAny (model prog w) A.in1 (.call (.builtin nid) ⟨.type T :: args,[]⟩) (wants Q₁ E) s)
    (init:∀ x s₁,Q₁ x s₁->s₁.TypeIs x T /\ codeAny (model prog w) A.in1 (.call (.builtin iid) ⟨x :: args,[]⟩) (wants (fun r s₂=>r=.none /\ Q x s₂) E) s₁) :
    wpAny (model prog w) A (call (.type T) args) Q E s:=by
  have a1:=ft.notType
  have a2:=ft.canCreate
  have a3:=ft.made
  have a4:=ft.sub
  obtain ⟨c,tl,a5⟩:=ft.mro
  have step:codeAny (model prog w) A (.builtin "type.__call__" ⟨.type T :: args,[]⟩) (wants Q E) s:=by
    refine codeAny_builtin F.entry_type_call ?_
    rw [Around.under_plain (weight_type_call_type T args []) rfl]
    unfold Builtin.«type.__call__»
    iterate 3 (any_goals (first | assumption | wp_step))
    first | refine wpAny_of_eq ok ?_ | refine wpAny_bind (wpAny_of_eq ok ?_)
    repeat (any_goals (first | assumption | wp_step))
    refine codeAny_mono new fun r s₁ hr=>?_
    match r,hr with
    | .error e,hr=>exact hr
    | .ok (.ret x),hr=>
      obtain ⟨ty,run⟩:=init x s₁ hr
      have b1:=ft.init.lookup
      have b2:=ft.init.bind x
      repeat (any_goals (first | assumption | wp_step))
      refine codeAny_mono run fun r₂ s₂ hr₂=>?_
      match r₂,hr₂ with
      | .error e,hr₂=>exact hr₂
      | .ok (.ret y),hr₂=>
        obtain ⟨ey,hq⟩:=hr₂
        subst ey
        repeat (any_goals (first | assumption | wp_step))
  exact wpAny_call (codeAny_of_tree (wpAny_pure ⟨Code.quiet_builtin _ (by decide +kernel),step⟩))
abbrev A6 (led:Bool):Obj:={ cls:=.type "set",data:=.set #[] 0 (.fresh 0 0 led) }
end
section
variable {X:Cx}
end
end L2
namespace Mi
open PySem L2
section
variable {X:Cx} {e:Expr} {pos p p2 pos2:Pos}
end
end Mi
namespace Mi
open PySem L2
inductive How where
  | all | drop | frz
def Oy (μ2:Mh):How->D->D
  | .frz,.ref n=>match μ2[n]? with
    | some (.lst ds)=>.lst ds
    | _=>.ref n
  | _,d=>d
def NF (μ μ2:Mh):How->Mh
  | .all=>μ2
  | _=>μ2.take μ.length
open Classical in
noncomputable def Aq (hw:How) (n ps:Nat) (mb:Sl->M (Fl × Sl)):List D->M D:=fun ds μ=>match mb (Bx n ds) μ with
  | some ((fl,_),μ2)=>if ds.length=ps /\ (fl=.next ∨ ∃ d,fl=.rt d) /\ He μ μ2 (NF μ μ2 hw) (Go fl) (Oy μ2 hw (Go fl)) then some (Oy μ2 hw (Go fl),NF μ μ2 hw) else none
  | none=>none
theorem Ey {hw:How} {n ps:Nat} {mb:Sl->M (Fl × Sl)} {ds:List D} {μ μ':Mh} {d:D} (h:Aq hw n ps mb ds μ=some (d,μ')) :
    ds.length=ps /\ ∃ fl τ2 μ2,mb (Bx n ds) μ=some ((fl,τ2),μ2) /\ (fl=.next ∨ ∃ d,fl=.rt d) /\ He μ μ2 μ' (Go fl) d:=by
  unfold Aq at h
  split at h
  . rename_i fl τ2 μ2 e
    split at h
    . rename_i c
      cases h
      exact ⟨c.1,fl,τ2,μ2,e,c.2.1,c.2.2⟩
    . cases h
  . cases h
theorem HW {hw:How} {n ps:Nat} {mb:Sl->M (Fl × Sl)} {ds:List D} {μ μ2:Mh} {fl:Fl} {τ2:Sl} (e:mb (Bx n ds) μ=some ((fl,τ2),μ2)) (hl:ds.length=ps) (hf:fl=.next ∨ ∃ d,fl=.rt d) (t:He μ μ2 (NF μ μ2 hw) (Go fl) (Oy μ2 hw (Go fl))) :
    Aq hw n ps mb ds μ=some (Oy μ2 hw (Go fl),NF μ μ2 hw):=by
  unfold Aq
  rw [e]
  exact if_pos ⟨hl,hf,t⟩
theorem AS {n ps:Nat} {mb:Sl->M (Fl × Sl)} {ds:List D} {μ g:Mh} {d:D} {τ2:Sl} (e:mb (Bx n ds) μ=some ((.rt d,τ2),μ ++ g)) (hl:ds.length=ps) (c:Cl μ.length d):Aq .drop n ps mb ds μ=some (d,μ):=by
  have t:NF μ (μ ++ g) .drop=μ:=by show (μ ++ g).take μ.length=μ; rw [List.take_left]
  have h:=HW (hw:=.drop) e hl (.inr ⟨d,rfl⟩) (by rw [t]; exact Ks c)
  rw [t] at h
  exact h
theorem Np {n ps:Nat} {mb:Sl->M (Fl × Sl)} {ds es:List D} {μ g:Mh} {k:Nat} {τ2:Sl} (e:mb (Bx n ds) μ=some ((.rt (.ref k),τ2),μ ++ g)) (hl:ds.length=ps) (hk:μ.length <= k) (hg:(μ ++ g)[k]? = some (.lst es)) (c:ClL μ.length es):Aq .frz n ps mb ds μ=some (.lst es,μ):=by
  have t:NF μ (μ ++ g) .frz=μ:=by show (μ ++ g).take μ.length=μ; rw [List.take_left]
  have o:Oy (μ ++ g) .frz (Go (.rt (.ref k)))=.lst es:=by
    show (match (μ ++ g)[k]? with | some (.lst ds)=>D.lst ds | _=>.ref k)=_
    rw [hg]
  have h:=HW (hw:=.frz) e hl (.inr ⟨_,rfl⟩) (by rw [t,o]; exact ⟨⟨g,rfl⟩,Nat.le_refl _,fun _ _ z=>.inl z,.inr ⟨k,es,rfl,hg,hk,rfl,c⟩⟩)
  rw [t,o] at h
  exact h
theorem Ap (hw:How) {P:Program} {w:World} {K:PySem.W.Frag} {mg:Str->Option Value} {base:Heap} {x qual:Str} {st:Stmt} {f:Addr} {fd:FuncData} {N ps:List Str} {k:Nat} {mb:Sl->M (Fl × Sl)} (F:Fun K x qual st f fd) (S:Ag N ps (AH st)) (hm:mg x=some (.ref f)) (hb:Binds K fd ps [])
    (body:∀ (cdv:Value) (A:Around) (outer:List Env) (s:Shared) (H:Hp) (E:XK),Room k (A.deeper (PyProof.Rows.envOfC qual (AH st) s.heap.objs.size f cdv))->RSs (BT CX0 P w K mg base N qual (AH st) f cdv A outer s H E).nox (Ad st) mb) :
    Fn P w K mg base x ps (k + 1) (Aq hw N.length ps.length mb):=
  T1 F S hm hb body (fun ds μ r h=>(Ey (d:=r.1) (μ':=r.2) h).1) (fun ds μ d μ' h=>(Ey h).2)
end Mi
namespace Mi
open PySem L2
section
variable {P:Program} {w:World} {K:PySem.W.Frag} {mg:Str->Option Value} {base h:Heap} {x:Str}
theorem GL {i:Int} {t:Tok} (X:K.In h) (G:h.Ns mainGlobals mg) (a:PySem.W.nsIn K mainGlobals x=some (some (.int i t))):Glo K mg x (.int i):=
  ⟨_,.int i,PySem.W.mg_of X G a,⟨t,rfl⟩,fun _ _ _=>by unfold Is; rfl⟩
structure Df (K:PySem.W.Frag) (x:Str) (st:Stmt) (f:Addr) (fd:FuncData):Prop where
  a:PySem.W.nsIn K mainGlobals x=some (some (.ref f))
  F:Fun K x x st f fd
theorem VM {st:Stmt} {f:Addr} {oc:Value} {od an:Option Addr} {osl:Array (Option Value)} {kV doc pm cdv ct:Value} (a:PySem.W.nsIn K mainGlobals x=some (some (.ref f))) (l:K.lookup f=some ⟨oc,od,.func (PySem.W.fnOf x x (FR st) (Ad st) (AH st) .none kV doc pm an cdv ct),osl⟩)
    (c:PySem.W.codeIn K cdv x=true) (k:PySem.W.keepIn K (.ref f)=true):∃ f fd,Df K x st f fd:=⟨f,_,a,T0 l c k⟩
theorem Pf (hw:How) {qual:Str} {st:Stmt} {f:Addr} {fd:FuncData} {N ps:List Str} {k:Nat} {mb:Sl->M (Fl × Sl)} (F:Fun K x qual st f fd) (S:Ag N ps (AH st))
    (body:∀ (cdv:Value) (A:Around) (outer:List Env) (s:Shared) (H:Hp) (E:XK),Room k (A.deeper (PyProof.Rows.envOfC qual (AH st) s.heap.objs.size f cdv))->RSs (BT CX0 P w K mg base N qual (AH st) f cdv A outer s H E).nox (Ad st) mb) :
    FnOk P w K mg base CX0 (k + 1) f fd ps (spM K ps.length (Aq hw N.length ps.length mb)):=
  IT F S rfl body (fun ds μ d μ' h=>(Ey h).2)
def Lm (K:PySem.W.Frag):Sp:=fun vs H Q _=>∃ (a:Addr) (ns:List Int),vs=[.ref a] /\ ScrAt K H a (ns.map V.int) /\ ns.length <= 63 /\ ∀ H',Q (.bl true) H'
theorem SW {k:Nat} {f:Addr} {fd:FuncData} {φ:List D->M D} (F:FnOk P w K mg base CX0 k f fd ["_law_script"] (spM K 1 φ)) (hφ:∀ ns:List Int,ns.length <= 63->∃ μ',φ [.scr ns] []=some (.bl true,μ')):FnOk P w K mg base CX0 k f fd ["_law_script"] (Lm K):=
  F.imp fun vs H Q E q=>by
    obtain ⟨a,ns,rfl,s,hl,q⟩:=q
    obtain ⟨μ',e⟩:=hφ ns hl
    refine ⟨rfl,fun _=>a,[],[.scr ns],.bl true,μ',⟨fun i j h=>absurd h (Nat.not_lt_zero _),fun n o e=>by simp at e⟩,.one (by unfold Is; exact ⟨a,rfl,s⟩),e,fun ι2 H2 E2 R2 v i=>?_⟩
    unfold Is at i
    rw [i]
    exact q H2
theorem Jq {H:Hp} {a:Addr} {xs:List V} (o:Ry H) (s:SqL K H a xs):ScrAt K H a xs:=by
  rcases s with z | z
  . rcases z with z | ⟨p,z⟩
    . rcases o a with q | ⟨p,ys,q⟩
      . rw [q] at z; cases z
      . rw [q] at z; cases z
    . exact .inl ⟨p,z⟩
  . exact .inr z
end
theorem UE {l:PySem.W.OpenLaw} {q:Program} {loose:List Str} {XP:(Str->Option Value)->Heap->Prop} {YP:World->Heap->Prop} {d:DefRec} {K:Params->PySem.W.Frag} {k:Nat} (hn:l.most=some 63) (hdf:d.params.defaults=[]) (hk:k <= 60)
    (hY:∀ (w:World) (h:Heap),YP w h->(K w.params).In h)
    (F:∀ (w:World) (mg:Str->Option Value) (fa:Addr) (h:Heap),(K w.params).In h->h.Ns mainGlobals mg->mg d.name=some (.ref fa)->
      ∃ fd:FuncData,(∀ (s:Shared) (u:Value),BindsTo s fd ⟨[u],[]⟩ [("_law_script",u)]) /\ ∀ base:Heap,(K w.params).In base->base.Ns mainGlobals mg->FnOk l.prog w (K w.params) mg base CX0 k fa fd ["_law_script"] (Lm (K w.params))) :
    PySem.W.WalkO q loose XP YP l.row.toRowW d [] (fun f vs=>PySem.call f vs):=
  L2.QJ (n:=63) (k:=k) (x := "_law_script") (CX:=fun _=>CX0) (sp:=fun w=>Lm (K w.params)) hn (by decide) hdf (Room.mono (j:=k) (k:=60) ⟨rfl,by decide,by decide⟩ hk) hY F (fun _ _ a ns hl o hS=>⟨a,ns,rfl,Jq o hS,hl,fun _=>rfl⟩) fun _ _ _ _ _ z=>z
end Mi
namespace Mi
open PySem L2
section
variable {X:Cx} {scope:Scope} {tgs:List Str} {ix:List Nat} {e elt tg iter:Expr} {pos:Pos}
end
end Mi
namespace Mi
open PySem L2 PyProof.Rows
section
variable {X:Cx} {e a b c o:Expr} {es:List Expr} {pos apos cpos:Pos}
theorem Oz:OpR X (binaryOp .Add) (fun x y H Q=>∃ a b ys,x=.ref a /\ y=.ref b /\ SqT X.K H a [] /\ SqT X.K H b ys /\ Q (.ref b) H):=by
  intro pins s σ H x y v u Q I rx ry h
  obtain ⟨a,b,ys,rfl,rfl,ha,hb,q⟩:=h
  cases rx
  cases ry
  obtain ⟨its,r1,p1,_⟩:=I.tuple ha
  obtain ⟨its2,r2,p2,_⟩:=I.tuple hb
  cases r1
  obtain ⟨⟨cls,dd,data,sl⟩,ho,hc,n,hd⟩:=p1
  obtain ⟨⟨cls2,dd2,data2,sl2⟩,ho2,hc2,n2,hd2⟩:=p2
  simp only at hc hd hc2 hd2
  subst hc hd hc2 hd2
  exact concat_meets ⟨_,ho,rfl⟩ ⟨_,ho2,rfl⟩ noFill_tuple_add seq_tuple_add PySem.F.slot_tuple_add PySem.F.entry_tuple_add (PySem.F.args_tuple_add_2 _ _) (tuple_addW0 a b _ _ n n2 dd dd2 sl sl2 rfl) ⟨ho,ho2,⟨.ref b,H,I,rfl,q⟩⟩
def AY (a b:D):M D:=match a,b with
  | .tup [],.tup ds=>ret (.tup ds)
  | a,b=>Oc a b
theorem Av:OpR X (binaryOp .Add) (rM X.K AY):=fun pins s σ H x y v u Q I rx ry h=>by
  obtain ⟨ι,μ,a,b,d,μ',R,ia,ib,e,q⟩:=h
  unfold AY at e
  split at e
  . rename_i ds
    cases e
    unfold Is at ia
    obtain ⟨p,vs,rfl,h1,h2⟩:=ia
    unfold IsL at h2
    subst h2
    have ib2:=ib
    unfold Is at ib
    obtain ⟨p',vs',rfl,h1',h2'⟩:=ib
    exact Oz pins s σ H _ _ v u Q I rx ry ⟨p,p',vs',rfl,rfl,h1,h1',q ι H R.ext0 R _ ib2⟩
  . exact U6 pins s σ H x y v u Q I rx ry ⟨ι,μ,_,_,d,μ',R,ia,ib,e,q⟩
theorem Hr {prog:Program} {w:World} {A:Around} {E:Value->Shared->Prop} {s:Shared} {t sl:Addr} {items:Array Value} {vl vu:Value} {lo hi:Option Int} {Q:Value->Shared->Prop} (ht:IsTup s.heap t items) (hs:s.heap.IsSliceOf sl vl vu .none) (pl:IsPart vl lo) (pu:IsPart vu hi)
    (h1:HT.sIx items.size 0 lo=0) (h2:HT.sIx items.size items.size hi=items.size) (h:Q (.ref t) s):wpAny (model prog w) A (getItem (.ref t) (.ref sl)) Q E s:=by
  obtain ⟨os,hos,hcs,hds⟩:=id hs
  have hTs:s.TypeIs (.ref sl) "slice" := ⟨os,hos,hcs⟩
  unfold getItem
  try with_reducible refine wpAny_holding ?_
  first | refine wpAny_bind (wpAny_pure ?_) | skip
  refine wpAny_bind (wpAny_sequenceKey ht.typeIs (by decide) ?_)
  refine wpAny_bind (wpAny_callSpecial?_slot (name:=Str.ofString "__getitem__") ht.typeIs PyProof.Rows.slot_tuple_getitem
    (wpAny_call_entry PyProof.Rows.slot_tuple_getitem ht.typeIs entry_tuple_getitem ?_ (args_tuple_getitem _ _)))
  show wpAny _ _ (Builtin.Tuple.tupleItemsOf (.ref t) >>= _) _ _ s
  refine wpAny_bind (tupleItemsOf_ ht ?_)
  refine wpAny_bind (wpAny_typeOf hTs ?_)
  rw [if_pos (by decide)]
  refine wpAny_bind (HT.DR hs pl pu ?_)
  have hyes:((((HT.sIx items.size 0 lo:Nat):Int) == 0 && (1:Int) == 1 && (HT.sIx items.size items.size hi - HT.sIx items.size 0 lo) == items.size)=true):=by rw [h1,h2]; simp
  show wpAny _ _ (if (((HT.sIx items.size 0 lo:Nat):Int) == 0 && (1:Int) == 1 && (HT.sIx items.size items.size hi - HT.sIx items.size 0 lo) == items.size)=true then _ else _) _ _ s
  rw [if_pos hyes]
  refine wpAny_bind (m:=Builtin.Tuple.tupleIsExact (.ref t)) ?_
  unfold Builtin.Tuple.tupleIsExact
  refine wpAny_bind (wpAny_typeOf ht.typeIs (wpAny_pure ?_))
  rw [if_pos (by decide)]
  refine wpAny_bind (wpAny_rule ?_)
  exact wpAny_pure ⟨_,rfl,wpAny_pure h⟩
theorem QX:SlR X (fun x lo hi H Q=>∃ a xs,x=.ref a /\ SqT X.K H a xs /\ HT.sIx xs.length 0 lo=0 /\ HT.sIx xs.length xs.length hi=xs.length /\ Q (.ref a) H):=by
  intro pins s σ H x v vl vu lo hi sl Q I rx hs pl pu h
  obtain ⟨a,xs,rfl,hx,h1,h2,q⟩:=h
  cases rx
  obtain ⟨its,r,ht,hz⟩:=I.tuple hx
  have hlen:its.toArray.size=xs.length:=by rw [List.size_toArray]; exact r.length.symm
  refine ⟨"tuple",_,PyProof.Rows.slot_tuple_getitem.lookup,ht.typeIs,?_⟩
  exact Hr ht hs pl pu (by rw [hlen]; exact h1) (by rw [hlen]; exact h2) ⟨.ref a,H,I,rfl,q⟩
theorem P1 {ds:List D} {lo hi:Option Int} (h1:HT.sIx ds.length 0 lo=0) (h2:HT.sIx ds.length ds.length hi=ds.length):DQ ds lo hi=ds:=by
  unfold DQ
  rw [h1,h2]; simp
def Lx (lo hi:Option Int):D->M D
  | .tup ds=>ret (.tup (DQ ds lo hi))
  | d=>bnd (Ck d) fun ds=>ret (.lst (DQ ds lo hi))
def Vl (K:PySem.W.Frag):V->Option Int->Option Int->Hp->VK->Prop:=fun x lo hi H Q=>∃ ι μ a d μ',RelH K ι μ H /\ Is K ι μ.length H a x /\ Lx lo hi a μ=some (d,μ') /\
  Aft K ι μ H μ' fun ι' H'=>∀ v,Is K ι' μ'.length H' d v->Q v H'
theorem U1:SlR X (Vl X.K):=fun pins s σ H x v vl vu lo hi sl Q I rx hs pl pu h=>by
  obtain ⟨ι,μ,a,d,μ',R,ia,e,q⟩:=h
  by_cases c:∃ ds,a=.tup ds /\ HT.sIx ds.length 0 lo=0 /\ HT.sIx ds.length ds.length hi=ds.length
  . obtain ⟨ds,rfl,h1,h2⟩:=c
    have e:some (D.tup (DQ ds lo hi),μ)=some (d,μ'):=e
    rw [P1 h1 h2] at e
    cases e
    have ia2:=ia
    unfold Is at ia
    obtain ⟨p,vs,rfl,g1,g2⟩:=ia
    exact QX pins s σ H _ v vl vu lo hi sl Q I rx hs pl pu ⟨p,vs,rfl,g1,by rw [g2.length]; exact h1,by rw [g2.length]; exact h2,q ι H R.ext0 R _ ia2⟩
  . refine Vo pins s σ H x v vl vu lo hi sl Q I rx hs pl pu ⟨ι,μ,a,d,μ',R,ia,?_,q⟩
    cases a with
    | tup ds=>
      show (if HT.sIx ds.length 0 lo=0 /\ HT.sIx ds.length ds.length hi=ds.length then (BS:M D) else ret (D.tup (DQ ds lo hi))) μ=_
      rw [if_neg (fun z=>c ⟨ds,rfl,z.1,z.2⟩)]; exact e
    | _=>exact e
def FJ (me:Sl->M D) (ml mh:Sl->M (Option Int)):Sl->M D:=fun τ=>bnd (me τ) fun x=>bnd (ml τ) fun l=>bnd (mh τ) fun h=>Lx l h x
theorem FX {e:Expr} {lo hi:Option Expr} {me:Sl->M D} {ml mh:Sl->M (Option Int)} {pos p2:Pos} (he:RE X e me) (hl:RO X lo ml) (hh:RO X hi mh):RE X (.Subscript e (.Slice lo hi none p2) pos) (FJ me ml mh):=RE.wk (Op U1 he.pe hl.pe hh.pe) fun σ H Q h=>by
  obtain ⟨ι,μ,τ,z,μ',R,S,e,q⟩:=h
  obtain ⟨x,μ1,e1,e⟩:=AG e
  obtain ⟨l,μ2,e2,e⟩:=AG e
  obtain ⟨u,μ3,e3,e⟩:=AG e
  refine ⟨ι,μ,τ,x,μ1,R,S,e1,fun ι1 H1 E1 R1 v i1=>⟨ι1,μ1,τ,l,μ2,R1,S.ext E1,e2,fun ι2 H2 E2 R2=>⟨ι2,μ2,τ,u,μ3,R2,S.ext (E1.trans E2),e3,fun ι3 H3 E3 R3=>?_⟩⟩⟩
  have E23:=E2.trans E3
  exact ⟨ι3,μ3,x,z,μ',R3,i1.ext E23,e,fun ι4 H4 E4 R4=>q ι4 H4 ((E1.trans E23).trans E4) R4⟩
end
end Mi
namespace Mi
open PySem L2
open PyProof.Rows hiding St
section
variable {X:Cx} {e a b c o tg iter elt:Expr} {es:List Expr} {pos apos cpos:Pos} {scope:Scope} {tgs:List Str} {ix:List Nat}
def FK (g:D->List D->M D) (mo:Sl->M D):Sl->M D:=fun τ=>bnd (mo τ) fun x=>bnd (Dw x) fun _=>g x []
theorem Ms {K:PySem.W.Frag} {g:D->List D->M D} {mo:Sl->M D} {σ:St} {H:Hp} {Q:VK} (h:tE K (FK g mo) σ H Q):UY K "list" (rMM K g) (tE K mo) σ H Q:=by
  obtain ⟨ι,μ,τ,d,μ',R,S,e,q⟩:=h
  obtain ⟨x,μ1,e1,ee1⟩:=AG e
  obtain ⟨u,μ2,e2,ee2⟩:=AG ee1
  have hm:=Fj e2
  subst hm
  refine ⟨ι,μ,τ,x,_,R,S,e1,fun ι1 H1 E1 R1 v1 i1=>⟨(F1 R1 i1 e2).2,?_⟩⟩
  exact ⟨ι1,_,x,[],d,μ',R1,i1,IsL.nil,ee2,fun ι3 H3 E3 R3=>q ι3 H3 (E1.trans E3) R3⟩
theorem M4 {name:Str} {id:String} {g:D->List D->M D} {mo:Sl->M D} (slot:Slot "list" name id) (hty:typeOf (.builtin id)=pure (.type "method_descriptor")) (hm:MtR X id (rMM X.K g)) (ho:RE X o mo)
    (hbase:attributeBase o name X.env (eval o X.env)=eval o X.env:=by rfl) (hline:(apos.endLine == cpos.line)=true:=by rfl) :
    RE X (.Call (.Attribute o name apos) [] [] cpos) (FK g mo):=RE.wk (TQ PySem.F.plainAttrs_list slot hty hm ho.pe hbase hline) fun _ _ _ h=>Ms h
end
end Mi
namespace Mi
open PySem L2
open PyProof.Rows hiding St
section
variable {X:Cx} {e a b c o:Expr} {es:List Expr} {pos apos cpos:Pos}
def Vt:List Int->Int
  | []=>0
  | i :: r=>r.foldl max i
def FL:List D->Option (List Int)
  | []=>some []
  | .int i :: ds=>(FL ds).map (i :: ·)
  | _=>none
theorem KE {K:PySem.W.Frag} {ι:Nat->Addr} {k:Nat} {H:Hp}:∀ {ds:List D} {vs:List V} {ns:List Int},IsL K ι k H ds vs->FL ds=some ns->vs=ns.map V.int
  | [],_,_,h,e=>by cases e; unfold IsL at h; exact h
  | .int b :: ds,_,_,h,e=>by
    unfold IsL at h
    obtain ⟨v,vs',rfl,h1,h2⟩:=h
    unfold FL at e
    cases q:FL ds with
    | none=>rw [q] at e; cases e
    | some bs=>
      rw [q] at e; cases e
      unfold Is at h1
      rw [h1,KE h2 q]; rfl
  | .non :: _,_,_,_,e=>by cases e
  | .bl _ :: _,_,_,_,e=>by cases e
  | .str _ :: _,_,_,_,e=>by cases e
  | .ty _ :: _,_,_,_,e=>by cases e
  | .scr _ :: _,_,_,_,e=>by cases e
  | .tup _ :: _,_,_,_,e=>by cases e
  | .lst _ :: _,_,_,_,e=>by cases e
  | .ref _ :: _,_,_,_,e=>by cases e
theorem IM:∀ ns:List Int,FL (ns.map D.int)=some ns
  | []=>rfl
  | n :: r=>by show (FL (r.map D.int)).map (n :: ·)=_; rw [IM r]; rfl
def V9:List D->M D
  | [d]=>bnd (Ck d) fun ds=>fun μ=>match FL ds with
    | some (i :: r)=>some (.int (Vt (i :: r)),μ)
    | _=>none
  | _=>BS
theorem KL {y:V}:∀ {ys:List V} {us:List Value} {j:Nat},Vals ys us->ys.all DB=true->ys.findIdx? (fun z=>eqV z y)=some j->∃ hj:j < us.length,eqU y us[j]=true /\ ∀ m (hm:m < us.length),m < j->eqU y us[m]=false
  | _,_,j,.nil,_,e=>by simp at e
  | z :: ys,u :: us,j,.cons r t,f,e=>by
    rw [List.all_cons,Bool.and_eq_true] at f
    rw [List.findIdx?_cons] at e
    cases hz:eqV z y with
    | true=>
      rw [hz] at e
      simp at e
      subst e
      exact ⟨by simp,by show eqU y u=true; rw [JT r f.1,hz],fun m hm h=>by omega⟩
    | false=>
      rw [hz] at e
      cases q:ys.findIdx? (fun z=>eqV z y) with
      | none=>rw [q] at e; simp at e
      | some k=>
        rw [q] at e
        simp at e
        subst e
        obtain ⟨hk,h1,h2⟩:=KL t f.2 q
        refine ⟨by simp; omega,by simpa using h1,fun m hm h=>?_⟩
        cases m with
        | zero=>show eqU y u=false; rw [JT r f.1,hz]
        | succ m=>simpa using h2 m (by simpa using hm) (by omega)
abbrev Vm (Sq:Hp->Addr->List V->Prop):V->List V->Hp->VK->Prop:=fun x xs H Q=>∃ p ys y j,x=.ref p /\ xs=[y] /\ Sq H p ys /\ DB y=true /\ ys.all DB=true /\ ys.findIdx? (fun z=>eqV z y)=some j /\ Q (.int j) H
theorem Ho:MtR X "list.index" (Vm fun H p ys=>SqL X.K H p ys):=by
  intro pins s σ H x xs v us Q I rx rs h
  obtain ⟨p,ys,y,j,rfl,rfl,hp,fy,fys,hj,q⟩:=h
  cases rx
  obtain ⟨u,rfl,ru⟩:=GW rs
  obtain ⟨its,rv,pl,hz⟩:=I.list hp
  have hl:=rv.length
  obtain ⟨⟨cls,dd,data,sl⟩,ho,hc,n,hd⟩:=pl.isList
  simp only at hc hd
  subst hc hd
  obtain ⟨hj2,e1,e2⟩:=KL rv fys hj
  have hn:=Fc
  refine call_meets PySem.F.slot_list_index ⟨_,ho,rfl⟩ PySem.F.entry_list_index (PySem.F.args_list_index_2 _ _) (SeqAt.list_indexAt _ its.toArray n dd sl u (eqU y) j (by rw [List.size_toArray]; exact hj2) (by omega) (by simpa using e1) (fun m hm h=>by simpa using e2 m (by simpa using hm) h)) ⟨ho,fun w hw=>Dd ru fy rv fys w (by simpa using hw),?_⟩
  exact ⟨.int j,H,I.tok _,⟨_,rfl⟩,q⟩
def Tx:D->List D->M D
  | d,[y]=>bnd (BU d) fun ds=>fun μ=>match F2 y,Dx ds with
    | some y,some xs=>(xs.findIdx? fun z=>eqV z y).map fun (j:Nat)=>(D.int (j:Int),μ)
    | _,_=>none
  | _,_=>BS
theorem NW {d r:D} {μ μ':Mh} {K:PySem.W.Frag} {ι:Nat->Addr} {H:Hp} {x:V} {xs:List V} {as:List D} (R:RelH K ι μ H) (ia:Is K ι μ.length H d x) (ib:IsL K ι μ.length H as xs) (e:Tx d as μ=some (r,μ')) :
    ∃ p ys y j,x=.ref p /\ xs=[y] /\ (SqL K H p ys ∨ SqT K H p ys) /\ DB y=true /\ ys.all DB=true /\ ys.findIdx? (fun z=>eqV z y)=some j /\ r=.int j /\ μ'=μ:=by
  unfold Tx at e
  split at e
  . rename_i y0
    obtain ⟨ds,μ1,e1,e2⟩:=AG e
    obtain ⟨hm,p,vs,rfl,h1,h2⟩:=Cz R ia e1
    subst hm
    obtain ⟨v,rfl,i1⟩:=Fg ib
    split at e2
    . rename_i w ws q1 q2
      obtain ⟨rfl,f1⟩:=HI i1 q1
      obtain ⟨rfl,f2⟩:=Fo h2 q2
      cases hj:vs.findIdx? (fun z=>eqV z v) with
      | none=>rw [hj] at e2; cases e2
      | some j=>rw [hj] at e2; cases e2; exact ⟨p,vs,v,j,rfl,rfl,h1,f1,f2,hj,rfl,rfl⟩
    . cases e2
  . cases e
def HF (d:D) (as:List D):M D:=bnd (Dw d) fun _=>Tx d as
theorem O9:MtR X "list.index" (rMM X.K HF):=fun pins s σ H x xs v us Q I rx rs h=>by
  obtain ⟨ι,μ,a,as,d,μ',R,ia,ib,e,q⟩:=h
  obtain ⟨u,μ1,e1,e2⟩:=AG e
  have hm:=Fj e1
  subst hm
  obtain ⟨ds,μ2,g1,g2⟩:=AG e1
  obtain ⟨_,p0,vs0,hx,hq,_⟩:=CW R ia g1
  obtain ⟨p,ys,y,j,rfl,rfl,h1,f1,f2,hj,rfl,rfl⟩:=NW R ia ib e2
  cases hx
  have hs:SqL X.K H p0 ys:=by
    rcases h1 with z | z
    . exact z
    . obtain ⟨its,_,pl,_⟩:=I.list hq
      obtain ⟨its2,_,pt,_⟩:=I.tuple z
      obtain ⟨o,e1,c1,_⟩:=pl.isList
      obtain ⟨o2,e2,c2,_⟩:=pt
      rw [e1] at e2; cases e2
      rw [c1] at c2; exact absurd c2 (by decide)
  exact Ho pins s σ H _ _ v us Q I rx rs ⟨p0,ys,y,j,rfl,rfl,hs,f1,f2,hj,q ι H R.ext0 R _ (ofI _)⟩
end
end Mi
namespace Mi
open PySem L2
open PyProof.Rows hiding St
section
variable {X:Cx} {e a b c o:Expr} {es:List Expr} {pos apos cpos:Pos}
end
end Mi
namespace Mi
open PySem L2
end Mi
local macro_rules | `(tactic| wtm_at "own qpu")=>`(tactic| repeat first | exact Mi.pu_slot | exact Mi.pu_c | exact Mi.pu_true | exact Mi.pu_ix | exact Mi.pu_eqB | exact Mi.pu_nil | exact Mi.pu_inst | exact Mi.pu_len | apply Mi.pu_test | apply Mi.pu_op | apply Mi.pu_cons | apply Mi.pu_disp | apply Mi.pu_or | apply Mi.pu_and | apply Mi.pu_not)
namespace Ht
open PySem PySem.SetTable
abbrev Ris (l:List Nat):Prop:=l.Pairwise (· < ·)
theorem Kz {xs:Array Nat} (r:Ris xs.toList) {i k:Nat} (hk:k < xs.size) (h:i < k):xs[i]'(Nat.lt_trans h hk) < xs[k]:=by
  have:=List.pairwise_iff_getElem.mp r i k (by simpa using Nat.lt_trans h hk) (by simpa using hk) h
  simpa using this
theorem OM {xs:Array Nat} (r:Ris xs.toList) {i k:Nat} (hk:k < xs.size) (h:i <= k):xs[i]'(Nat.lt_of_le_of_lt h hk) <= xs[k]:=by
  rcases Nat.lt_or_eq_of_le h with z | z
  . exact Nat.le_of_lt (Kz r hk z)
  . subst z; exact Nat.le_refl _
structure Bel (xs:Array Nat) (j b:Nat):Prop where
  le:b <= xs.size
  lo:∀ i (h:i < xs.size),i < b->xs[i] < j
  hi:∀ i (h:i < xs.size),b <= i->j <= xs[i]
theorem Ha {xs:Array Nat} {j:Nat} (r:Ris xs.toList):∀ A5 lo hi,lo <= hi->hi <= xs.size->hi - lo <= A5->(∀ i (h:i < xs.size),i < lo->xs[i] < j)->(∀ i (h:i < xs.size),hi <= i->j <= xs[i])->Bel xs j (below.go xs j A5 lo hi)
  | 0,lo,hi,h1,h2,h3,h4,h5=>by
    have:lo=hi:=by omega
    subst this
    exact ⟨h2,h4,h5⟩
  | A5 + 1,lo,hi,h1,h2,h3,h4,h5=>by
    unfold below.go
    by_cases z:lo < hi
    . rw [if_pos z]
      have hm:(lo + hi) / 2 < hi:=by omega
      have hm2:lo <= (lo + hi) / 2:=by omega
      have hs:(lo + hi) / 2 < xs.size:=by omega
      have e:xs.getD ((lo + hi) / 2) j=xs[(lo + hi) / 2]:=by simp [Array.getD,hs]
      dsimp only
      rw [e]
      by_cases q:xs[(lo + hi) / 2] < j
      . rw [if_pos q]
        exact Ha r A5 _ hi (by omega) h2 (by omega) (fun i h hi'=>Nat.lt_of_le_of_lt (OM r hs (by omega)) q) h5
      . rw [if_neg q]
        exact Ha r A5 lo _ hm2 (by omega) (by omega) h4 (fun i h hi'=>Nat.le_trans (Nat.le_of_not_lt q) (OM r h hi'))
    . rw [if_neg z]
      have:lo=hi:=by omega
      subst this
      exact ⟨h2,h4,h5⟩
theorem D2 {xs:Array Nat} (r:Ris xs.toList) (j:Nat):Bel xs j (below xs j):=
  Ha r _ 0 _ (Nat.zero_le _) (Nat.le_refl _) (by omega) (fun i _ h=>absurd h (by omega)) (fun i h h2=>absurd h2 (by omega))
theorem QE {xs:Array Nat} (r:Ris xs.toList) {k:Nat} (hk:k < xs.size):below xs xs[k]=k:=by
  have b:=D2 r xs[k]
  rcases Nat.lt_trichotomy (below xs xs[k]) k with z | z | z
  . have h1:=b.hi _ (Nat.lt_trans z hk) (Nat.le_refl _)
    have h2:=Kz r hk z
    omega
  . exact z
  . have:=b.lo k hk z
    omega
theorem LT {xs:Array Nat} (r:Ris xs.toList) {k:Nat} (hk:k < xs.size):below xs (xs[k] + 1)=k + 1:=by
  have b:=D2 r (xs[k] + 1)
  rcases Nat.lt_trichotomy (below xs (xs[k] + 1)) (k + 1) with z | z | z
  . have h1:=b.hi k hk (by omega)
    omega
  . exact z
  . have h1:=b.lo (k + 1) (by have:=b.le; omega) z
    have h2:=Kz r (k:=k + 1) (i:=k) (by have:=b.le; omega) (by omega)
    omega
theorem LS {xs:Array Nat} (r:Ris xs.toList):below xs 0=0:=by
  have b:=D2 r 0
  rcases Nat.eq_zero_or_pos (below xs 0) with z | z
  . exact z
  . have:=b.lo 0 (by have:=b.le; omega) z
    omega
theorem OF {t:SetTable} (r:Ris t.place.toList) {j:Nat} (h:j ∈ t.place.toList):∃ i,t.slot j=.live i:=by
  obtain ⟨k,hk,e⟩:=List.getElem_of_mem h
  have hk':k < t.place.size:=by simpa using hk
  have e':t.place[k]=j:=by simpa using e
  refine ⟨k,?_⟩
  unfold slot
  have b:below t.place j=k:=by rw [← e']; exact QE r hk'
  dsimp only
  rw [b,if_pos (by simp [hk',e'])]
theorem Do {t:SetTable} (d:t.dummies = #[]) (j:Nat):t.slot j ≠ .dummy:=by
  unfold slot
  dsimp only
  split
  . exact fun h=>by cases h
  . rw [d]
    have:has (#[]:Array Nat) j=false:=by unfold has; simp
    rw [this]
    exact fun h=>by cases h
theorem Mw {t:SetTable} {i j:Nat} (h:t.slot j=.live i):j ∈ t.place.toList:=by
  unfold slot at h
  dsimp only at h
  split at h
  . rename_i e
    have e':t.place[below t.place j]? = some j:=by simpa using e
    obtain ⟨hk,e2⟩:=Array.getElem?_eq_some_iff.mp e'
    rw [← e2]
    simp
  . split at h <;> cases h
theorem Qg {xs:Array Nat} (r:Ris xs.toList) {j:Nat} (h:j ∉ xs.toList):Ris (insertAt xs (below xs j) j).toList:=by
  have b:=D2 r j
  rw [toList_insertAt]
  refine List.pairwise_append.mpr ⟨List.Pairwise.sublist (List.take_sublist _ _) r,List.pairwise_cons.mpr ⟨fun y hy=>?_,List.Pairwise.sublist (List.drop_sublist _ _) r⟩,fun x hx y hy=>?_⟩
  . obtain ⟨i,hi,e⟩:=List.getElem_of_mem hy
    rw [List.getElem_drop] at e
    have hs:below xs j + i < xs.size:=by simp at hi; omega
    have:=b.hi _ hs (Nat.le_add_right _ _)
    have e2:xs[below xs j + i]=y:=by simpa using e
    have hne:y ≠ j:=fun z=>h (by rw [← z]; exact List.mem_of_mem_drop hy)
    omega
  . have hxj:x < j:=by
      obtain ⟨i,hi,e⟩:=List.getElem_of_mem hx
      rw [List.getElem_take] at e
      have hi2:i < below xs j /\ i < xs.size:=by
        have:i < min (below xs j) xs.size:=by simpa using hi
        omega
      have e2:xs[i]'hi2.2=x:=by simpa using e
      have:=b.lo _ hi2.2 hi2.1
      omega
    rcases List.mem_cons.mp hy with z | z
    . rw [z]; exact hxj
    . obtain ⟨i,hi,e⟩:=List.getElem_of_mem z
      rw [List.getElem_drop] at e
      have hs:below xs j + i < xs.size:=by simp at hi; omega
      have:=b.hi _ hs (Nat.le_add_right _ _)
      have e2:xs[below xs j + i]=y:=by simpa using e
      omega
def lp (mask:Nat):Nat->Nat × Nat->Nat × Nat
  | 0,x=>x
  | n + 1,x=>lp mask n (leap mask x.1 x.2)
theorem PH (mask:Nat):∀ (a b:Nat) (x:Nat × Nat),lp mask (a + b) x=lp mask b (lp mask a x)
  | 0,b,x=>by rw [Nat.zero_add]; rfl
  | a + 1,b,x=>by
    rw [show a + 1 + b=(a + b) + 1 from by omega]
    exact PH mask a b _
theorem PF (mask:Nat):∀ (n:Nat) (x:Nat × Nat),(lp mask n x).2=x.2 / 32 ^ n
  | 0,x=>by simp [lp]
  | n + 1,x=>by
    show (lp mask n (leap mask x.1 x.2)).2=_
    rw [PF mask n]
    show x.2 / 32 / 32 ^ n=_
    rw [Nat.div_div_eq_div_mul,Nat.pow_succ,Nat.mul_comm]
theorem SA (mask:Nat):∀ (n:Nat) (x:Nat × Nat),x.1 < mask + 1->(lp mask n x).1 < mask + 1
  | 0,x,h=>h
  | n + 1,x,h=>SA mask n _ (Nat.mod_lt _ (by omega))
theorem So:∀ i,i < 8->∀ j,j < 8->∃ n,n < 8 /\ (lp 7 n (i,0)).1=j:=by decide +kernel
theorem Qf:∀ i,i < 16->∀ j,j < 16->∃ n,n < 16 /\ (lp 15 n (i,0)).1=j:=by decide +kernel
theorem Qe:∀ i,i < 32->∀ j,j < 32->∃ n,n < 32 /\ (lp 31 n (i,0)).1=j:=by decide +kernel
abbrev Sm (mask:Nat):Prop:=mask=7 ∨ mask=15 ∨ mask=31
theorem SO {mask:Nat} (hm:Sm mask) {i p:Nat} (hi:i < mask + 1) (hp:p < 2 ^ 64) {j:Nat} (hj:j < mask + 1):∃ n,n < turns mask /\ (lp mask n (i,p)).1=j:=by
  have h0:(lp mask 13 (i,p)).2=0:=by
    rw [PF]
    exact Nat.div_eq_of_lt (Nat.lt_trans hp (by decide))
  have h1:=SA mask 13 (i,p) hi
  have e:lp mask 13 (i,p)=((lp mask 13 (i,p)).1,0):=by rw [← h0]
  have:∃ n,n < mask + 1 /\ (lp mask n ((lp mask 13 (i,p)).1,0)).1=j:=by
    rcases hm with z | z | z <;> subst z
    . exact So _ h1 j hj
    . exact Qf _ h1 j hj
    . exact Qe _ h1 j hj
  obtain ⟨n,h2,h3⟩:=this
  refine ⟨13 + n,by unfold turns; omega,?_⟩
  rw [PH,e]
  exact h3
theorem Mb (h:Int):bits h < 2 ^ 64:=by
  unfold bits
  have h1:=Int.emod_nonneg h (show (2 ^ 64:Int) ≠ 0 by decide)
  have h2:=Int.emod_lt_of_pos h (show (0:Int) < 2 ^ 64 by decide)
  omega
abbrev start (t:SetTable) (i pt:Nat):Probe:={ j:=i,more:=runEnd t.mask i - i,i:=i,perturb:=pt,dummy:=none }
theorem ID {t:SetTable} (d:t.dummies = #[]) {f:Nat->Int} {h:Int} (hf:∀ i,f i ≠ h):∀ (A5:Nat) (p:Probe) (m:Met),p.dummy=none->probe.go t f h A5 p=some m->∃ j,m=.empty j none /\ t.slot j=.empty
  | 0,p,m,hp,e=>by cases e
  | A5 + 1,p,m,hp,e=>by
    unfold probe.go at e
    have hadv:(t.advance p).dummy=none:=by
      unfold advance
      split
      . exact hp
      . exact hp
    split at e
    . rename_i q
      cases e
      exact ⟨p.j,by rw [hp],q⟩
    . rename_i q
      exact absurd q (Do d _)
    . rename_i i q
      rw [if_neg (by simpa using hf i)] at e
      exact ID d hf A5 _ m hadv e
theorem Ju {t:SetTable} (d:t.dummies = #[]) {f:Nat->Int} {h:Int} (hf:∀ i,f i ≠ h):∀ (more A5 j i pt:Nat),probe.go t f h (A5 + more + 1) { j:=j,more:=more,i:=i,perturb:=pt,dummy:=none }=none->
    t.slot j ≠ .empty /\ probe.go t f h A5 (start t (leap t.mask i pt).1 (leap t.mask i pt).2)=none
  | 0,A5,j,i,pt,e=>by
    unfold probe.go at e
    split at e
    . cases e
    . rename_i q
      exact absurd q (Do d _)
    . rename_i k q
      rw [if_neg (by simpa using hf k)] at e
      have q':t.slot j=.live k:=q
      refine ⟨by rw [q']; exact fun z=>(by cases z),?_⟩
      have:t.advance { j:=j,more:=0,i:=i,perturb:=pt,dummy:=none }=start t (leap t.mask i pt).1 (leap t.mask i pt).2:=rfl
      rw [this] at e
      exact e
  | more + 1,A5,j,i,pt,e=>by
    rw [show A5 + (more + 1) + 1=(A5 + more + 1) + 1 from by omega] at e
    unfold probe.go at e
    split at e
    . cases e
    . rename_i q
      exact absurd q (Do d _)
    . rename_i k q
      rw [if_neg (by simpa using hf k)] at e
      have q':t.slot j=.live k:=q
      refine ⟨by rw [q']; exact fun z=>(by cases z),?_⟩
      have:t.advance { j:=j,more:=more + 1,i:=i,perturb:=pt,dummy:=none }={ j:=j + 1,more:=more,i:=i,perturb:=pt,dummy:=none }:=by
        unfold advance
        rw [if_pos (by simp)]
        rfl
      rw [this] at e
      exact (Ju d hf more A5 (j + 1) i pt e).2
theorem IB {t:SetTable} (d:t.dummies = #[]) {f:Nat->Int} {h:Int} (hf:∀ i,f i ≠ h):∀ (m A5 i pt:Nat),10 * m <= A5->probe.go t f h A5 (start t i pt)=none->∀ n,n < m->t.slot (lp t.mask n (i,pt)).1 ≠ .empty
  | 0,_,_,_,_,_,n,hn=>absurd hn (by omega)
  | m + 1,A5,i,pt,hl,e,n,hn=>by
    have hr:runEnd t.mask i - i <= 9:=by unfold runEnd; split <;> omega
    have ef:A5=(A5 - (runEnd t.mask i - i) - 1) + (runEnd t.mask i - i) + 1:=by omega
    rw [ef] at e
    obtain ⟨h1,h2⟩:=Ju d hf _ _ _ _ _ e
    cases n with
    | zero=>exact h1
    | succ n=>exact IB d hf m _ _ _ (by omega) h2 n (by omega)
theorem FF {α:Type} [DecidableEq α]:∀ {l r:List α},l.Nodup->(∀ x ∈ l,x ∈ r)->l.length <= r.length
  | [],_,_,_=>Nat.zero_le _
  | a :: l,r,hn,hs=>by
    obtain ⟨h1,h2⟩:=List.nodup_cons.mp hn
    have ha:=hs a (List.mem_cons_self ..)
    have:=FF (r:=r.erase a) h2 fun x hx=>(List.mem_erase_of_ne (fun z=>h1 (by rw [← z]; exact hx))).mpr (hs x (List.mem_cons_of_mem _ hx))
    rw [List.length_erase_of_mem ha] at this
    have hp:=List.length_pos_of_mem ha
    simp only [List.length_cons]
    omega
theorem Rh {t:SetTable} (d:t.dummies = #[]) (hm:Sm t.mask) (r:Ris t.place.toList) (hs:t.place.size <= t.mask) (h:Int):∃ j,t.freeSlot h=some (j,false) /\ t.slot j=.empty:=by
  have hf:∀ i:Nat,(fun _:Nat=>h + 1) i ≠ h:=fun i=>by show h + 1 ≠ h; omega
  unfold freeSlot
  cases e:t.probe (fun _=>h + 1) h (t.probeStart h) with
  | some m=>
    obtain ⟨j,rfl,q⟩:=ID d hf _ _ m rfl e
    exact ⟨j,rfl,q⟩
  | none=>
    exfalso
    have e':probe.go t (fun _=>h + 1) h (10 * turns t.mask) (start t (bits h % (t.mask + 1)) (bits h))=none:=e
    have hv:=IB d hf (turns t.mask) _ _ _ (Nat.le_refl _) e'
    have all:∀ j ∈ List.range (t.mask + 1),j ∈ t.place.toList:=fun j hj=>by
      obtain ⟨n,h1,h2⟩:=SO hm (i:=bits h % (t.mask + 1)) (p:=bits h) (Nat.mod_lt _ (by omega)) (Mb h) (List.mem_range.mp hj)
      have h3:=hv n h1
      rw [h2] at h3
      cases q:t.slot j with
      | empty=>exact absurd q h3
      | dummy=>exact absurd q (Do d _)
      | live i=>exact Mw q
    have:=FF List.nodup_range all
    simp at this
    omega
end Ht
namespace Ht
open PySem PySem.SetTable
theorem HH {α β:Type} {f g:α->Option β}:∀ {l:List α},(∀ x ∈ l,f x=g x)->l.filterMap f=l.filterMap g
  | [],_=>rfl
  | a :: l,h=>by
    have h1:=h a (List.mem_cons_self ..)
    have h2:=HH (l:=l) fun x hx=>h x (List.mem_cons_of_mem _ hx)
    cases q:g a with
    | none=>rw [List.filterMap_cons_none (h1.trans q),List.filterMap_cons_none q,h2]
    | some b=>rw [List.filterMap_cons_some (h1.trans q),List.filterMap_cons_some q,h2]
theorem Pg {β:Type} {f g:Nat->Option β} {j:Nat} {b:β} (hj:f j=none) (hg:g j=some b) (ho:∀ i,i ≠ j->g i=f i):∀ {l:List Nat},l.Nodup->j ∈ l->(l.filterMap g).Perm (b :: l.filterMap f)
  | [],_,h=>by cases h
  | a :: l,hn,h=>by
    obtain ⟨h1,h2⟩:=List.nodup_cons.mp hn
    by_cases e:a=j
    . subst e
      have same:l.filterMap g=l.filterMap f:=HH fun i hi=>ho i fun z=>h1 (by rw [← z]; exact hi)
      rw [List.filterMap_cons_some hg,List.filterMap_cons_none hj,same]
    . have hl:j ∈ l:=(List.mem_cons.mp h).resolve_left fun z=>e z.symm
      have ih:=Pg hj hg ho h2 hl
      cases q:f a with
      | none=>rw [List.filterMap_cons_none ((ho a e).trans q),List.filterMap_cons_none q]; exact ih
      | some c=>
        rw [List.filterMap_cons_some ((ho a e).trans q),List.filterMap_cons_some q]
        exact (ih.cons c).trans (List.Perm.swap b c _)
theorem KI {mask:Nat} {owner:Array (Option Nat)}:∀ (A5 i pt j:Nat),layClean.free mask owner A5 i pt=some j->owner.getD j (some 0)=none
  | 0,_,_,_,e=>by cases e
  | A5 + 1,i,pt,j,e=>by
    unfold layClean.free at e
    split at e
    . rename_i k q
      cases e
      have:=List.find?_some q
      simpa using this
    . exact KI A5 _ _ j e
theorem IR {mask:Nat} {owner:Array (Option Nat)}:∀ (m i pt:Nat),layClean.free mask owner m i pt=none->∀ n,n < m->owner.getD (lp mask n (i,pt)).1 (some 0) ≠ none
  | 0,_,_,_,n,hn=>absurd hn (by omega)
  | m + 1,i,pt,e,n,hn=>by
    unfold layClean.free at e
    split at e
    . cases e
    . rename_i q
      cases n with
      | zero=>
        have hr:i <= runEnd mask i:=by unfold runEnd; split <;> omega
        have:=List.find?_eq_none.mp q 0 (List.mem_range.mpr (by omega))
        intro z
        apply this
        show (owner.getD (i + 0) (some 0)).isNone=true
        rw [Nat.add_zero]
        have z':owner.getD i (some 0)=none:=z
        rw [z']; rfl
      | succ n=>exact IR m _ _ e n (by omega)
abbrev own (mask:Nat) (owner:Array (Option Nat)):List Nat:=(List.range (mask + 1)).filterMap fun j=>owner.getD j none
theorem NZ {owner:Array (Option Nat)} {j:Nat} (h:owner.getD j (some 0)=none):j < owner.size /\ owner.getD j none=none:=by
  unfold Array.getD at h ⊢
  split at h
  . rename_i q
    exact ⟨q,by rw [dif_pos q]; exact h⟩
  . cases h
theorem Na {owner:Array (Option Nat)} {j:Nat} (hj:j < owner.size) (h:owner.getD j (some 0) ≠ none):∃ k,owner.getD j none=some k:=by
  unfold Array.getD at h ⊢
  rw [dif_pos hj] at h ⊢
  cases e:owner[j] with
  | none=>exact absurd e h
  | some k=>exact ⟨k,e⟩
theorem Ri {mask:Nat} (hm:Sm mask) {owner:Array (Option Nat)} (hs:owner.size=mask + 1) {k:Nat} (hp:(own mask owner).Perm (List.range k)) (hk:k <= mask) (h:Int) :
    ∃ j,layClean.free mask owner (turns mask) (bits h % (mask + 1)) (bits h)=some j:=by
  cases e:layClean.free mask owner (turns mask) (bits h % (mask + 1)) (bits h) with
  | some j=>exact ⟨j,rfl⟩
  | none=>
    exfalso
    have hv:=IR _ _ _ e
    have len:∀ l:List Nat,(∀ j ∈ l,j < mask + 1)->(l.filterMap fun j=>owner.getD j none).length=l.length:=by
      intro l
      induction l with
      | nil=>intro _; rfl
      | cons a l ih=>
        intro ha
        obtain ⟨n,h1,h2⟩:=SO hm (i:=bits h % (mask + 1)) (p:=bits h) (Nat.mod_lt _ (by omega)) (Mb h) (ha a (List.mem_cons_self ..))
        have h3:=hv n h1
        rw [h2] at h3
        obtain ⟨c,hc⟩:=Na (by rw [hs]; exact ha a (List.mem_cons_self ..)) h3
        rw [List.filterMap_cons_some (f:=fun j=>owner.getD j none) hc,List.length_cons,ih fun j hj=>ha j (List.mem_cons_of_mem _ hj),List.length_cons]
    have h1:=len (List.range (mask + 1)) fun j hj=>List.mem_range.mp hj
    have h2:=hp.length_eq
    simp only [List.length_range] at h1 h2
    have h3:(own mask owner).length=mask + 1:=h1
    omega
def P7 (mask:Nat) (acc:Option (Array (Option Nat) × Nat)) (h:Int):Option (Array (Option Nat) × Nat):=do
  let (owner,k) ← acc
  let j ← layClean.free mask owner (turns mask) (bits h % (mask + 1)) (bits h)
  pure (owner.setIfInBounds j (some k),k + 1)
theorem KZ {mask:Nat} (hm:Sm mask):∀ (l:List Int) (owner:Array (Option Nat)) (k:Nat),owner.size=mask + 1->(own mask owner).Perm (List.range k)->k + l.length <= mask->
    ∃ owner',l.foldl (P7 mask) (some (owner,k))=some (owner',k + l.length) /\ owner'.size=mask + 1 /\ (own mask owner').Perm (List.range (k + l.length))
  | [],owner,k,hs,hp,_=>⟨owner,rfl,hs,hp⟩
  | h :: l,owner,k,hs,hp,hk=>by
    obtain ⟨j,e⟩:=Ri hm hs hp (by omega) h
    obtain ⟨hj,hn⟩:=NZ (KI _ _ _ _ e)
    have st:P7 mask (some (owner,k)) h=some (owner.setIfInBounds j (some k),k + 1):=by
      show ((layClean.free mask owner (turns mask) (bits h % (mask + 1)) (bits h)).bind fun j=>some (owner.setIfInBounds j (some k),k + 1))=_
      rw [e]; rfl
    have hp':(own mask (owner.setIfInBounds j (some k))).Perm (List.range (k + 1)):=by
      have:=Pg (f:=fun j=>owner.getD j none) (g:=fun i=>(owner.setIfInBounds j (some k)).getD i none) (b:=k) hn (by simp [Array.getD,hj]) (fun i hi=>by
        simp only [Array.getD,Array.size_setIfInBounds]
        split
        . rename_i hi2
          show (owner.setIfInBounds j (some k))[i]'(by rw [Array.size_setIfInBounds]; exact hi2)=owner[i]
          rw [Array.getElem_setIfInBounds_ne]; exact hi.symm
        . rfl) (List.nodup_range (n:=mask + 1)) (List.mem_range.mpr (by omega))
      refine this.trans ((hp.cons k).trans ?_)
      rw [List.range_succ]
      exact (List.perm_append_singleton k (List.range k)).symm
    obtain ⟨owner',e1,e2,e3⟩:=KZ hm l (owner.setIfInBounds j (some k)) (k + 1) (by rw [Array.size_setIfInBounds]; exact hs) hp' (by simp at hk; omega)
    refine ⟨owner',?_,e2,?_⟩
    . rw [List.foldl_cons,st,e1]
      simp only [List.length_cons]
      rw [show k + 1 + l.length=k + (l.length + 1) from by omega]
    . rw [show k + (h :: l).length=k + 1 + l.length from by simp only [List.length_cons]; omega]
      exact e3
theorem P5 {mask:Nat} (hm:Sm mask) (hashes:Array Int) (hk:hashes.size <= mask):∃ owner,layClean mask hashes=some owner /\ owner.size=mask + 1 /\ (own mask owner).Perm (List.range hashes.size):=by
  have h0:(own mask (Array.replicate (mask + 1) none)).Perm (List.range 0):=by
    have:own mask (Array.replicate (mask + 1) none)=[]:=by
      unfold own
      rw [List.filterMap_eq_nil_iff]
      intro j hj
      have:=List.mem_range.mp hj
      simp [Array.getD,this]
    rw [this]
    exact List.Perm.refl _
  obtain ⟨owner,e1,e2,e3⟩:=KZ hm hashes.toList (Array.replicate (mask + 1) none) 0 (by simp) h0 (by simpa using hk)
  simp only [Nat.zero_add,Array.length_toList] at e1 e3
  refine ⟨owner,?_,e2,e3⟩
  have:layClean mask hashes=(hashes.foldl (P7 mask) (some (Array.replicate (mask + 1) none,0))).map (·.1):=rfl
  rw [this,← Array.foldl_toList,e1]
  rfl
theorem RP {mask:Nat} (hm:Sm mask) (hashes:Array Int) (hk:hashes.size <= mask) (finger moves:Nat) (led plain:Bool) :
    ∃ place order,laid mask finger moves led plain hashes=some ({ mask,place,dummies:=#[],finger,led,moves,plain },order) /\ Ris place.toList /\ place.size=hashes.size /\ order.toList.Perm (List.range hashes.size):=by
  obtain ⟨owner,e1,e2,e3⟩:=P5 hm hashes hk
  unfold laid
  rw [e1]
  refine ⟨_,_,rfl,?_,?_,?_⟩
  . simp only []
    rw [List.map_filterMap]
    have:(List.range (mask + 1)).filterMap (fun x=>Option.map (fun x=>x.1) (Option.map (fun x_1=>(x,x_1)) (owner.getD x none)))=(List.range (mask + 1)).filter fun x=>(owner.getD x none).isSome:=by
      induction List.range (mask + 1) with
      | nil=>rfl
      | cons a l ih=>
        cases q:owner.getD a none with
        | none=>rw [List.filterMap_cons_none (by rw [q]; rfl),List.filter_cons_of_neg (by rw [q]; simp),ih]
        | some c=>rw [List.filterMap_cons_some (b:=a) (by rw [q]; rfl),List.filter_cons_of_pos (by rw [q]; rfl),ih]
    rw [this]
    exact List.Pairwise.sublist List.filter_sublist List.pairwise_lt_range
  . have:=e3.length_eq
    rw [List.length_range] at this
    rw [← this]
    simp only [List.size_toArray,List.length_map]
    unfold own
    induction List.range (mask + 1) with
    | nil=>rfl
    | cons a l ih=>
      cases q:owner.getD a none with
      | none=>rw [List.filterMap_cons_none (by rw [q]; rfl),List.filterMap_cons_none (f:=fun j=>owner.getD j none) q,ih]
      | some c=>rw [List.filterMap_cons_some (b:=(a,c)) (by rw [q]; rfl),List.filterMap_cons_some (f:=fun j=>owner.getD j none) q,List.length_cons,List.length_cons,ih]
  . simp only []
    rw [List.map_filterMap]
    have:(List.range (mask + 1)).filterMap (fun x=>Option.map (fun x=>x.2) (Option.map (fun x_1=>(x,x_1)) (owner.getD x none)))=own mask owner:=by
      unfold own
      refine HH fun i _=>?_
      cases owner.getD i none <;> rfl
    rw [this]
    exact e3
structure Tab (t:SetTable) (n:Nat):Prop where
  ris:Ris t.place.toList
  sz:t.place.size=n
  dm:t.dummies = #[]
  mks:(t.mask=7 /\ n <= 4) ∨ (t.mask=31 /\ n <= 18)
  pl:t.plain=true
theorem Tab.sm {t:SetTable} {n:Nat} (h:Tab t n):Sm t.mask:=h.mks.elim (fun z=>.inl z.1) fun z=>.inr (.inr z.1)
theorem Mr (led:Bool):Tab (.fresh 0 0 led) 0:=⟨List.Pairwise.nil,rfl,rfl,.inl ⟨rfl,by omega⟩,rfl⟩
theorem Tab.fits {t:SetTable} {n:Nat} (h:Tab t n):t.fits n=true:=by
  unfold SetTable.fits fill
  rw [h.sz,h.dm]
  rcases h.mks with ⟨a,b⟩ | ⟨a,b⟩ <;> simp [a] <;> omega
theorem Tk {t:SetTable} {es:Array (Int × Value)} (T:Tab t es.size) (hn:es.size + 1 <= 18) (h:Int) (x:Value) :
    ∃ t1 es1,layNew t es h x=(es1,t1,false,false) /\ Ris t1.place.toList /\ t1.place.size=es.size + 1 /\ t1.dummies = #[] /\ t1.mask=t.mask /\ t1.plain=true /\ t1.led=t.led /\ t1.moves=t.moves /\ t1.finger=t.finger /\ es1.toList.Perm (es.toList ++ [(h,x)]):=by
  have hsz:=T.sz
  obtain ⟨j,e,q⟩:=Rh T.dm T.sm T.ris (by rcases T.mks with ⟨a,b⟩ | ⟨a,b⟩ <;> omega) h
  have hj:j ∉ t.place.toList:=fun z=>by
    obtain ⟨i,hi⟩:=OF T.ris z
    rw [q] at hi; cases hi
  have hperm:=layNew_perm t es h x
  have hz:(insertAt t.place (below t.place j) j).size=es.size + 1:=by
    have:=(insertAt_perm t.place (below t.place j) j).length_eq
    simp at this
    omega
  have hd:(if has t.dummies j=true then eraseAt t.dummies (below t.dummies j) else t.dummies) = #[]:=by
    rw [T.dm]
    have:has (#[]:Array Nat) j=false:=by unfold has; simp
    rw [this]; rfl
  have hes:(insertAt es (below t.place j) (h,x)).size=es.size + 1:=by
    have:=(insertAt_perm es (below t.place j) (h,x)).length_eq
    simpa using this
  have hfit:(t.put j).1.fits (es.size + 1)=true:=by
    unfold SetTable.fits fill put
    simp only [hd,hz]
    rcases T.mks with ⟨a,b⟩ | ⟨a,b⟩ <;> simp [a] <;> omega
  have hl:layNew t es h x=(insertAt es (below t.place j) (h,x),(t.put j).1,false,false):=by
    unfold layNew
    rw [e]
    show (insertAt es (below t.place j) (h,x),(t.put j).1.orStandIn (insertAt es (below t.place j) (h,x)).size,false,!(t.put j).1.fits (insertAt es (below t.place j) (h,x)).size)=_
    rw [hes,hfit]
    unfold orStandIn
    rw [hfit]
    rfl
  rw [hl] at hperm
  refine ⟨_,_,hl,Qg T.ris hj,hz,hd,rfl,T.pl,rfl,rfl,rfl,?_⟩
  rw [Array.toList_push] at hperm
  exact hperm
theorem OQ {t:SetTable} {es:Array (Int × Value)} {wanted:Nat} (hw:sizeAbove wanted=32) (hn:es.size <= 18) (hp:t.plain=true) :
    ∃ t1 es1,relayAll t es wanted=(es1,t1,false) /\ Tab t1 es1.size /\ t1.led=t.led /\ es1.toList.Perm es.toList:=by
  have hperm:=relayAll_perm t es wanted
  obtain ⟨place,order,e,r,hs,ho⟩:=RP (mask:=31) (.inr (.inr rfl)) (es.map (·.1)) (by simp; omega) t.finger (t.movedTo 31) t.led t.plain
  simp only [Array.size_map] at hs ho
  have hsz:(order.filterMap (es[·]?)).size=es.size:=by
    have h1:((order.filterMap (es[·]?)).toList).Perm es.toList:=by
      rw [Array.toList_filterMap]
      exact (ho.filterMap _).trans (by rw [filterMap_getElem?_range])
    have:=h1.length_eq
    rwa [Array.length_toList,Array.length_toList] at this
  have hl:relayAll t es wanted=(order.filterMap (es[·]?),{ mask:=31,place,dummies:=#[],finger:=t.finger,led:=t.led,moves:=t.movedTo 31,plain:=t.plain },false):=by
    unfold relayAll relaid
    rw [hw]
    simp only []
    rw [e]
    simp only []
    have c1:coversAll order es.size=true:=by
      unfold coversAll
      exact List.isPerm_iff.mpr ho
    have c2:SetTable.fits { mask:=31,place,dummies:=#[],finger:=t.finger,led:=t.led,moves:=t.movedTo 31,plain:=t.plain } (order.filterMap (es[·]?)).size=true:=by
      unfold SetTable.fits fill
      rw [hsz]
      simp [hs]
      omega
    rw [c1,c2]
    rfl
  rw [hl] at hperm
  exact ⟨_,_,hl,⟨r,by rw [hsz]; exact hs,rfl,.inr ⟨rfl,by rw [hsz]; exact hn⟩,hp⟩,rfl,hperm⟩
end Ht
namespace Ht
open PySem PySem.SetTable
def BC (xs:List Int):List Int:=xs.foldl (fun ys x=>if x ∈ ys then ys else ys ++ [x]) []
theorem Fb (xs:List Int) (x:Int):BC (xs ++ [x])=if x ∈ BC xs then BC xs else BC xs ++ [x]:=by
  unfold BC
  rw [List.foldl_append]
  rfl
theorem L4:∀ (xs ys:List Int),∃ zs,xs.foldl (fun ys x=>if x ∈ ys then ys else ys ++ [x]) ys=ys ++ zs
  | [],ys=>⟨[],by simp⟩
  | x :: xs,ys=>by
    rw [List.foldl_cons]
    obtain ⟨zs,e⟩:=L4 xs (if x ∈ ys then ys else ys ++ [x])
    rw [e]
    split
    . exact ⟨zs,rfl⟩
    . exact ⟨x :: zs,by simp⟩
theorem O2 (xs ys:List Int):∃ zs,BC (xs ++ ys)=BC xs ++ zs:=by
  unfold BC
  rw [List.foldl_append]
  exact L4 _ _
theorem NJ (xs:List Int) (i:Nat):(BC (xs.take i)).length <= (BC xs).length:=by
  obtain ⟨zs,e⟩:=O2 (xs.take i) (xs.drop i)
  rw [List.take_append_drop] at e
  rw [e,List.length_append]
  omega
theorem Jo {p:List Int->Prop} (h0:p []) (h1:∀ xs x,p xs->p (xs ++ [x])) (xs:List Int):p xs:=by
  rw [← List.reverse_reverse xs]
  induction xs.reverse with
  | nil=>exact h0
  | cons a l ih=>rw [List.reverse_cons]; exact h1 _ _ ih
theorem J2 (xs:List Int) (k:Int):k ∈ BC xs ↔ k ∈ xs:=by
  refine Jo (p:=fun xs=>k ∈ BC xs ↔ k ∈ xs) (by simp [BC]) (fun xs x ih=>?_) xs
  rw [Fb]
  split
  . rename_i h
    simp only [List.mem_append,List.mem_singleton,← ih]
    exact ⟨.inl,fun z=>z.elim id fun e=>e ▸ h⟩
  . simp only [List.mem_append,List.mem_singleton,ih]
theorem G1 (xs:List Int):(BC xs).Nodup:=by
  refine Jo (p:=fun xs=>(BC xs).Nodup) (by simp [BC]) (fun xs x ih=>?_) xs
  rw [Fb]
  split
  . exact ih
  . rename_i h
    rw [List.nodup_append]
    refine ⟨ih,by simp,fun a ha b hb=>?_⟩
    simp at hb
    subst hb
    exact fun e=>h (e ▸ ha)
open PyProof.Rows
abbrev EN (l:List (Int × Value)) (ks:List Int):Prop:=IntsAre (l.map (·.2)) ks
theorem Fh:∀ {vs ws:List Value} (_:vs.Perm ws) {ks:List Int},IntsAre ws ks->∃ ms,IntsAre vs ms /\ ms.Perm ks:=by
  intro vs ws p
  induction p with
  | nil=>intro ks h; cases h; exact ⟨[],.nil,.refl _⟩
  | cons x _ ih=>
    intro ks h
    cases h with
    | cons n t h=>
      obtain ⟨ms,h1,h2⟩:=ih h
      exact ⟨n :: ms,.cons n t h1,h2.cons n⟩
  | swap x y l=>
    intro ks h
    cases h with
    | cons n t h=>
      cases h with
      | cons m u h=>exact ⟨m :: n :: _,.cons m u (.cons n t h),.swap n m _⟩
  | trans _ _ ih1 ih2=>
    intro ks h
    obtain ⟨ms,h1,h2⟩:=ih2 h
    obtain ⟨ls,h3,h4⟩:=ih1 h1
    exact ⟨ls,h3,h4.trans h2⟩
theorem Pr:∀ {l:List (Int × Value)} {ks:List Int},EN l ks->∀ (k:Int),(∃ e ∈ l,Value.isInt k e.2=true) ↔ k ∈ ks
  | [],_,h,k=>by
    have h:IntsAre [] _:=h
    cases h
    simp
  | e :: l,_,h,k=>by
    obtain ⟨a,v⟩:=e
    have h:IntsAre (v :: l.map (·.2)) _:=h
    cases h with
    | cons n t h1=>
      have ih:=Pr (l:=l) h1 k
      constructor
      . rintro ⟨e,he,q⟩
        rcases List.mem_cons.mp he with rfl | he
        . have:Value.isInt k (.int n t)=true:=q
          simp [Value.isInt] at this
          subst this
          exact List.mem_cons_self ..
        . exact List.mem_cons_of_mem _ (ih.mp ⟨e,he,q⟩)
      . intro hk
        rcases List.mem_cons.mp hk with rfl | hk
        . exact ⟨_,List.mem_cons_self ..,by simp [Value.isInt]⟩
        . obtain ⟨e,he,q⟩:=ih.mpr hk
          exact ⟨e,List.mem_cons_of_mem _ he,q⟩
def SetI (prog:Program) (w:World) (h:Heap) (a:Addr) (ks:List Int):Prop:=
  ∃ o es ep t,h.get? a=some o /\ o.ExactSet /\ o.data=.set es ep t /\ ElemsOf (intKind prog w) es.toList /\ (∃ ns,EN es.toList ns /\ ns.Perm ks) /\ Tab t es.size /\ t.led = !(w.params.followText "set-order")
theorem SetI.at {prog:Program} {w:World} {h h':Heap} {a:Addr} {ks:List Int} (z:SetI prog w h a ks) (k:∀ o,h.get? a=some o->h'.get? a=some o):SetI prog w h' a ks:=by
  obtain ⟨o,es,ep,t,e,rest⟩:=z
  exact ⟨o,es,ep,t,k o e,rest⟩
theorem MT {l:Array (Int × Value)} {ns ks:List Int} (h:EN l.toList ns) (p:ns.Perm ks):l.size=ks.length:=by
  have h1:=congrArg List.length h.nums
  rw [List.length_map,List.length_map,Array.length_toList] at h1
  rw [h1,p.length_eq]
section
variable {prog:Program} {w:World} {A:Around} {E:Value->Shared->Prop} {s:Shared}
theorem ML {h:Heap} {a:Addr} {o:Obj} {es:Array (Int × Value)} {ep:Nat} {t:SetTable} (ho:h.get? a=some o) (hd:o.data=.set es ep t) (es':Array (Int × Value)) (t':SetTable) :
    (h.update a (Obj.putSet es' t')).get? a=some { o with data:=.set es' (ep + 1) t' }:=by
  have:=Heap.get?_update_self (Obj.putSet es' t') ho (by rw [putSet_of es' t' hd]; rfl)
  rw [putSet_of es' t' hd] at this
  exact this
theorem OI {a:Addr} {ks:List Int} {n:Int} {tk:Tok} {Q:Bool->Shared->Prop} (hS:SetI prog w s.heap a ks) (room:(if n ∈ ks then ks else ks ++ [n]).length <= 18)
    (q:∀ b h' tk,Heap.SameBut a s.heap h'->SetI prog w h' a (if n ∈ ks then ks else ks ++ [n])->Q b { s with heap:=h',toks:=tk }) :
    wpAny (model prog w) A (setAdd a (.int n tk)) Q E s:=by
  obtain ⟨o,es,ep,t,ho,hex,hd,hel,⟨ns,hen,hp⟩,T,hled⟩:=hS
  have hsz:=MT hen hp
  have hb:es.size < scanBound:=by rcases T.mks with ⟨_,b⟩ | ⟨_,b⟩ <;> (unfold scanBound; omega)
  unfold setAdd
  refine wpAny_holding (wpAny_bind ((intKind prog w).pyHash (intKind_is prog w n tk) ?_))
  unfold setAddHashed setAddHashedIn
  refine wpAny_holding (wpAny_bind (wpAny_setState_of (s:={ s with toks:=s.toks + 1 }) ho hd T.fits ?_))
  dsimp only
  rw [byScan_of (knd:=intKind prog w) rfl hb hel]
  simp only [↓reduceIte]
  unfold setAddByScan
  refine wpAny_bind ?_
  refine wpAny_bind (wpAny_rule ?_)
  refine wpAny_bind (wpAny_setScan_of (knd:=intKind prog w) (s:={ s with toks:=s.toks + 1 }) (intKind_is prog w n tk) ho hd T.fits hel ?_)
  have mem:=Pr hen n
  rw [hp.mem_iff] at mem
  cases hr:List.findIdx? (fun e=>(intKind prog w).is n e.2) es.toList with
  | some j=>
    dsimp only
    obtain ⟨hj,hpj,_⟩:=List.findIdx?_eq_some_iff_getElem.mp hr
    have hm:n ∈ ks:=mem.mp ⟨es.toList[j],List.getElem_mem hj,hpj⟩
    refine wpAny_pure (wpAny_pure ?_)
    rw [if_pos hm] at q
    exact q _ s.heap _ (Heap.SameBut.refl a s.heap) ⟨o,es,ep,t,ho,hex,hd,hel,⟨ns,hen,hp⟩,T,hled⟩
  | none=>
    dsimp only
    have hm:n ∉ ks:=fun z=>by
      obtain ⟨e,he,hq⟩:=mem.mpr z
      have:=List.findIdx?_eq_none_iff.mp hr e he
      have hq':(intKind prog w).is n e.2=true:=hq
      rw [hq'] at this
      exact Bool.noConfusion this
    rw [if_neg hm,List.length_append,List.length_singleton] at room
    rw [if_neg hm] at q
    obtain ⟨t1,es1,e1,r1,z1,d1,m1,p1,l1,_,_,q1⟩:=Tk T (by omega) ((intKind prog w).hash n) (.int n tk)
    rw [e1]
    dsimp only
    have s1:es1.size=es.size + 1:=by
      have:=q1.length_eq
      simpa using this
    have hel1:ElemsOf (intKind prog w) es1.toList:=(hel.push (intKind_is prog w n tk) rfl).perm q1
    have hen0:EN (es.toList ++ [((intKind prog w).hash n,Value.int n tk)]) (ns ++ [n]):=by
      unfold EN
      rw [List.map_append]
      exact IntsAre.append hen (.cons n tk .nil)
    obtain ⟨ms,hen1,hp1⟩:=Fh (q1.map (·.2)) hen0
    have hp2:ms.Perm (ks ++ [n]):=hp1.trans (hp.append_right [n])
    refine wpAny_bind (wpAny_pure ?_)
    rw [p1]
    simp only [↓reduceIte]
    refine wpAny_bind ?_
    rw [hashByValue_scannable 8 (x:=.int n tk) rfl]
    refine wpAny_pure ?_
    simp only [plainKind,↓reduceIte]
    refine wpAny_bind (wpAny_storeSet_of (s:={ s with toks:=s.toks + 1 }) ho hd ?_ (by rw [sizeLine_eq]; omega))
    have ho1:=ML ho hd es1 t1
    have sb1:=Heap.SameBut.update s.heap a (Obj.putSet es1 t1)
    simp only [Bool.not_false,Bool.true_and]
    by_cases hf:t1.tooFull=true
    . rw [if_pos hf]
      have small:es1.size=5:=by
        unfold SetTable.tooFull SetTable.fill at hf
        rw [z1,d1,m1] at hf
        simp at hf
        rcases T.mks with ⟨a,b⟩ | ⟨a,b⟩ <;> rw [a] at hf <;> omega
      obtain ⟨t2,es2,e2,T2,l2,q2⟩:=OQ (t:=t1) (es:=es1) (wanted:=grown es1.size) (by rw [small]; decide +kernel) (by omega) p1
      rw [e2]
      dsimp only
      refine wpAny_bind (wpAny_pure ?_)
      have s2:es2.size=es1.size:=by
        have:=q2.length_eq
        simpa using this
      refine wpAny_bind (wpAny_storeSet_of (s:={ s with heap:=s.heap.update a (Obj.putSet es1 t1),toks:=s.toks + 1 }) ho1 rfl ?_ (by rw [sizeLine_eq]; omega))
      obtain ⟨ls,hen2,hp3⟩:=Fh (q2.map (·.2)) hen1
      refine wpAny_pure (wpAny_pure (q _ _ _ (sb1.trans (Heap.SameBut.update _ a _)) ?_))
      exact ⟨_,es2,_,t2,ML ho1 rfl es2 t2,hex,rfl,hel1.perm q2,⟨ls,hen2,hp3.trans hp2⟩,T2,by rw [l2,l1]; exact hled⟩
    . rw [if_neg hf]
      refine wpAny_pure (wpAny_pure (q _ _ _ sb1 ⟨_,es1,_,t1,ho1,hex,rfl,hel1,⟨ms,hen1,hp2⟩,⟨r1,by omega,d1,?_,p1⟩,by rw [l1]; exact hled⟩))
      rw [m1]
      unfold SetTable.tooFull SetTable.fill at hf
      rw [z1,d1,m1] at hf
      simp at hf
      rcases T.mks with ⟨a,b⟩ | ⟨a,b⟩
      . rw [a] at hf
        exact .inl ⟨a,by omega⟩
      . exact .inr ⟨a,by omega⟩
end
end Ht
namespace Ht
open PySem PySem.Spec PyProof.Rows Sem L2
section
variable {prog:Program} {w:World} {A:Around} {E:Value->Shared->Prop} {s:Shared}
theorem My {I S:Addr} {ns:List Int} {fp:List Addr} {P:Nat->Value->Prop} {St:Nat->Heap->Prop} (W:Walks prog w A.in1 I fp [I] ns.length P St) (hP:∀ i v,P i v->∃ t,v=.int (ns.getD i 0) t)
    (hSI:S ≠ I) (hSf:S ∉ fp) (room:(BC ns).length <= 18) {R:Result->Shared->Prop} :
    ∀ (m i:Nat) (s:Shared),ns.length - i=m->i <= ns.length->St i s.heap->SetI prog w s.heap S (BC (ns.take i))->
      (∀ h' tk,(∀ c o,c ≠ S->c ≠ I->s.heap.get? c=some o->h'.get? c=some o)->SetI prog w h' S (BC ns)->R (.ok (.ret .none)) { s with heap:=h',toks:=tk })->
      codeAny (model prog w) A (.builtin "set.update.loop" ⟨[.ref S,.ref I],[]⟩) R s:=by
  intro m
  induction m with
  | zero=>
    intro i s hm hi hst hS q
    have ei:i=ns.length:=by omega
    subst ei
    refine codeAny_builtin PyProof.Rows.F.entry_set_update_loop ?_
    rw [Around.under_plainId PyProof.Rows.F.plain_set_update_loop _]
    refine wpAny_bind (m:=pyNext (.ref I)) (W.done s _ _ hst fun h' tk kp=>wpAny_pure ?_)
    rw [List.take_length] at hS
    exact q h' tk (fun c o _ c2 e=>kp c o (by simpa using c2) e) (hS.at fun o e=>kp S o (by simpa using hSI) e)
  | succ m ih=>
    intro i s hm hi hst hS q
    have lt:i < ns.length:=by omega
    refine codeAny_builtin PyProof.Rows.F.entry_set_update_loop ?_
    rw [Around.under_plainId PyProof.Rows.F.plain_set_update_loop _]
    refine wpAny_bind (m:=pyNext (.ref I)) (W.item i s _ _ lt hst fun v h' tk hv st kp=>?_)
    obtain ⟨t,rfl⟩:=hP i v hv
    have eg:ns.getD i 0=ns[i]:=by simp [lt]
    rw [eg]
    have tk1:ns.take i ++ [ns[i]]=ns.take (i + 1):=by rw [List.take_succ,List.getElem?_eq_getElem lt]; rfl
    have nb:(if ns[i] ∈ BC (ns.take i) then BC (ns.take i) else BC (ns.take i) ++ [ns[i]])=BC (ns.take (i + 1)):=by rw [← tk1,Fb]
    have hS1:SetI prog w h' S (BC (ns.take i)):=hS.at fun o e=>kp S o (by simpa using hSI) e
    refine wpAny_bind (wpAny_holding (OI (s:={ s with heap:=h',toks:=tk }) hS1 (by rw [nb]; exact Nat.le_trans (NJ _ _) room) fun b h2 t2 sb hS2=>?_))
    rw [nb] at hS2
    have k2:∀ c o,c ≠ S->h'.get? c=some o->h2.get? c=some o:=fun c o hc e=>(sb.2 c hc).trans e
    refine wpAny_pure ⟨plainId_quiet PyProof.Rows.F.plain_set_update_loop _,ih (i + 1) _ (by omega) lt (W.frame _ _ _ st fun b hb o e=>k2 b o (fun z=>hSf (z ▸ hb)) e) hS2 fun h3 t3 kp3 hS3=>?_⟩
    exact q h3 t3 (fun c o c1 c2 e=>kp3 c o c1 c2 (k2 c o c1 (kp c o (by simpa using c2) e))) hS3
theorem Qa (a:Value) {Q:Value->Shared->Prop} (h:Q (.ref s.heap.objs.size) { s with heap:=s.heap.push (A6 !(w.params.followText "set-order")) }) :
    codeAny (model prog w) A (.call (.builtin "set.__new__") ⟨[.type "set",a],[]⟩) (wants Q E) s:=by
  refine codeAny_call_builtin (b:=Builtin.«set.__new__») PySem.F.plain_set_new PySem.F.entry_set_new (wpAny_of_eq (PySem.F.newCall_set_1 a) ?_)
  unfold Builtin.«set.__new__» Builtin.Frozenset.newClass
  have z:=sub_set_self
  wp_walk
  refine wpAny_askSetting (wpAny_pure ?_)
  have e:∀ {Q:Value->Shared->Prop} {E:Value->Shared->Prop} (t:SetTable),Q (.ref s.heap.objs.size) { s with heap:=s.heap.push { cls:=.type "set",data:=.set #[] 0 t } }->wpAny (model prog w) A.in1 (newObj (.type "set") (.set #[] 0 t)) Q E s:=fun t z=>by
    unfold newObj
    wp_walk
    first | exact z | exact wpAny_bind (wpAny_alloc (wpAny_pure z)) | trace_state
  exact e _ (wpAny_pure h)
set_option maxHeartbeats 2000000 in
theorem Ic {T:String} {l:Addr} {ns:List Int} {Q:Value->Shared->Prop} {fp:Addr->List Addr} {P:Nat->Value->Prop} {St:Addr->Nat->Heap->Prop} {itO:Obj}
    (c1:isSubtype (.type T) (.type "set")=Pure.pure false) (c2:isSubtype (.type T) (.type "frozenset")=Pure.pure false) (c3:(Value.type T == Value.type "dict")=false)
    (tyl:∀ {s':Shared},(∀ o,s.heap.get? l=some o->s'.heap.get? l=some o)->s'.TypeIs (.ref l) T)
    (walk:∀ {s':Shared} {A':Around} {E' Q':Value->Shared->Prop},(∀ o,s.heap.get? l=some o->s'.heap.get? l=some o)->Q' (.ref s'.heap.objs.size) { s' with heap:=s'.heap.push itO }->wpAny (model prog w) A' (pyIter (.ref l)) Q' E' s')
    (W:∀ I,l ≠ I->Walks prog w A.in1.in1.in1 I (fp I) [I] ns.length P (St I)) (hP:∀ i v,P i v->∃ t,v=.int (ns.getD i 0) t) (hfp:∀ I,∀ b ∈ fp I,b=I ∨ b=l) (hl:∃ o,s.heap.get? l=some o)
    (hfr:itO.isFreed=false) (st0:∀ {h:Heap} (I:Addr),h.get? I=some itO->(∀ o,s.heap.get? l=some o->h.get? l=some o)->St I 0 h) (room:(BC ns).length <= 18)
    (q:∀ h' tk,(∀ c o,s.heap.get? c=some o->h'.get? c=some o)->SetI prog w h' s.heap.objs.size (BC ns)->Q (.ref s.heap.objs.size) { s with heap:=h',toks:=tk }) :
    wpAny (model prog w) A (call (.type "set") [.ref l]) Q E s:=by
  refine RN PySem.F.called_set (PySem.F.typeCall_set_1 _) (Qa (.ref l) (Q:=fun x s₁=>x=.ref s.heap.objs.size /\ s₁={ s with heap:=s.heap.push (A6 !(w.params.followText "set-order")) }) ⟨rfl,rfl⟩) ?_
  rintro x s₁ ⟨rfl,rfl⟩
  generalize hled:(!(w.params.followText "set-order"))=led
  have at_S:(s.heap.push (A6 led)).get? s.heap.objs.size=some (A6 led):=Heap.get?_push_size _ rfl
  have ty:Shared.TypeIs { s with heap:=s.heap.push (A6 led) } (.ref s.heap.objs.size) "set" := ⟨_,at_S,rfl⟩
  have lt:l < s.heap.objs.size:=by obtain ⟨o,e⟩:=hl; exact Heap.lt_size e
  have kl:∀ o,s.heap.get? l=some o->(s.heap.push (A6 led)).get? l=some o:=fun o e=>Heap.get?_push_of_some _ e
  have tyl:=tyl (s':={ s with heap:=s.heap.push (A6 led) }) kl
  refine ⟨ty,codeAny_call_builtin PySem.F.called_set.init.plain PySem.F.entry_set_init (check_set_init_1 ty ?_)⟩
  unfold Builtin.«set.__init__» noKeywords Builtin.Frozenset.updateFrom
  have walk':∀ (A:Around) (E:Value->Shared->Prop) (Q:Value->Shared->Prop),Q (.ref (s.heap.push (A6 led)).objs.size) { s with heap:=(s.heap.push (A6 led)).push itO }->wpAny (model prog w) A (pyIter (.ref l)) Q E { s with heap:=s.heap.push (A6 led) }:=fun A E Q z=>walk (s':={ s with heap:=s.heap.push (A6 led) }) kl z
  wp_walk using walk'
  have sz:(s.heap.push (A6 led)).objs.size=s.heap.objs.size + 1:=Heap.size_push ..
  have ne1:l ≠ (s.heap.push (A6 led)).objs.size:=by rw [sz]; exact Nat.ne_of_lt (Nat.lt_succ_of_lt lt)
  have ne2:s.heap.objs.size ≠ (s.heap.push (A6 led)).objs.size:=by rw [sz]; exact Nat.ne_of_lt (Nat.lt_succ_self _)
  have hSf:s.heap.objs.size ∉ fp (s.heap.push (A6 led)).objs.size:=fun z=>(hfp _ _ z).elim ne2 (Nat.ne_of_gt lt)
  refine My (A:=A.in1.in1) (W _ ne1) hP ne2 hSf room ns.length 0 _ (Nat.sub_zero _) (Nat.zero_le _) (st0 _ (Heap.get?_push_size _ hfr) fun o e=>Heap.get?_push_of_some _ (kl o e)) ?start fun h' tk kp hS=>?fin
  case start=>
    refine ⟨_,#[],0,_,Heap.get?_push_of_some _ at_S,⟨rfl,rfl,rfl⟩,rfl,?_,⟨[],.nil,.refl _⟩,Mr led,hled.symm⟩
    intro e he
    cases he
  case fin=>
    have ltS:∀ {c:Addr} {o:Obj},s.heap.get? c=some o->c < s.heap.objs.size:=fun e=>Heap.lt_size e
    exact wpAny_pure (wpAny_pure ⟨rfl,q h' tk (fun c o e=>kp c o (Nat.ne_of_lt (ltS e)) (by rw [sz]; exact Nat.ne_of_lt (Nat.lt_succ_of_lt (ltS e))) (Heap.get?_push_of_some _ (Heap.get?_push_of_some _ e))) hS⟩)
theorem Ji:isSubtype (.type "tuple") (.type "set")=Pure.pure false:=by rw [isSubtype_type]; kernel_rfl
theorem Jj:isSubtype (.type "tuple") (.type "frozenset")=Pure.pure false:=by rw [isSubtype_type]; kernel_rfl
theorem Kv {l:Addr} {its:List Value} {ns:List Int} {Q:Value->Shared->Prop} (hh:A.handled=none) (hl:s.heap.IsList l its.toArray) (rv:IntsAre its ns) (room:(BC ns).length <= 18)
    (q:∀ h' tk,(∀ c o,s.heap.get? c=some o->h'.get? c=some o)->SetI prog w h' s.heap.objs.size (BC ns)->Q (.ref s.heap.objs.size) { s with heap:=h',toks:=tk }) :
    wpAny (model prog w) A (call (.type "set") [.ref l]) Q E s:=by
  have len:its.toArray.size=ns.length:=by have:=congrArg List.length rv.nums; rw [List.length_map] at this; simpa using this
  refine Ic (T := "list") (l:=l) (ns:=ns) (fp:=fun I=>[I,l]) (P:=fun i v=>its.toArray[i]? = some v) (St:=fun I i h=>h.IsListIter I l i /\ h.IsList l its.toArray) (itO:={ cls:=.type "list_iterator",data:=.fields #[.ref l,.int 0 0] }) PySem.F.sub_list_set PySem.F.sub_list_frozenset (by decide +kernel) (fun k=>(hl.at k).typeIs) (fun k z=>wpAny_pyIter_list (hl.at k) z) (fun I hI=>len ▸ Walks.list (by simp [hh]) I l hI its.toArray) (fun i v e=>?_) (fun I b hb=>by simpa using hb) (by obtain ⟨o,e,_⟩:=hl; exact ⟨o,e⟩) rfl (fun I e k=>⟨⟨_,e,rfl,rfl⟩,hl.at k⟩) room q
  have e':its[i]? = some v:=by simpa using e
  exact rv.int_at i v e'
theorem Mx {l:Addr} {its:List Value} {ns:List Int} {Q:Value->Shared->Prop} (hh:A.handled=none) (hl:s.heap.IsTuple l its.toArray) (rv:IntsAre its ns) (room:(BC ns).length <= 18)
    (q:∀ h' tk,(∀ c o,s.heap.get? c=some o->h'.get? c=some o)->SetI prog w h' s.heap.objs.size (BC ns)->Q (.ref s.heap.objs.size) { s with heap:=h',toks:=tk }) :
    wpAny (model prog w) A (call (.type "set") [.ref l]) Q E s:=by
  have len:its.toArray.size=ns.length:=by have:=congrArg List.length rv.nums; rw [List.length_map] at this; simpa using this
  refine Ic (T := "tuple") (l:=l) (ns:=ns) (fp:=fun I=>[I,l]) (P:=fun i v=>its.toArray[i]? = some v) (St:=fun I i h=>h.IsTupleIter I l i /\ h.IsTuple l its.toArray) (itO:={ cls:=.type "tuple_iterator",data:=.fields #[.ref l,.int 0 0] }) Ji Jj (by decide +kernel) (fun k=>(hl.at k).typeIs) (fun k z=>wpAny_pyIter_tuple (hl.at k) z) (fun I hI=>len ▸ Walks.tuple (by simp [hh]) I l hI its.toArray) (fun i v e=>?_) (fun I b hb=>by simpa using hb) (by obtain ⟨o,e,_⟩:=hl; exact ⟨o,e⟩) rfl (fun I e k=>⟨⟨_,e,rfl,rfl⟩,hl.at k⟩) room q
  have e':its[i]? = some v:=by simpa using e
  exact rv.int_at i v e'
end
end Ht
namespace Ht
open PySem PySem.Spec PyProof.Rows Sem L2 PySem.SetTable
theorem HN {α:Type}:∀ (l:List α) (i:Nat) (x:α),l[i]? = some x->(x :: l.eraseIdx i).Perm l
  | [],_,_,e=>by cases e
  | a :: l,0,x,e=>by
    simp at e
    subst e
    exact .refl _
  | a :: l,i + 1,x,e=>by
    have e':l[i]? = some x:=by simpa using e
    exact (List.Perm.swap a x _).trans ((HN l i x e').cons a)
theorem Lz {α:Type} (f:Nat->Nat):∀ (A5 k:Nat) (left:List α) (out:Array α),left.length <= A5->(pickOrder.go f A5 k left out).toList.Perm (out.toList ++ left)
  | 0,k,left,out,h=>by
    have:left=[]:=List.length_eq_zero_iff.mp (by omega)
    subst this
    unfold pickOrder.go
    rw [List.append_nil]
  | A5 + 1,k,left,out,h=>by
    unfold pickOrder.go
    cases e:left[f k % left.length]? with
    | none=>
      simp only []
      have:left=[]:=by
        cases left with
        | nil=>rfl
        | cons a l=>
          exfalso
          have:=List.getElem?_eq_none_iff.mp e
          have:=Nat.mod_lt (f k) (show 0 < (a :: l).length by simp)
          omega
      rw [this,List.append_nil]
    | some x=>
      simp only []
      have hp:=HN left _ x e
      have hl:=hp.length_eq
      rw [List.length_cons] at hl
      refine (Lz f A5 (k + 1) _ (out.push x) (by omega)).trans ?_
      rw [Array.toList_push,List.append_assoc]
      exact hp.append_left _
theorem NC {α:Type} (f:Nat->Nat) (xs:Array α):(pickOrder f xs).toList.Perm xs.toList:=by
  have:=Lz f xs.size 0 xs.toList #[] (by simp)
  simpa [pickOrder] using this
def wv (w:World) (S:Addr) (ep:Nat) (es:Array (Int × Value)):Array (Int × Value):=if w.params.followText "set-order" = true then pickOrder (w.params.setOrder S ep) es else es
theorem La (w:World) (S:Addr) (ep:Nat) (es:Array (Int × Value)):(wv w S ep es).toList.Perm es.toList:=by
  unfold wv
  split
  . exact NC _ _
  . exact .refl _
theorem GB (w:World) (S:Addr) (ep:Nat) (es:Array (Int × Value)):(wv w S ep es).size=es.size:=by
  have:=(La w S ep es).length_eq
  simpa using this
section
variable {prog:Program} {w:World} {A:Around} {E:Value->Shared->Prop} {s:Shared}
theorem Jp {S:Addr} {sl i ep:Nat} {es:Array (Int × Value)} {t:SetTable} {o:Obj} {Q:Option (Value × Nat)->Shared->Prop} (ho:s.heap.get? S=some o) (hd:o.data=.set es ep t) (T:Tab t es.size) (hled:t.led = !(w.params.followText "set-order"))
    (hsl:w.params.followText "set-order" = false->below t.place sl=i)
    (h1:∀ e sl',(wv w S ep es)[i]? = some e->(w.params.followText "set-order" = false->below t.place sl'=i + 1)->Q (some (e.2,sl')) s)
    (h2:(wv w S ep es)[i]? = none->Q none s):wpAny (model prog w) A (setNext S sl i ep) Q E s:=by
  unfold setNext
  refine wpAny_bind (wpAny_setState_of ho hd T.fits ?_)
  dsimp only
  unfold setsByText
  refine wpAny_bind (wpAny_bind (wpAny_askSetting (wpAny_pure ?_)))
  dsimp only [model]
  by_cases hb:w.params.followText "set-order" = true
  . rw [if_pos hb]
    have e0:(ep != ep)=false:=by simp
    rw [e0,if_neg Bool.false_ne_true]
    unfold setWalk setsByText
    refine wpAny_bind (wpAny_bind (wpAny_setState_of ho hd T.fits ?_))
    dsimp only
    refine wpAny_bind (wpAny_bind (wpAny_askSetting (wpAny_pure ?_)))
    dsimp only [model]
    rw [if_pos hb]
    refine wpAny_bind (wpAny_askSetting (wpAny_pure (wpAny_pure ?_)))
    dsimp only
    have ew:wv w S ep es=pickOrder (w.params.setOrder S ep) es:=by unfold wv; rw [if_pos hb]
    rw [ew] at h1 h2
    cases q:(pickOrder (w.params.setOrder S ep) es)[i]? with
    | none=>exact h2 q
    | some e=>exact h1 e sl q fun z=>by rw [hb] at z; cases z
  . have hb':w.params.followText "set-order" = false:=by simpa using hb
    rw [if_neg hb]
    have hl:t.led=true:=by rw [hled,hb']; rfl
    have ew:wv w S ep es=es:=by unfold wv; rw [if_neg hb]
    rw [ew] at h1 h2
    have hs:=hsl hb'
    split
    . rename_i z
      have z':(!t.plain && decide (es.size > 1))=true:=z
      rw [T.pl] at z'
      cases z'
    . refine wpAny_bind ?_
      show wpAny _ _ (if (!t.led && !es.isEmpty)=true then PySem.unsupported "set:maker-not-led" else Pure.pure ()) _ _ _
      rw [hl]
      rw [if_neg (by simp)]
      refine wpAny_pure ?_
      refine wpAny_pure ?_
      rw [hs]
      have hsz:=T.sz
      by_cases hi:i < es.size
      . have e1:es[i]? = some es[i]:=by simp [hi]
        have e2:t.place[i]? = some (t.place[i]'(by omega)):=by simp [hsz,hi]
        rw [e1,e2]
        exact h1 es[i] _ e1 fun _=>LT T.ris (by omega)
      . have e1:es[i]? = none:=by simp; omega
        rw [e1]
        exact h2 e1
end
end Ht
namespace Ht
open PySem PySem.Spec PyProof.Rows Sem L2 PySem.SetTable
theorem si_next:Slot "set_iterator" "__next__" "set_iterator.__next__" :=
  Slot.of (owner := "set_iterator") (n := "__next__") (by rw [typeLookup_type,builtinLookup_eq_fast]; kernel_rfl) (by decide +kernel) (by decide +kernel) (by decide +kernel) (.inl (by decide +kernel)) (by rw [isSubtype_type]; kernel_rfl)
theorem Ln:Slot "set_iterator" "__iter__" "set_iterator.__iter__" :=
  Slot.of (owner := "set_iterator") (n := "__iter__") (by rw [typeLookup_type,builtinLookup_eq_fast]; kernel_rfl) (by decide +kernel) (by decide +kernel) (by decide +kernel) (.inl (by decide +kernel)) (by rw [isSubtype_type]; kernel_rfl)
theorem KN:entryFor table "set_iterator.__next__" = some Builtin.«set_iterator.__next__»:=entryFor_of_tree (by kernel_rfl)
theorem Po:entryFor table "set_iterator.__iter__" = some Builtin.«dict_keyiterator.__iter__»:=entryFor_alias (id' := "dict_keyiterator.__iter__") (by kernel_rfl) rfl (by decide +kernel) (by kernel_rfl)
theorem Pp:entryFor table "set.__iter__" = some Builtin.«frozenset.__iter__»:=entryFor_alias (id' := "frozenset.__iter__") (by kernel_rfl) rfl (by decide +kernel) (by kernel_rfl)
theorem Kk (a:Value):argsOk "set_iterator.__next__" ⟨[a],[]⟩:=by unfold argsOk; kernel_rfl
theorem QH (a:Value):argsOk "set_iterator.__iter__" ⟨[a],[]⟩:=by unfold argsOk; kernel_rfl
def itO (S:Addr) (sl i n ep:Nat):Obj:={ cls:=.type "set_iterator",data:=.fields #[.int sl 0,.int i 0,.ref S,.int n 0,.int ep 0] }
section
variable {prog:Program} {w:World} {A:Around} {E:Value->Shared->Prop} {s:Shared}
theorem Gr {α:Type} {Q:α->Shared->Prop} (hh:A.handled=none) (h:∀ a h',(∀ b o,s.heap.get? b=some o->h'.get? b=some o)->Shared.TypeIs { s with heap:=h' } (.ref a) "StopIteration" -> E (.ref a) { s with heap:=h' }) :
    wpAny (model prog w) A (newExc (.type "StopIteration") [] >>= fun e=>(raiseNew e:Sem α)) Q E s:=by
  unfold newExc newTuple
  refine wpAny_bind (wpAny_bind (wpAny_newObj_type ?_ (by size_fits)))
  refine wpAny_bind (m:=firstArgMember _ _) (wpAny_of_eq (a:=Value.none) (by kernel_rfl) ?_)
  refine wpAny_newObj_type ?_ (by size_fits)
  unfold raiseNew
  refine wpAny_bind (wpAny_handled ?_)
  rw [hh]
  refine wpAny_bind (wpAny_pure (wpAny_throw (h _ _ (fun b o e=>Heap.get?_push_of_some _ (Heap.get?_push_of_some _ e)) ⟨_,Heap.get?_push_size _ rfl,rfl⟩)))
theorem Re {I S:Addr} {sl i ep:Nat} {es:Array (Int × Value)} {t:SetTable} {o:Obj} {Q:Option Value->Shared->Prop} {x:Int × Value} (hne:S ≠ I) (hI:s.heap.get? I=some (itO S sl i es.size ep)) (ho:s.heap.get? S=some o) (hd:o.data=.set es ep t) (T:Tab t es.size) (hled:t.led = !(w.params.followText "set-order"))
    (hsl:w.params.followText "set-order" = false->below t.place sl=i) (hx:(wv w S ep es)[i]? = some x)
    (q:∀ h' sl',h'.get? I=some (itO S sl' (i + 1) es.size ep)->(w.params.followText "set-order" = false->below t.place sl'=i + 1)->Heap.SameBut I s.heap h'->Q (some x.2) { s with heap:=h' }) :
    wpAny (model prog w) A (pyNext (.ref I)) Q E s:=by
  have hT:s.TypeIs (.ref I) "set_iterator" := ⟨_,hI,rfl⟩
  unfold pyNext
  refine wpAny_bind (wpAny_attempt (wpAny_callSpecial?_slot (name:=Str.ofString "__next__") hT si_next (wpAny_call_entry si_next hT KN ?_ (Kk _))))
  unfold Builtin.«set_iterator.__next__»
  refine wpAny_bind (wpAny_of_eq (a:=(Value.ref I,[])) rfl ?_)
  refine wpAny_bind (wpAny_fieldsOf hI rfl ?_)
  dsimp only
  unfold setEntries
  refine wpAny_bind (wpAny_bind (wpAny_setState_of ho hd T.fits (wpAny_pure ?_)))
  dsimp only
  have e0:((es.size:Int) != (es.size:Int))=false:=by simp
  rw [e0,if_neg Bool.false_ne_true]
  simp only [Int.toNat_natCast]
  refine wpAny_bind (Jp ho hd T hled hsl (fun e sl' h1 h2=>?_) fun z=>by rw [hx] at z; cases z)
  rw [hx] at h1
  cases h1
  dsimp only
  refine wpAny_bind (wpAny_setField_rec hI (by simp) fun h1 g1 s1=>?_)
  refine wpAny_bind (wpAny_setField_rec g1 (by simp) fun h2' g2 s2=>?_)
  refine wpAny_pure ⟨_,rfl,wpAny_pure (q h2' sl' ?_ h2 (s1.trans s2))⟩
  rw [g2]
  simp [itO,rawInt]
theorem Tu {I S:Addr} {sl i ep:Nat} {es:Array (Int × Value)} {t:SetTable} {o:Obj} {Q:Option Value->Shared->Prop} (hh:A.handled=none) (hI:s.heap.get? I=some (itO S sl i es.size ep)) (ho:s.heap.get? S=some o) (hd:o.data=.set es ep t) (T:Tab t es.size) (hled:t.led = !(w.params.followText "set-order"))
    (hsl:w.params.followText "set-order" = false->below t.place sl=i) (hx:(wv w S ep es)[i]? = none)
    (q:∀ h',(∀ b o,b ≠ I->s.heap.get? b=some o->h'.get? b=some o)->Q none { s with heap:=h' }) :
    wpAny (model prog w) A (pyNext (.ref I)) Q E s:=by
  have hT:s.TypeIs (.ref I) "set_iterator" := ⟨_,hI,rfl⟩
  unfold pyNext
  refine wpAny_bind (wpAny_attempt (wpAny_callSpecial?_slot (name:=Str.ofString "__next__") hT si_next (wpAny_call_entry si_next hT KN ?_ (Kk _))))
  unfold Builtin.«set_iterator.__next__»
  refine wpAny_bind (wpAny_of_eq (a:=(Value.ref I,[])) rfl ?_)
  refine wpAny_bind (wpAny_fieldsOf hI rfl ?_)
  dsimp only
  unfold setEntries
  refine wpAny_bind (wpAny_bind (wpAny_setState_of ho hd T.fits (wpAny_pure ?_)))
  dsimp only
  have e0:((es.size:Int) != (es.size:Int))=false:=by simp
  rw [e0,if_neg Bool.false_ne_true]
  simp only [Int.toNat_natCast]
  refine wpAny_bind (Jp ho hd T hled hsl (fun e sl' h1 h2=>by rw [hx] at h1; cases h1) fun _=>?_)
  dsimp only
  refine wpAny_bind (wpAny_setField_rec hI (by simp) fun h1 g1 s1=>?_)
  refine Gr (A:=A.in1) (s:={ s with heap:=h1 }) hh fun a h' k ty=>?_
  refine wpAny_bind (wpAny_isInstance (T := "StopIteration") (b:=true) ty isSubtype_stop ?_)
  exact wpAny_pure (q h' fun b o hb e=>k b o (s1.extBut b o hb e))
theorem Rc {I S:Addr} {sl i n ep:Nat} {Q:Value->Shared->Prop} (hI:s.heap.get? I=some (itO S sl i n ep)) (h:Q (.ref I) s):wpAny (model prog w) A (pyIter (.ref I)) Q E s:=by
  have hT:s.TypeIs (.ref I) "set_iterator" := ⟨_,hI,rfl⟩
  refine wpAny_pyIter_slot hT Ln (wpAny_call_entry Ln hT Po ?_ (QH _))
  exact wpAny_pure ⟨_,rfl, "set_iterator",_,hT,si_next.lookup,h⟩
theorem Tt {S:Addr} {ep:Nat} {es:Array (Int × Value)} {t:SetTable} {o:Obj} {Q:Value->Shared->Prop} (ho:s.heap.get? S=some o) (hex:o.ExactSet) (hd:o.data=.set es ep t) (T:Tab t es.size)
    (h:Q (.ref s.heap.objs.size) { s with heap:=s.heap.push (itO S 0 0 es.size ep) }):wpAny (model prog w) A (pyIter (.ref S)) Q E s:=by
  have hT:s.TypeIs (.ref S) "set" := ⟨_,ho,hex.1⟩
  refine wpAny_pyIter_slot hT PySem.F.slot_set_iter (wpAny_call_entry PySem.F.slot_set_iter hT Pp ?_ (PySem.F.args_set_iter_1 _))
  unfold Builtin.«frozenset.__iter__» Builtin.Frozenset.slot0 Builtin.Frozenset.sizeOf setEntries setDrawn setsByText
  refine wpAny_bind (wpAny_bind (wpAny_of_eq (a:=(Value.ref S,[])) rfl (wpAny_pure ?_)))
  refine wpAny_bind (wpAny_bind (wpAny_bind (wpAny_setState_of ho hd T.fits (wpAny_pure (wpAny_pure ?_)))))
  refine wpAny_bind (wpAny_bind (wpAny_setState_of ho hd T.fits ?_))
  dsimp only
  refine wpAny_bind (wpAny_bind (wpAny_askSetting (wpAny_pure (wpAny_pure ?_))))
  dsimp only
  have e0:∀ b:Bool,(!b && (!t.plain && decide (es.size > 1)))=false:=fun b=>by rw [T.pl]; simp
  split
  . rename_i z
    have z':=(e0 _).symm.trans z
    cases z'
  . refine wpAny_bind (wpAny_pure ?_)
    refine wpAny_bind (wpAny_setEpoch_of ho hd T.fits ?_)
    unfold newFields
    exact wpAny_bind (wpAny_newObj_type (wpAny_pure ⟨_,rfl, "set_iterator",_,⟨_,Heap.get?_push_size _ rfl,rfl⟩,si_next.lookup,h⟩))
end
end Ht
namespace Ht
open PySem PySem.Spec PyProof.Rows Sem L2 PySem.SetTable
section
variable {prog:Program} {w:World} {A:Around} {E:Value->Shared->Prop} {s:Shared}
theorem Sh:splitId "set.__len__" = some ("set", "__len__"):=by decide +kernel
theorem OH {S:Addr} {Q:Bool->Shared->Prop} (hT:s.TypeIs (.ref S) "set") (h:Q false s):wpAny (model prog w) A (Builtin.List.listLengthHint (.ref S)) Q E s:=by
  obtain ⟨id,hid⟩:∃ id,id = "set.__len__" := ⟨_,rfl⟩
  have l:=PySem.F.slot_set_len.lookup
  have z:=sub_set_self
  have sp:=Sh
  rw [← hid] at l sp
  unfold Builtin.List.listLengthHint
  wp_walk
  rw [sp]
  wp_walk
  split
  . wp_walk
    exact h
  . rename_i no
    exact absurd (by rw [hid]; decide +kernel) no
theorem Mg {I S:Addr} {ep:Nat} {es:Array (Int × Value)} {t:SetTable} {o:Obj} (hh:A.handled=none) (hne:S ≠ I) (hd:o.data=.set es ep t) (T:Tab t es.size) (hled:t.led = !(w.params.followText "set-order")) :
    Walks prog w A I [I,S] [I] es.size (fun i v=>∃ e,(wv w S ep es)[i]? = some e /\ v=e.2)
      (fun i h=>(∃ sl:Nat,h.get? I=some (itO S sl i es.size ep) /\ (w.params.followText "set-order" = false->below t.place sl=i)) /\ h.get? S=some o) where
  sub:=fun b hb=>by simp at hb; simp [hb]
  frame:=fun i h h' st k=>by
    obtain ⟨⟨sl,h1,h2⟩,h3⟩:=st
    exact ⟨⟨sl,k I (by simp) _ h1,h2⟩,k S (by simp) _ h3⟩
  item:=fun i s Q E hi st q=>by
    obtain ⟨⟨sl,h1,h2⟩,h3⟩:=st
    obtain ⟨x,hx⟩:∃ x,(wv w S ep es)[i]? = some x:=⟨(wv w S ep es)[i]'(by rw [GB]; exact hi),by simp [GB,hi]⟩
    refine Re hne h1 h3 hd T hled h2 hx fun h' sl' g1 g2 sb=>?_
    exact q x.2 h' s.toks ⟨x,hx,rfl⟩ ⟨⟨sl',g1,g2⟩,(sb.2 S hne).trans h3⟩ fun b o hb e=>(sb.2 b (by simpa using hb)).trans e
  done:=fun s Q E st q=>by
    obtain ⟨⟨sl,h1,h2⟩,h3⟩:=st
    refine Tu hh h1 h3 hd T hled h2 (by simp [GB]) fun h' k=>?_
    exact q h' s.toks fun b o hb e=>k b o (by simpa using hb) e
  self:=fun i s Q E st h=>by
    obtain ⟨⟨sl,h1,h2⟩,h3⟩:=st
    exact Rc h1 h
theorem QV {S:Addr} {ep:Nat} {es:Array (Int × Value)} {t:SetTable} {o:Obj} (hex:o.ExactSet) (hd:o.data=.set es ep t) (T:Tab t es.size) (hled:t.led = !(w.params.followText "set-order")) :
    PySem.W.KdlSrc prog w "set" S S es.size (fun i v=>∃ e,(wv w S ep es)[i]? = some e /\ v=e.2) (fun h=>h.get? S=some o) where
  type:=fun s h=>⟨_,h,hex.1⟩
  there:=fun h e=>⟨Heap.lt_size e,Heap.lt_size e⟩
  keep:=fun h h' e k=>k S (.inl rfl) _ e
  notList:=by decide
  notTuple:=by decide
  hint:=fun A E s Q e h=>OH ⟨_,e,hex.1⟩ h
  iter:=fun A s hh e=>⟨itO S 0 0 es.size ep,_,fun E Q h=>Tt e hex hd T h,Mg hh (Nat.ne_of_lt (Heap.lt_size e)) hd T hled,⟨0,Heap.get?_push_size _ rfl,fun _=>LS T.ris⟩,Heap.get?_push_of_some _ e⟩
theorem Jm {S:Addr} {ks:List Int} {Q:Value->Shared->Prop} (hh:A.handled=none) (hS:SetI prog w s.heap S ks)
    (q:∀ (h1 h':Heap) tk c (out:Array Value) ms,(∀ b o,s.heap.get? b=some o->h1.get? b=some o)->(∀ b o,h1.get? b=some o->h'.get? b=some o)->h'.get? h1.objs.size=some (seqObj "list" out c)->IntsAre out.toList ms->ms.Perm ks->ms.Pairwise (· <= ·)->Q (.ref h1.objs.size) { s with heap:=h',toks:=tk }) :
    wpAny (model prog w) A (call (.builtin "sorted") [.ref S]) Q E s:=by
  obtain ⟨o,es,ep,t,ho,hex,hd,hel,⟨ns,hen,hp⟩,T,hled⟩:=hS
  have small:es.size <= 18:=by rcases T.mks with ⟨_,b⟩ | ⟨_,b⟩ <;> omega
  refine Calls.call_function_entry kind_sorted plain_sorted entry_sorted (args_sorted1 _) ?_
  unfold Builtin.«sorted»
  refine wpAny_bind (wpAny_of_eq (a:=()) rfl ?_)
  refine wpAny_bind (PySem.W.kdu_collect (A:=A.in1) (QV (S:=S) hex hd T hled) hh ho (by rw [sizeLine_eq]; omega) fun h1 t1 acc k1 it=>?_)
  have hacc:acc.toList=(wv w S ep es).toList.map (·.2):=by
    refine List.ext_getElem? fun i=>?_
    by_cases hi:i < acc.size
    . obtain ⟨e,h1,h2⟩:=it.2 i acc[i] (by simp [hi])
      have:acc.toList[i]? = some acc[i]:=by simp [hi]
      rw [this,h2,List.getElem?_map,Array.getElem?_toList,h1]
      rfl
    . have h1:=it.1
      have h2:=GB w S ep es
      rw [List.getElem?_eq_none (by simp; omega),List.getElem?_eq_none (by simp; omega)]
  obtain ⟨ls,hls,hpl⟩:=Fh ((La w S ep es).map (·.2)) hen
  rw [← hacc] at hls
  have hlen:acc.toList.length=es.size:=by rw [Array.length_toList]; exact it.1
  refine wpAny_bind (wpAny_newList ?_ (by rw [sizeLine_eq]; omega))
  have hL:(h1.push (seqObj "list" acc.toList.toArray 0)).get? h1.objs.size=some (seqObj "list" acc.toList.toArray 0):=Heap.get?_push_size _ rfl
  have kL:∀ b o,h1.get? b=some o->(h1.push (seqObj "list" acc.toList.toArray 0)).get? b=some o:=fun b o e=>Heap.get?_push_of_some _ e
  refine wpAny_bind (wpAny_holding (wpAny_call_entry slot_list_sort ⟨_,hL,rfl⟩ entry_list_sort (list_sort_tree hL hls (by omega) fun out ms a1 a2 a3=>⟨_,rfl,?_⟩) (args_list_sort _)))
  obtain ⟨c,hc⟩:=sortedHeap_at (out:=out) hL
  exact wpAny_pure ⟨_,rfl,q h1 _ _ c out ms k1 (fun b o e=>by rw [sortedHeap_old (Nat.ne_of_lt (Heap.lt_size e)) (Heap.lt_size (kL b o e))]; exact kL b o e) hc a1 ((a2.trans hpl).trans hp) a3⟩
end
end Ht
namespace Ht
def KF (x:Int):List Int->List Int
  | []=>[x]
  | y :: ys=>if x < y then x :: y :: ys else if x=y then y :: ys else y :: KF x ys
def srt (xs:List Int):List Int:=xs.foldr KF []
theorem HE (x k:Int):∀ ys:List Int,k ∈ KF x ys ↔ k=x ∨ k ∈ ys
  | []=>by simp [KF]
  | y :: ys=>by
    unfold KF
    split
    . simp
    . split
      . rename_i e
        subst e
        simp
      . rw [List.mem_cons,HE x k ys,List.mem_cons]
        constructor <;> (intro z; rcases z with z | z | z <;> simp [z])
theorem IN (x:Int):∀ {ys:List Int},ys.Pairwise (· < ·)->(KF x ys).Pairwise (· < ·)
  | [],_=>by simp [KF]
  | y :: ys,h=>by
    obtain ⟨h1,h2⟩:=List.pairwise_cons.mp h
    unfold KF
    split
    . rename_i hx
      exact List.pairwise_cons.mpr ⟨fun z hz=>(List.mem_cons.mp hz).elim (fun e=>e ▸ hx) fun m=>Int.lt_trans hx (h1 z m),h⟩
    . split
      . exact h
      . refine List.pairwise_cons.mpr ⟨fun z hz=>?_,IN x h2⟩
        rcases (HE x z ys).mp hz with rfl | m
        . omega
        . exact h1 z m
theorem GC (xs:List Int) (k:Int):k ∈ srt xs ↔ k ∈ xs:=by
  unfold srt
  induction xs with
  | nil=>simp
  | cons x xs ih=>rw [List.foldr_cons,HE,ih,List.mem_cons]
theorem E7 (xs:List Int):(srt xs).Pairwise (· < ·):=by
  unfold srt
  induction xs with
  | nil=>exact .nil
  | cons x xs ih=>exact IN x ih
theorem Iv:∀ {xs ys:List Int},xs.Pairwise (· < ·)->ys.Pairwise (· < ·)->(∀ k,k ∈ xs ↔ k ∈ ys)->xs=ys
  | [],[],_,_,_=>rfl
  | [],y :: ys,_,_,h=>by have:=(h y).mpr (List.mem_cons_self ..); cases this
  | x :: xs,[],_,_,h=>by have:=(h x).mp (List.mem_cons_self ..); cases this
  | x :: xs,y :: ys,a,b,h=>by
    obtain ⟨a1,a2⟩:=List.pairwise_cons.mp a
    obtain ⟨b1,b2⟩:=List.pairwise_cons.mp b
    have e:x=y:=by
      rcases List.mem_cons.mp ((h x).mp (List.mem_cons_self ..)) with z | z
      . exact z
      . rcases List.mem_cons.mp ((h y).mpr (List.mem_cons_self ..)) with z2 | z2
        . exact z2.symm
        . have:=a1 y z2
          have:=b1 x z
          omega
    subst e
    rw [Iv a2 b2 fun k=>?_]
    constructor
    . intro hk
      rcases List.mem_cons.mp ((h k).mp (List.mem_cons_of_mem _ hk)) with z | z
      . have:=a1 k hk; omega
      . exact z
    . intro hk
      rcases List.mem_cons.mp ((h k).mpr (List.mem_cons_of_mem _ hk)) with z | z
      . have:=b1 k hk; omega
      . exact z
theorem Sg {ms ns:List Int} (p:ms.Perm (BC ns)) (h:ms.Pairwise (· <= ·)):ms=srt ns:=by
  have nd:ms.Nodup:=p.nodup_iff.mpr (G1 ns)
  have lt:ms.Pairwise (· < ·):=(List.pairwise_and_iff.mpr ⟨h,nd⟩).imp fun z=>by
    have:=z.1
    have:=z.2
    omega
  exact Iv lt (E7 ns) fun k=>by rw [p.mem_iff,J2,GC]
end Ht
namespace L2
open PySem PySem.Spec PyProof.Rows Sem Ht
def Qb (P:Program) (w:World) (p:Addr) (ks:List Int):HO:=.ext fun h=>SetI P w h p ks
section
variable {X:Cx}
theorem Nn (hc:X.calm=true):CF X (.type "set") (fun xs H Q=>∃ a ns,xs=[.ref a] /\ (SqL X.K H a (ns.map V.int) ∨ SqT X.K H a (ns.map V.int)) /\ (BC ns).length <= 18 /\ ∀ p,H p=none->Q (.ref p) (upd H p (Qb X.prog X.w p (BC ns)))):=by
  intro pins s σ H xs us Q I r h
  obtain ⟨a,ns,rfl,ha,room,q⟩:=h
  obtain ⟨u,rfl,ru⟩:=Vals.one r
  cases ru
  have fin:∀ h' tk,(∀ c o,s.heap.get? c=some o->h'.get? c=some o)->SetI X.prog X.w h' s.heap.objs.size (BC ns)->EP X pins σ Q (.ref s.heap.objs.size) { s with heap:=h',toks:=tk }:=fun h' tk kp hS=>by
    refine ⟨.ref s.heap.objs.size,_,I.laid (o:=Qb X.prog X.w s.heap.objs.size (BC ns)) kp (Nat.le_refl _) ?_,rfl,q _ (I.hok.fresh (Nat.le_refl _))⟩
    obtain ⟨o,es,ep,t,e,rest⟩:=id hS
    exact ⟨hS,⟨o,e⟩,fun h1 h2 z k=>z.at k⟩
  rcases ha with ha | ha
  . obtain ⟨its,rv,pl,hz⟩:=I.list ha
    exact Kv (I.ok.hd hc) pl.isList (HD rv) room fin
  . obtain ⟨its,rv,pl,hz⟩:=I.tuple ha
    exact Mx (I.ok.hd hc) pl (HD rv) room fin
theorem LP (hc:X.calm=true):CF X (.builtin "sorted") (fun xs H Q=>∃ p ns,xs=[.ref p] /\ H p=some (Qb X.prog X.w p (BC ns)) /\ ∀ l,H l=none->Q (.ref l) (upd H l (.lst ((srt ns).map V.int)))):=by
  intro pins s σ H xs us Q I r h
  obtain ⟨p,ns,rfl,hp,q⟩:=h
  obtain ⟨u,rfl,ru⟩:=Vals.one r
  cases ru
  obtain ⟨hS,_⟩:=I.hok p _ hp
  refine Jm (I.ok.hd hc) hS fun h1 h' tk c out ms k1 k2 e1 im pm sm=>?_
  have em:=Sg pm sm
  subst em
  have I1:=I.kept (t':=tk) k1
  have rv:=EZ im
  refine ⟨.ref h1.objs.size,_,I1.laid (t':=tk) (o:=.lst ((srt ns).map V.int)) k2 (Nat.le_refl _) ⟨?_,out.toList,c,rv,e1⟩,rfl,q _ (I1.hok.fresh (Nat.le_refl _))⟩
  obtain ⟨o,es,ep,t,_,_,_,_,⟨ns',hen,hp'⟩,T,_⟩:=hS
  have hsz:=MT hen (hp'.trans pm.symm)
  rw [List.length_map,sizeLine_eq]
  rcases T.mks with ⟨_,b⟩ | ⟨_,b⟩ <;> omega
end
end L2
namespace Mi
open PySem L2 Ht
def D8 (d:D):M D:=bnd (BU d) fun ds=>fun μ=>match FL ds with
  | some ns=>if (BC ns).length <= 18 then some (.lst ((srt ns).map D.int),μ) else none
  | none=>none
theorem HB {K:PySem.W.Frag} {ι:Nat->Addr} {k:Nat} {H:Hp}:∀ ns:List Int,IsL K ι k H (ns.map D.int) (ns.map V.int)
  | []=>IsL.nil
  | n :: r=>by
    rw [List.map_cons,List.map_cons]
    unfold IsL
    exact ⟨_,_,rfl,ofI _,HB r⟩
section
variable {X:Cx} {e:Expr} {pos p p2 pos2:Pos}
theorem K0 {m:Sl->M D} (yl:X.mg "sorted" = none) (ys:X.mg "set" = none) (he:RE X e m) (hc:X.calm=true:=by rfl) (hgl:Gl X "sorted" := by rfl) (hgs:Gl X "set" := by rfl) (hst:Fe e=false:=by rfl) :
    RE X (.Call (.Name "sorted" p) [.Call (.Name "set" p2) [e] [] pos2] [] pos) (mUn D8 m):=by
  have hs:PE X (.Call (.Name "set" p2) [e] [] pos2) _:=Ed (Nn hc) hgs ys Mi.QB (FE he.pe Gy (Az hst)) (by decide) (by decide) (Az hst) rfl
  refine RE.wk (Jz (LP hc) hgl yl PyProof.Rows.boot_sorted (FE hs Gy (Az rfl)) (by decide) (by decide) (Az rfl) rfl) fun σ H Q h=>?_
  obtain ⟨ι,μ,τ,d,μ',R,S,ev,q⟩:=h
  obtain ⟨x,μ1,e1,e2⟩:=AG ev
  obtain ⟨ds,μ2,e3,e4⟩:=AG e2
  refine ⟨ι,μ,τ,x,μ1,R,S,e1,fun ι1 H1 E1 R1 v1 i1=>?_⟩
  obtain ⟨hm,a,vs,rfl,h1,h2⟩:=Cz R1 i1 e3
  subst hm
  cases hx:FL ds with
  | none=>rw [hx] at e4; cases e4
  | some ns=>
    rw [hx] at e4
    have e5:(if (BC ns).length <= 18 then some (D.lst ((srt ns).map D.int),μ2) else none)=some (d,μ'):=e4
    split at e5
    . rename_i room
      cases e5
      have ev:=KE h2 hx
      subst ev
      refine ⟨a,ns,rfl,h1,room,fun p hp=>?_⟩
      obtain ⟨E2,R2⟩:=R1.laid (Qb X.prog X.w p (BC ns)) hp
      exact ⟨p,ns,rfl,BF,fun l hl=>PM R2 (HB _) (fun ι' H' E' R'=>q ι' H' ((E1.trans E2).trans E') R') l hl⟩
    . cases e5
end
end Mi
namespace L2
open PySem PySem.Spec PyProof.Rows Sem Ht
section
variable {prog:Program} {w:World} {A:Around} {E:Value->Shared->Prop} {s:Shared}
theorem OG {n:Nat}:Builtin.Range.rangeSize 0 n 1=(n:Int):=by rw [rangeSize_one]; split <;> omega
theorem Mv {n:Nat} (h:n <= 1000):Builtin.Range.small 0 n 1=true:=small_one (by omega) (by omega) (by omega) (by omega)
theorem KY {r:Addr} {n:Nat} {t u v:Tok} {Q:List Value->Shared->Prop} (hh:A.handled=none) (hr:IsRange s.heap r 0 n 1 t u v) (hn:n <= 1000)
    (q:∀ h' tk (acc:List Value),(∀ b o,s.heap.get? b=some o->h'.get? b=some o)->IntsAre acc ((List.range n).map Int.ofNat)->Q acc { s with heap:=h',toks:=tk }) :
    wpAny (model prog w) A (collect (.ref r)) Q E s:=by
  unfold collect
  refine wpAny_bind (wpAny_runValue (codeAny_builtin entry_proto_collect' ?_))
  rw [Around.under_plainId PySem.F.plain_proto_collect _]
  unfold Builtin.«proto.collect»
  refine wpAny_bind (wpAny_newList ?_)
  refine wpAny_pure ⟨plainId_quiet PySem.F.plain_list_iadd _,codeAny_builtin entry_list_iadd' ?_⟩
  rw [Around.under_plainId PySem.F.plain_list_iadd _]
  have got:∀ (acc:Array Value) (c:Nat) (h':Heap) (tk:Nat),(∀ b o,s.heap.get? b=some o->h'.get? b=some o)->h'.get? s.heap.objs.size=some { cls:=.type "list",dict:=none,data:=.seq acc c,slots:=#[] }->ItemsOf (fun i v=>∃ t,v=.int (0 + (i:Int) * 1) t) acc n->
      wpAny (model prog w) A (load s.heap.objs.size >>= fun o=>match o.data with | .seq xs _=>Pure.pure xs.toList | _=>PySem.unsupported "internal:collect") Q E { s with heap:=h',toks:=tk }:=fun acc c h' tk k e it=>by
    refine wpAny_bind (wpAny_load e (wpAny_pure (q h' tk acc.toList k ?_)))
    have im:=intsAre_map acc.toList fun v hv=>by
      obtain ⟨i,hi,rfl⟩:=List.getElem_of_mem hv
      obtain ⟨t,e⟩:=it.2 i _ (Array.getElem?_eq_getElem (by simpa using hi))
      exact ⟨_,t,by simpa using e⟩
    have en:acc.toList.map numOf=(List.range n).map Int.ofNat:=by
      refine List.ext_getElem? fun i=>?_
      rw [List.getElem?_map,List.getElem?_map]
      by_cases hi:i < n
      . have hi':i < acc.size:=by rw [it.1]; exact hi
        obtain ⟨t,e⟩:=it.2 i _ (Array.getElem?_eq_getElem hi')
        rw [Array.getElem?_toList,Array.getElem?_eq_getElem hi',e,List.getElem?_range hi]
        simp [numOf]
      . rw [List.getElem?_eq_none (by rw [Array.length_toList,it.1]; omega),List.getElem?_eq_none (by simp; omega)]
        rfl
    rwa [en] at im
  have key:=wpAny_extend_range (prog:=prog) (w:=w) (A:=A) (s:={ s with heap:=s.heap.push { cls:=.type "list",data:=.seq ([]:List Value).toArray } })
    (R:=fun (z:Result) (s':Shared)=>∃ (h':Heap) (tk:Nat) (acc:Array Value) (c:Nat),z=.ok (.ret (.ref s.heap.objs.size)) /\ s'={ s with heap:=h',toks:=tk } /\
      (∀ b o,s.heap.get? b=some o->h'.get? b=some o) /\ h'.get? s.heap.objs.size=some { cls:=.type "list",dict:=none,data:=.seq acc c,slots:=#[] } /\ ItemsOf (fun i v=>∃ t,v=.int (0 + (i:Int) * 1) t) acc n)
    (n:=n) hh (Heap.get?_push_of_some _ hr) (Mv hn) OG (by omega) s.heap.objs.size (.ref s.heap.objs.size) 0 (Heap.get?_push_size _ rfl)
    (fun h' tk acc c k e it=>⟨h',tk,acc,c,rfl,rfl,fun b o z=>k b o (Nat.ne_of_lt (Heap.lt_size z)) (Heap.get?_push_of_some _ z),e,it⟩)
  refine wpAny_mono key (fun fin s' z=>?_) fun e s' z=>by obtain ⟨_,_,_,_,y,_⟩:=z; cases y
  cases fin with
  | done f=>
    obtain ⟨h',tk,acc,c,y,rfl,k,e,it⟩:=z
    cases y
    exact got acc c h' tk k e it
  | again c=>
    refine ⟨z.1,codeAny_mono z.2 fun f s2 y=>?_⟩
    obtain ⟨h',tk,acc,c,rfl,rfl,k,e,it⟩:=y
    exact got acc c h' tk k e it
end
section
variable {X:Cx}
theorem No:CF X (.type "range") (fun xs H Q=>∃ n:Nat,xs=[.int n] /\ ∀ p,H p=none->Q (.ref p) (upd H p (.rng 0 n))):=by
  intro pins s σ H xs us Q I r h
  obtain ⟨n,rfl,q⟩:=h
  obtain ⟨u,rfl,t,rfl⟩:=Vals.one r
  refine call_range_1 ⟨.ref s.heap.objs.size,_,I.laid (o:=.rng 0 n) (fun b o e=>Heap.get?_push_of_some _ e) (Nat.le_refl _) ⟨_,_,_,Heap.get?_push_size _ rfl⟩,rfl,q _ (I.hok.fresh (Nat.le_refl _))⟩
abbrev L6 (n:Nat):List V:=((List.range n).map Int.ofNat).map V.int
theorem NM (n:Nat):(L6 n).length=n:=by simp
theorem Ke (hc:X.calm=true):CF X (.type "tuple") (fun xs H Q=>∃ p n,xs=[.ref p] /\ H p=some (.rng 0 (n:Nat)) /\ n <= 1000 /\ ∀ l,H l=none->Q (.ref l) (upd H l (.tup (L6 n)))):=by
  intro pins s σ H xs us Q I r h
  obtain ⟨p,n,rfl,hp,hn,q⟩:=h
  obtain ⟨u,rfl,ru⟩:=Vals.one r
  cases ru
  obtain ⟨t,u,v,e⟩:=I.hok p _ hp
  refine callType_codes PySem.F.called_tuple (PySem.F.typeCall_tuple_1 (.ref p)) PySem.F.entry_object_init (Q₁:=fun x s₁=>s₁.TypeIs x "tuple" /\ EP X pins σ Q x s₁) ?_ (fun x s₁ z=>And.intro z.1 (And.intro (PySem.F.args_object_init_2 x (.ref p)) ?_))
  . refine codeAny_call_builtin PySem.F.plain_tuple_new PySem.F.entry_tuple_new (wpAny_of_eq (PySem.F.newCall_tuple_1 _) ?_)
    have a1:=sub_tuple_self
    have a2:=init_tuple_lookup
    have a3:=madeHere_tuple
    have a4:s.TypeIs (.ref p) "range" := ⟨_,e,rfl⟩
    unfold Builtin.«tuple.__new__»
    have go:∀ (A:Around) (Q:List Value->Shared->Prop) (E:Value->Shared->Prop),A.handled=none->(∀ h' tk (acc:List Value),(∀ b o,s.heap.get? b=some o->h'.get? b=some o)->IntsAre acc ((List.range n).map Int.ofNat)->Q acc { s with heap:=h',toks:=tk })->wpAny (model X.prog X.w) A (collect (.ref p)) Q E s:=fun A Q E hh z=>KY hh e hn z
    wp_walk using go
    . exact I.ok.hd hc
    . intro h' tk acc k im
      have hl:acc.length=n:=by
        have:=congrArg List.length im.nums
        simpa using this
      refine wpAny_bind (wpAny_pure ?_)
      unfold Builtin.Tuple.tupleExact
      refine wpAny_bind (wpAny_newObj_type ?_ (by show acc.toArray.size <= sizeLine; rw [sizeLine_eq]; simp; omega))
      have I1:=I.kept (t':=tk) k
      refine wpAny_pure ⟨⟨_,Heap.get?_push_size _ rfl,rfl⟩,.ref h'.objs.size,_,I1.laid (t':=tk) (o:=.tup (L6 n)) (fun b o z=>Heap.get?_push_of_some _ z) (Nat.le_refl _) ⟨by rw [NM,sizeLine_eq]; omega,acc,EZ im,IsTup.new _ _⟩,rfl,q _ (I1.hok.fresh (Nat.le_refl _))⟩
  . exact object_init_meets PySem.F.called_tuple.init.lookup PySem.F.called_tuple.made (by decide) X.prog X.w X.A.in1 (wants (fun r s₂=>r=.none /\ EP X pins σ Q x s₂) X.xe) s₁ (And.intro z.1 (And.intro rfl z.2))
end
end L2
namespace Mi
open PySem L2 Ht
def O6 (n:Nat):List D:=((List.range n).map Int.ofNat).map D.int
def Lu (how:List D->D) (d:D):M D:=match d with
  | .int j=>fun μ=>if 0 <= j /\ j <= 1000 then some (how (O6 j.toNat),μ) else none
  | _=>BS
section
variable {X:Cx} {e:Expr} {pos p p2 pos2:Pos}
theorem Qi {T:String} {f:List D->D} {how:List V->HO} {m:Sl->M D} (call:X.calm=true->CF X (.type T) (fun xs H Q=>∃ p n,xs=[.ref p] /\ H p=some (.rng 0 (n:Nat)) /\ n <= 1000 /\ ∀ l,H l=none->Q (.ref l) (upd H l (how (L6 n)))))
    (fin:∀ {ι:Nat->Addr} {μ:Mh} {H:Hp} {Q:VK} {ds:List D} {vs:List V},RelH X.K ι μ H->IsL X.K ι μ.length H ds vs->(Aft X.K ι μ H μ fun ι' H'=>∀ v,Is X.K ι' μ.length H' (f ds) v->Q v H')->∀ l,H l=none->Q (.ref l) (upd H l (how vs)))
    (yl:X.mg T=none) (ys:X.mg "range" = none) (bt:bootBuiltins T=some (.type T)) (he:RE X e m) (hc:X.calm=true:=by rfl) (hgl:Gl X T:=by rfl) (hgs:Gl X "range" := by rfl) (hst:Fe e=false:=by rfl) (n1:(T:Str) ≠ "__name__" := by decide) (n2:((T:Str) == ("__debug__" : Str))=false:=by decide) :
    RE X (.Call (.Name T p) [.Call (.Name "range" p2) [e] [] pos2] [] pos) (mUn (Lu f) m):=by
  have hs:PE X (.Call (.Name "range" p2) [e] [] pos2) _:=Ed No hgs ys PyProof.Rows.boot_range (FE he.pe Gy (Az hst)) (by decide) (by decide) (Az hst) rfl
  refine RE.wk (Ed (call hc) hgl yl bt (FE hs Gy (Az rfl)) n1 n2 (Az rfl) rfl) fun σ H Q h=>?_
  obtain ⟨ι,μ,τ,d,μ',R,S,ev,q⟩:=h
  obtain ⟨x,μ1,e1,e2⟩:=AG ev
  refine ⟨ι,μ,τ,x,μ1,R,S,e1,fun ι1 H1 E1 R1 v1 i1=>?_⟩
  cases x with
  | int j=>
    have e3:(if 0 <= j /\ j <= 1000 then some (f (O6 j.toNat),μ1) else none)=some (d,μ'):=e2
    split at e3
    . rename_i hj
      cases e3
      have z:=Bg i1
      subst z
      have ej:j=((j.toNat:Nat):Int):=by omega
      refine ⟨j.toNat,by rw [← ej],fun p hp=>?_⟩
      obtain ⟨E2,R2⟩:=R1.laid (.rng 0 (j.toNat:Nat)) hp
      exact ⟨p,j.toNat,rfl,BF,by omega,fun l hl=>fin R2 (HB _) (fun ι' H' E' R'=>q ι' H' ((E1.trans E2).trans E') R') l hl⟩
    . cases e3
  | _=>cases e2
theorem M3 {m:Sl->M D} (yl:X.mg "tuple" = none) (ys:X.mg "range" = none) (he:RE X e m) (hc:X.calm=true:=by rfl) (hgl:Gl X "tuple" := by rfl) (hgs:Gl X "range" := by rfl) (hst:Fe e=false:=by rfl) :
    RE X (.Call (.Name "tuple" p) [.Call (.Name "range" p2) [e] [] pos2] [] pos) (mUn (Lu D.tup) m):=Qi (T := "tuple") (how:=HO.tup) Ke ME yl ys Mi.CV he hc hgl hgs hst
def Dk (l:List (Key × D)) (k:Key):List (Key × D):=l.filter fun kv=>decide (kv.1 ≠ k)
theorem KVs.drop {K:PySem.W.Frag} {ι:Nat->Addr} {k:Nat} {H:Hp}:∀ {l:List (Key × D)} {r:List (Key × V)} (y:Key),KVs K ι k H l r->KVs K ι k H (Dk l y) (F4 r y)
  | [],_,y,h=>by cases h; rfl
  | (z,d) :: l,_,y,h=>by
    obtain ⟨v,r',rfl,h1,h2⟩:=h
    have ih:=KVs.drop y h2
    unfold Dk F4 at ih ⊢
    by_cases hz:z=y
    . rw [List.filter_cons_of_neg (by simp [hz]),List.filter_cons_of_neg (by simp [hz])]
      exact ih
    . rw [List.filter_cons_of_pos (by simp [hz]),List.filter_cons_of_pos (by simp [hz])]
      exact ⟨v,_,rfl,h1,ih⟩
def SL (d y:D):M D:=bnd (D3 d) fun r=>fun μ=>(JL y).bind fun k=>(Cc r.2 k).map fun v=>(v,μ.set r.1 (.dK (Dk r.2 k)))
def IF (mo mi:Sl->M D):Sl->M D:=fun τ=>bnd (mo τ) fun x=>bnd (JP x) fun _=>bnd (mi τ) fun y=>SL x y
theorem Qk {o:Expr} {apos cpos:Pos} {mo mi:Sl->M D} (ho:RE X o mo) (hi:RE X e mi) (m:M1 X o "pop" apos e cpos:=by exact ⟨rfl,rfl,rfl,rfl⟩):RE X (.Call (.Attribute o "pop" apos) [e] [] cpos) (IF mo mi):=RE.wk (Ot ho.pe hi.pe m) fun σ H Q h=>by
  obtain ⟨ι,μ,τ,d,μ',R,S,e,q⟩:=h
  obtain ⟨x,μ1,e1,ee1⟩:=AG e
  obtain ⟨u,μ4,e4,ee2⟩:=AG ee1
  obtain ⟨y,μ2,e2,ee3⟩:=AG ee2
  obtain ⟨r,μ3,e3,ee4⟩:=AG ee3
  obtain ⟨hm,r0,e5⟩:=NY e4
  subst hm
  refine ⟨ι,μ,τ,x,_,R,S,e1,fun ι1 H1 E1 R1 v1 i1=>?_⟩
  obtain ⟨_,_,_,rfl,kvs0,g0,_⟩:=Cg R1 i1 e5
  refine ⟨_,rfl,.inl ⟨kvs0,.inl g0⟩,ι1,_,τ,y,μ2,R1,S.ext E1,e2,fun ι2 H2 E2 R2 v2 i2=>?_⟩
  obtain ⟨hm,hx,g1,hv,kvs,g2,g3⟩:=Cg R2 (i1.ext E2) e3
  subst hm
  cases hk:JL y with
  | none=>rw [hk] at ee4; cases ee4
  | some ky=>
    rw [hk] at ee4
    cases GJ i2 hk
    have hv':ι1 r0.1=ι2 r.1:=V.ref.inj hv
    rw [hv']
    rcases g3.val ky with ⟨z1,z2⟩ | ⟨dd,vv,z1,z2,z3⟩
    . have ee5:(Cc r.2 ky).map (fun v=>(v,μ3.set r.1 (MO.dK (Dk r.2 ky))))=some (d,μ'):=ee4
      rw [z1] at ee5
      cases ee5
    . have ee5:(Cc r.2 ky).map (fun v=>(v,μ3.set r.1 (MO.dK (Dk r.2 ky))))=some (d,μ'):=ee4
      rw [z1] at ee5
      cases ee5
      have hlt:r.1 < List.length μ3:=(List.getElem?_eq_some_iff.mp g1).1
      obtain ⟨E4,R4⟩:=R2.changed (m:=.dK (Dk r.2 ky)) (o:=.dK (F4 kvs ky)) hlt ⟨_,rfl,g3.drop ky⟩
      exact ⟨kvs,ky,vv,g2,rfl,z2,q ι2 _ ((E1.trans E2).trans E4) R4 vv (z3.ext E4)⟩
end
end Mi
namespace L2
open PySem PySem.Spec PyProof.Rows Sem Ht
theorem QQ:fillsNumberSlot (.type "tuple") "mul" = Pure.pure false:=PySem.fillsNumberSlot_seq (id := "tuple.__mul__") (r:=some (.builtin "tuple.__rmul__")) PySem.F.slot_tuple_mul.lookup (by decide +kernel) PySem.F.slot_tuple_rmul.lookup (by decide +kernel)
theorem SX:seqRepeat? (.type "tuple")=Pure.pure (some (.builtin "tuple.__mul__")):=by
  unfold seqRepeat?
  rw [PySem.seqSlot_of (T := "tuple") (name := "__mul__") PySem.F.slot_tuple_mul.lookup (by decide +kernel),PySem.seqSlot_of (T := "tuple") (name := "__rmul__") PySem.F.slot_tuple_rmul.lookup (by decide +kernel)]
  rfl
section
variable {prog:Program} {w:World} {A:Around} {E:Value->Shared->Prop} {s:Shared}
theorem SZ (a:Int) (t:Tok) (l:Addr) (items:Array Value):Meets (Builtin.«int.__rmul__» ⟨[.int a t,.ref l],[]⟩) (fun _ R s=>IsTup s.heap l items /\ R (.ok (.ret Value.notImplemented)) s):=
  .of_wp fun prog w A R s h=>by
    obtain ⟨⟨o,ho,hc,n,hd⟩,h⟩:=h
    have hT:s.TypeIs (.ref l) "tuple" := ⟨o,ho,hc⟩
    have z:=PySem.F.sub_tuple_int
    wp_walk
    rw [hd]
    wp_walk
    exact ⟨_,rfl,h⟩
theorem SY (l:Addr) (items:Array Value) (k:Int) (t:Tok) (h0:items.isEmpty=false) (h1:1 <= k) (h2:k <= 1000) (h3:items.size <= 1000) :
    Meets (Builtin.«tuple.__mul__» ⟨[.ref l,.int k t],[]⟩) (fun _ R s=>IsTup s.heap l items /\ (k=1->R (.ok (.ret (.ref l))) s) /\ (k ≠ 1->R (.ok (.ret (.ref s.heap.objs.size))) { s with heap:=s.heap.push { cls:=.type "tuple",data:=.seq ((List.replicate k.toNat items).foldl (· ++ ·) #[]) } })):=
  .of_wp fun prog w A R s h=>by
    obtain ⟨⟨o,ho,hc,n,hd⟩,q1,q2⟩:=h
    have hT:s.TypeIs (.ref l) "tuple" := ⟨o,ho,hc⟩
    have b1:(items.size:Int) * k <= 1000000:=by
      have:=Int.mul_le_mul (show (items.size:Int) <= 1000 by omega) h2 (by omega) (by omega)
      omega
    have c1:(decide (k < -2 ^ 63) || decide (k ≥ 2 ^ 63))=false:=by simp; omega
    have c3:(decide (k <= 0) || items.isEmpty)=false:=by rw [h0]; simp; omega
    have c5:Builtin.Tuple.tupleTooMany ((items.size:Int) * k)=false:=by
      unfold Builtin.Tuple.tupleTooMany
      simp [sizeLine_eq]
      omega
    unfold Builtin.«tuple.__mul__»
    wp_walk
    rw [c1,if_neg Bool.false_ne_true]
    refine wpAny_bind ?_
    unfold Builtin.Tuple.tupleItemsOf
    refine wpAny_bind (wpAny_seqItems ho hd (wpAny_pure ?_))
    rw [h0]
    by_cases hk:k=1
    . have c2:(false || k == 1)=true:=by simp [hk]
      rw [c2]
      simp only [↓reduceIte]
      wp_walk
      exact ⟨_,rfl,q1 hk⟩
    . have c2:(false || k == 1)=false:=by simp [hk]
      rw [c2]
      simp only [Bool.false_eq_true,↓reduceIte]
      rw [Bool.or_false,decide_eq_false (show ¬ k <= 0 by omega)]
      simp only [Bool.false_eq_true,↓reduceIte]
      rw [if_neg (show ¬ (items.size:Int) * k > (2 ^ 63 - 1) / 8 by omega),c5]
      simp only [Bool.false_eq_true,↓reduceIte]
      unfold Builtin.Tuple.tupleExact
      refine wpAny_bind (wpAny_newObj_type (wpAny_pure ⟨_,rfl,q2 hk⟩) ?_)
      show ((List.replicate k.toNat items).foldl (· ++ ·) #[]).size <= sizeLine
      have sz:∀ (m:Nat) (z:Array Value),((List.replicate m items).foldl (· ++ ·) z).size=z.size + m * items.size:=by
        intro m
        induction m with
        | zero=>intro z; simp
        | succ m ih=>intro z; rw [List.replicate_succ,List.foldl_cons,ih,Array.size_append,Nat.succ_mul]; omega
      rw [sz,sizeLine_eq]
      have:((k.toNat * items.size:Nat):Int)=(items.size:Int) * k:=by
        rw [Int.natCast_mul,Int.toNat_of_nonneg (by omega),Int.mul_comm]
      simp
      omega
end
theorem HG (its:List Value):∀ (m:Nat) (z:List Value),(List.replicate m its.toArray).foldl (· ++ ·) z.toArray=(z ++ (List.replicate m its).flatten).toArray
  | 0,z=>by simp
  | m + 1,z=>by
    rw [List.replicate_succ,List.foldl_cons,List.append_toArray,HG its m,List.replicate_succ,List.flatten_cons,List.append_assoc]
theorem Vals.reps {vs:List V} {us:List Value} (r:Vals vs us):∀ m:Nat,Vals (List.replicate m vs).flatten (List.replicate m us).flatten
  | 0=>.nil
  | m + 1=>by
    rw [List.replicate_succ,List.flatten_cons,List.replicate_succ,List.flatten_cons]
    exact r.append (Vals.reps r m)
section
variable {X:Cx}
theorem Q9:OpR X (binaryOp .Mult) (fun x y H Q=>∃ l k xs,x=.ref l /\ y=.int k /\ SqT X.K H l xs /\ xs ≠ [] /\ xs.length <= 1000 /\ 1 <= k /\ k <= 1000 /\ (k=1->Q (.ref l) H) /\ (k ≠ 1->∀ p,H p=none->Q (.ref p) (upd H p (.tup (List.replicate k.toNat xs).flatten)))):=by
  intro pins s σ H x y v u Q I rx ry h
  obtain ⟨l,k,xs,rfl,rfl,ha,hx,hz,k1,k2,q1,q2⟩:=h
  cases rx
  obtain ⟨t,rfl⟩:=ry
  obtain ⟨its,r,p,_⟩:=I.tuple ha
  have hlen:=r.length
  have hT:s.TypeIs (.ref l) "tuple" := by obtain ⟨o,e,c,_⟩:=p; exact ⟨o,e,c⟩
  have he:its.toArray.isEmpty=false:=by
    cases its with
    | nil=>exact absurd (List.length_eq_zero_iff.mp (by simpa using hlen)) hx
    | cons a b=>rfl
  refine wpAny_binaryOp_repeat_ref (T := "tuple") (U := "int") (by decide) hT (fun s'=>typeIs_int s' k t) QQ PySem.F.fills_int_mul PySem.F.slot_int_rmul SX PySem.F.slot_int_index.lookup ?_
  refine call_meets PySem.F.slot_int_rmul (typeIs_int s k t) PySem.F.entry_int_rmul (PySem.F.args_int_rmul_2 _ _) (SZ k t l its.toArray) ⟨p,rfl,hT,?_⟩
  refine call_meets PySem.F.slot_tuple_mul hT PySem.F.entry_tuple_mul (PySem.F.args_tuple_mul_2 _ _) (SY l its.toArray k t he k1 k2 (by rw [List.size_toArray]; omega)) ⟨p,fun z=>⟨.ref l,H,I,rfl,q1 z⟩,fun z=>?_⟩
  have ef:=HG its k.toNat []
  rw [List.nil_append] at ef
  rw [ef]
  refine ⟨.ref s.heap.objs.size,_,I.laid (t':=s.toks) (o:=.tup (List.replicate k.toNat xs).flatten) (fun b ob q=>Heap.get?_push_of_some _ q) (Nat.le_refl _) ⟨?_,_,r.reps _,IsTup.new _ _⟩,rfl,q2 z _ (I.hok.fresh (Nat.le_refl _))⟩
  rw [MC,sizeLine_eq]
  have:k.toNat * xs.length <= 1000 * 1000:=Nat.mul_le_mul (by omega) hz
  omega
end
end L2
namespace Mi
open PySem L2 Ht
def FY (a b:D):M D:=match a,b with
  | .tup ds,.int k=>fun μ=>if ds ≠ [] /\ ds.length <= 1000 /\ 1 <= k /\ k <= 1000 then some (.tup (List.replicate k.toNat ds).flatten,μ) else none
  | a,b=>FB a b
section
variable {X:Cx}
theorem O0:OpR X (binaryOp .Mult) (rM X.K FY):=fun pins s σ H x y v u Q I rx ry h=>by
  obtain ⟨ι,μ,a,b,d,μ',R,ia,ib,e,q⟩:=h
  unfold FY at e
  split at e
  . rename_i ds k
    split at e
    . rename_i hc
      obtain ⟨c1,c2,c3,c4⟩:=hc
      cases e
      have zb:=Bg ib
      subst zb
      unfold Is at ia
      obtain ⟨p,vs,rfl,h1,h2⟩:=ia
      have hl:=h2.length
      refine Q9 pins s σ H _ _ v u Q I rx ry ⟨p,k,vs,rfl,rfl,h1,fun z=>c1 (List.length_eq_zero_iff.mp (by rw [← hl,z]; rfl)),by omega,c3,c4,fun z=>?_,fun z=>?_⟩
      . subst z
        refine q ι H R.ext0 R _ ?_
        unfold Is
        exact ⟨p,vs,rfl,h1,by simpa using h2⟩
      . exact ME R (h2.rep _) q
    . cases e
  . exact L1 pins s σ H _ _ v u Q I rx ry ⟨ι,μ,a,b,d,μ',R,ia,ib,e,q⟩
end
end Mi
namespace Mi
open PySem L2 Ht
def JC:D->D->M D
  | .int i,.int j=>ret (.int (i + j))
  | _,_=>BS
section
variable {X:Cx} {e:Expr} {pos pos':Pos}
theorem Sn (i:Nat) {x:Str} {m:Sl->M D} (hN:X.N.Nodup) (he:RE X e m) (hi:X.N[i]? = some x:=by rfl) (hx:Loc X.env.scope x:=by first | exact Or.inl rfl | exact Or.inr rfl) (hf:X.fn x=true ∨ X.env.scope.names.lookup x=some .local:=by first | exact .inl rfl | exact .inr rfl | assumption) :
    RS X (.AugAssign (.Name x pos') .Add e pos) (Ae (mOp JC (AB i) m) (AM i)):=RS.wk (S9 hN hi hx he.pe Tw hf) fun Dn σ H h=>by
  obtain ⟨ι,μ,τ,f,τ',μ',R,S,ev,q⟩:=h
  obtain ⟨d,μ1,e1,ev⟩:=AG ev
  obtain ⟨τ1,μ2,e2,ev⟩:=AG ev
  cases ev
  cases e2
  obtain ⟨a,μ3,e3,ev⟩:=AG e1
  obtain ⟨b,μ4,e4,e5⟩:=AG ev
  unfold AB at e3
  split at e3
  . rename_i d' ed
    cases e3
    obtain ⟨v,s1,h1⟩:=S.get i _ ed
    refine ⟨v,s1,ι,μ,τ,b,μ4,R,S,e4,fun ι1 H1 E1 R1 v1 i1=>?_⟩
    cases a with
    | int k=>
      cases b with
      | int j=>
        cases e5
        have z1:=Bg h1
        have z2:=Bg i1
        subst z1 z2
        exact ⟨k,j,rfl,rfl,q ι1 H1 E1 R1 _ ((S.ext E1).set i (ofI _))⟩
      | _=>cases e5
    | _=>cases e5
  . cases e3
end
end Mi
namespace L2
open PySem PySem.Spec PyProof.Rows
section
variable {X:Cx} {scope:Scope} {tgs:List Str} {ix:List Nat}
end
end L2
namespace Mi
open PySem L2
section
variable {X:Cx} {scope:Scope} {tgs:List Str} {ix:List Nat} {elt tg iter:Expr} {pos:Pos}
end
end Mi
namespace L2
open PySem PySem.Spec PyProof.Rows
section
variable {X:Cx}
end
end L2
namespace Mi
open PySem L2 Ht
section
variable {X:Cx} {e tg iter:Expr} {body:List Stmt} {pos:Pos}
def Vu (ks:List Key) (m:Sl->M (List D)):Sl->M D:=fun τ μ=>match m τ (μ ++ [.dK []]) with
  | some (ds,μ1)=>match μ1[μ.length]? with
    | some (.dK [])=>if ds.length=ks.length then some (.ref μ.length,μ1.set μ.length (.dK (ks.zip ds))) else none
    | _=>none
  | none=>none
def Fk (n:Nat) (bf:D->Sl->M Sl) (mb:Sl->M (Fl × Sl)):Nat->Nat->Sl->M (Fl × Sl)
  | 0,_,_=>BS
  | f + 1,i,τ=>fun μ=>match μ[n]? with
    | some (.lst ds)=>match ds[i]? with
      | some x=>(bnd (bf x τ) fun τ1=>bnd (mb τ1) fun r=>match r.1 with
        | .next=>Fk n bf mb f (i + 1) r.2
        | .cont=>Fk n bf mb f (i + 1) r.2
        | .brk=>ret (.next,r.2)
        | .rt d=>ret (.rt d,r.2)) μ
      | none=>some ((.next,τ),μ)
    | _=>none
def Lo (A5:Nat) (m:Sl->M D) (bf:D->Sl->M Sl) (mb:Sl->M (Fl × Sl)):Sl->M (Fl × Sl):=fun τ=>bnd (m τ) fun x=>match x with
  | .ref n=>Fk n bf mb A5 0 τ
  | _=>BS
theorem Qc (A5:Nat) {m:Sl->M D} {bf:D->Sl->M Sl} {mb:Sl->M (Fl × Sl)} (hp:PassesOwn (model X.prog X.w) X.A X.env X.xe) (hc:X.calm=true) (hi:RE X iter m) (hg:RG X tg bf) (hb:RSs X body mb)
    (hs:∀ x,foldedSetIterable iter X.env x=pure x:=by intro _; rfl):RS X (.For tg iter body [] pos) (Lo A5 m bf mb):=RS.wk (Oh hp hc (L0 hi.pe) hg.pe hb.pe hs) fun Dn σ H h=>by
  obtain ⟨ι,μ,τ,f,τ',μ',R,S,e,q⟩:=h
  obtain ⟨x,μ1,e1,e2⟩:=AG e
  refine ⟨ι,μ,τ,x,μ1,R,S,e1,fun ι1 H1 E1 R1 v i1=>?_⟩
  cases x with
  | ref n=>
    unfold Is at i1
    obtain ⟨hk,rfl⟩:=i1
    have hn0:∃ ds,μ1[n]? = some (.lst ds):=by
      cases A5 with
      | zero=>cases e2
      | succ f=>
        have e3:Fk n bf mb (f + 1) 0 τ μ1=some ((_,τ'),μ'):=e2
        unfold Fk at e3
        split at e3
        . rename_i ds hd; exact ⟨ds,hd⟩
        . cases e3
    obtain ⟨ds0,hn0⟩:=hn0
    obtain ⟨u,hu,o⟩:=R1.obj n _ hn0
    obtain ⟨vs0,rfl,iv0⟩:=o
    refine ⟨_,rfl,⟨vs0,SqL.of hu⟩,?_⟩
    let W:Nat->Nat->St->Hp->Prop:=fun i m σ H=>∃ ι μ τ f τ' μ',RelH X.K ι μ H /\ RelS X.K ι μ.length H τ σ /\ n < μ.length /\ ι n=ι1 n /\ Fk n bf mb m i τ μ=some ((f,τ'),μ') /\
      Aft X.K ι μ H μ' fun ι' H'=>∀ σ',RelS X.K ι' μ'.length H' τ' σ'->FlP X.K Dn ι' μ'.length H' τ' σ' f
    refine ⟨W,⟨A5,ι1,μ1,τ,f,τ',μ',R1,S.ext E1,hk,rfl,e2,fun ι2 H2 E2 R2=>q ι2 H2 (E1.trans E2) R2⟩,?_⟩
    rintro i m σ H ⟨ι,μ,τ,f,τ',μ',R,S,hn,en,e,q⟩
    cases m with
    | zero=>cases e
    | succ m=>
      unfold Fk at e
      split at e
      . rename_i ds hd
        obtain ⟨u,hu,o⟩:=R.obj n _ hd
        obtain ⟨vs,rfl,iv⟩:=o
        rw [en] at hu
        have hl:=iv.length
        split at e
        . rename_i x hx
          obtain ⟨xv,hxv,ixv⟩:=iv.get hx
          refine .inr ⟨⟨vs,xv,SqL.of hu,hxv⟩,fun σ' H'=>W (i + 1) m σ' H',fun σ' H' z=>⟨_,Nat.lt_succ_self _,z⟩,fun y H2 yl=>?_⟩
          obtain ⟨z,yl⟩:=yl
          subst z
          have:=yl vs (SqL.of hu)
          rw [hxv] at this
          cases this
          obtain ⟨τ1,μ2,e1,ea⟩:=AG e
          obtain ⟨⟨f2,τ2⟩,μ3,e2,eb⟩:=AG ea
          refine ⟨ι,μ,τ,_,τ1,μ2,R,S,ixv,e1,fun ι3 H3 E3 R3 σ3 S3=>?_⟩
          refine ⟨ι3,μ2,τ1,f2,τ2,μ3,R3,S3,e2,fun ι4 H4 E4 R4 σ4 S4=>?_⟩
          have E14:=E3.trans E4
          have hn4:n < μ3.length:=Nat.lt_of_lt_of_le hn E14.le
          have en4:ι4 n=ι1 n:=(E14.agree n hn).trans en
          cases f2 with
          | next=>exact ⟨ι4,μ3,τ2,f,τ',μ',R4,S4,hn4,en4,eb,fun ι5 H5 E5 R5=>q ι5 H5 (E14.trans E5) R5⟩
          | cont=>exact ⟨ι4,μ3,τ2,f,τ',μ',R4,S4,hn4,en4,eb,fun ι5 H5 E5 R5=>q ι5 H5 (E14.trans E5) R5⟩
          | brk=>cases eb; exact q ι4 H4 E14 R4 σ4 S4
          | rt d=>cases eb; exact q ι4 H4 E14 R4 σ4 S4
        . rename_i hx
          cases e
          have hle:ds.length <= i:=by simpa using hx
          exact .inl ⟨⟨vs,SqL.of hu,by omega⟩,q ι H R.ext0 R σ S⟩
      . cases e
  | _=>cases e2
end
end Mi
namespace Sq
open PySem PySem.W PyProof.Rows
def run {α:Type} (lt:Nat->Nat->Bool):KasT α->α
  | .ret a=>a
  | .ask i j k=>run lt (k (lt i j))
theorem DY {α β:Type} {lt:Nat->Nat->Bool} {f:α->KasT β}:∀ t:KasT α,run lt (t.bind f)=run lt (f (run lt t))
  | .ret _=>rfl
  | .ask i j k=>DY (k (lt i j))
structure Ord (N:Nat) (lt:Nat->Nat->Bool):Prop where
  tot:∀ i j,i < N->j < N->i ≠ j->lt i j=true ∨ lt j i=true
  tr:∀ i j k,lt i j=true->lt j k=true->lt i k=true
  irr:∀ i,lt i i=false
abbrev Pm (N:Nat) (p:Array Nat):Prop:=p.toList.Perm (List.range N)
section
variable {N:Nat} {lt:Nat->Nat->Bool} {p:Array Nat}
theorem Pm.size (h:Pm N p):p.size=N:=by
  have:=h.length_eq
  simpa using this
theorem Pm.bd (h:Pm N p) {i:Nat} (hi:i < N):p.getD i 0 < N:=by
  have hs:=h.size
  have:p.getD i 0 ∈ p.toList:=by
    have e:p.getD i 0=p[i]'(by omega):=by simp [Array.getD,hs,hi]
    rw [e]
    exact Array.mem_toList_iff.mpr (Array.getElem_mem _)
  exact List.mem_range.mp (h.mem_iff.mp this)
theorem Pm.inj (h:Pm N p) {i j:Nat} (hi:i < N) (hj:j < N) (e:p.getD i 0=p.getD j 0):i=j:=by
  have hs:=h.size
  have nd:p.toList.Nodup:=h.nodup_iff.mpr List.nodup_range
  have e1:p.getD i 0=p.toList[i]'(by simp [hs,hi]):=by simp [Array.getD,hs,hi]
  have e2:p.getD j 0=p.toList[j]'(by simp [hs,hj]):=by simp [Array.getD,hs,hj]
  rw [e1,e2] at e
  exact (List.getElem_inj nd).mp e
theorem Pm.tot (h:Pm N p) (o:Ord N lt) {i j:Nat} (hi:i < N) (hj:j < N) (hne:i ≠ j):lt (p.getD i 0) (p.getD j 0)=true ∨ lt (p.getD j 0) (p.getD i 0)=true:=o.tot _ _ (Pm.bd h hi) (Pm.bd h hj) fun e=>hne (h.inj hi hj e)
theorem Pm.not (h:Pm N p) (o:Ord N lt) {i j:Nat} (hi:i < N) (hj:j < N) (hne:i ≠ j) (e:lt (p.getD i 0) (p.getD j 0)=false):lt (p.getD j 0) (p.getD i 0)=true:=(h.tot o hi hj hne).elim (fun z=>by rw [e] at z; cases z) id
def Up (lt:Nat->Nat->Bool) (p:Array Nat) (n:Nat):Prop:=∀ i j,i < j->j < n->lt (p.getD i 0) (p.getD j 0)=true
theorem Up.more (o:Ord N lt) {n:Nat} (h:Up lt p n) (hn:1 <= n) (e:lt (p.getD (n - 1) 0) (p.getD n 0)=true):Up lt p (n + 1):=fun i j hij hj=>by
  rcases Nat.lt_or_ge j n with z | z
  . exact h i j hij z
  . have:j=n:=by omega
    subst this
    rcases Nat.lt_or_ge i (j - 1) with y | y
    . exact o.tr _ _ _ (h i (j - 1) y (by omega)) e
    . have:i=j - 1:=by omega
      subst this; exact e
theorem GV (o:Ord N lt) (P:Pm N p):∀ (f n:Nat),1 <= n->n + f <= N->Up lt p n->n <= run lt (kas_asc p f n) /\ run lt (kas_asc p f n) <= n + f /\ Up lt p (run lt (kas_asc p f n)) /\ (run lt (kas_asc p f n) < n + f->lt (p.getD (run lt (kas_asc p f n)) 0) (p.getD (run lt (kas_asc p f n) - 1) 0)=true)
  | 0,n,h1,h2,u=>⟨Nat.le_refl _,Nat.le_refl _,u,fun z=>absurd z (Nat.lt_irrefl _)⟩
  | f + 1,n,h1,h2,u=>by
    unfold kas_asc
    show n <= run lt (if lt (p.getD n 0) (p.getD (n - 1) 0)=true then .ret n else kas_asc p f (n + 1)) /\ _
    cases e:lt (p.getD n 0) (p.getD (n - 1) 0) with
    | true=>
      rw [show run lt (KasT.ask (p.getD n 0) (p.getD (n - 1) 0) fun c=>if c=true then .ret n else kas_asc p f (n + 1))=n from by show run lt (if lt (p.getD n 0) (p.getD (n - 1) 0)=true then KasT.ret n else kas_asc p f (n + 1))=n; rw [e]; rfl]
      exact ⟨Nat.le_refl _,by omega,u,fun _=>e⟩
    | false=>
      rw [show run lt (KasT.ask (p.getD n 0) (p.getD (n - 1) 0) fun c=>if c=true then .ret n else kas_asc p f (n + 1))=run lt (kas_asc p f (n + 1)) from by show run lt (if lt (p.getD n 0) (p.getD (n - 1) 0)=true then KasT.ret n else kas_asc p f (n + 1))=_; rw [e]; rfl]
      rw [if_neg (by decide)]
      obtain ⟨a,b,c,d⟩:=GV o P f (n + 1) (by omega) (by omega) (u.more o h1 (P.not o (by omega) (by omega) (by omega) e))
      exact ⟨by omega,by omega,c,fun z=>d (by omega)⟩
def Dn (lt:Nat->Nat->Bool) (p:Array Nat) (n:Nat):Prop:=∀ i j,i < j->j < n->lt (p.getD j 0) (p.getD i 0)=true
theorem HQ (o:Ord N lt) (P:Pm N p):∀ (f n:Nat),1 <= n->n + f <= N->Dn lt p n->∃ m,run lt (kas_desc f p n 0)=(p,m,0) /\ n <= m /\ m <= n + f /\ Dn lt p m
  | 0,n,h1,h2,u=>⟨n,rfl,Nat.le_refl _,Nat.le_refl _,u⟩
  | f + 1,n,h1,h2,u=>by
    cases e:lt (p.getD n 0) (p.getD (n - 1) 0) with
    | true=>
      have u':Dn lt p (n + 1):=fun i j hij hj=>by
        rcases Nat.lt_or_ge j n with z | z
        . exact u i j hij z
        . have:j=n:=by omega
          subst this
          rcases Nat.lt_or_ge i (j - 1) with y | y
          . exact o.tr _ _ _ e (u i (j - 1) y (by omega))
          . have:i=j - 1:=by omega
            subst this; exact e
      obtain ⟨m,a,b,c,d⟩:=HQ o P f (n + 1) (by omega) (by omega) u'
      refine ⟨m,?_,by omega,by omega,d⟩
      unfold kas_desc
      show run lt (if lt (p.getD n 0) (p.getD (n - 1) 0)=true then _ else _)=_
      rw [e,if_pos rfl,if_neg (by omega)]
      exact a
    | false=>
      have e2:=P.not o (i:=n) (j:=n - 1) (by omega) (by omega) (by omega) e
      refine ⟨n,?_,Nat.le_refl _,by omega,u⟩
      unfold kas_desc
      show run lt (if lt (p.getD n 0) (p.getD (n - 1) 0)=true then _ else KasT.ask (p.getD (n - 1) 0) (p.getD n 0) _)=_
      rw [e,if_neg (by decide)]
      show run lt (if lt (p.getD (n - 1) 0) (p.getD n 0)=true then _ else _)=_
      rw [e2]; rfl
theorem GN {xs ys:Array Nat} {i j:Nat} (h:xs[i]? = ys[j]?):xs.getD i 0=ys.getD j 0:=by
  rw [Array.getD_eq_getD_getElem?,Array.getD_eq_getD_getElem?,h]
theorem Gn (P:Pm N p) (i j:Nat):Pm N (kas_rev p i j):=(mirror_perm p i j _).toList.trans P
theorem Sr (P:Pm N p) {m:Nat} (hm:m <= N) (d:Dn lt p m):Up lt (kas_rev p 0 m) m:=fun i j hij hj=>by
  have hs:=P.size
  have g:∀ k,k < m->(kas_rev p 0 m).getD k 0=p.getD (m - 1 - k) 0:=fun k hk=>GN (by
    unfold kas_rev
    rw [getElem?_mirror_all (by omega) k,if_pos ⟨Nat.zero_le _,hk⟩]
    congr 1; omega)
  rw [g i (by omega),g j hj]
  exact d (m - 1 - j) (m - 1 - i) (by omega) (by omega)
theorem IZ (o:Ord N lt) (P:Pm N p) (hN:2 <= N):∃ n p',run lt (kas_count N p)=(n,p') /\ 1 <= n /\ n <= N /\ Pm N p' /\ Up lt p' n:=by
  have u1:Up lt p 1:=fun i j hij hj=>by omega
  obtain ⟨a,b,c,d⟩:=GV o P (N - 1) 1 (Nat.le_refl _) (by omega) u1
  generalize hm:run lt (kas_asc p (N - 1) 1)=m at a b c d
  unfold kas_count
  rw [DY,hm]
  by_cases e:m=N
  . rw [if_pos (by simp [e])]
    exact ⟨m,p,rfl,a,by omega,P,c⟩
  . rw [if_neg (by simp [e])]
    by_cases h1:m > 1
    . rw [if_pos h1]
      have z:lt (p.getD 0 0) (p.getD (m - 1) 0)=true:=c 0 (m - 1) (by omega) (by omega)
      refine ⟨m,p,?_,a,by omega,P,c⟩
      show run lt (if lt (p.getD 0 0) (p.getD (m - 1) 0)=true then _ else _)=_
      rw [z]; rfl
    . rw [if_neg h1]
      have m1:m=1:=by omega
      subst m1
      have dd:=d (by omega)
      have dn:Dn lt p 2:=fun i j hij hj=>by
        have:i=0 /\ j=1:=by omega
        obtain ⟨rfl,rfl⟩:=this
        exact dd
      obtain ⟨m,r,b1,b2,d2⟩:=HQ o P (N - 2) 2 (by omega) (by omega) dn
      have P':=Gn P 0 m
      have u':=Sr P (m:=m) (by omega) d2
      obtain ⟨a3,b3,c3,_⟩:=GV o P' (N - m) m (by omega) (by omega) u'
      refine ⟨run lt (kas_asc (kas_rev p 0 m) (N - m) m),kas_rev p 0 m,?_,by omega,by omega,P',c3⟩
      unfold kas_descPart
      rw [DY,show N - (1 + 1)=N - 2 from rfl,show 1 + 1=2 from rfl,r]
      show run lt (if (0:Nat) > 0 then _ else kas_tail3 m N p)=_
      rw [if_neg (by omega)]
      unfold kas_tail3
      rw [DY]
      rfl
theorem FZ (o:Ord N lt) (P:Pm N p) {k:Nat} (hk:k < N) (u:Up lt p k):∀ (f l r:Nat),l <= r->r <= k->r - l <= f->(∀ i,i < l->lt (p.getD i 0) (p.getD k 0)=true)->(∀ i,r <= i->i < k->lt (p.getD k 0) (p.getD i 0)=true)->
    ∃ m,run lt (kas_place p k f l r)=m /\ m <= k /\ (∀ i,i < m->lt (p.getD i 0) (p.getD k 0)=true) /\ (∀ i,m <= i->i < k->lt (p.getD k 0) (p.getD i 0)=true)
  | 0,l,r,h1,h2,h3,a,b=>⟨l,rfl,by omega,a,fun i hi=>b i (by omega)⟩
  | f + 1,l,r,h1,h2,h3,a,b=>by
    unfold kas_place
    by_cases e:l ≥ r
    . rw [if_pos e]
      exact ⟨l,rfl,by omega,a,fun i hi=>b i (by omega)⟩
    . rw [if_neg e]
      have hmid:l <= (l + r) / 2 /\ (l + r) / 2 < r:=by omega
      show ∃ m,run lt (if lt (p.getD k 0) (p.getD ((l + r) / 2) 0)=true then _ else _)=m /\ _
      cases c:lt (p.getD k 0) (p.getD ((l + r) / 2) 0) with
      | true=>
        rw [if_pos rfl]
        refine FZ o P hk u f l ((l + r) / 2) (by omega) (by omega) (by omega) a fun i hi hik=>?_
        rcases Nat.lt_or_ge ((l + r) / 2) i with z | z
        . exact o.tr _ _ _ c (u _ _ z hik)
        . have:i=(l + r) / 2:=by omega
          subst this; exact c
      | false=>
        rw [if_neg (by decide)]
        have c':=P.not o hk (show (l + r) / 2 < N by omega) (by omega) c
        refine FZ o P hk u f ((l + r) / 2 + 1) r (by omega) (by omega) (by omega) (fun i hi=>?_) b
        rcases Nat.lt_or_ge i ((l + r) / 2) with z | z
        . exact o.tr _ _ _ (u _ _ z (by omega)) c'
        . have:i=(l + r) / 2:=by omega
          subst this; exact c'
theorem Mc (o:Ord N lt):∀ (f k:Nat) (p:Array Nat),Pm N p->1 <= k->k + f=N->Up lt p k->Pm N (run lt (kas_bin f p k)) /\ Up lt (run lt (kas_bin f p k)) N
  | 0,k,p,P,h1,h2,u=>⟨P,(show k=N by omega) ▸ u⟩
  | f + 1,k,p,P,h1,h2,u=>by
    unfold kas_bin
    rw [DY]
    obtain ⟨m,e,hm,a,b⟩:=FZ o P (k:=k) (by omega) u k 0 k (Nat.zero_le _) (Nat.le_refl _) (by omega) (fun i hi=>by omega) (fun i h1 h2=>by omega)
    rw [e]
    have hs:=P.size
    have g:∀ j,(bubble p k (k - m)).getD j 0=if j=m then p.getD k 0 else if m < j /\ j <= k then p.getD (j - 1) 0 else p.getD j 0:=fun j=>by
      have:=getElem?_bubble (xs:=p) (src:=k) (by omega) (k - m) (by omega) j
      rw [show k - (k - m)=m by omega] at this
      by_cases z:j=m
      . rw [if_pos z] at this ⊢; exact GN this
      . rw [if_neg z] at this ⊢
        by_cases y:m < j /\ j <= k
        . rw [if_pos y] at this ⊢; exact GN this
        . rw [if_neg y] at this ⊢; exact GN this
    refine Mc o f (k + 1) _ ((bubble_perm p k _).toList.trans P) (by omega) (by omega) fun i j hij hj=>?_
    by_cases ji:j=m
    . have gi:(bubble p k (k - m)).getD i 0=p.getD i 0:=by rw [g i,if_neg (by omega),if_neg (by omega)]
      have gj:(bubble p k (k - m)).getD j 0=p.getD k 0:=by rw [g j,if_pos ji]
      rw [gi,gj]
      exact a i (by omega)
    . by_cases jj:m < j
      . have gj:(bubble p k (k - m)).getD j 0=p.getD (j - 1) 0:=by rw [g j,if_neg ji,if_pos ⟨jj,by omega⟩]
        rw [gj]
        by_cases ii:i=m
        . have gi:(bubble p k (k - m)).getD i 0=p.getD k 0:=by rw [g i,if_pos ii]
          rw [gi]
          exact b (j - 1) (by omega) (by omega)
        . by_cases i2:m < i
          . have gi:(bubble p k (k - m)).getD i 0=p.getD (i - 1) 0:=by rw [g i,if_neg ii,if_pos ⟨i2,by omega⟩]
            rw [gi]
            exact u (i - 1) (j - 1) (by omega) (by omega)
          . have gi:(bubble p k (k - m)).getD i 0=p.getD i 0:=by rw [g i,if_neg ii,if_neg (by omega)]
            rw [gi]
            exact u i (j - 1) (by omega) (by omega)
      . have gi:(bubble p k (k - m)).getD i 0=p.getD i 0:=by rw [g i,if_neg (by omega),if_neg (by omega)]
        have gj:(bubble p k (k - m)).getD j 0=p.getD j 0:=by rw [g j,if_neg ji,if_neg (by omega)]
        rw [gi,gj]
        exact u i j hij (by omega)
theorem sort_run (o:Ord N lt) (hN:2 <= N):Pm N (run lt (kas_sort N)) /\ Up lt (run lt (kas_sort N)) N:=by
  unfold kas_sort
  rw [DY]
  obtain ⟨n,p',e,h1,h2,P,u⟩:=IZ (p:=List.toArray (List.range N)) o (List.Perm.refl _) hN
  rw [e]
  by_cases z:n < N
  . rw [if_pos z]
    rw [show max n 1=n by omega]
    exact Mc o (N - n) n p' P h1 (by omega) u
  . rw [if_neg z]
    have:n=N:=by omega
    subst this
    exact ⟨P,u⟩
end
end Sq
namespace Sq
open PySem PySem.W PyProof.Rows
def Bd {α:Type} (N:Nat) (lt:Nat->Nat->Bool):KasT α->Prop
  | .ret _=>True
  | .ask i j k=>i < N /\ j < N /\ Bd N lt (k (lt i j))
theorem wp_of {α:Type} {N:Nat} {lt:Nat->Nat->Bool} {cmp:Nat->Nat->(Bool->Shared->Prop)->Shared->Prop} {s:Shared} (hc:∀ i j (C:Bool->Shared->Prop),i < N->j < N->C (lt i j) s->cmp i j C s) {Q:α->Shared->Prop}:∀ t:KasT α,Bd N lt t->Q (run lt t) s->t.kasWp cmp Q s
  | .ret _,_,h=>h
  | .ask i j k,b,h=>hc i j _ b.1 b.2.1 (wp_of hc (k (lt i j)) b.2.2 h)
theorem En {α β:Type} {N:Nat} {lt:Nat->Nat->Bool} {f:α->KasT β}:∀ t:KasT α,Bd N lt t->Bd N lt (f (run lt t))->Bd N lt (t.bind f)
  | .ret _,_,h=>h
  | .ask i j k,b,h=>⟨b.1,b.2.1,En (k (lt i j)) b.2.2 h⟩
section
variable {N:Nat} {lt:Nat->Nat->Bool} {p:Array Nat}
theorem LV (P:Pm N p):∀ (f n:Nat),1 <= n->n + f <= N->Bd N lt (kas_asc p f n)
  | 0,n,h1,h2=>trivial
  | f + 1,n,h1,h2=>by
    refine ⟨Pm.bd P (by omega),Pm.bd P (by omega),?_⟩
    dsimp only
    split
    . trivial
    . exact LV P f (n + 1) (by omega) (by omega)
theorem GR:∀ (f n q:Nat) {p:Array Nat},Pm N p->1 <= n->n + f <= N->Bd N lt (kas_desc f p n q)
  | 0,n,q,p,P,h1,h2=>trivial
  | f + 1,n,q,p,P,h1,h2=>by
    refine ⟨Pm.bd P (by omega),Pm.bd P (by omega),?_⟩
    dsimp only
    split
    . split
      . exact GR f (n + 1) 0 (Gn P _ _) (by omega) (by omega)
      . exact GR f (n + 1) 0 P (by omega) (by omega)
    . refine ⟨Pm.bd P (by omega),Pm.bd P (by omega),?_⟩
      dsimp only
      split
      . trivial
      . exact GR f (n + 1) (q + 1) P (by omega) (by omega)
theorem P3 (o:Ord N lt) (P:Pm N p) (hN:2 <= N):Bd N lt (kas_count N p):=by
  have u1:Up lt p 1:=fun i j hij hj=>by omega
  obtain ⟨a,b,c,d⟩:=GV o P (N - 1) 1 (Nat.le_refl _) (by omega) u1
  unfold kas_count
  refine En _ (LV P (N - 1) 1 (Nat.le_refl _) (by omega)) ?_
  generalize hm:run lt (kas_asc p (N - 1) 1)=m at a b c d
  by_cases e:m=N
  . rw [if_pos (by simp [e])]; trivial
  . rw [if_neg (by simp [e])]
    by_cases h1:m > 1
    . rw [if_pos h1]
      have z:lt (p.getD 0 0) (p.getD (m - 1) 0)=true:=c 0 (m - 1) (by omega) (by omega)
      refine ⟨Pm.bd P (by omega),Pm.bd P (by omega),?_⟩
      rw [z]; trivial
    . rw [if_neg h1]
      have m1:m=1:=by omega
      subst m1
      have dd:=d (by omega)
      have dn:Dn lt p 2:=fun i j hij hj=>by
        have:i=0 /\ j=1:=by omega
        obtain ⟨rfl,rfl⟩:=this
        exact dd
      obtain ⟨m,r,b1,b2,d2⟩:=HQ o P (N - 2) 2 (by omega) (by omega) dn
      unfold kas_descPart
      refine En _ (GR (N - (1 + 1)) (1 + 1) 0 P (by omega) (by omega)) ?_
      rw [show N - (1 + 1)=N - 2 from rfl,show 1 + 1=2 from rfl,r]
      show Bd N lt (if (0:Nat) > 0 then _ else kas_tail3 m N p)
      rw [if_neg (by omega)]
      unfold kas_tail3
      exact En _ (LV (Gn P 0 m) (N - m) m (by omega) (by omega)) trivial
theorem Gx (P:Pm N p) {k:Nat} (hk:k < N):∀ (f l r:Nat),r <= k->Bd N lt (kas_place p k f l r)
  | 0,l,r,h=>trivial
  | f + 1,l,r,h=>by
    unfold kas_place
    by_cases e:l ≥ r
    . rw [if_pos e]; trivial
    . rw [if_neg e]
      refine ⟨Pm.bd P hk,Pm.bd P (by omega),?_⟩
      dsimp only
      split
      . exact Gx P hk f l ((l + r) / 2) (by omega)
      . exact Gx P hk f ((l + r) / 2 + 1) r h
theorem QD:∀ (f k:Nat) (p:Array Nat),Pm N p->k + f=N->Bd N lt (kas_bin f p k)
  | 0,k,p,P,h=>trivial
  | f + 1,k,p,P,h=>by
    unfold kas_bin
    exact En _ (Gx P (by omega) k 0 k (Nat.le_refl _)) (QD f (k + 1) _ ((bubble_perm p k _).toList.trans P) (by omega))
theorem sort_bd (o:Ord N lt) (hN:2 <= N):Bd N lt (kas_sort N):=by
  have P0:Pm N (List.toArray (List.range N)):=List.Perm.refl _
  unfold kas_sort
  refine En _ (P3 o P0 hN) ?_
  obtain ⟨n,p',e,h1,h2,P,u⟩:=IZ (p:=List.toArray (List.range N)) o P0 hN
  rw [e]
  by_cases z:n < N
  . rw [if_pos z]
    exact QD _ _ p' P (by omega)
  . rw [if_neg z]; trivial
end
end Sq
namespace Nk
open PySem PySem.Spec PyProof.Rows HT
def Nd (c:Cs):List Int:=c.1 :: c.2.1 :: c.2.2
def cLt (a b:Cs):Bool:=B7 (Nd a) (Nd b)
theorem KK {a b:Cs} (h:Nd a=Nd b):a=b:=by
  obtain ⟨a1,a2,a3⟩:=a
  obtain ⟨b1,b2,b3⟩:=b
  simp only [Nd,List.cons.injEq] at h
  rw [h.1,h.2.1,h.2.2]
theorem GT {a b:Cs} (h:csK a=csK b):a=b:=by
  obtain ⟨a1,a2,a3⟩:=a
  obtain ⟨b1,b2,b3⟩:=b
  unfold csK at h
  simp only [NK.tup.injEq,List.cons.injEq,NK.int.injEq,and_true] at h
  obtain ⟨h1,h2,h3⟩:=h
  have:a3=b3:=by
    have inj:∀ (x y:List Int),x.map NK.int=y.map NK.int->x=y:=by
      intro x
      induction x with
      | nil=>intro y h; cases y with
        | nil=>rfl
        | cons _ _=>cases h
      | cons u x ih=>intro y h; cases y with
        | nil=>cases h
        | cons v y=>
          rw [List.map_cons,List.map_cons,List.cons.injEq,NK.int.injEq] at h
          rw [h.1,ih y h.2]
    exact inj a3 b3 h3
  rw [h1,h2,this]
theorem GG:∀ a:List Int,B7 a a=false
  | []=>rfl
  | x :: a=>by rw [BL,if_pos rfl]; exact GG a
theorem JJ:∀ {a b:List Int},a ≠ b->B7 a b=true ∨ B7 b a=true
  | [],[],h=>absurd rfl h
  | [],_ :: _,_=>.inl rfl
  | _ :: _,[],_=>.inr rfl
  | x :: a,y :: b,h=>by
    by_cases e:x=y
    . subst e
      rw [BL,BL,if_pos rfl,if_pos rfl]
      exact JJ fun z=>h (by rw [z])
    . rw [BL,BL,if_neg e,if_neg (Ne.symm e)]
      rcases Int.lt_or_gt_of_ne e with z | z
      . exact .inl (decide_eq_true z)
      . exact .inr (decide_eq_true z)
theorem LE:∀ {a b c:List Int},B7 a b=true->B7 b c=true->B7 a c=true
  | [],[],_,h,_=>by cases h
  | [],_ :: _,[],_,h=>by cases h
  | [],_ :: _,_ :: _,_,_=>rfl
  | _ :: _,[],_,h,_=>by cases h
  | _ :: _,_ :: _,[],_,h=>by cases h
  | x :: a,y :: b,z :: c,h,g=>by
    rw [BL] at h g ⊢
    by_cases e:x=y
    . subst e
      rw [if_pos rfl] at h
      by_cases e2:x=z
      . subst e2
        rw [if_pos rfl] at g ⊢
        exact LE h g
      . rw [if_neg e2] at g ⊢; exact g
    . rw [if_neg e] at h
      have h':=of_decide_eq_true h
      by_cases e2:y=z
      . subst e2
        rw [if_neg e]; exact h
      . rw [if_neg e2] at g
        have g':=of_decide_eq_true g
        rw [if_neg (by omega)]
        exact decide_eq_true (by omega)
theorem JM {h:Heap}:∀ {l:List Int} {vs:List Value},Ats h (l.map NK.int) vs->IntsAre vs l
  | [],_,a=>by unfold List.map Ats at a; subst a; exact .nil
  | i :: l,_,a=>by
    unfold List.map Ats at a
    obtain ⟨v,vs',rfl,a1,a2⟩:=a
    unfold At at a1
    obtain ⟨t,rfl⟩:=a1
    exact .cons i t (JM a2)
theorem HS {h:Heap} {c:Cs} {v:Value} (x:At h (csK c) v):∃ a o items n t u q,v=.ref a /\ h.get? a=some o /\ o.cls=.type "tuple" /\ o.data=.seq items n /\ items.toList=[.int c.1 t,.int c.2.1 u,q] /\ At h (.tup (c.2.2.map NK.int)) q:=by
  unfold csK At at x
  obtain ⟨a,o,items,n,rfl,h1,h2,h3,h4⟩:=x
  unfold Ats at h4
  obtain ⟨v1,r1,e1,a1,h4⟩:=h4
  unfold Ats at h4
  obtain ⟨v2,r2,e2,a2,h4⟩:=h4
  unfold Ats at h4
  obtain ⟨v3,r3,e3,a3,h4⟩:=h4
  unfold Ats at h4
  unfold At at a1 a2
  obtain ⟨t,rfl⟩:=a1
  obtain ⟨u,rfl⟩:=a2
  subst h4 e3 e2
  exact ⟨a,o,items,n,t,u,v3,rfl,h1,h2,h3,e1,a3⟩
theorem IY:∀ l:List Int,NK.deeps (l.map NK.int)=0
  | []=>rfl
  | i :: l=>by show max 0 (NK.deeps (l.map NK.int))=0; rw [IY l]; rfl
section
variable {prog:Program} {w:World} {A:Around} {E:Value->Shared->Prop} {s:Shared}
theorem VP {a b:Cs} {x y:Value} {Q:Bool->Shared->Prop} (hu:A.units + 8 < cLine) (hx:At s.heap (csK a) x) (hy:At s.heap (csK b) y) (q:Q (cLt a b) s):wpAny (model prog w) A (keyLt' (tuples' true) x y) Q E s:=by
  obtain ⟨x,ox,xs,n,t,u,p,rfl,h1,h2,h3,h4,h5⟩:=HS hx
  obtain ⟨y,oy,ys,n',t',u',p',rfl,g1,g2,g3,g4,g5⟩:=HS hy
  refine PySem.W.kat_lt h1 h3 g1 g3 ?_
  rw [h4,g4]
  unfold cLt Nd at q
  rw [BL] at q
  refine PySem.W.kat_cons (SeqAt.EqAt.int_int a.1 t b.1 t' prog w _ _ ?_)
  by_cases e1:a.1=b.1
  . rw [beq_iff_eq.mpr e1]
    rw [if_pos e1,BL] at q
    refine PySem.W.kat_yes (PySem.W.kat_cons (SeqAt.EqAt.int_int a.2.1 u b.2.1 u' prog w _ _ ?_))
    by_cases e2:a.2.1=b.2.1
    . rw [beq_iff_eq.mpr e2]
      rw [if_pos e2] at q
      refine PySem.W.kat_yes (PySem.W.kat_cons (At.eq (by show A.units + (NK.deeps (a.2.2.map NK.int) + 1) < cLine; rw [IY]; omega) h5 g5 prog w _ _ ?_))
      by_cases e3:a.2.2=b.2.2
      . have hd:decide (NK.tup (a.2.2.map NK.int)=NK.tup (b.2.2.map NK.int))=true:=decide_eq_true (by rw [e3])
        rw [hd]
        refine PySem.W.kat_yes (PySem.W.kat_nil ?_)
        rw [e3,GG] at q
        have z1:xs.size=3:=by rw [← Array.length_toList,h4]; rfl
        have z2:ys.size=3:=by rw [← Array.length_toList,g4]; rfl
        rw [z1,z2]
        exact q
      . have hne : ¬ (NK.tup (a.2.2.map NK.int)=NK.tup (b.2.2.map NK.int)):=fun z=>e3 (by
          have:=GT (a:=(0,0,a.2.2)) (b:=(0,0,b.2.2)) (by unfold csK; rw [z])
          exact (Prod.mk.inj (Prod.mk.inj this).2).2)
        rw [decide_eq_false hne]
        refine PySem.W.kat_no ?_
        show wpAny _ _ (oneLt' false p p') Q _ s
        unfold At at h5 g5
        obtain ⟨z,o1,i1,m1,rfl,k1,k2,k3,k4⟩:=h5
        obtain ⟨z',o2,i2,m2,rfl,k1',k2',k3',k4'⟩:=g5
        exact PySem.W.kat_one _ _ (LC ⟨o1,k1,k2,m1,k3⟩ ⟨o2,k1',k2',m2,k3'⟩ (JM k4) (JM k4') (by omega) q)
    . rw [beq_eq_false_iff_ne.mpr e2]
      rw [if_neg e2] at q
      refine PySem.W.kat_no ?_
      exact PySem.W.kat_one _ _ (lt_int q)
  . rw [beq_eq_false_iff_ne.mpr e1]
    rw [if_neg e1] at q
    refine PySem.W.kat_no ?_
    exact oneLt_int q
end
end Nk
namespace Nk
open PySem PySem.Spec PyProof.Rows HT
theorem Ats.get {h:Heap}:∀ {ks:List NK} {vs:List Value},Ats h ks vs->∀ (i:Nat) (k:NK),ks[i]? = some k->∃ v,vs[i]? = some v /\ At h k v
  | [],_,_,i,k,e=>by simp at e
  | k0 :: ks,_,a,i,k,e=>by
    unfold Ats at a
    obtain ⟨v,vs',rfl,a1,a2⟩:=a
    cases i with
    | zero=>simp at e; subst e; exact ⟨v,rfl,a1⟩
    | succ i=>
      obtain ⟨u,e1,e2⟩:=Ats.get a2 i k (by simpa using e)
      exact ⟨u,by simpa using e1,e2⟩
theorem Ats.of_get {h:Heap}:∀ {ks:List NK} {vs:List Value},vs.length=ks.length->(∀ (i:Nat) (k:NK) (v:Value),ks[i]? = some k->vs[i]? = some v->At h k v)->Ats h ks vs
  | [],[],_,_=>by unfold Ats; rfl
  | [],_ :: _,e,_=>by simp at e
  | _ :: _,[],e,_=>by simp at e
  | k :: ks,v :: vs,e,f=>by
    unfold Ats
    exact ⟨v,vs,rfl,f 0 k v rfl rfl,Ats.of_get (by simpa using e) fun i k' v' h1 h2=>f (i + 1) k' v' (by simpa using h1) (by simpa using h2)⟩
abbrev Fs:Cs:=(0,0,[])
def Hn (ks:List Cs) (i j:Nat):Bool:=cLt (ks.getD i Fs) (ks.getD j Fs)
theorem TW {ks:List Cs} (nd:ks.Nodup):Sq.Ord ks.length (Hn ks) where
  tot:=fun i j hi hj hne=>JJ fun z=>hne (by
    have e:=KK z
    have e1:ks.getD i Fs=ks[i]:=by simp [hi]
    have e2:ks.getD j Fs=ks[j]:=by simp [hj]
    rw [e1,e2] at e
    exact (List.getElem_inj nd).mp e)
  tr:=fun i j k h g=>LE h g
  irr:=fun i=>GG _
theorem Mt {ks:List Cs} {p:Array Nat} (P:Sq.Pm ks.length p) (u:Sq.Up (Hn ks) p ks.length):(p.toList.map fun i=>ks.getD i Fs).Perm ks /\ (p.toList.map fun i=>ks.getD i Fs).Pairwise fun x y=>cLt x y=true:=by
  constructor
  . have h1:=P.map fun i=>ks.getD i Fs
    have h2:(List.range ks.length).map (fun i=>ks.getD i Fs)=ks:=by
      apply List.ext_getElem
      . simp
      . intro i h1 h2
        simp at h1
        simp [h1]
    rw [h2] at h1
    exact h1
  . have hs:=P.size
    rw [List.pairwise_map,List.pairwise_iff_getElem]
    intro i j hi hj hij
    have hi':i < p.size:=by simpa using hi
    have hj':j < p.size:=by simpa using hj
    have:=u i j hij (by omega)
    have e1:p.getD i 0=p.toList[i]:=by simp [Array.getD,hi']
    have e2:p.getD j 0=p.toList[j]:=by simp [Array.getD,hj']
    rw [e1,e2] at this
    exact this
section
variable {prog:Program} {w:World} {A:Around} {E:Value->Shared->Prop} {s:Shared}
theorem Ph:∀ {ks:List Cs} {vs:List Value},Ats s.heap (ks.map csK) vs->∃ fs:List Value,fs.length=vs.length /\ PySem.W.KatTups s.heap vs fs /\ ∀ v ∈ fs,∃ i t,v=.int i t
  | [],_,a=>by
    unfold List.map Ats at a
    subst a
    exact ⟨[],rfl,trivial,fun v h=>by cases h⟩
  | k :: ks,_,a=>by
    unfold List.map Ats at a
    obtain ⟨v,vs',rfl,a1,a2⟩:=a
    obtain ⟨fs,e,t,f⟩:=Ph a2
    obtain ⟨x,o,items,n,t1,u,q,rfl,h1,h2,h3,h4,_⟩:=HS a1
    refine ⟨.int k.1 t1 :: fs,by simp [e],PySem.W.KatTups.cons h1 h2 h3 ?_ t,fun w hw=>(List.mem_cons.mp hw).elim (fun z=>⟨_,_,z⟩) (f w)⟩
    rw [← Array.getElem?_toList,h4]
    rfl
theorem QW {a:Addr} {vs:List Value} {n:Nat} {ks:List Cs} {P:PySem.Fin->Shared->Prop} (hu:A.units + 8 < cLine) (ho:s.heap.get? a=some (seqObj "list" vs.toArray n)) (hk:Ats s.heap (ks.map csK) vs) (nd:ks.Nodup) (h64:vs.length < 64)
    (h:∀ (out:List Value) (ks':List Cs),Ats s.heap (ks'.map csK) out->ks'.Perm ks->ks'.Pairwise (fun x y=>cLt x y=true)->(∀ v ∈ out,v ∈ vs)->P (.done (.ret .none)) { s with heap:=sortedHeap s.heap a vs out.toArray }) :
    wpAny (model prog w) A (Builtin.«list.sort» ⟨[.ref a],[]⟩) P E s:=by
  have hlen:vs.length=ks.length:=by have:=hk.len; simpa using this
  have ha:a < s.heap.objs.size:=Heap.lt_size ho
  have ho1:=get?_update_seq ho (fun _=>(#[]:Array Value))
  rw [list_sort_plain]
  refine wpAny_bind (listItems_at ho rfl (wpAny_bind (listUpdate_at ho rfl ?_ (by rw [List.size_toArray,sizeLine_eq]; omega) (Nat.zero_le _))))
  refine wpAny_bind (seqEpoch_at ho1 rfl (wpAny_bind (wpAny_newTuple ?_ (by show vs.length <= _; rw [sizeLine_eq]; omega))))
  refine wpAny_bind (wpAny_newList ?_ (Nat.zero_le _))
  refine wpAny_holding ?_
  show wpAny (model prog w) A _ P E { s with heap:=((s.heap.update a (Obj.mapSeq fun _=>(#[]:Array Value))).push (seqObj "tuple" vs.toArray 0)).push (seqObj "list" #[] 0) }
  generalize hG:((s.heap.update a (Obj.mapSeq fun _=>(#[]:Array Value))).push (seqObj "tuple" vs.toArray 0)).push (seqObj "list" #[] 0)=G
  have ho6:G.get? a=(s.heap.update a (Obj.mapSeq fun _=>(#[]:Array Value))).get? a:=by
    rw [← hG,Heap.get?_push_ne _ _ _ (by rw [size_push',Heap.size_update]; exact Nat.ne_of_lt (Nat.lt_succ_of_lt ha)),Heap.get?_push_ne _ _ _ (by rw [Heap.size_update]; exact Nat.ne_of_lt ha)]
  rw [ho1] at ho6
  have kp:∀ b o items m,s.heap.get? b=some o->o.cls=.type "tuple" -> o.data=.seq items m->G.get? b=some o:=fun b o items m e c _=>by
    have hb:b < s.heap.objs.size:=Heap.lt_size e
    have hne:b ≠ a:=fun z=>by
      subst z
      rw [ho] at e
      cases e
      exact absurd (show (Value.type "list")=.type "tuple" from c) (by decide)
    rw [← hG,Heap.get?_push_ne _ _ _ (by rw [size_push',Heap.size_update]; exact Nat.ne_of_lt (Nat.lt_succ_of_lt hb)),Heap.get?_push_ne _ _ _ (by rw [Heap.size_update]; exact Nat.ne_of_lt hb),Heap.get?_update_ne _ _ _ _ hne]
    exact e
  have hkG:Ats G (ks.map csK) vs:=hk.kept kp
  have fin:∀ out:List Value,out.length=vs.length->(∀ ks':List Cs,Ats s.heap (ks'.map csK) out->True)->sortedHeap s.heap a vs out.toArray=G.update a (Obj.mapSeq fun _=>out.toArray):=fun out _ _=>by rw [← hG]; rfl
  dsimp only
  by_cases h2:vs.toArray.size < 2
  . rw [if_pos h2,if_pos h2]
    have h2':vs.length < 2:=by simpa using h2
    refine wpAny_bind (wpAny_pure ?_)
    rw [StateT.run_pure]
    refine wpAny_bind (wpAny_pure ?_)
    dsimp only
    have ex:(arrOf (SortSt.mk' general' (vs.toArray.zip vs.toArray) #[] 7 none)).map (·.2)=vs.toArray:=by
      show (vs.toArray.zip vs.toArray).map (·.2)=vs.toArray
      apply Array.toList_inj.mp
      rw [Array.toList_map,Array.toList_zip]
      exact List.map_snd_zip (by simp)
    refine wpAny_bind (seqEpoch_at ho6 rfl (wpAny_bind (listUpdate_at ho6 rfl ?_ (Nat.zero_le _) (by rw [ex,List.size_toArray,sizeLine_eq]; omega))))
    simp only [bne_self_eq_false,Bool.false_eq_true,if_false]
    have:=h vs ks hk (List.Perm.refl _) (by
      match ks,hlen with
      | [],_=>exact List.Pairwise.nil
      | [x],_=>exact List.pairwise_singleton _ _
      | _ :: _ :: _,e=>simp at e; omega) (fun _ z=>z)
    rw [fin vs rfl fun _ _=>trivial] at this
    refine wpAny_pure ?_
    rw [ex]
    exact this
  . rw [if_neg h2,if_neg h2]
    have h2':2 <= vs.length:=by simpa using h2
    obtain ⟨fs,fl,ft,fi⟩:=Ph (s:={ s with heap:=G }) hkG
    refine wpAny_bind (PySem.W.kat_kind (T:=.type "int") ft (by omega) (fun v hv=>by
      obtain ⟨i,t,rfl⟩:=fi v hv
      exact PySem.W.Looks.of_pure rfl) rfl ?_)
    have ord:=TW nd
    have hN:2 <= ks.length:=by omega
    obtain ⟨pm,up⟩:=Sq.sort_run ord hN
    have ask:(PySem.W.kas_sort vs.length).kasWp (PySem.W.kas_ask prog w A (tuples' (Value.type "int" != Value.type "tuple")) vs) (fun p s''=>p=Sq.run (Hn ks) (PySem.W.kas_sort ks.length) /\ s''={ s with heap:=G }) { s with heap:=G }:=by
      rw [hlen]
      refine Sq.wp_of (N:=ks.length) (lt:=Hn ks) (fun i j C hi hj hC=>?_) _ (Sq.sort_bd ord hN) ⟨rfl,rfl⟩
      obtain ⟨v,e1,a1⟩:=hkG.get i (csK ks[i]) (by simp [hi])
      obtain ⟨v',e2,a2⟩:=hkG.get j (csK ks[j]) (by simp [hj])
      unfold PySem.W.kas_ask
      have g1:vs.getD i Value.none=v:=by rw [List.getD_eq_getElem?_getD,e1]; rfl
      have g2:vs.getD j Value.none=v':=by rw [List.getD_eq_getElem?_getD,e2]; rfl
      rw [g1,g2]
      refine VP (s:={ s with heap:=G }) hu a1 a2 ?_
      unfold Hn at hC
      have k1:ks.getD i Fs=ks[i]:=by simp [hi]
      have k2:ks.getD j Fs=ks[j]:=by simp [hj]
      rw [k1,k2] at hC
      exact hC
    refine wpAny_bind (wpAny_mono (PySem.W.kat_run (ks:=vs) (Q:=fun st' s'=>(arrOf st').map (·.2)=List.toArray ((Sq.run (Hn ks) (PySem.W.kas_sort ks.length)).toList.map fun i=>vs.getD i Value.none) /\ failedOf st'=none /\ s'={ s with heap:=G }) rfl h2' h64 (fun p' st' s' b1 b2 b3 b4=>⟨by rw [PySem.W.kat_snds rfl b2,b4.1],b3,b4.2⟩) ask) ?_ fun _ _ e=>e)
    rintro ⟨⟨⟩,st'⟩ s' ⟨har,hf,rfl⟩
    dsimp only
    have hsz:((arrOf st').map (·.2)).size=vs.length:=by rw [har,List.size_toArray,List.length_map,Array.length_toList,pm.size,hlen]
    refine wpAny_bind (seqEpoch_at ho6 rfl (wpAny_bind (listUpdate_at ho6 rfl ?_ (Nat.zero_le _) (by rw [hsz,sizeLine_eq]; omega))))
    rw [hf]
    simp only [bne_self_eq_false,Bool.false_eq_true,if_false]
    obtain ⟨s1,s2⟩:=Mt pm up
    have oa:Ats s.heap ((((Sq.run (Hn ks) (PySem.W.kas_sort ks.length)).toList.map fun i=>ks.getD i Fs)).map csK) ((Sq.run (Hn ks) (PySem.W.kas_sort ks.length)).toList.map fun i=>vs.getD i Value.none):=by
      refine Ats.of_get (by simp) fun i k v e1 e2=>?_
      rw [List.getElem?_map,List.getElem?_map] at e1
      rw [List.getElem?_map] at e2
      cases e:(Sq.run (Hn ks) (PySem.W.kas_sort ks.length)).toList[i]? with
      | none=>rw [e] at e2; cases e2
      | some j=>
        rw [e] at e1 e2
        cases e1
        cases e2
        have hj:j < ks.length:=List.mem_range.mp (pm.mem_iff.mp (List.mem_of_getElem? e))
        obtain ⟨v,g1,g2⟩:=hk.get j (csK ks[j]) (by simp [hj])
        show At s.heap (csK (ks.getD j Fs)) (vs.getD j Value.none)
        rw [show ks.getD j Fs=ks[j] by simp [hj],List.getD_eq_getElem?_getD,g1]
        exact g2
    have sub:∀ v ∈ (Sq.run (Hn ks) (PySem.W.kas_sort ks.length)).toList.map (fun i=>vs.getD i Value.none),v ∈ vs:=fun v hv=>by
      obtain ⟨j,hj,rfl⟩:=List.mem_map.mp hv
      have hj:j < vs.length:=by rw [hlen]; exact List.mem_range.mp (pm.mem_iff.mp hj)
      rw [List.getD_eq_getElem?_getD,List.getElem?_eq_getElem hj]
      exact List.getElem_mem hj
    have:=h _ _ oa s1 s2 sub
    rw [fin _ (by rw [List.length_map,Array.length_toList,pm.size,hlen]) fun _ _=>trivial,← har] at this
    exact wpAny_pure this
end
end Nk
set_option maxHeartbeats 4000000
namespace Nk
open PySem PySem.Spec PyProof.Rows Ht
def itK (d:Addr) (i n ep:Nat):Obj:={ cls:=.type "dict_keyiterator",data:=.fields #[.ref d,.int i 0,.int n 0,.int ep 0] }
section
variable {prog:Program} {w:World} {A:Around} {E:Value->Shared->Prop} {s:Shared} {d I:Addr} {o:Obj} {es:Array DictEntry} {ep:Nat}
theorem L3 {i:Nat} {Q:Option Value->Shared->Prop} (hh:A.handled=none) (hI:s.heap.get? I=some (itK d i es.size ep)) (ho:s.heap.get? d=some o) (hd:o.data=.dict es ep)
    (more:∀ (hi:i < es.size) (h':Heap),h'.get? I=some (itK d (i + 1) es.size ep)->Heap.SameBut I s.heap h'->Q (some es[i].key) { s with heap:=h' })
    (done:es.size <= i->∀ h',Heap.ExtBut I s.heap h'->Q none { s with heap:=h' }):wpAny (model prog w) A (pyNext (.ref I)) Q E s:=by
  have hT:s.TypeIs (.ref I) "dict_keyiterator" := ⟨_,hI,rfl⟩
  have nm:∀ {A:Around} {s:Shared} {E:Value->Shared->Prop} {R:String->Shared->Prop},s.TypeIs (.ref I) "dict_keyiterator" -> R "dict_keyiterator" s->wpAny (model prog w) A (typeNameOfWhole (.ref I)) R E s:=fun ty r=>wpAny_typeNameOfWhole_keyiter ty r
  unfold pyNext
  refine wpAny_bind (wpAny_attempt (wpAny_callSpecial?_slot (name:=Str.ofString "__next__") hT PySem.F.slot_dict_keyiterator_next (wpAny_call_entry PySem.F.slot_dict_keyiterator_next hT PySem.F.entry_dict_keyiterator_next ?_ (PySem.F.args_dict_keyiterator_next_1 _))))
  wp_walk
  rw [hd]
  wp_walk
  rw [hd]
  refine wpAny_pure ?_
  rw [if_neg (by simp)]
  refine wpAny_pure ?_
  have key:(if (i:Int) < 0 then none else es[(i:Int).toNat]?)=es[i]?:=by rw [if_neg (by omega),Int.toNat_natCast]
  dsimp only
  rw [key]
  cases e:es[i]? with
  | some x=>
    wp_walk
    have hi:i < es.size:=(Array.getElem?_eq_some_iff.mp e).1
    have ex:es[i]=x:=(Array.getElem?_eq_some_iff.mp e).2
    refine ⟨_,rfl,wpAny_pure ?_⟩
    rw [← ex]
    refine more hi _ ?_ (Heap.SameBut.update ..)
    rw [if_neg (by decide +kernel),if_neg (by decide +kernel)]
    rw [Heap.get?_update_self _ hI (by rfl)]
    simp [itK,rawInt,Obj.mapFields]
  | none=>
    refine wpAny_bind (wpAny_bind (nm hT (wpAny_pure ?_)))
    rw [if_neg (by decide +kernel)]
    refine wpAny_bind (wpAny_setField_rec hI (by simp) fun h1 g1 s1=>?_)
    refine Gr (A:=A.in1) (s:={ s with heap:=h1 }) hh fun a h' k ty=>?_
    refine wpAny_bind (wpAny_isInstance (T := "StopIteration") (b:=true) ty isSubtype_stop ?_)
    exact wpAny_pure (done (by simpa using e) h' fun b o hb e=>k b o (s1.extBut b o hb e))
theorem Rf {Q:Value->Shared->Prop} (lo:(d == sysModules)=false) (ho:s.heap.get? d=some o) (ex:o.ExactDict) (hd:o.data=.dict es ep) (q:Q (.ref s.heap.objs.size) { s with heap:=s.heap.push (itK d 0 es.size ep) }):wpAny (model prog w) A (pyIter (.ref d)) Q E s:=by
  have hT:s.TypeIs (.ref d) "dict" := ⟨o,ho,ex.1⟩
  refine wpAny_pyIter_slot hT PySem.F.slot_dict_iter (wpAny_call_entry PySem.F.slot_dict_iter hT PySem.F.entry_dict_iter ?_ (PySem.F.args_dict_iter_1 _))
  wp_walk
  rw [if_neg (by rw [ex.1]; decide)]
  wp_walk
  rw [hd]
  wp_walk
  rw [hd]
  wp_walk
  exact ⟨_,rfl, "dict_keyiterator",_,⟨_,Heap.get?_push_size _ rfl,rfl⟩,PySem.F.slot_dict_keyiterator_next.lookup,q⟩
theorem Mz {i:Nat} {Q:Value->Shared->Prop} (hI:s.heap.get? I=some (itK d i es.size ep)) (q:Q (.ref I) s):wpAny (model prog w) A (pyIter (.ref I)) Q E s:=wpAny_pyIter_keyiter (d:=d) (i:=i) (n:=es.size) (ep:=ep) ⟨_,hI,rfl,rfl⟩ q
theorem Kn (hh:A.handled=none) (hne:d ≠ I) (hd:o.data=.dict es ep):Walks prog w A I [I,d] [I] es.size (fun i v=>∃ e,es[i]? = some e /\ v=e.key) (fun i h=>h.get? I=some (itK d i es.size ep) /\ h.get? d=some o):=by
  refine ⟨fun b hb=>?_,fun i h h' st k=>⟨k I (by simp) _ st.1,k d (by simp) _ st.2⟩,fun i s Q E hi st q=>?_,fun s Q E st q=>?_,fun i s Q E st q=>Mz st.1 q⟩
  . rw [List.mem_singleton] at hb
    rw [hb]
    simp
  . refine L3 hh st.1 st.2 hd (fun hi' h' g sb=>?_) fun z=>absurd hi (Nat.not_lt.mpr z)
    refine q _ h' s.toks ⟨es[i],Array.getElem?_eq_getElem hi',rfl⟩ ⟨g,(sb.2 d hne).trans st.2⟩ fun b o hb e=>?_
    exact (sb.2 b fun z=>hb (by rw [z]; simp)).trans e
  . refine L3 hh st.1 st.2 hd (fun hi'=>absurd hi' (Nat.lt_irrefl _)) fun _ h' k=>?_
    exact q h' s.toks fun b o hb e=>k b o (fun z=>hb (by rw [z]; simp)) e
theorem Jl (lo:(d == sysModules)=false) (ex:o.ExactDict) (hd:o.data=.dict es ep):PySem.W.KdlSrc prog w "dict" d d es.size (fun i v=>∃ e,es[i]? = some e /\ v=e.key) (fun h=>h.get? d=some o):=by
  refine ⟨fun s h=>⟨_,h,ex.1⟩,fun h e=>⟨Heap.lt_size e,Heap.lt_size e⟩,fun h h' e k=>k d (.inl rfl) _ e,by decide,by decide,fun A E s Q e q=>PySem.W.kdl_hint_dict ⟨_,e,ex.1⟩ q,fun A s hh e=>?_⟩
  exact ⟨itK d 0 es.size ep,_,fun E Q q=>Rf lo e ex hd q,Kn hh (Nat.ne_of_lt (Heap.lt_size e)) hd,Heap.get?_push_size _ rfl,Heap.get?_push_of_some _ e⟩
theorem HA {vs:Array Value} (it:ItemsOf (fun i v=>∃ e,es[i]? = some e /\ v=e.key) vs es.size):vs.toList=es.toList.map (·.key):=by
  have h1:=it.1
  refine List.ext_getElem (by simp [h1]) fun i a b=>?_
  have hi:i < vs.size:=by simpa using a
  obtain ⟨e,g1,g2⟩:=it.2 i vs[i] (Array.getElem?_eq_getElem hi)
  have he:es[i]'(by omega)=e:=(Array.getElem?_eq_some_iff.mp g1).2
  simp [g2,← he]
end
end Nk
namespace Nk
open PySem PySem.Spec PyProof.Rows L2 Mi
theorem P2 (c:Cs):(csK c).deep <= 8:=by
  have h:∀ ns:List Int,NK.deeps (ns.map NK.int)=0:=fun ns=>by
    induction ns with
    | nil=>rfl
    | cons n r ih=>unfold List.map NK.deeps; rw [ih]; rfl
  have:(csK c).deep=max 0 (max 0 (max (NK.deeps (c.2.2.map NK.int) + 1) 0)) + 1:=rfl
  rw [this,h]
  decide
theorem Ki {h:Heap}:∀ {ns:List Int} {its:List Value},Vals (ns.map V.int) its->Ats h (ns.map NK.int) its
  | [],_,r=>by cases r; unfold List.map Ats; rfl
  | n :: ns,_,r=>by
    cases r with
    | cons e t=>
      obtain ⟨tk,rfl⟩:=e
      unfold List.map Ats
      exact ⟨_,_,rfl,by unfold At; exact ⟨tk,rfl⟩,Ki t⟩
section
variable {X:Cx} {pins:List (Addr × Obj)} {σ:L2.St} {H:Hp} {s:Shared} {ι:Nat->Addr} {k:Nat}
theorem QG (I:Inv X pins σ H s) {c:Cs} {v:V} {u:Value} (i:Is X.K ι k H (csD c) v) (r:RelV v u):At s.heap (csK c) u:=by
  unfold csD Is at i
  obtain ⟨p,vs,rfl,h1,h2⟩:=i
  cases r
  obtain ⟨its,rv,⟨o,g1,g2,n,g3⟩,_⟩:=I.tuple h1
  unfold Mi.IsL at h2
  obtain ⟨v1,_,rfl,i1,h2⟩:=h2
  unfold Mi.IsL at h2
  obtain ⟨v2,_,rfl,i2,h2⟩:=h2
  unfold Mi.IsL at h2
  obtain ⟨v3,_,rfl,i3,h2⟩:=h2
  unfold Mi.IsL at h2
  subst h2
  unfold Is at i1 i2 i3
  subst i1 i2
  obtain ⟨p3,vs3,rfl,j1,j2⟩:=i3
  have e3:=j2.ints
  subst e3
  obtain ⟨its3,rv3,⟨o3,k1,k2,n3,k3⟩,_⟩:=I.tuple j1
  cases rv with
  | cons a1 rv=>
    cases rv with
    | cons a2 rv=>
      cases rv with
      | cons a3 rv=>
        cases rv
        obtain ⟨t1,rfl⟩:=a1
        obtain ⟨t2,rfl⟩:=a2
        cases a3
        unfold csK At
        refine ⟨p,o,_,n,rfl,g1,g2,g3,?_⟩
        unfold Ats
        refine ⟨_,_,rfl,by unfold At; exact ⟨t1,rfl⟩,?_⟩
        unfold Ats
        refine ⟨_,_,rfl,by unfold At; exact ⟨t2,rfl⟩,?_⟩
        unfold Ats
        refine ⟨_,_,rfl,?_,by unfold Ats; rfl⟩
        unfold At
        exact ⟨p3,o3,_,n3,rfl,k1,k2,k3,Ki rv3⟩
theorem isC (I:Inv X pins σ H s) {c:Cs} {a:Addr} (i:Is X.K ι k H (csD c) (.ref a)):(kind X.prog X.w).is s.heap (csK c) a:=⟨QG I i rfl,P2 c⟩
end
def E6 (l:List (Cs × Addr × V)) (us:List Value):List (NK × Addr × Value):=(l.zip us).map fun x=>(csK x.1.1,x.1.2.1,x.2)
theorem LZ {l:List (Cs × Addr × V)} {us:List Value} (h:l.length=us.length):(E6 l us).map (·.1)=(l.map (·.1)).map csK:=by
  unfold E6
  rw [List.map_map,List.map_map]
  have:(fun x:(Cs × Addr × V) × Value=>csK x.1.1)=(fun y:Cs × Addr × V=>csK y.1) ∘ Prod.fst:=rfl
  show (l.zip us).map (fun x=>csK x.1.1)=_
  rw [this,← List.map_map,List.map_fst_zip (by omega)]
  rfl
theorem NL {ks:List Cs} (h:ks.Nodup):(ks.map csK).Nodup:=by
  refine List.Pairwise.map _ ?_ h
  intro a b hne e
  exact hne (GT e)
theorem FS {l:List (Cs × Addr × V)} {us:List Value} {c:Cs} (h:l.length=us.length):(atKey (E6 l us) (csK c)).isSome=l.any fun y=>decide (y.1=c):=by
  have e:(atKey (E6 l us) (csK c)).isSome=((E6 l us).map (·.1)).any fun y=>decide (y=csK c):=by
    unfold atKey
    rw [Option.isSome_map,List.any_map]
    rw [Bool.eq_iff_iff,List.find?_isSome,List.any_eq_true]
    rfl
  rw [e,LZ h,List.any_map,List.any_map]
  congr 1
  funext y
  show decide (csK y.1=csK c)=decide (y.1=c)
  by_cases z:y.1=c
  . rw [z]; simp
  . rw [decide_eq_false z,decide_eq_false fun q=>z (GT q)]
theorem Px {P:Program} {w:World} {H:Hp} {h:Heap} {p:Addr} {l:List (Cs × Addr × V)} (hk:HOk P w H h) (e:H p=some (Dl p l)):∃ (us:List Value) (o:Obj) (es:Array DictEntry) (ep:Nat),Vals (l.map (·.2.2)) us /\ h.get? p=some o /\ o.ExactDict /\ o.data=.dict es ep /\
    es.toList=(l.zip us).map (fun x=>{ key:=.ref x.1.2.1,hash:=(csK x.1.1).hash,val:=x.2 }) /\ (l.map (·.1)).Nodup /\ l.length <= sizeLine /\ (p == sysModules)=false:=(hk p _ e).1
theorem SN {P:Program} {w:World} {H:Hp} {h:Heap} {p:Addr} {l:List (Cs × Addr × V)} (x:∃ (us:List Value) (o:Obj) (es:Array DictEntry) (ep:Nat),Vals (l.map (·.2.2)) us /\ h.get? p=some o /\ o.ExactDict /\ o.data=.dict es ep /\
    es.toList=(l.zip us).map (fun x=>{ key:=.ref x.1.2.1,hash:=(csK x.1.1).hash,val:=x.2 }) /\ (l.map (·.1)).Nodup /\ l.length <= sizeLine /\ (p == sysModules)=false):ObjOk P w H h p (Dl p l):=by
  refine ⟨x,?_,?_⟩
  . obtain ⟨us,o,es,ep,_,h1,_⟩:=x
    exact ⟨o,h1⟩
  . rintro h1 h2 ⟨us,o,es,ep,a1,a2,a3⟩ k
    exact ⟨us,o,es,ep,a1,k o a2,a3⟩
theorem VO {P:Program} {w:World} {h:Heap} {p:Addr} {l:List (Cs × Addr × V)} {us:List Value} {o:Obj} {es:Array DictEntry} {ep:Nat} (hl:l.length=us.length) (h1:h.get? p=some o) (h2:o.ExactDict) (h3:o.data=.dict es ep)
    (h4:es.toList=(l.zip us).map (fun x=>{ key:=.ref x.1.2.1,hash:=(csK x.1.1).hash,val:=x.2 })) (h5:(l.map (·.1)).Nodup) (hi:∀ y ∈ l,(kind P w).is h (csK y.1) y.2.1):h.DictOfH (kind P w) p (E6 l us):=by
  refine ⟨o,es,ep,h1,h2,h3,?_,?_,?_⟩
  . rw [h4]
    unfold E6
    rw [List.map_map]
    rfl
  . intro x hx
    unfold E6 at hx
    obtain ⟨y,hy,rfl⟩:=List.mem_map.mp hx
    exact hi y.1 (List.of_mem_zip (a:=y.1) (b:=y.2) hy).1
  . rw [LZ hl]
    exact NL h5
end Nk
namespace Mi
open PySem L2 Ht Nk
theorem CVs.keys {K:PySem.W.Frag} {ι:Nat->Addr} {k:Nat} {H:Hp}:∀ {l:List (Cs × D)} {r:List (Cs × Addr × V)},CVs K ι k H l r->r.map (·.1)=l.map (·.1)
  | [],_,h=>by cases h; rfl
  | (y,d) :: l,_,h=>by
    obtain ⟨a,v,r',rfl,_,_,h3⟩:=h
    rw [List.map_cons,List.map_cons,CVs.keys h3]
theorem CVs.at {K:PySem.W.Frag} {ι:Nat->Addr} {k:Nat} {H:Hp}:∀ {l:List (Cs × D)} {r:List (Cs × Addr × V)},CVs K ι k H l r->∀ y ∈ r,Is K ι k H (csD y.1) (.ref y.2.1)
  | [],_,h,y,hy=>by cases h; cases hy
  | (z,d) :: l,_,h,y,hy=>by
    obtain ⟨a,v,r',rfl,h1,_,h3⟩:=h
    rcases List.mem_cons.mp hy with rfl | hy
    . exact h1
    . exact CVs.at h3 y hy
theorem CVs.isL {K:PySem.W.Frag} {ι:Nat->Addr} {k:Nat} {H:Hp}:∀ {l:List (Cs × D)} {r:List (Cs × Addr × V)},CVs K ι k H l r->IsL K ι k H (l.map fun y=>csD y.1) (r.map fun y=>.ref y.2.1)
  | [],_,h=>by cases h; exact .nil
  | (z,d) :: l,_,h=>by
    obtain ⟨a,v,r',rfl,h1,_,h3⟩:=h
    exact .cons h1 (CVs.isL h3)
theorem CVs.app {K:PySem.W.Frag} {ι:Nat->Addr} {k:Nat} {H:Hp} {c:Cs} {a:Addr} {d:D} {v:V} (h1:Is K ι k H (csD c) (.ref a)) (h2:Is K ι k H d v):∀ {l:List (Cs × D)} {r:List (Cs × Addr × V)},CVs K ι k H l r->CVs K ι k H (l ++ [(c,d)]) (r ++ [(c,a,v)])
  | [],_,h=>by cases h; exact ⟨a,v,[],rfl,h1,h2,rfl⟩
  | (z,e) :: l,_,h=>by
    obtain ⟨b,w,r',rfl,g1,g2,g3⟩:=h
    exact ⟨b,w,_,rfl,g1,g2,CVs.app h1 h2 g3⟩
theorem Kl {α β:Type} {l:List (Cs × α)} {r:List (Cs × β)} (h:r.map (·.1)=l.map (·.1)) (c:Cs):(r.any fun y=>decide (y.1=c))=l.any fun y=>decide (y.1=c):=by
  have e1:(r.any fun y=>decide (y.1=c))=(r.map (·.1)).any fun y=>decide (y=c):=by rw [List.any_map]; rfl
  have e2:(l.any fun y=>decide (y.1=c))=(l.map (·.1)).any fun y=>decide (y=c):=by rw [List.any_map]; rfl
  rw [e1,e2,h]
def Dv:List D->Option (List Int)
  | []=>some []
  | .int i :: r=>(Dv r).map (i :: ·)
  | _ :: _=>none
theorem Fz:∀ {ds:List D} {ns:List Int},Dv ds=some ns->ds=ns.map D.int
  | [],ns,e=>by cases e; rfl
  | .int i :: r,ns,e=>by
    unfold Dv at e
    cases h:Dv r with
    | none=>rw [h] at e; cases e
    | some m=>rw [h] at e; cases e; rw [Fz h]; rfl
  | .non :: _,_,e | .bl _ :: _,_,e | .str _ :: _,_,e | .ty _ :: _,_,e | .scr _ :: _,_,e | .tup _ :: _,_,e | .lst _ :: _,_,e | .ref _ :: _,_,e=>by cases e
def JZ:D->Option Cs
  | .tup [.int a,.int b,.tup ds]=>(Dv ds).map fun ns=>(a,b,ns)
  | _=>none
theorem Il {d:D} {c:Cs} (e:JZ d=some c):d=csD c:=by
  unfold JZ at e
  split at e
  . rename_i a b ds
    cases h:Dv ds with
    | none=>rw [h] at e; cases e
    | some ns=>rw [h] at e; cases e; rw [Fz h]; rfl
  . cases e
def JY:D->M (Nat × List (Cs × D))
  | .ref n=>fun μ=>match μ[n]? with
    | some (.dC l)=>some ((n,l),μ)
    | _=>none
  | _=>BS
theorem Eo {K:PySem.W.Frag} {ι:Nat->Addr} {H:Hp} {μ μ':Mh} {d:D} {v:V} {r:Nat × List (Cs × D)} (R:RelH K ι μ H) (i:Is K ι μ.length H d v) (e:JY d μ=some (r,μ')):μ'=μ /\ d=.ref r.1 /\ μ[r.1]? = some (.dC r.2) /\ v=.ref (ι r.1) /\ ∃ kvs,H (ι r.1)=some (Dl (ι r.1) kvs) /\ CVs K ι μ.length H r.2 kvs:=by
  cases d with
  | ref n=>
    have e:(match μ[n]? with | some (.dC l)=>some ((n,l),μ) | _=>none)=some (r,μ'):=e
    split at e
    . rename_i l hq
      cases e
      unfold Is at i
      obtain ⟨u,h1,kvs,rfl,h2⟩:=R.obj n _ hq
      exact ⟨rfl,rfl,hq,i.2,kvs,h1,h2⟩
    . cases e
  | _=>cases e
section
variable {X:Cx} {e o i:Expr} {pos pos':Pos}
def R9:Sl->M D:=fun _ μ=>some (.ref μ.length,μ ++ [.dC []])
theorem Ov:PE X (.Dict [] [] pos) (fun _ H Q=>∀ p,H p=none->Q (.ref p) (upd H p (Dl p []))):=fun pins s σ H Q I h=>
  wpAny_Dict_empty ⟨.ref s.heap.objs.size,_,I.laid (a:=s.heap.objs.size) (o:=Dl s.heap.objs.size []) (t':=s.toks) (fun _ _ q=>Heap.get?_push_of_some _ q) (Nat.le_refl _)
    (SN ⟨[],_,#[],0,.nil,Heap.get?_push_size _ rfl,⟨rfl,rfl,rfl⟩,rfl,rfl,List.nodup_nil,Nat.zero_le _,beq_eq_false_iff_ne.mpr (Ne.symm (Nat.ne_of_lt I.big))⟩),rfl,h _ (I.hok.fresh (Nat.le_refl _))⟩
theorem OR:RE X (.Dict [] [] pos) R9:=RE.wk Ov fun σ H Q h=>by
  obtain ⟨ι,μ,τ,d,μ',R,S,e,q⟩:=h
  cases e
  intro p hp
  obtain ⟨ι',E1,R1,e0⟩:=R.grown (m:=.dC []) (o:=Dl p []) hp ⟨[],rfl,rfl⟩
  exact q ι' _ E1 R1 _ (by unfold Is; exact ⟨by simp,by rw [e0]⟩)
theorem Jw {k:Nat} (hr:Room k X.A):(Nk.kind X.prog X.w).room X.A.in1:=by
  have:=hr.units
  show X.A.units + 1 + 8 < cLine
  omega
theorem KS {pins:List (Addr × Obj)} {σ:St} {H:Hp} {s:Shared} {ι:Nat->Addr} {k:Nat} {p:Addr} {l:List (Cs × Addr × V)} (I:Inv X pins σ H s) (h:H p=some (Dl p l)) (hi:∀ y ∈ l,Is X.K ι k H (csD y.1) (.ref y.2.1)) :
    ∃ us,l.length=us.length /\ Vals (l.map (·.2.2)) us /\ s.heap.DictOfH (Nk.kind X.prog X.w) p (E6 l us) /\ (l.map (·.1)).Nodup /\ l.length <= sizeLine /\ (p == sysModules)=false:=by
  obtain ⟨us,o,es,ep,h0,h1,h2,h3,h4,h5,h6,h7⟩:=Px I.hok h
  have hl:l.length=us.length:=by have:=h0.length; simpa using this
  exact ⟨us,hl,h0,VO hl h1 h2 h3 h4 h5 fun y hy=>isC I (hi y hy),h5,h6,h7⟩
def Nm (neg:Bool) (y d:D):M D:=bnd (JY d) fun r=>fun μ=>(JZ y).map fun c=>(.bl (if neg then !(r.2.any fun z=>decide (z.1=c)) else r.2.any fun z=>decide (z.1=c)),μ)
theorem O1 {k:Nat} (hr:Room k X.A):OpR X (compareOp .NotIn) (rM X.K (Nm true)):=fun pins s σ H x y v u Q I rx ry h=>by
  obtain ⟨ι,μ,a,b,d,μ',R,ia,ib,e,q⟩:=h
  obtain ⟨r,μ1,e1,e2⟩:=AG e
  obtain ⟨hm,_,g1,rfl,kvs,g2,g3⟩:=Eo R ib e1
  subst hm
  cases hc:JZ a with
  | none=>rw [hc] at e2; cases e2
  | some c=>
    rw [hc] at e2
    cases e2
    cases Il hc
    have ia':=ia
    unfold csD Is at ia'
    obtain ⟨pa,_,rfl,_⟩:=ia'
    cases rx
    cases ry
    obtain ⟨us,hl,_,dd,_,_,lo⟩:=KS I g2 g3.at
    refine PyProof.Rows.wpAny_notIn_heap (Jw hr) (isC I ia) lo dd ?_
    rw [FS hl,Kl g3.keys]
    exact ⟨.bl _,H,I.tok _,rfl,q ι H R.ext0 R _ (ofB _)⟩
def Gj (mo mi mv:Sl->M D):Sl->M (Fl × Sl):=fun τ=>bnd (mv τ) fun v=>bnd (mo τ) fun x=>bnd (mi τ) fun y=>bnd (JY x) fun r=>fun μ=>match JZ y with
  | some c=>if r.2.length < sizeLine /\ (r.2.any fun z=>decide (z.1=c))=false then some ((.next,τ),μ.set r.1 (.dC (r.2 ++ [(c,v)]))) else none
  | none=>none
def UX (td ty tv:TE) (K:PySem.W.Frag):TS:=fun Dn σ H=>tv σ H fun v H1=>td σ H1 fun x H2=>ty σ H2 fun y H3=>∃ p l c a ι k,x=.ref p /\ y=.ref a /\ H3 p=some (Dl p l) /\ (∀ z ∈ l,Is K ι k H3 (csD z.1) (.ref z.2.1)) /\ Is K ι k H3 (csD c) (.ref a) /\ l.length < sizeLine /\ (l.any fun z=>decide (z.1=c))=false /\ Dn.nx σ (upd H3 p (Dl p (l ++ [(c,a,v)])))
theorem Qz {value:Expr} {td ty tv:TE} {k0:Nat} (hr:Room k0 X.A) (ho:PE X o td) (hi:PE X i ty) (hv:PE X value tv) (hs:swapsWith value (some (.Subscript o i pos')) pos.line X.env=pure false) :
    PS X (.Assign [.Subscript o i pos'] value pos) (UX td ty tv X.K):=by
  intro pins s σ H D I h
  refine wpAny_Assign_Subscript (thn (hv pins s σ H _ I h) fun r s1 ⟨v,H1,I1,rv,q1⟩=>thn (ho pins s1 σ H1 _ I1 q1) fun u s2 ⟨x,H2,I2,rx,q2⟩=>thn (hi pins s2 σ H2 _ I2 q2) fun iv s3 ⟨y,H3,I3,ry,p,l,c,a,ι,k,ex,ey,e,hl,hc,hz,hn,q3⟩=>?_) hs
  subst ex ey
  cases rx
  cases ry
  obtain ⟨us,hlen,hvs,dd,nd,hs,lo⟩:=KS I3 e hl
  have hx:(E6 l us).length=l.length:=by unfold E6; rw [List.length_map,List.length_zip]; omega
  have no:atKey (E6 l us) (csK c)=none:=by
    have:=FS (c:=c) hlen
    rw [hn] at this
    cases z:atKey (E6 l us) (csK c) with
    | none=>rfl
    | some _=>rw [z] at this; cases this
  refine wpAny_setItem_heap (hsz:=by omega) (Jw hr) (isC I3 hc) dd fun h' dd' sb=>⟨σ,_,?_,q3⟩
  rw [storedH_new no] at dd'
  obtain ⟨o',es',ep',d1,d2,d3,d4,_,_⟩:=dd'
  refine GS I3 (by rw [e]; exact True.intro) sb ⟨o',d1⟩ (SN ⟨us ++ [r],o',es',ep',?_,d1,d2,d3,?_,?_,?_,lo⟩)
  . rw [List.map_append]
    exact hvs.append (.cons rv .nil)
  . rw [d4,List.zip_append hlen,List.map_append]
    unfold E6
    rw [List.map_append,List.map_map]
    rfl
  . rw [List.map_append]
    refine List.nodup_append.mpr ⟨nd,by simp,?_⟩
    intro z hz' w hw
    have hw':w=c:=by simpa using hw
    intro hzc
    obtain ⟨t,ht,et⟩:=List.mem_map.mp hz'
    have et':t.1=c:=et.trans (hzc.trans hw')
    have:(l.any fun z=>decide (z.1=c))=true:=List.any_eq_true.mpr ⟨t,ht,by simp [et']⟩
    rw [hn] at this
    cases this
  . rw [List.length_append]; simp; omega
theorem Ls {value:Expr} {mo mi mv:Sl->M D} {k:Nat} (hr:Room k X.A) (ho:RE X o mo) (hi:RE X i mi) (hv:RE X value mv) (hs:swapsWith value (some (.Subscript o i pos')) pos.line X.env=pure false:=by rfl):RS X (.Assign [.Subscript o i pos'] value pos) (Gj mo mi mv):=RS.wk (Qz hr ho.pe hi.pe hv.pe hs) fun Dn σ H h=>by
  obtain ⟨ι,μ,τ,f,τ',μ',R,S,e,q⟩:=h
  obtain ⟨v,μ1,e1,ee1⟩:=AG e
  obtain ⟨x,μ2,e2,ee2⟩:=AG ee1
  obtain ⟨y,μ3,e3,ee3⟩:=AG ee2
  obtain ⟨r,μ4,e4,ee4⟩:=AG ee3
  refine ⟨ι,μ,τ,v,μ1,R,S,e1,fun ι1 H1 E1 R1 v1 i1=>⟨ι1,μ1,τ,x,μ2,R1,S.ext E1,e2,fun ι2 H2 E2 R2 v2 i2=>⟨ι2,μ2,τ,y,μ3,R2,S.ext (E1.trans E2),e3,fun ι3 H3 E3 R3 v3 i3=>?_⟩⟩⟩
  obtain ⟨hm,hx,g1,hv2,kvs,g2,g3⟩:=Eo R3 (i2.ext E3) e4
  subst hm
  have E13:=(E1.trans E2).trans E3
  cases hk:JZ y with
  | none=>rw [hk] at ee4; cases ee4
  | some c=>
    rw [hk] at ee4
    have ee4:(if r.2.length < sizeLine /\ (r.2.any fun z=>decide (z.1=c))=false then some ((Fl.next,τ),List.set μ4 r.1 (MO.dC (r.2 ++ [(c,v)]))) else none)=some ((f,τ'),μ'):=ee4
    split at ee4
    . rename_i hl
      cases ee4
      cases Il hk
      have i3':=i3
      unfold csD Is at i3'
      obtain ⟨a,_,rfl,_⟩:=i3'
      have hlt:r.1 < List.length μ4:=(List.getElem?_eq_some_iff.mp g1).1
      have hkl:kvs.length=r.2.length:=by have:=congrArg List.length g3.keys; simpa using this
      obtain ⟨E4,R4⟩:=R3.changed (m:=.dC (r.2 ++ [(c,v)])) (o:=Dl (ι3 r.1) (kvs ++ [(c,a,v1)])) hlt ⟨_,rfl,CVs.app i3 (i1.ext (E2.trans E3)) g3⟩
      exact ⟨_,kvs,c,a,ι3,_,hv2,rfl,g2,g3.at,i3,by omega,by rw [Kl g3.keys]; exact hl.2,q ι3 _ (E13.trans E4) R4 σ (S.ext (E13.trans E4))⟩
    . cases ee4
theorem MW {l:List (Cs × Addr × V)} {us:List Value} {es:Array DictEntry} (hl:l.length=us.length) (h4:es.toList=(l.zip us).map (fun x=>{ key:=.ref x.1.2.1,hash:=(csK x.1.1).hash,val:=x.2 })):es.toList.map (·.key)=l.map fun y=>Value.ref y.2.1:=by
  rw [h4,List.map_map]
  have:((fun x:DictEntry=>x.key) ∘ fun x:(Cs × Addr × V) × Value=>({ key:=.ref x.1.2.1,hash:=(csK x.1.1).hash,val:=x.2 }:DictEntry))=(fun y:Cs × Addr × V=>Value.ref y.2.1) ∘ Prod.fst:=rfl
  rw [this,← List.map_map,List.map_fst_zip (by omega)]
theorem Hs:∀ l:List (Cs × Addr × V),Vals (l.map fun y=>V.ref y.2.1) (l.map fun y=>Value.ref y.2.1)
  | []=>.nil
  | y :: r=>.cons rfl (Hs r)
theorem LR (hc:X.calm=true):CF X (.type "list") (fun xs H Q=>∃ p l,xs=[.ref p] /\ H p=some (Dl p l) /\ ∀ q,H q=none->Q (.ref q) (upd H q (.lst (l.map fun y=>.ref y.2.1)))):=by
  intro pins s σ H xs us Q I r h
  obtain ⟨p,l,rfl,hp,q⟩:=h
  obtain ⟨u,rfl,ru⟩:=GW r
  cases ru
  obtain ⟨us,o,es,ep,h0,h1,h2,h3,h4,h5,h6,h7⟩:=Px I.hok hp
  have hl:l.length=us.length:=by have:=h0.length; simpa using this
  have hsz:es.size=l.length:=by rw [← Array.length_toList,h4,List.length_map,List.length_zip]; omega
  refine PySem.W.kdl_call (Jl h7 h2 h3) (I.ok.hd hc) h1 (by omega) fun h' tk acc c kp e it=>?_
  have ek:=(HA it).trans (MW hl h4)
  refine ⟨.ref s.heap.objs.size,_,I.laid (t':=tk) kp (Nat.le_refl _) (show ObjOk X.prog X.w _ h' _ (.lst (l.map fun y=>.ref y.2.1)) from ⟨by simpa using h6,acc.toList,c,?_,by rw [Array.toArray_toList]; exact e⟩),rfl,q _ (I.hok.fresh (Nat.le_refl _))⟩
  rw [ek]
  exact Hs l
def LD:List D->M D
  | [d]=>bnd (JY d) fun r=>fun μ=>some (.ref μ.length,μ ++ [.lst (r.2.map fun y=>csD y.1)])
  | _=>BS
theorem Rt (hc:X.calm=true):CF X (.type "list") (rMA X.K LD):=fun pins s σ H xs us Q I r h=>by
  obtain ⟨ι,μ,as,d,μ',R,ia,e,q⟩:=h
  unfold LD at e
  split at e
  . obtain ⟨rr,μ1,e1,e2⟩:=AG e
    obtain ⟨v,rfl,i1⟩:=Fg ia
    obtain ⟨hm,_,g1,rfl,kvs,g2,g3⟩:=Eo R i1 e1
    subst hm
    cases e2
    refine LR hc pins s σ H _ us Q I r ⟨_,kvs,rfl,g2,fun p hp=>?_⟩
    obtain ⟨ι',E1,R1,e0⟩:=R.grown (m:=.lst (rr.2.map fun y=>csD y.1)) hp ⟨_,rfl,g3.isL⟩
    exact q ι' _ E1 R1 _ (by unfold Is; exact ⟨by simp,by rw [e0]⟩)
  . cases e
end
end Mi
namespace Nk
open PySem PySem.Spec PyProof.Rows PySem.SeqAt
def NV (x:Cs):List Cs->List Cs
  | []=>[x]
  | y :: r=>if cLt x y=true then x :: y :: r else y :: NV x r
def Gd:List Cs->List Cs
  | []=>[]
  | x :: r=>NV x (Gd r)
theorem Fi (x:Cs):∀ l,(NV x l).Perm (x :: l)
  | []=>List.Perm.refl _
  | y :: r=>by
    unfold NV
    split
    . exact List.Perm.refl _
    . exact ((Fi x r).cons y).trans (List.Perm.swap x y r)
theorem Cv:∀ l,(Gd l).Perm l
  | []=>List.Perm.refl _
  | x :: r=>(Fi x _).trans ((Cv r).cons x)
theorem P8 {a b c:Cs} (h:cLt a b=true) (g:cLt b c=true):cLt a c=true:=LE h g
theorem Rv (a:Cs):cLt a a=false:=GG _
theorem Ru {a b:Cs} (h:a ≠ b):cLt a b=true ∨ cLt b a=true:=JJ fun z=>h (KK z)
theorem MJ (x:Cs):∀ {l:List Cs},(∀ y ∈ l,y ≠ x)->l.Pairwise (fun x y=>cLt x y=true)->(NV x l).Pairwise fun x y=>cLt x y=true
  | [],_,_=>List.pairwise_singleton _ _
  | y :: r,hx,h=>by
    obtain ⟨h1,h2⟩:=List.pairwise_cons.mp h
    unfold NV
    split
    . rename_i hl
      exact List.pairwise_cons.mpr ⟨fun z hz=>(List.mem_cons.mp hz).elim (fun e=>e ▸ hl) fun hz=>P8 hl (h1 z hz),h⟩
    . rename_i hl
      refine List.pairwise_cons.mpr ⟨fun z hz=>?_,MJ x (fun z hz=>hx z (List.mem_cons_of_mem _ hz)) h2⟩
      rcases List.mem_cons.mp ((Fi x r).mem_iff.mp hz) with rfl | hz
      . exact (Ru (hx y List.mem_cons_self)).resolve_right hl
      . exact h1 z hz
theorem Im:∀ {l:List Cs},l.Nodup->(Gd l).Pairwise fun x y=>cLt x y=true
  | [],_=>List.Pairwise.nil
  | x :: r,h=>by
    obtain ⟨h1,h2⟩:=List.nodup_cons.mp h
    exact MJ x (fun y hy e=>h1 (by rw [← e]; exact (Cv r).mem_iff.mp hy)) (Im h2)
theorem N3:∀ {xs ys:List Cs},xs.Pairwise (fun x y=>cLt x y=true)->ys.Pairwise (fun x y=>cLt x y=true)->xs.Perm ys->xs=ys
  | [],ys,_,_,p=>by cases p.symm.eq_nil; rfl
  | x :: xs,[],_,_,p=>by cases p.eq_nil
  | x :: xs,y :: ys,hx,hy,p=>by
    obtain ⟨x1,x2⟩:=List.pairwise_cons.mp hx
    obtain ⟨y1,y2⟩:=List.pairwise_cons.mp hy
    have e:x=y:=by
      rcases List.mem_cons.mp (p.mem_iff.mp List.mem_cons_self) with e | e
      . exact e
      . rcases List.mem_cons.mp (p.symm.mem_iff.mp List.mem_cons_self) with e' | e'
        . exact e'.symm
        . have:=P8 (y1 x e) (x1 y e')
          rw [Rv] at this
          cases this
    subst e
    rw [N3 x2 y2 (List.Perm.cons_inv p)]
theorem QU {ks l:List Cs} (nd:l.Nodup) (p:ks.Perm l) (u:ks.Pairwise fun x y=>cLt x y=true):ks=Gd l:=N3 u (Im nd) (p.trans (Cv l).symm)
section
variable {prog:Program} {w:World} {A:Around} {E:Value->Shared->Prop} {s:Shared}
theorem Jn {d:Addr} {o:Obj} {es:Array DictEntry} {ep:Nat} {ks:List Cs} {Q:Value->Shared->Prop} (hh:A.handled=none) (hu:A.units + 16 < cLine) (lo:(d == sysModules)=false) (ho:s.heap.get? d=some o) (ex:o.ExactDict) (hd:o.data=.dict es ep)
    (hk:Ats s.heap (ks.map csK) (es.toList.map (·.key))) (nd:ks.Nodup) (h64:es.size < 64)
    (q:∀ (h1 h':Heap) tk c (out:List Value) (ks':List Cs),(∀ b o,s.heap.get? b=some o->h1.get? b=some o)->(∀ b o,h1.get? b=some o->h'.get? b=some o)->h'.get? h1.objs.size=some (seqObj "list" out.toArray c)->Ats h1 (ks'.map csK) out->ks'=Gd ks->(∀ v ∈ out,v ∈ es.toList.map (·.key))->Q (.ref h1.objs.size) { s with heap:=h',toks:=tk }) :
    wpAny (model prog w) A (call (.builtin "sorted") [.ref d]) Q E s:=by
  refine Calls.call_function_entry kind_sorted plain_sorted entry_sorted (args_sorted1 _) ?_
  unfold Builtin.«sorted»
  refine wpAny_bind (wpAny_of_eq (a:=()) rfl ?_)
  refine wpAny_bind (PySem.W.kdu_collect (A:=A.in1) (Jl lo ex hd) hh ho (by rw [sizeLine_eq]; omega) fun h1 t1 acc k1 it=>?_)
  have ek:=HA it
  have hlen:acc.toList.length=es.size:=by rw [Array.length_toList]; exact it.1
  refine wpAny_bind (wpAny_newList ?_ (by rw [sizeLine_eq]; omega))
  have hL:(h1.push (seqObj "list" acc.toList.toArray 0)).get? h1.objs.size=some (seqObj "list" acc.toList.toArray 0):=Heap.get?_push_size _ rfl
  have kL:∀ b o,h1.get? b=some o->(h1.push (seqObj "list" acc.toList.toArray 0)).get? b=some o:=fun b o e=>Heap.get?_push_of_some _ e
  have hk1:Ats h1 (ks.map csK) acc.toList:=by rw [ek]; exact hk.kept fun b o items n e _ _=>k1 b o e
  have hkL:Ats (h1.push (seqObj "list" acc.toList.toArray 0)) (ks.map csK) acc.toList:=hk1.kept fun b o items n e _ _=>kL b o e
  refine wpAny_bind (wpAny_holding (wpAny_call_entry slot_list_sort ⟨_,hL,rfl⟩ entry_list_sort (QW (s:={ s with heap:=h1.push (seqObj "list" acc.toList.toArray 0),toks:=t1 }) (by show A.units + 1 + 1 + 8 < cLine; omega) hL hkL nd (by omega) fun out ks' a1 a2 a3 a4=>⟨_,rfl,?_⟩) (args_list_sort _)))
  obtain ⟨c,hc⟩:=sortedHeap_at (out:=out.toArray) hL
  have em:=QU nd a2 a3
  have a1':Ats h1 (ks'.map csK) out:=by
    refine Ats.of_get (by have:=a1.len; simpa using this) fun i k v e1 e2=>?_
    obtain ⟨v',f1,f2⟩:=a1.get i k e1
    rw [e2] at f1
    cases f1
    have hv:v ∈ acc.toList:=a4 v (List.mem_of_getElem? e2)
    obtain ⟨j,hj,ej⟩:=List.getElem_of_mem hv
    have hjk:j < ks.length:=by have:=hk1.len; simp at this; simp at hj; omega
    obtain ⟨v2,g1,g2⟩:=hk1.get j (csK ks[j]) (by simp [hjk])
    rw [List.getElem?_eq_getElem hj,ej] at g1
    cases g1
    have same:=At.inj (At.kept g2 fun b o items n e _ _=>kL b o e) f2
    rw [← same]
    exact g2
  exact wpAny_pure ⟨_,rfl,q h1 _ _ c out ks' k1 (fun b o e=>by rw [sortedHeap_old (Nat.ne_of_lt (Heap.lt_size e)) (Heap.lt_size (kL b o e))]; exact kL b o e) hc a1' em (fun v hv=>by rw [← ek]; exact a4 v hv)⟩
end
end Nk
namespace Mi
open PySem L2 Ht Nk
section
variable {X:Cx} {e:Expr}
theorem Kh {pins:List (Addr × Obj)} {σ:St} {H:Hp} {s:Shared} {ι:Nat->Addr} {k:Nat} (I:Inv X pins σ H s):∀ {l:List (Cs × Addr × V)},(∀ y ∈ l,Is X.K ι k H (csD y.1) (.ref y.2.1))->Ats s.heap ((l.map (·.1)).map csK) (l.map fun y=>Value.ref y.2.1)
  | [],_=>by show Ats s.heap [] []; unfold Ats; rfl
  | y :: l,h=>by
    show Ats s.heap (csK y.1 :: (l.map (·.1)).map csK) (Value.ref y.2.1 :: l.map fun y=>Value.ref y.2.1)
    unfold Ats
    exact ⟨_,_,rfl,QG I (h y List.mem_cons_self) rfl,Kh I fun z hz=>h z (List.mem_cons_of_mem _ hz)⟩
theorem Ox {pins:List (Addr × Obj)} {σ:St} {H:Hp} {s:Shared} {ι:Nat->Addr} {k:Nat} {h1:Heap} (I:Inv X pins σ H s) (kp:∀ b o,s.heap.get? b=some o->h1.get? b=some o) {l:List (Cs × Addr × V)} (hi:∀ y ∈ l,Is X.K ι k H (csD y.1) (.ref y.2.1)) :
    ∀ {out:List Value} {ks:List Cs},Ats h1 (ks.map csK) out->(∀ v ∈ out,v ∈ l.map fun y=>Value.ref y.2.1)->∃ vs,Vals vs out /\ IsL X.K ι k H (ks.map csD) vs
  | _,[],a,_=>by
    unfold List.map Ats at a
    subst a
    exact ⟨[],.nil,.nil⟩
  | _,c :: ks,a,m=>by
    unfold List.map Ats at a
    obtain ⟨v,out',rfl,a1,a2⟩:=a
    obtain ⟨vs,r,i⟩:=Ox I kp hi a2 fun v hv=>m v (List.mem_cons_of_mem _ hv)
    obtain ⟨y,hy,rfl⟩:=List.mem_map.mp (m v List.mem_cons_self)
    have a3:=(QG I (hi y hy) rfl).kept (h':=h1) fun b o items n e _ _=>kp b o e
    have ec:=GT (At.inj a3 a1)
    exact ⟨.ref y.2.1 :: vs,.cons rfl r,.cons (by rw [← ec]; exact hi y hy) i⟩
theorem LQ {k0:Nat} (hr:Room k0 X.A) (hc:X.calm=true):CF X (.builtin "sorted") (fun xs H Q=>∃ p l ι k,xs=[.ref p] /\ H p=some (Dl p l) /\ (∀ y ∈ l,Is X.K ι k H (csD y.1) (.ref y.2.1)) /\ l.length < 64 /\ ∀ q vs,H q=none->IsL X.K ι k H ((Gd (l.map (·.1))).map csD) vs->Q (.ref q) (upd H q (.lst vs))):=by
  intro pins s σ H xs us Q I r h
  obtain ⟨p,l,ι,k,rfl,hp,hi,h64,q⟩:=h
  obtain ⟨u,rfl,ru⟩:=GW r
  cases ru
  obtain ⟨us,o,es,ep,h0,h1,h2,h3,h4,h5,h6,h7⟩:=Px I.hok hp
  have hl:l.length=us.length:=by have:=h0.length; simpa using this
  have hsz:es.size=l.length:=by rw [← Array.length_toList,h4,List.length_map,List.length_zip]; omega
  have ek:=MW hl h4
  refine Jn (ks:=l.map (·.1)) (I.ok.hd hc) (by have:=hr.units; omega) h7 h1 h2 h3 (by rw [ek]; exact Kh I hi) h5 (by omega) fun g1 h' tk c out ks' k1 k2 e1 at' em sub=>?_
  subst em
  obtain ⟨vs,rv,iv⟩:=Ox I k1 hi at' (by rw [← ek]; exact sub)
  have I1:=I.kept (t':=tk) k1
  have hz:vs.length <= sizeLine:=by
    have:=iv.length
    rw [this,List.length_map,(Cv _).length_eq,List.length_map]
    omega
  exact ⟨.ref g1.objs.size,_,I1.laid (t':=tk) (o:=.lst vs) k2 (Nat.le_refl _) ⟨hz,out,c,rv,e1⟩,rfl,q _ vs (I1.hok.fresh (Nat.le_refl _)) iv⟩
def Kt:List D->M D
  | [d]=>bnd (JY d) fun r=>fun μ=>if r.2.length < 64 then some (.lst ((Gd (r.2.map (·.1))).map csD),μ) else none
  | _=>BS
theorem Rs {k0:Nat} (hr:Room k0 X.A) (hc:X.calm=true):CF X (.builtin "sorted") (rMA X.K Kt):=fun pins s σ H xs us Q I r h=>by
  obtain ⟨ι,μ,as,d,μ',R,ia,e,q⟩:=h
  unfold Kt at e
  split at e
  . obtain ⟨rr,μ1,e1,e2⟩:=AG e
    obtain ⟨v,rfl,i1⟩:=Fg ia
    obtain ⟨hm,_,g1,rfl,kvs,g2,g3⟩:=Eo R i1 e1
    subst hm
    split at e2
    . rename_i hlt
      cases e2
      have hkl:kvs.length=rr.2.length:=by have:=congrArg List.length g3.keys; simpa using this
      refine LQ hr hc pins s σ H _ us Q I r ⟨_,kvs,ι,_,rfl,g2,g3.at,by omega,fun p vs hp iv=>?_⟩
      rw [g3.keys] at iv
      exact PM R iv q p hp
    . cases e2
  . cases e
def Q0:D->List D->M D
  | .ref n,[]=>Jf n fun ds=>(ds[ds.length - 1]?).map fun d=>(d,ds.dropLast)
  | _,_=>BS
theorem IsL.dropLast {K:PySem.W.Frag} {ι:Nat->Addr} {k:Nat} {H:Hp} {ds:List D} {vs:List V} (h:IsL K ι k H ds vs):IsL K ι k H ds.dropLast vs.dropLast:=by
  rw [List.dropLast_eq_take,List.dropLast_eq_take,h.length]
  exact h.take _
theorem U8:MtR X "list.pop" (rMM X.K Q0):=fun pins s σ H x xs v us Q I rx rs h=>by
  obtain ⟨ι,μ,a,as,d,μ',R,ia,ib,e,q⟩:=h
  unfold Q0 at e
  split at e
  . rename_i n
    obtain ⟨ds,es,h1,h2,rfl⟩:=Hv e
    cases hd:ds[ds.length - 1]? with
    | none=>rw [hd] at h2; cases h2
    | some d0=>
      rw [hd] at h2
      cases h2
      unfold IsL at ib
      subst ib
      unfold Is at ia
      obtain ⟨_,rfl⟩:=ia
      obtain ⟨u,g1,vs,rfl,g2⟩:=R.obj n _ h1
      obtain ⟨w,ew,iw⟩:=g2.get hd
      refine Tj pins s σ H _ _ v us Q I rx rs ⟨_,vs,w,rfl,rfl,g1,by rw [g2.length]; exact ew,?_⟩
      exact Lg R h1 g2.dropLast iw q
  . cases e
def Fx (m:Sl->M D):Sl->M Bool:=fun τ=>bnd (m τ) fun d=>bnd (BU d) fun ds=>ret (!ds.isEmpty)
theorem Lr {m:Sl->M D} (h:RE X e m) (he:∀ whole,isTrue e X.env whole=(do let v ← whole; standAt e.pos; holding [v] (truthy v)):=by intro _; rfl):RT X e (Fx m):=RT.wk (Od h.pe he) fun σ H Q q=>by
  obtain ⟨ι,μ,τ,b,μ',R,S,e,q⟩:=q
  obtain ⟨x,μ1,e1,ee1⟩:=AG e
  obtain ⟨ds,μ2,e2,ee2⟩:=AG ee1
  cases ee2
  refine ⟨ι,μ,τ,x,μ1,R,S,e1,fun ι1 H1 E1 R1 v1 i1=>?_⟩
  obtain ⟨hm,p,vs,rfl,g1,g2⟩:=Cz R1 i1 e2
  subst hm
  have hl:=g2.length
  have he:vs.isEmpty=ds.isEmpty:=by
    cases vs <;> cases ds <;> first | rfl | (simp at hl)
  refine ⟨!vs.isEmpty,?_,by rw [he]; exact q ι1 H1 E1 R1⟩
  rcases g1 with g1 | g1
  . exact .inl ⟨vs,g1,rfl⟩
  . exact .inr (.inl ⟨vs,g1,rfl⟩)
end
end Mi
namespace K16
open PySem L2 Mi
def BM:D:=.int (-1)
def Ba:D:=.int (-1)
def HR:D:=.int (-2)
def D1:D:=.int (-2)
def BQ  : Sl->M (Fl × Sl):=
    (AV (Ae (mOp Da (AE Ct (AC (mOp AN (AB 0) (mC (.int 4))) AJ)) (mC (.int 1))) (AM 1))
    (AV (sIf (AR (mOp Aj (mOp AN (AB 0) (mC (.int 0))) (mC (.str "whole")))) (Am (AE AX (AC (AE AX (AC (mOp AN (AB 0) (mC (.int 2))) (AC (mC BM) (AC (mOp FY (AE AX (AC (mC BM) AJ)) (AB 1)) AJ)))) AJ))) A1)
    (Am (AE AX (AC (mOp AN (AB 0) (mC (.int 2))) (AC (mC BM) (AC (mOp FY (AE AX (AC (mC .non) AJ)) (AB 1)) AJ)))))))
def B5 (φ_case_begun:List D->M D) (φ_closed:List D->M D) (φ_beside:List D->M D):Sl->M (Fl × Sl):=
    (AV (sIf (AR (mOp Aj (mOp AN (AB 0) (mC (.int 0))) (mC (.str "whole")))) (Am (AE φ_closed (AC (Cm 1 [2] (Ce (AB 1)) (AM 0) Bv (AE φ_case_begun (AC (AB 0) (AC (mC (.int 0)) (AC (AB 1) AJ)))) Ar) AJ))) A1)
    (AV (Ae (Cm 1 [0,2] (Ce (mOp AN (AB 1) (mC (.int 2)))) (AM 0) Bv (mIf (AR (mOp (Jy false) (AB 0) (mC .non))) (AB 0) (AE φ_beside (AC (mOp AN (AB 1) (mC (.int 0))) (AC (mOp AN (AB 1) (mC (.int 1))) (AC (AB 0) (AC (AB 2) AJ)))))) Ar) (AM 3))
    (Am (AE AX (AC (mOp AN (AB 1) (mC (.int 0))) (AC (AB 2) (AC (AE D7 (AC (AB 3) AJ)) AJ)))))))
def Bm (φ_cases_ended:List D->M D) (φ_closed:List D->M D):Sl->M (Fl × Sl):=
    (AV (sIf (AR (mOp Aj (mOp AN (AB 0) (mC (.int 0))) (mC (.str "whole")))) (Am (AE φ_closed (AC (AE φ_cases_ended (AC (AB 1) (AC (mC (.int 0)) (AC (mC BM) AJ)))) AJ))) A1)
    (Am (AE AX (AC (mOp AN (AB 1) (mC (.int 1))) (AC (mC BM) (AC (mOp AN (AB 1) (mC (.int 2))) AJ))))))
def CY (φ_case_begun:List D->M D) (φ_closed:List D->M D) (φ_beside:List D->M D) (φ_with_thing:List D->M D):Sl->M (Fl × Sl):=
    (AV (sIf (AR (mOp Aj (mOp AN (AB 0) (mC (.int 0))) (mC (.str "whole")))) (Am (AE φ_closed (AC (Cm 1 [2] (Ce (AB 1)) (AM 0) Bv (AE φ_case_begun (AC (AB 0) (AC (mOp AY (AB 1) (mC (.int 1))) (AC (mC BM) AJ)))) Ar) AJ))) A1)
    (AV (Ae (AE AX (AC (mOp AN (AB 1) (mC (.int 0))) AJ)) (AM 3))
    (AV (sIf (AR (mOp Qq (mOp AN (AB 1) (mC (.int 1))) (mC BM))) (Ae (AE φ_beside (AC (mOp AN (AB 0) (mC (.int 0))) (AC (mOp AN (AB 0) (mC (.int 1))) (AC (AB 3) (AC (mOp AN (AB 1) (mC (.int 1))) AJ))))) (AM 3)) A1)
    (Am (AE AX (AC (mOp AN (AB 1) (mC (.int 0))) (AC (mOp AN (AB 1) (mC (.int 1))) (AC (AE φ_with_thing (AC (mOp AN (AB 1) (mC (.int 2))) (AC (AB 2) (AC (AB 3) AJ)))) AJ))))))))
def Cp (φ_cases_ended:List D->M D) (φ_closed:List D->M D) (φ_with_thing:List D->M D):Sl->M (Fl × Sl):=
    (AV (sIf (AR (mOp Aj (mOp AN (AB 0) (mC (.int 0))) (mC (.str "whole")))) (AV (Ae (AE φ_cases_ended (AC (AB 1) (AC (mOp AY (AB 2) (mC (.int 1))) (AC (AB 3) AJ)))) (AM 4))
    (Am (mIf (Fx (AB 4)) (AE φ_closed (AC (AB 4) AJ)) (mC .non)))) A1)
    (AV (sIf (AR (mOp (Er true) (AB 3) (mOp AN (mOp AN (AB 1) (mC (.int 2))) (AB 2)))) (Am (mC .non)) A1)
    (Am (AE AX (AC (mOp AN (AB 1) (mC (.int 0))) (AC (mOp AN (AB 1) (mC (.int 1))) (AC (AE φ_with_thing (AC (mOp AN (AB 1) (mC (.int 2))) (AC (AB 2) (AC (mC .non) AJ)))) AJ)))))))
def De  : Sl->M (Fl × Sl):=
    (AV (sIf (AR (mOp Aj (AB 0) (mC (.str "safe")))) (Am (mUn (Lu D.tup) (AB 1))) A1)
    (Am (AE D7 (AC (mUn D8 (mOp AY (AB 2) (AE AX (AC (AB 3) AJ)))) AJ))))
def Bc  : Sl->M (Fl × Sl):=
    (Am (mOp AY (mOp AY (FJ (AB 0) C8 (EI (AB 1))) (AE AX (AC (AB 2) AJ))) (FJ (AB 0) (EI (mOp AY (AB 1) (mC (.int 1)))) C8)))
def Cr (φ_with_thing:List D->M D):Sl->M (Fl × Sl):=
    (AV (sIf (AR (mOp Aj (AB 1) (mC (.int 0)))) (Am (AE AX (AC (mOp AN (AB 0) (mC (.int 0))) (AC (AB 2) (AC (mOp AN (AB 0) (mC (.int 2))) AJ))))) A1)
    (Am (AE AX (AC (mOp AN (AB 0) (mC (.int 0))) (AC (mOp AN (AB 0) (mC (.int 1))) (AC (AE φ_with_thing (AC (mOp AN (AB 0) (mC (.int 2))) (AC (mOp Da (AB 1) (mC (.int 1))) (AC (mC D1) AJ)))) AJ))))))
def Cq (φ_with_thing:List D->M D):Sl->M (Fl × Sl):=
    (AV (sIf (AR (mOp Aj (AB 1) (mC (.int 0)))) (Am (mIf (AR (mOp Aj (mOp AN (AB 0) (mC (.int 1))) (mC HR))) (AE AX (AC (mOp AN (AB 0) (mC (.int 0))) (AC (mC BM) (AC (mOp AN (AB 0) (mC (.int 2))) AJ)))) (mC .non))) A1)
    (Am (mIf (AR (mOp Aj (mOp AN (mOp AN (AB 0) (mC (.int 2))) (mOp Da (AB 1) (mC (.int 1)))) (AB 2))) (AE AX (AC (mOp AN (AB 0) (mC (.int 0))) (AC (mOp AN (AB 0) (mC (.int 1))) (AC (AE φ_with_thing (AC (mOp AN (AB 0) (mC (.int 2))) (AC (mOp Da (AB 1) (mC (.int 1))) (AC (mC BM) AJ)))) AJ)))) (mC .non))))
def CZ (φ_case_ended:List D->M D):Sl->M (Fl × Sl):=
    (AV (Ae (Cm 1 [1,2] (Ce (AB 0)) (AM 0) Bv (AE φ_case_ended (AC (AB 0) (AC (AB 1) (AC (AB 2) AJ)))) Ar) (AM 3))
    (Am (Cm 1 [] (Ce (AB 3)) (AM 0) (AR (mOp (Jy true) (AB 0) (mC .non))) (AB 0) Ar)))
def FH (φ_reached:List D->M D):Sl->M (Fl × Sl):=
    (Am (AE D7 (AC (AE Kt (AC (AE φ_reached (AC (AB 0) AJ)) AJ)) AJ)))
def Ee (φ_moments_from:List D->M D):Sl->M (Fl × Sl):=
    (AV (Ae R9 (AM 1))
    (AV (Ep (Ce (AB 0)) (AM 2) (Gj (AB 1) (AB 2) (mC .non)))
    (AV (Ae (AE LD (AC (AB 1) AJ)) (AM 3))
    (AV (Kw A5 (Fx (AB 3)) (AV (Ae (FK Q0 (AB 3)) (AM 2))
    (Lo 1000 (AE φ_moments_from (AC (AB 2) AJ)) (Hb [4,5]) (sIf (AR (mOp (Nm true) (AB 5) (AB 1))) (AV (Gj (AB 1) (AB 5) (AE AX (AC (AB 4) (AC (AB 2) AJ))))
    (Bu (A9 EY (AB 3) (AC (AB 5) AJ)))) A1))))
    (Am (AB 1))))))
def B4 (φ_with_thing:List D->M D):Sl->M (Fl × Sl):=
    (AV (Ae (AE Hm AJ) (AM 1))
    (AV (sIf (AR (mOp Ob (mOp AN (AB 0) (mC (.int 1))) (mC (.int 0)))) (Bu (A9 EY (AB 1) (AC (AE AX (AC (mC (.int 0)) (AC (AE AX (AC (mOp AN (AB 0) (mC (.int 1))) (AC (mC HR) (AC (mOp AN (AB 0) (mC (.int 2))) AJ)))) AJ))) AJ))) A1)
    (AV (Ep (PB (AC (mOp AN (AB 0) (mC (.int 2))) AJ)) (Hb [2,3]) (sIf (AR (mOp Aj (AB 3) (mC D1))) (Bu (A9 EY (AB 1) (AC (AE AX (AC (mOp AY (AB 2) (mC (.int 1))) (AC (AE AX (AC (mOp AN (AB 0) (mC (.int 0))) (AC (mOp AN (AB 0) (mC (.int 1))) (AC (AE φ_with_thing (AC (mOp AN (AB 0) (mC (.int 2))) (AC (AB 2) (AC (mOp AN (AB 0) (mC (.int 0))) AJ)))) AJ)))) AJ))) AJ))) A1))
    (Am (AB 1)))))
def CP  : Sl->M (Fl × Sl):=
    (Am (EK (AE Di (AC (AB 0) (AC (mC (.ty "int")) AJ))) (EK (J8 (AE Di (AC (AB 0) (AC (mC (.ty "bool")) AJ)))) (EJ Hl Hl (AB 1) (AB 0) (AB 2)))))
def CQ  : Sl->M (Fl × Sl):=
    (Am (EK (AE Di (AC (AB 0) (AC (mC (.ty "tuple")) AJ))) (EJ Hl Hl (AB 1) (AE Ct (AC (AB 0) AJ)) (AB 2))))
def FG (φ_claim_begun:List D->M D) (φ_acts_of:List D->M D) (φ_claim_behind:List D->M D):Sl->M (Fl × Sl):=
    (AV (Ae (AE φ_claim_begun (AC (AB 0) AJ)) (AM 2))
    (AV (Ep (Ce (AE φ_acts_of (AC (AB 0) (AC (AB 1) AJ)))) (AM 3) (AV (Ae (AE φ_claim_behind (AC (AB 0) (AC (AB 2) (AC (AB 3) AJ)))) (AM 2))
    (sIf (AR (mOp (Jy false) (AB 2) (mC .non))) (Am (mC (.bl false))) A1)))
    (Am (mC (.bl true)))))
def B6 (φ_claim_writes:List D->M D) (φ_claim_written:List D->M D) (φ_claim_reads:List D->M D) (φ_claim_told:List D->M D):Sl->M (Fl × Sl):=
    (AV (Ae (mOp Aj (mOp AN (AB 2) (mC (.int 0))) (mC (.str "begin"))) (AM 3))
    (AV (sIf (AR (mOp Aj (mOp AN (AB 2) (mC (.int 1))) (mC (.int 0)))) (Am (mIf (AR (AB 3)) (AE φ_claim_writes (AC (AB 0) (AC (AB 1) (AC (mOp AN (AB 2) (mC (.int 2))) AJ)))) (AE φ_claim_written (AC (AB 0) (AC (AB 1) AJ))))) A1)
    (AV (Ae (mOp Da (mOp AN (AB 2) (mC (.int 1))) (mC (.int 1))) (AM 4))
    (Am (mIf (AR (AB 3)) (AE φ_claim_reads (AC (AB 0) (AC (AB 1) (AC (AB 4) AJ)))) (AE φ_claim_told (AC (AB 0) (AC (AB 1) (AC (AB 4) (AC (mOp AN (AB 2) (mC (.int 2))) AJ))))))))))
def Cw (φ_is_event:List D->M D):Sl->M (Fl × Sl):=
    (AV (sIf (CG (AR (AE Di (AC (AB 1) (AC (mC (.ty "list")) AJ))))) C4 A1)
    (AV (Ae (Cm 1 [] (Ce (mOp AN (AB 0) (mC (.int 4)))) (AM 0) Bv (mOp AN (AB 0) (mC (.int 0))) Ar) (AM 2))
    (AV (Ae Th (AM 3))
    (AV (Ae (AE Hm AJ) (AM 4))
    (AV (Ae (mC (.int 0)) (AM 5))
    (AV (Ep (PD (AC (AB 1) AJ)) (Hb [6,7]) (AV (sIf (CG (AR (AE φ_is_event (AC (AB 7) (AC (AB 2) (AC (mOp AN (AB 0) (mC (.int 1))) AJ)))))) C4 A1)
    (AV (Ae (A9 HF (AB 2) (AC (mOp AN (AB 7) (mC (.int 1))) AJ)) (AM 8))
    (AV (sIf (AR (mOp Aj (mOp Aj (mOp AN (AB 7) (mC (.int 0))) (mC (.str "begin"))) (mOp (KQ false) (AB 8) (AB 3)))) C4 A1)
    (AV (sIf (AR (mOp Aj (mOp AN (AB 7) (mC (.int 0))) (mC (.str "begin")))) (AV (IA (AB 3) (AB 8) (AB 5))
    (Ae (mOp JC (AB 5) (mC (.int 1))) (AM 5))) A1)
    (AV (Bu (A9 EY (AB 4) (AC (AE AX (AC (mOp AN (AB 7) (mC (.int 0))) (AC (AB 8) (AC (mIf (AR (mOp Aj (AE Ct (AC (AB 7) AJ)) (mC (.int 3)))) (mOp AN (AB 7) (mC (.int 2))) (mC Ba)) (AC (mOp F5 (AB 3) (AB 8)) AJ))))) AJ)))
    (sIf (AR (mOp Aj (mOp AN (AB 7) (mC (.int 0))) (mC (.str "end")))) (Bu (IF (AB 3) (AB 8))) A1)))))))
    (Am (AB 4))))))))
def CS (φ_is_tuple:List D->M D) (φ_is_whole:List D->M D):Sl->M (Fl × Sl):=
    (AV (sIf (mOr (CG (AR (AE φ_is_tuple (AC (AB 0) (AC (mC (.int 2)) (AC (mC (.int 3)) AJ)))))) (mOr (AR (mOp (Er true) (mOp AN (AB 0) (mC (.int 0))) (AE AX (AC (mC (.str "begin")) (AC (mC (.str "end")) AJ))))) (AR (mOp (Er true) (mOp AN (AB 0) (mC (.int 1))) (AB 1))))) (Am (mC (.bl false))) A1)
    (AV (sIf (AR (mOp Aj (mOp Aj (mOp AN (AB 0) (mC (.int 0))) (mC (.str "begin"))) (mOp Aj (mOp AN (AB 0) (mC (.int 1))) (mOp AN (AB 1) (mC (.int 0)))))) (Am (EK (mOp Aj (AE Ct (AC (AB 0) AJ)) (mC (.int 3))) (AE φ_is_whole (AC (mOp AN (AB 0) (mC (.int 2))) (AC (mC (.int 0)) (AC (mOp Da (AB 2) (mC (.int 1))) AJ)))))) A1)
    (Am (mOp Aj (AE Ct (AC (AB 0) AJ)) (mC (.int 2))))))
def Ef  : Sl->M (Fl × Sl):=
    (AV (Ae (AE Hm AJ) (AM 2))
    (AV (Ae (mOp BR (AB 0) (mC (.int 2))) (AM 3))
    (AV (Kw A5 (G3 (AR (mOp Aj (mOp BE (AB 0) (mC (.int 2))) (mC (.int 0)))) (G3 (AR (mOp K5 (AB 3) (mC (.int 0)))) (AR (mOp Qr (AE Ct (AC (AB 2) AJ)) (AB 1))))) (AV (Bu (A9 EY (AB 2) (AC (mOp BE (AB 3) (mOp IC (mC (.int 10)) (mC (.int 9)))) AJ)))
    (Ae (mOp BR (AB 3) (mOp IC (mC (.int 10)) (mC (.int 9)))) (AM 3))))
    (AV (Ae (mOp BE (mOp FB (mOp AY (mOp BR (AB 0) (mC (.int 2))) (mC (.int 7919))) (mC (.int 48271))) (mC (.int 2147483647))) (AM 3))
    (AV (Ep (MB (AC (AB 1) AJ)) (AM 4) (AV (Ae (mOp BE (mOp FB (AB 3) (mOp AY (mOp AY (mOp BR (AB 3) (mC (.int 1009))) (mC (.int 69621))) (AB 4))) (mC (.int 2147483647))) (AM 3))
    (AV (Bu (A9 EY (AB 2) (AC (mOp BE (mOp FB (AB 3) (mOp AY (mOp BR (AB 3) (mC (.int 127))) (mC (.int 40009)))) (mC (.int 2147483629))) AJ)))
    (Ae (mOp AY (AB 3) (mC (.int 1))) (AM 3)))))
    (Am (FJ (AB 2) C8 (EI (AB 1)))))))))
def Cy  : Sl->M (Fl × Sl):=
    (AV (Ae (mOp AY (mC (.int 2)) (mOp BE (mOp BR (AB 0) (mC (.int 4))) (mC (.int 9)))) (AM 2))
    (AV (Ae (mOp AN (AE Ar (AC (AE Ar (AC (mC (.str "w")) (AC (mC (.str "r")) (AC (mC (.str "s")) (AC (mC (.str "t")) AJ))))) (AC (AE Ar (AC (mC (.str "writer")) (AC (mC (.str "a")) (AC (mC (.str "ab")) (AC (mC (.str "b")) AJ))))) (AC (AE Ar (AC (mC (.str "z")) (AC (mC (.str "zz")) (AC (mC (.str "zzzzzzzz")) (AC (mC (.str "begin")) AJ))))) AJ)))) (mOp BE (mOp BR (AB 0) (mC (.int 36))) (mC (.int 3)))) (AM 3))
    (AV (Ae (mOp AY (mC (.int 1)) (mOp BE (mOp BR (AB 0) (mC (.int 108))) (mC (.int 3)))) (AM 4))
    (AV (Ae (Cm 1 [] (Ce (FJ (AB 3) C8 (EI (mOp AY (mC (.int 1)) (AB 4))))) (AM 0) Bv (AE AX (AC (AB 0) (AC (mC (.int 0)) (AC (AE AX AJ) AJ)))) Ar) (AM 5))
    (Am (AE AX (AC (AB 1) (AC (AB 2) (AC (mOp BE (mOp BR (AB 0) (mC (.int 324))) (AB 2)) (AC (AE AX AJ) (AC (AE D7 (AC (AB 5) AJ)) AJ)))))))))))
def MA (φ_judged:List D->M D):Sl->M (Fl × Sl):=
    (Am (mOp Aj (Cm 1 [1,0] (Ce (AE Ar (AC (mC (.str "safe")) (AC (mC (.str "steady")) (AC (mC (.str "whole")) AJ))))) (AM 0) Bv (AE φ_judged (AC (mOp AY (AE AX (AC (AB 0) AJ)) (FJ (AB 2) (EI (mC (.int 1))) C8)) (AC (AB 1) AJ))) Ar) (AB 2)))
def FI (φ_Lis:List D->M D):Sl->M (Fl × Sl):=
    (AV (Ae (mOp AN (AB 0) (mC (.int 2))) (AM 5))
    (AV (Ae (AE Ar (AC (AE AX (AC (mC (.str "begin")) (AC (AB 2) AJ))) (AC (AE AX (AC (mC (.str "end")) (AC (AB 2) (AC (AB 3) AJ)))) AJ))) (AM 6))
    (AV (Ae (AE Ar (AC (AE AX (AC (mC (.str "begin")) (AC (AB 1) (AC (AB 3) AJ)))) (AC (AE AX (AC (mC (.str "end")) (AC (AB 1) AJ))) AJ))) (AM 7))
    (AV (Ae (mOp Aj (AB 3) (AB 5)) (AM 8))
    (AV (sIf (mOr (CG (AR (AE φ_Lis (AC (AB 0) (AC (AB 6) (AC (AE Ar (AC (AB 8) (AC (AB 8) (AC (AB 8) AJ)))) AJ)))))) (CG (AR (AE φ_Lis (AC (AB 0) (AC (mOp AY (AB 7) (AB 6)) (AC (AE Ar (AC (mC (.bl true)) (AC (mC (.bl true)) (AC (mC (.bl true)) AJ)))) AJ))))))) (Am (mC (.bl false))) A1)
    (AV (Ae (AE Ar (AC (AE AX (AC (mC (.str "begin")) (AC (AB 1) (AC (AB 4) AJ)))) (AC (AE AX (AC (mC (.str "end")) (AC (AB 1) AJ))) AJ))) (AM 9))
    (Am (AE φ_Lis (AC (AB 0) (AC (mOp AY (mOp AY (AB 7) (AB 9)) (AB 6)) (AC (AE Ar (AC (mC (.bl false)) (AC (mC (.bl false)) (AC (mC (.bl false)) AJ)))) AJ)))))))))))
def Eg (φ_Lis:List D->M D):Sl->M (Fl × Sl):=
    (AV (Ae (AE Ar (AC (AE AX (AC (mC (.str "begin")) (AC (AB 1) (AC (AB 3) AJ)))) (AC (AE AX (AC (mC (.str "end")) (AC (AB 1) AJ))) (AC (AE AX (AC (mC (.str "begin")) (AC (AB 1) (AC (AB 4) AJ)))) AJ)))) (AM 6))
    (AV (Ep (Ce (AE Ar (AC (AE AX (AC (AB 3) (AC (mC (.bl true)) AJ))) (AC (AE AX (AC (AB 4) (AC (mC (.bl true)) AJ))) (AC (AE AX (AC (AB 5) (AC (mOp (Er false) (AB 5) (AE AX (AC (AB 3) (AC (AB 4) AJ)))) AJ))) AJ))))) (Hb [7,8]) (AV (Ae (mOp AY (AB 6) (AE Ar (AC (AE AX (AC (mC (.str "begin")) (AC (AB 2) AJ))) (AC (AE AX (AC (mC (.str "end")) (AC (AB 2) (AC (AB 7) AJ)))) AJ)))) (AM 9))
    (Ep (Ce (AE AX (AC (AE Ar AJ) (AC (AE Ar (AC (AE AX (AC (mC (.str "end")) (AC (AB 1) AJ))) AJ)) AJ)))) (AM 10) (sIf (CG (AR (AE φ_Lis (AC (AB 0) (AC (mOp AY (AB 9) (AB 10)) (AC (AE Ar (AC (mC (.bl true)) (AC (AB 8) (AC (AB 8) AJ)))) AJ)))))) (Am (mC (.bl false))) A1))))
    (AV (Ae (mOp AY (AB 6) (AE Ar (AC (AE AX (AC (mC (.str "begin")) (AC (AB 2) AJ))) (AC (AE AX (AC (mC (.str "end")) (AC (AB 2) (AC (AB 4) AJ)))) (AC (AE AX (AC (mC (.str "begin")) (AC (AB 2) AJ))) (AC (AE AX (AC (mC (.str "end")) (AC (AB 2) (AC (AB 3) AJ)))) AJ)))))) (AM 11))
    (AV (sIf (CG (AR (AE φ_Lis (AC (AB 0) (AC (AB 11) (AC (AE Ar (AC (mC (.bl true)) (AC (mC (.bl true)) (AC (mC (.bl false)) AJ)))) AJ)))))) (Am (mC (.bl false))) A1)
    (AV (Ae (mOp AY (AB 6) (AE Ar (AC (AE AX (AC (mC (.str "begin")) (AC (AB 2) AJ))) (AC (AE AX (AC (mC (.str "end")) (AC (AB 2) (AC (AB 4) AJ)))) (AC (AE AX (AC (mC (.str "end")) (AC (AB 1) AJ))) (AC (AE AX (AC (mC (.str "begin")) (AC (AB 2) AJ))) (AC (AE AX (AC (mC (.str "end")) (AC (AB 2) (AC (AB 3) AJ)))) AJ))))))) (AM 12))
    (Am (AE φ_Lis (AC (AB 0) (AC (AB 12) (AC (AE Ar (AC (mC (.bl false)) (AC (mC (.bl false)) (AC (mC (.bl false)) AJ)))) AJ))))))))))
def JH (φ_Lis:List D->M D):Sl->M (Fl × Sl):=
    (AV (Ae (AE Ar (AC (AE AX (AC (mC (.str "begin")) (AC (AB 1) (AC (AB 4) AJ)))) (AC (AE AX (AC (mC (.str "end")) (AC (AB 1) AJ))) (AC (AE AX (AC (mC (.str "begin")) (AC (AB 1) (AC (AB 5) AJ)))) AJ)))) (AM 6))
    (AV (Ae (mOp AY (AB 6) (AE Ar (AC (AE AX (AC (mC (.str "begin")) (AC (AB 2) AJ))) (AC (AE AX (AC (mC (.str "end")) (AC (AB 2) (AC (AB 5) AJ)))) (AC (AE AX (AC (mC (.str "begin")) (AC (AB 3) AJ))) (AC (AE AX (AC (mC (.str "end")) (AC (AB 3) (AC (AB 4) AJ)))) AJ)))))) (AM 7))
    (AV (sIf (CG (AR (AE φ_Lis (AC (AB 0) (AC (AB 7) (AC (AE Ar (AC (mC (.bl true)) (AC (mC (.bl true)) (AC (mC (.bl false)) AJ)))) AJ)))))) (Am (mC (.bl false))) A1)
    (AV (Ae (mOp AY (AB 6) (AE Ar (AC (AE AX (AC (mC (.str "begin")) (AC (AB 3) AJ))) (AC (AE AX (AC (mC (.str "begin")) (AC (AB 2) AJ))) (AC (AE AX (AC (mC (.str "end")) (AC (AB 2) (AC (AB 5) AJ)))) (AC (AE AX (AC (mC (.str "end")) (AC (AB 3) (AC (AB 4) AJ)))) AJ)))))) (AM 8))
    (Am (AE φ_Lis (AC (AB 0) (AC (AB 8) (AC (AE Ar (AC (mC (.bl true)) (AC (mC (.bl true)) (AC (mC (.bl true)) AJ)))) AJ)))))))))
def GF (φ_Lis:List D->M D):Sl->M (Fl × Sl):=
    (AV (Ae (AE Ar (AC (AE AX (AC (mC (.str "begin")) (AC (AB 1) (AC (AB 3) AJ)))) (AC (AE AX (AC (mC (.str "end")) (AC (AB 1) AJ))) (AC (AE AX (AC (mC (.str "begin")) (AC (AB 2) AJ))) (AC (AE AX (AC (mC (.str "begin")) (AC (AB 1) (AC (AB 4) AJ)))) (AC (AE AX (AC (mC (.str "end")) (AC (AB 1) AJ))) AJ)))))) (AM 6))
    (AV (Ae (mOp AY (AB 6) (AE Ar (AC (AE AX (AC (mC (.str "begin")) (AC (AB 1) (AC (AB 3) AJ)))) (AC (AE AX (AC (mC (.str "end")) (AC (AB 1) AJ))) AJ)))) (AM 6))
    (AV (Ep (Ce (AE Ar (AC (AE AX (AC (AB 3) (AC (mC (.bl true)) AJ))) (AC (AE AX (AC (AB 4) (AC (mC (.bl true)) AJ))) (AC (AE AX (AC (AB 5) (AC (mOp (Er false) (AB 5) (AE AX (AC (AB 3) (AC (AB 4) AJ)))) AJ))) AJ))))) (Hb [7,8]) (sIf (CG (AR (AE φ_Lis (AC (AB 0) (AC (mOp AY (AB 6) (AE Ar (AC (AE AX (AC (mC (.str "end")) (AC (AB 2) (AC (AB 7) AJ)))) AJ))) (AC (AE Ar (AC (mC (.bl true)) (AC (AB 8) (AC (AB 8) AJ)))) AJ)))))) (Am (mC (.bl false))) A1))
    (AV (Ae (AE Ar (AC (AE AX (AC (mC (.str "begin")) (AC (AB 1) (AC (AB 3) AJ)))) (AC (AE AX (AC (mC (.str "end")) (AC (AB 1) AJ))) (AC (AE AX (AC (mC (.str "begin")) (AC (AB 2) AJ))) (AC (AE AX (AC (mC (.str "end")) (AC (AB 2) (AC (AB 4) AJ)))) (AC (AE AX (AC (mC (.str "begin")) (AC (AB 1) (AC (AB 4) AJ)))) AJ)))))) (AM 9))
    (Am (AE φ_Lis (AC (AB 0) (AC (AB 9) (AC (AE Ar (AC (mC (.bl false)) (AC (mC (.bl false)) (AC (mC (.bl false)) AJ)))) AJ)))))))))
def L9 (φ_Lstream:List D->M D) (φ_Lmaking:List D->M D) (φ_Lalone:List D->M D) (φ_Lbeside:List D->M D) (φ_Ltwo:List D->M D) (φ_Llong:List D->M D):Sl->M (Fl × Sl):=
    (AV (Ep (Ce (mOp AY (FJ (AB 0) C8 (EI (mC (.int 10)))) (AE Ar (AC (mC (.int 0)) AJ)))) (AM 1) (AV (Ae (AE φ_Lstream (AC (AB 1) (AC (mC (.int 4)) AJ))) (AM 2))
    (AV (Ae (AE φ_Lmaking (AC (mOp AN (AB 2) (mC (.int 0))) (AC (mC (.str "safe")) AJ))) (AM 3))
    (AV (Ae (mOp BE (mOp AN (AB 2) (mC (.int 1))) (mOp AN (AB 3) (mC (.int 1)))) (AM 4))
    (AV (Ae (mOp BE (mOp AY (mOp AY (AB 4) (mC (.int 1))) (mOp BE (mOp AN (AB 2) (mC (.int 2))) (mOp Da (mOp AN (AB 3) (mC (.int 1))) (mC (.int 1))))) (mOp AN (AB 3) (mC (.int 1)))) (AM 5))
    (AV (Ae (mOp BE (mOp AN (AB 2) (mC (.int 3))) (mOp AN (AB 3) (mC (.int 1)))) (AM 6))
    (AV (Ae (mOp AN (mOp AN (mOp AN (AB 3) (mC (.int 4))) (mC (.int 0))) (mC (.int 0))) (AM 7))
    (AV (Ae (mOp AN (mOp AN (mOp AN (AB 3) (mC (.int 4))) (mUn Oa (mC (.int 1)))) (mC (.int 0))) (AM 8))
    (AV (sIf (mOr (CG (AR (AE φ_Lalone (AC (AB 3) (AC (AB 7) (AC (AB 8) (AC (AB 4) (AC (AB 5) AJ)))))))) (CG (AR (AE φ_Lbeside (AC (AB 3) (AC (AB 7) (AC (AB 8) (AC (AB 4) (AC (AB 5) (AC (AB 6) AJ)))))))))) (Am (mC (.bl false))) A1)
    (AV (sIf (G3 (AR (mOp K5 (AE Ct (AC (mOp AN (AB 3) (mC (.int 4))) AJ)) (mC (.int 2)))) (CG (AR (AE φ_Ltwo (AC (AB 3) (AC (AB 7) (AC (AB 8) (AC (mOp AN (mOp AN (mOp AN (AB 3) (mC (.int 4))) (mC (.int 1))) (mC (.int 0))) (AC (AB 4) (AC (AB 5) AJ)))))))))) (Am (mC (.bl false))) A1)
    (sIf (CG (AR (AE φ_Llong (AC (AB 3) (AC (AB 7) (AC (AB 8) (AC (AB 4) (AC (AB 5) (AC (AB 6) AJ))))))))) (Am (mC (.bl false))) A1)))))))))))
    (Am (mC (.bl true))))
end K16
namespace K16
open PySem L2 Mi
def top (i:Nat):Stmt:=PySem.Challenge.pw_strongboxes_k16_known_histories.main.body.getD i (.Pass ⟨0,0,0,0⟩)
section
variable {P:Program} {w:World} {K:PySem.W.Frag} {mg:Str->Option Value} {base:Heap}
abbrev Bi:Stmt:=top 4
theorem sc_claim_begun:Ag ["making", "readers"] ["making"] (AH Bi):=⟨rfl,rfl,rfl,by decide +kernel,rfl,by decide +kernel,by decide +kernel⟩
theorem Hj  {k:Nat} {f:Addr} (y_len:mg "len" = none) (g_NONE:Glo K mg "NONE" BM) (cdv:Value) (A:Around) (outer:List Env) (s:Shared) (H:Hp) (E:XK) (hr:Room k (A.deeper (PyProof.Rows.envOfC "claim_begun" (AH Bi) s.heap.objs.size f cdv))) :
    RSs (BT CX0 P w K mg base ["making", "readers"] "claim_begun" (AH Bi) f cdv A outer s H E).nox (Ad Bi) (BQ):=by
  have nd:=sc_claim_begun.nd
  exact (AK (Ab 1 nd (AZ Gz (BP HY y_len Mi.DE (AA (AW Af (AD 0) AI) AF)) AI))
      (AK (A8 (Au (Cd hr) (AW Af (AD 0) AI) AT) (AO (Aa (AQ (AA (AQ (AA (AW Af (AD 0) AI) (AA (DI g_NONE) (AA (AZ O0 (AQ (AA (DI g_NONE) AF)) (AD 1)) AF)))) AF)))) Ai)
      (AO (Aa (AQ (AA (AW Af (AD 0) AI) (AA (DI g_NONE) (AA (AZ O0 (AQ (AA DL AF)) (AD 1)) AF))))))))
abbrev BY:Stmt:=top 5
theorem sc_claim_writes:Ag ["making", "claim", "worth", "tells"] ["making", "claim", "worth"] (AH BY):=⟨rfl,rfl,rfl,by decide +kernel,rfl,by decide +kernel,by decide +kernel⟩
theorem Gu {φ_case_begun:List D->M D} {k_case_begun:Nat} {φ_closed:List D->M D} {k_closed:Nat} {φ_beside:List D->M D} {k_beside:Nat} {k:Nat} {f:Addr} (F_case_begun:Fn P w K mg base "case_begun" ["case", "hand", "worth"] k_case_begun φ_case_begun) (hk_case_begun:k_case_begun <= k) (F_closed:Fn P w K mg base "closed" ["cases"] k_closed φ_closed) (hk_closed:k_closed <= k) (F_beside:Fn P w K mg base "beside" ["kind", "size", "worths", "coming"] k_beside φ_beside) (hk_beside:k_beside <= k) (y_tuple:mg "tuple" = none) (cdv:Value) (A:Around) (outer:List Env) (s:Shared) (H:Hp) (E:XK) (hr:Room k (A.deeper (PyProof.Rows.envOfC "claim_writes" (AH BY) s.heap.objs.size f cdv))) :
    RSs (BT CX0 P w K mg base ["making", "claim", "worth", "tells"] "claim_writes" (AH BY) f cdv A outer s H E).nox (Ad BY) (B5 φ_case_begun φ_closed φ_beside):=by
  have nd:=sc_claim_writes.nd
  exact (AK (A8 (Au (Cd hr) (AW Af (AD 0) AI) AT) (AO (Aa (Ao (hkj:=hk_closed) F_closed hr (AA (GD (tgs:=["case"]) (ix:=[2]) (i:=0) (n:=1) ⟨rfl,by decide +kernel,by decide +kernel,⟨Or.inl rfl,trivial⟩,rfl,by decide +kernel⟩ rfl (B3 (AD 1)) (fun _ _ _ _=>A4 (i:=0) (show List.Nodup (["case", "worth"]:List Str) from by decide +kernel) rfl (Or.inl rfl)) (fun _ _ _ _=>C5) (fun _ _ _ _=>(Ao (hkj:=hk_case_begun) F_case_begun hr (AA (AD 0) (AA AI (AA (AD 1) AF)))))) AF)))) Ai)
      (AK (Dp 3 (tgs:=["told"]) (ix:=[0,2]) (i:=0) (n:=1) nd ⟨rfl,by decide +kernel,by decide +kernel,⟨Or.inl rfl,Or.inl rfl,trivial⟩,rfl,by decide +kernel⟩ rfl (B3 (AW Af (AD 1) AI)) (fun _ _ _ _=>A4 (i:=0) (show List.Nodup (["told", "making", "worth"]:List Str) from by decide +kernel) rfl (Or.inl rfl)) (fun _ _ _ _=>C5) (fun _ _ _ _=>(Gp (Au U3 (AD 0) DL) (AD 0) (Ao (hkj:=hk_beside) F_beside hr (AA (AW Af (AD 1) AI) (AA (AW Af (AD 1) AI) (AA (AD 0) (AA (AD 2) AF))))))) (fun _ _ _ _ _ _ _ _ R i e q=>DJ R i e q))
      (AO (Aa (AQ (AA (AW Af (AD 1) AI) (AA (AD 2) (AA (DZ GU y_tuple Mi.CV (AA (AD 3) AF)) AF))))))))
abbrev BO:Stmt:=top 6
theorem sc_claim_written:Ag ["making", "claim"] ["making", "claim"] (AH BO):=⟨rfl,rfl,rfl,by decide +kernel,rfl,by decide +kernel,by decide +kernel⟩
theorem F9 {φ_cases_ended:List D->M D} {k_cases_ended:Nat} {φ_closed:List D->M D} {k_closed:Nat} {k:Nat} {f:Addr} (F_cases_ended:Fn P w K mg base "cases_ended" ["cases", "hand", "worth"] k_cases_ended φ_cases_ended) (hk_cases_ended:k_cases_ended <= k) (F_closed:Fn P w K mg base "closed" ["cases"] k_closed φ_closed) (hk_closed:k_closed <= k) (g_NONE:Glo K mg "NONE" BM) (cdv:Value) (A:Around) (outer:List Env) (s:Shared) (H:Hp) (E:XK) (hr:Room k (A.deeper (PyProof.Rows.envOfC "claim_written" (AH BO) s.heap.objs.size f cdv))) :
    RSs (BT CX0 P w K mg base ["making", "claim"] "claim_written" (AH BO) f cdv A outer s H E).nox (Ad BO) (Bm φ_cases_ended φ_closed):=by
  have nd:=sc_claim_written.nd
  exact (AK (A8 (Au (Cd hr) (AW Af (AD 0) AI) AT) (AO (Aa (Ao (hkj:=hk_closed) F_closed hr (AA (Ao (hkj:=hk_cases_ended) F_cases_ended hr (AA (AD 1) (AA AI (AA (DI g_NONE) AF)))) AF)))) Ai)
      (AO (Aa (AQ (AA (AW Af (AD 1) AI) (AA (DI g_NONE) (AA (AW Af (AD 1) AI) AF)))))))
abbrev Bh:Stmt:=top 7
theorem sc_claim_reads:Ag ["making", "claim", "reader", "told"] ["making", "claim", "reader"] (AH Bh):=⟨rfl,rfl,rfl,by decide +kernel,rfl,by decide +kernel,by decide +kernel⟩
theorem Hi {φ_case_begun:List D->M D} {k_case_begun:Nat} {φ_closed:List D->M D} {k_closed:Nat} {φ_beside:List D->M D} {k_beside:Nat} {φ_with_thing:List D->M D} {k_with_thing:Nat} {k:Nat} {f:Addr} (F_case_begun:Fn P w K mg base "case_begun" ["case", "hand", "worth"] k_case_begun φ_case_begun) (hk_case_begun:k_case_begun <= k) (F_closed:Fn P w K mg base "closed" ["cases"] k_closed φ_closed) (hk_closed:k_closed <= k) (F_beside:Fn P w K mg base "beside" ["kind", "size", "worths", "coming"] k_beside φ_beside) (hk_beside:k_beside <= k) (F_with_thing:Fn P w K mg base "with_thing" ["things", "place", "thing"] k_with_thing φ_with_thing) (hk_with_thing:k_with_thing <= k) (g_NONE:Glo K mg "NONE" BM) (cdv:Value) (A:Around) (outer:List Env) (s:Shared) (H:Hp) (E:XK) (hr:Room k (A.deeper (PyProof.Rows.envOfC "claim_reads" (AH Bh) s.heap.objs.size f cdv))) :
    RSs (BT CX0 P w K mg base ["making", "claim", "reader", "told"] "claim_reads" (AH Bh) f cdv A outer s H E).nox (Ad Bh) (CY φ_case_begun φ_closed φ_beside φ_with_thing):=by
  have nd:=sc_claim_reads.nd
  exact (AK (A8 (Au (Cd hr) (AW Af (AD 0) AI) AT) (AO (Aa (Ao (hkj:=hk_closed) F_closed hr (AA (GD (tgs:=["case"]) (ix:=[2]) (i:=0) (n:=1) ⟨rfl,by decide +kernel,by decide +kernel,⟨Or.inl rfl,trivial⟩,rfl,by decide +kernel⟩ rfl (B3 (AD 1)) (fun _ _ _ _=>A4 (i:=0) (show List.Nodup (["case", "reader"]:List Str) from by decide +kernel) rfl (Or.inl rfl)) (fun _ _ _ _=>C5) (fun _ _ _ _=>(Ao (hkj:=hk_case_begun) F_case_begun hr (AA (AD 0) (AA (AZ Av (AD 1) AI) (AA (DI g_NONE) AF)))))) AF)))) Ai)
      (AK (Ab 3 nd (AQ (AA (AW Af (AD 1) AI) AF)))
      (AK (A8 (Au (Vp hr) (AW Af (AD 1) AI) (DI g_NONE)) (AO (Ab 3 nd (Ao (hkj:=hk_beside) F_beside hr (AA (AW Af (AD 0) AI) (AA (AW Af (AD 0) AI) (AA (AD 3) (AA (AW Af (AD 1) AI) AF))))))) Ai)
      (AO (Aa (AQ (AA (AW Af (AD 1) AI) (AA (AW Af (AD 1) AI) (AA (Ao (hkj:=hk_with_thing) F_with_thing hr (AA (AW Af (AD 1) AI) (AA (AD 2) (AA (AD 3) AF)))) AF)))))))))
abbrev B0:Stmt:=top 8
theorem sc_claim_told:Ag ["making", "claim", "reader", "worth", "left"] ["making", "claim", "reader", "worth"] (AH B0):=⟨rfl,rfl,rfl,by decide +kernel,rfl,by decide +kernel,by decide +kernel⟩
theorem Iz {φ_cases_ended:List D->M D} {k_cases_ended:Nat} {φ_closed:List D->M D} {k_closed:Nat} {φ_with_thing:List D->M D} {k_with_thing:Nat} {k:Nat} {f:Addr} (F_cases_ended:Fn P w K mg base "cases_ended" ["cases", "hand", "worth"] k_cases_ended φ_cases_ended) (hk_cases_ended:k_cases_ended <= k) (F_closed:Fn P w K mg base "closed" ["cases"] k_closed φ_closed) (hk_closed:k_closed <= k) (F_with_thing:Fn P w K mg base "with_thing" ["things", "place", "thing"] k_with_thing φ_with_thing) (hk_with_thing:k_with_thing <= k) (cdv:Value) (A:Around) (outer:List Env) (s:Shared) (H:Hp) (E:XK) (hr:Room k (A.deeper (PyProof.Rows.envOfC "claim_told" (AH B0) s.heap.objs.size f cdv))) :
    RSs (BT CX0 P w K mg base ["making", "claim", "reader", "worth", "left"] "claim_told" (AH B0) f cdv A outer s H E).nox (Ad B0) (Cp φ_cases_ended φ_closed φ_with_thing):=by
  have nd:=sc_claim_told.nd
  exact (AK (A8 (Au (Cd hr) (AW Af (AD 0) AI) AT) (AK (Ab 4 nd (Ao (hkj:=hk_cases_ended) F_cases_ended hr (AA (AD 1) (AA (AZ Av (AD 2) AI) (AA (AD 3) AF)))))
      (AO (Aa (Gp (Lr (AD 4)) (Ao (hkj:=hk_closed) F_closed hr (AA (AD 4) AF)) DL)))) Ai)
      (AK (A8 (Au JG (AD 3) (AW Af (AW Af (AD 1) AI) (AD 2))) (AO (Aa DL)) Ai)
      (AO (Aa (AQ (AA (AW Af (AD 1) AI) (AA (AW Af (AD 1) AI) (AA (Ao (hkj:=hk_with_thing) F_with_thing hr (AA (AW Af (AD 1) AI) (AA (AD 2) (AA DL AF)))) AF))))))))
abbrev EB:Stmt:=top 9
theorem sc_beside:Ag ["kind", "size", "worths", "coming"] ["kind", "size", "worths", "coming"] (AH EB):=⟨rfl,rfl,rfl,by decide +kernel,rfl,by decide +kernel,by decide +kernel⟩
theorem OX  {k:Nat} {f:Addr} (y_tuple:mg "tuple" = none) (y_range:mg "range" = none) (y_sorted:mg "sorted" = none) (y_set:mg "set" = none) (cdv:Value) (A:Around) (outer:List Env) (s:Shared) (H:Hp) (E:XK) (hr:Room k (A.deeper (PyProof.Rows.envOfC "beside" (AH EB) s.heap.objs.size f cdv))) :
    RSs (BT CX0 P w K mg base ["kind", "size", "worths", "coming"] "beside" (AH EB) f cdv A outer s H E).nox (Ad EB) (De):=by
  have nd:=sc_beside.nd
  exact (AK (A8 (Au (Cd hr) (AD 0) AT) (AO (Aa (M3 y_tuple y_range (AD 1)))) Ai)
      (AO (Aa (DZ GU y_tuple Mi.CV (AA (K0 y_sorted y_set (AZ Av (AD 2) (AQ (AA (AD 3) AF)))) AF)))))
abbrev Bz:Stmt:=top 10
theorem sc_with_thing:Ag ["things", "place", "thing"] ["things", "place", "thing"] (AH Bz):=⟨rfl,rfl,rfl,by decide +kernel,rfl,by decide +kernel,by decide +kernel⟩
theorem Iy  {k:Nat} {f:Addr}  (cdv:Value) (A:Around) (outer:List Env) (s:Shared) (H:Hp) (E:XK) (hr:Room k (A.deeper (PyProof.Rows.envOfC "with_thing" (AH Bz) s.heap.objs.size f cdv))) :
    RSs (BT CX0 P w K mg base ["things", "place", "thing"] "with_thing" (AH Bz) f cdv A outer s H E).nox (Ad Bz) (Bc):=by
  have nd:=sc_with_thing.nd
  exact (AO (Aa (AZ Av (AZ Av (FX (AD 0) Ec (Eb (AD 1))) (AQ (AA (AD 2) AF))) (FX (AD 0) (Eb (AZ Av (AD 1) AI)) Ec))))
abbrev B2:Stmt:=top 11
theorem sc_case_begun:Ag ["case", "hand", "worth"] ["case", "hand", "worth"] (AH B2):=⟨rfl,rfl,rfl,by decide +kernel,rfl,by decide +kernel,by decide +kernel⟩
theorem JB {φ_with_thing:List D->M D} {k_with_thing:Nat} {k:Nat} {f:Addr} (F_with_thing:Fn P w K mg base "with_thing" ["things", "place", "thing"] k_with_thing φ_with_thing) (hk_with_thing:k_with_thing <= k) (g_WAITS:Glo K mg "WAITS" D1) (cdv:Value) (A:Around) (outer:List Env) (s:Shared) (H:Hp) (E:XK) (hr:Room k (A.deeper (PyProof.Rows.envOfC "case_begun" (AH B2) s.heap.objs.size f cdv))) :
    RSs (BT CX0 P w K mg base ["case", "hand", "worth"] "case_begun" (AH B2) f cdv A outer s H E).nox (Ad B2) (Cr φ_with_thing):=by
  have nd:=sc_case_begun.nd
  exact (AK (A8 (Au (Cd hr) (AD 1) AI) (AO (Aa (AQ (AA (AW Af (AD 0) AI) (AA (AD 2) (AA (AW Af (AD 0) AI) AF)))))) Ai)
      (AO (Aa (AQ (AA (AW Af (AD 0) AI) (AA (AW Af (AD 0) AI) (AA (Ao (hkj:=hk_with_thing) F_with_thing hr (AA (AW Af (AD 0) AI) (AA (AZ Gz (AD 1) AI) (AA (DI g_WAITS) AF)))) AF)))))))
abbrev B1:Stmt:=top 12
theorem sc_case_ended:Ag ["case", "hand", "worth"] ["case", "hand", "worth"] (AH B1):=⟨rfl,rfl,rfl,by decide +kernel,rfl,by decide +kernel,by decide +kernel⟩
theorem JA {φ_with_thing:List D->M D} {k_with_thing:Nat} {k:Nat} {f:Addr} (F_with_thing:Fn P w K mg base "with_thing" ["things", "place", "thing"] k_with_thing φ_with_thing) (hk_with_thing:k_with_thing <= k) (g_HAD:Glo K mg "HAD" HR) (g_NONE:Glo K mg "NONE" BM) (cdv:Value) (A:Around) (outer:List Env) (s:Shared) (H:Hp) (E:XK) (hr:Room k (A.deeper (PyProof.Rows.envOfC "case_ended" (AH B1) s.heap.objs.size f cdv))) :
    RSs (BT CX0 P w K mg base ["case", "hand", "worth"] "case_ended" (AH B1) f cdv A outer s H E).nox (Ad B1) (Cq φ_with_thing):=by
  have nd:=sc_case_ended.nd
  exact (AK (A8 (Au (Cd hr) (AD 1) AI) (AO (Aa (Gp (Au (Cd hr) (AW Af (AD 0) AI) (DI g_HAD)) (AQ (AA (AW Af (AD 0) AI) (AA (DI g_NONE) (AA (AW Af (AD 0) AI) AF)))) DL))) Ai)
      (AO (Aa (Gp (Au (Cd hr) (AW Af (AW Af (AD 0) AI) (AZ Gz (AD 1) AI)) (AD 2)) (AQ (AA (AW Af (AD 0) AI) (AA (AW Af (AD 0) AI) (AA (Ao (hkj:=hk_with_thing) F_with_thing hr (AA (AW Af (AD 0) AI) (AA (AZ Gz (AD 1) AI) (AA (DI g_NONE) AF)))) AF)))) DL))))
abbrev Bj:Stmt:=top 13
theorem sc_cases_ended:Ag ["cases", "hand", "worth", "ended"] ["cases", "hand", "worth"] (AH Bj):=⟨rfl,rfl,rfl,by decide +kernel,rfl,by decide +kernel,by decide +kernel⟩
theorem Hk {φ_case_ended:List D->M D} {k_case_ended:Nat} {k:Nat} {f:Addr} (F_case_ended:Fn P w K mg base "case_ended" ["case", "hand", "worth"] k_case_ended φ_case_ended) (hk_case_ended:k_case_ended <= k) (cdv:Value) (A:Around) (outer:List Env) (s:Shared) (H:Hp) (E:XK) (hr:Room k (A.deeper (PyProof.Rows.envOfC "cases_ended" (AH Bj) s.heap.objs.size f cdv))) :
    RSs (BT CX0 P w K mg base ["cases", "hand", "worth", "ended"] "cases_ended" (AH Bj) f cdv A outer s H E).nox (Ad Bj) (CZ φ_case_ended):=by
  have nd:=sc_cases_ended.nd
  exact (AK (Dp 3 (tgs:=["case"]) (ix:=[1,2]) (i:=0) (n:=1) nd ⟨rfl,by decide +kernel,by decide +kernel,⟨Or.inl rfl,Or.inl rfl,trivial⟩,rfl,by decide +kernel⟩ rfl (B3 (AD 0)) (fun _ _ _ _=>A4 (i:=0) (show List.Nodup (["case", "hand", "worth"]:List Str) from by decide +kernel) rfl (Or.inl rfl)) (fun _ _ _ _=>C5) (fun _ _ _ _=>(Ao (hkj:=hk_case_ended) F_case_ended hr (AA (AD 0) (AA (AD 1) (AA (AD 2) AF))))) (fun _ _ _ _ _ _ _ _ R i e q=>DJ R i e q))
      (AO (Aa (GD (tgs:=["case"]) (ix:=[]) (i:=0) (n:=1) ⟨rfl,by decide +kernel,by decide +kernel,trivial,rfl,by decide +kernel⟩ rfl (B3 (AD 3)) (fun _ _ _ _=>A4 (i:=0) (show List.Nodup (["case"]:List Str) from by decide +kernel) rfl (Or.inl rfl)) (fun _ _ _ _=>ON (Au RK (AD 0) DL)) (fun _ _ _ _=>(AD 0))))))
abbrev EA:Stmt:=top 14
theorem sc_closed:Ag ["cases"] ["cases"] (AH EA):=⟨rfl,rfl,rfl,by decide +kernel,rfl,by decide +kernel,by decide +kernel⟩
theorem OW {φ_reached:List D->M D} {k_reached:Nat} {k:Nat} {f:Addr} (F_reached:Fn P w K mg base "reached" ["cases"] k_reached φ_reached) (hk_reached:k_reached <= k) (y_sorted:mg "sorted" = none) (y_tuple:mg "tuple" = none) (cdv:Value) (A:Around) (outer:List Env) (s:Shared) (H:Hp) (E:XK) (hr:Room k (A.deeper (PyProof.Rows.envOfC "closed" (AH EA) s.heap.objs.size f cdv))) :
    RSs (BT CX0 P w K mg base ["cases"] "closed" (AH EA) f cdv A outer s H E).nox (Ad EA) (FH φ_reached):=by
  have nd:=sc_closed.nd
  exact (AO (Aa (DZ GU y_tuple Mi.CV (AA (BP (Rs hr rfl) y_sorted PyProof.Rows.boot_sorted (AA (Ao (hkj:=hk_reached) F_reached hr (AA (AD 0) AF)) AF)) AF))))
abbrev DT:Stmt:=top 15
theorem sc_reached:Ag ["cases", "ways", "case", "waiting", "hand", "later"] ["cases"] (AH DT):=⟨rfl,rfl,rfl,by decide +kernel,rfl,by decide +kernel,by decide +kernel⟩
theorem M6 {φ_moments_from:List D->M D} {k_moments_from:Nat} {k:Nat} {f:Addr} (F_moments_from:Fn P w K mg base "moments_from" ["case"] k_moments_from φ_moments_from) (hk_moments_from:k_moments_from <= k) (y_list:mg "list" = none) (cdv:Value) (A:Around) (outer:List Env) (s:Shared) (H:Hp) (E:XK) (hr:Room k (A.deeper (PyProof.Rows.envOfC "reached" (AH DT) s.heap.objs.size f cdv))) :
    RSs (BT CX0 P w K mg base ["cases", "ways", "case", "waiting", "hand", "later"] "reached" (AH DT) f cdv A outer s H E).nox (Ad DT) (Ee φ_moments_from):=by
  have nd:=sc_reached.nd
  exact (AK (Ab 1 nd OR)
      (AK (Dq PassesOwn.never rfl (B3 (AD 0)) (E9 2 nd) (AO (Ls hr (AD 1) (AD 2) DL)))
      (AK (Ab 3 nd (DZ (Rt rfl) y_list Mi.Ie (AA (AD 1) AF)))
      (AK (Jv A5 PassesOwn.never (Lr (AD 3)) (AK (Ab 2 nd (M4 PySem.F.slot_list_pop PySem.F.type_list_pop U8 (AD 3)))
      (AO (Qc 1000 PassesOwn.never rfl (Ao (hkj:=hk_moments_from) F_moments_from hr (AA (AD 2) AF)) (Gm (is:=[4,5]) rfl (Bk (A4 (i:=4) nd rfl (by first | exact Or.inl rfl | exact Or.inr rfl)) (Bk (A4 (i:=5) nd rfl (by first | exact Or.inl rfl | exact Or.inr rfl)) FD))) (AO (A8 (Au (O1 hr) (AD 5) (AD 1)) (AK (Ls hr (AD 1) (AD 5) (AQ (AA (AD 4) (AA (AD 2) AF))))
      (AO (Dr (C7 PySem.F.slot_list_append PySem.F.type_list_append Dg (AD 3) (AA (AD 5) AF))))) Ai))))))
      (AO (Aa (AD 1)))))))
abbrev BX:Stmt:=top 16
theorem sc_moments_from:Ag ["case", "later", "reader", "told"] ["case"] (AH BX):=⟨rfl,rfl,rfl,by decide +kernel,rfl,by decide +kernel,by decide +kernel⟩
theorem Gs {φ_with_thing:List D->M D} {k_with_thing:Nat} {k:Nat} {f:Addr} (F_with_thing:Fn P w K mg base "with_thing" ["things", "place", "thing"] k_with_thing φ_with_thing) (hk_with_thing:k_with_thing <= k) (y_enumerate:mg "enumerate" = none) (g_HAD:Glo K mg "HAD" HR) (g_WAITS:Glo K mg "WAITS" D1) (cdv:Value) (A:Around) (outer:List Env) (s:Shared) (H:Hp) (E:XK) (hr:Room k (A.deeper (PyProof.Rows.envOfC "moments_from" (AH BX) s.heap.objs.size f cdv))) :
    RSs (BT CX0 P w K mg base ["case", "later", "reader", "told"] "moments_from" (AH BX) f cdv A outer s H E).nox (Ad BX) (B4 φ_with_thing):=by
  have nd:=sc_moments_from.nd
  exact (AK (Ab 1 nd (Iw AF))
      (AK (A8 (Au Vr (AW Af (AD 0) AI) AI) (AO (Dr (C7 PySem.F.slot_list_append PySem.F.type_list_append Dg (AD 1) (AA (AQ (AA AI (AA (AQ (AA (AW Af (AD 0) AI) (AA (DI g_HAD) (AA (AW Af (AD 0) AI) AF)))) AF))) AF)))) Ai)
      (AK (Dq PassesOwn.never rfl (OO y_enumerate (AA (AW Af (AD 0) AI) AF)) (Gm (is:=[2,3]) rfl (Bk (A4 (i:=2) nd rfl (by first | exact Or.inl rfl | exact Or.inr rfl)) (Bk (A4 (i:=3) nd rfl (by first | exact Or.inl rfl | exact Or.inr rfl)) FD))) (AO (A8 (Au (Cd hr) (AD 3) (DI g_WAITS)) (AO (Dr (C7 PySem.F.slot_list_append PySem.F.type_list_append Dg (AD 1) (AA (AQ (AA (AZ Av (AD 2) AI) (AA (AQ (AA (AW Af (AD 0) AI) (AA (AW Af (AD 0) AI) (AA (Ao (hkj:=hk_with_thing) F_with_thing hr (AA (AW Af (AD 0) AI) (AA (AD 2) (AA (AW Af (AD 0) AI) AF)))) AF)))) AF))) AF)))) Ai)))
      (AO (Aa (AD 1))))))
abbrev C0:Stmt:=top 21
theorem sc_is_whole:Ag ["thing", "least", "most"] ["thing", "least", "most"] (AH C0):=⟨rfl,rfl,rfl,by decide +kernel,rfl,by decide +kernel,by decide +kernel⟩
theorem K2  {k:Nat} {f:Addr} (y_int:mg "int" = none) (y_isinstance:mg "isinstance" = none) (y_bool:mg "bool" = none) (cdv:Value) (A:Around) (outer:List Env) (s:Shared) (H:Hp) (E:XK) (hr:Room k (A.deeper (PyProof.Rows.envOfC "is_whole" (AH C0) s.heap.objs.size f cdv))) :
    RSs (BT CX0 P w K mg base ["thing", "least", "most"] "is_whole" (AH C0) f cdv A outer s H E).nox (Ad C0) (CP):=by
  have nd:=sc_is_whole.nd
  exact (AO (Aa (Ix (BP JV y_isinstance Mi.Bo (AA (AD 0) (AA (GE y_int Mi.QC) AF))) (Ix (Su (BP JV y_isinstance Mi.Bo (AA (AD 0) (AA (GE y_bool Mi.Nq) AF)))) (K1 (Jx RJ RJ (AD 1) (AD 0) (AD 2)))))))
abbrev C1:Stmt:=top 23
theorem sc_is_tuple:Ag ["thing", "least", "most"] ["thing", "least", "most"] (AH C1):=⟨rfl,rfl,rfl,by decide +kernel,rfl,by decide +kernel,by decide +kernel⟩
theorem K3  {k:Nat} {f:Addr} (y_tuple:mg "tuple" = none) (y_isinstance:mg "isinstance" = none) (y_len:mg "len" = none) (cdv:Value) (A:Around) (outer:List Env) (s:Shared) (H:Hp) (E:XK) (hr:Room k (A.deeper (PyProof.Rows.envOfC "is_tuple" (AH C1) s.heap.objs.size f cdv))) :
    RSs (BT CX0 P w K mg base ["thing", "least", "most"] "is_tuple" (AH C1) f cdv A outer s H E).nox (Ad C1) (CQ):=by
  have nd:=sc_is_tuple.nd
  exact (AO (Aa (Ix (BP JV y_isinstance Mi.Bo (AA (AD 0) (AA (GE y_tuple Mi.CV) AF))) (K1 (Jx RJ RJ (AD 1) (BP HY y_len Mi.DE (AA (AD 0) AF)) (AD 2))))))
abbrev D9:Stmt:=top 26
theorem sc_judged:Ag ["making", "events", "claim", "act"] ["making", "events"] (AH D9):=⟨rfl,rfl,rfl,by decide +kernel,rfl,by decide +kernel,by decide +kernel⟩
theorem OV {φ_claim_begun:List D->M D} {k_claim_begun:Nat} {φ_acts_of:List D->M D} {k_acts_of:Nat} {φ_claim_behind:List D->M D} {k_claim_behind:Nat} {k:Nat} {f:Addr} (F_claim_begun:Fn P w K mg base "claim_begun" ["making"] k_claim_begun φ_claim_begun) (hk_claim_begun:k_claim_begun <= k) (F_acts_of:Fn P w K mg base "acts_of" ["making", "events"] k_acts_of φ_acts_of) (hk_acts_of:k_acts_of <= k) (F_claim_behind:Fn P w K mg base "claim_behind" ["making", "claim", "act"] k_claim_behind φ_claim_behind) (hk_claim_behind:k_claim_behind <= k) (cdv:Value) (A:Around) (outer:List Env) (s:Shared) (H:Hp) (E:XK) (hr:Room k (A.deeper (PyProof.Rows.envOfC "judged" (AH D9) s.heap.objs.size f cdv))) :
    RSs (BT CX0 P w K mg base ["making", "events", "claim", "act"] "judged" (AH D9) f cdv A outer s H E).nox (Ad D9) (FG φ_claim_begun φ_acts_of φ_claim_behind):=by
  have nd:=sc_judged.nd
  exact (AK (Ab 2 nd (Ao (hkj:=hk_claim_begun) F_claim_begun hr (AA (AD 0) AF)))
      (AK (Dq PassesOwn.never rfl (B3 (Ao (hkj:=hk_acts_of) F_acts_of hr (AA (AD 0) (AA (AD 1) AF)))) (E9 3 nd) (AK (Ab 2 nd (Ao (hkj:=hk_claim_behind) F_claim_behind hr (AA (AD 0) (AA (AD 2) (AA (AD 3) AF)))))
      (AO (A8 (Au U3 (AD 2) DL) (AO (Aa Ax)) Ai))))
      (AO (Aa Ax))))
abbrev BZ:Stmt:=top 27
theorem sc_claim_behind:Ag ["making", "claim", "act", "begins", "reader"] ["making", "claim", "act"] (AH BZ):=⟨rfl,rfl,rfl,by decide +kernel,rfl,by decide +kernel,by decide +kernel⟩
theorem Gv {φ_claim_writes:List D->M D} {k_claim_writes:Nat} {φ_claim_written:List D->M D} {k_claim_written:Nat} {φ_claim_reads:List D->M D} {k_claim_reads:Nat} {φ_claim_told:List D->M D} {k_claim_told:Nat} {k:Nat} {f:Addr} (F_claim_writes:Fn P w K mg base "claim_writes" ["making", "claim", "worth"] k_claim_writes φ_claim_writes) (hk_claim_writes:k_claim_writes <= k) (F_claim_written:Fn P w K mg base "claim_written" ["making", "claim"] k_claim_written φ_claim_written) (hk_claim_written:k_claim_written <= k) (F_claim_reads:Fn P w K mg base "claim_reads" ["making", "claim", "reader"] k_claim_reads φ_claim_reads) (hk_claim_reads:k_claim_reads <= k) (F_claim_told:Fn P w K mg base "claim_told" ["making", "claim", "reader", "worth"] k_claim_told φ_claim_told) (hk_claim_told:k_claim_told <= k) (cdv:Value) (A:Around) (outer:List Env) (s:Shared) (H:Hp) (E:XK) (hr:Room k (A.deeper (PyProof.Rows.envOfC "claim_behind" (AH BZ) s.heap.objs.size f cdv))) :
    RSs (BT CX0 P w K mg base ["making", "claim", "act", "begins", "reader"] "claim_behind" (AH BZ) f cdv A outer s H E).nox (Ad BZ) (B6 φ_claim_writes φ_claim_written φ_claim_reads φ_claim_told):=by
  have nd:=sc_claim_behind.nd
  exact (AK (Ab 3 nd (DM (Cd hr) (AW Af (AD 2) AI) AT))
      (AK (A8 (Au (Cd hr) (AW Af (AD 2) AI) AI) (AO (Aa (Gp (Bq (AD 3)) (Ao (hkj:=hk_claim_writes) F_claim_writes hr (AA (AD 0) (AA (AD 1) (AA (AW Af (AD 2) AI) AF)))) (Ao (hkj:=hk_claim_written) F_claim_written hr (AA (AD 0) (AA (AD 1) AF)))))) Ai)
      (AK (Ab 4 nd (AZ Gz (AW Af (AD 2) AI) AI))
      (AO (Aa (Gp (Bq (AD 3)) (Ao (hkj:=hk_claim_reads) F_claim_reads hr (AA (AD 0) (AA (AD 1) (AA (AD 4) AF)))) (Ao (hkj:=hk_claim_told) F_claim_told hr (AA (AD 0) (AA (AD 1) (AA (AD 4) (AA (AW Af (AD 2) AI) AF)))))))))))
abbrev DU:Stmt:=top 28
theorem sc_acts_of:Ag ["making", "events", "names", "going", "acts", "begun", "number", "event", "hand"] ["making", "events"] (AH DU):=⟨rfl,rfl,rfl,by decide +kernel,rfl,by decide +kernel,by decide +kernel⟩
theorem M7 {φ_is_event:List D->M D} {k_is_event:Nat} {k:Nat} {f:Addr} (F_is_event:Fn P w K mg base "is_event" ["thing", "names", "size"] k_is_event φ_is_event) (hk_is_event:k_is_event <= k) (y_list:mg "list" = none) (y_isinstance:mg "isinstance" = none) (y_enumerate:mg "enumerate" = none) (y_len:mg "len" = none) (g_NO_WORTH:Glo K mg "NO_WORTH" Ba) (cdv:Value) (A:Around) (outer:List Env) (s:Shared) (H:Hp) (E:XK) (hr:Room k (A.deeper (PyProof.Rows.envOfC "acts_of" (AH DU) s.heap.objs.size f cdv))) :
    RSs (BT CX0 P w K mg base ["making", "events", "names", "going", "acts", "begun", "number", "event", "hand"] "acts_of" (AH DU) f cdv A outer s H E).nox (Ad DU) (Cw φ_is_event):=by
  have nd:=sc_acts_of.nd
  exact (AK (A8 (CL (Bq (BP JV y_isinstance Mi.Bo (AA (AD 1) (AA (GE y_list Mi.Ie) AF))))) (AO Gk) Ai)
      (AK (Dp 2 (tgs:=["hand"]) (ix:=[]) (i:=0) (n:=1) nd ⟨rfl,by decide +kernel,by decide +kernel,trivial,rfl,by decide +kernel⟩ rfl (B3 (AW Af (AD 0) AI)) (fun _ _ _ _=>A4 (i:=0) (show List.Nodup (["hand"]:List Str) from by decide +kernel) rfl (Or.inl rfl)) (fun _ _ _ _=>C5) (fun _ _ _ _=>(AW Af (AD 0) AI)) (fun _ _ _ _ _ _ _ _ R i e q=>DJ R i e q))
      (AK (Ab 3 nd Ql)
      (AK (Ab 4 nd (Iw AF))
      (AK (Ab 5 nd AI)
      (AK (Dq PassesOwn.never rfl (OP y_enumerate (AA (AD 1) AF)) (Gm (is:=[6,7]) rfl (Bk (A4 (i:=6) nd rfl (by first | exact Or.inl rfl | exact Or.inr rfl)) (Bk (A4 (i:=7) nd rfl (by first | exact Or.inl rfl | exact Or.inr rfl)) FD))) (AK (A8 (CL (Bq (Ao (hkj:=hk_is_event) F_is_event hr (AA (AD 7) (AA (AD 2) (AA (AW Af (AD 0) AI) AF)))))) (AO Gk) Ai)
      (AK (Ab 8 nd (C7 PySem.F.slot_list_index PySem.F.type_list_index O9 (AD 2) (AA (AW Af (AD 7) AI) AF)))
      (AK (A8 (Au (Cd hr) (DM (Cd hr) (AW Af (AD 7) AI) AT) (Sv hr (AD 8) (AD 3))) (AO Gk) Ai)
      (AK (A8 (Au (Cd hr) (AW Af (AD 7) AI) AT) (AK (Qd hr (AD 3) (AD 8) (AD 5))
      (AO (Sn 5 nd AI))) Ai)
      (AK (Dr (C7 PySem.F.slot_list_append PySem.F.type_list_append Dg (AD 4) (AA (AQ (AA (AW Af (AD 7) AI) (AA (AD 8) (AA (Gp (Au (Cd hr) (BP HY y_len Mi.DE (AA (AD 7) AF)) AI) (AW Af (AD 7) AI) (DI g_NO_WORTH)) (AA (Qm hr (AD 3) (AD 8)) AF))))) AF)))
      (AO (A8 (Au (Cd hr) (AW Af (AD 7) AI) AT) (AO (Dr (Qk (AD 3) (AD 8)))) Ai))))))))
      (AO (Aa (AD 4)))))))))
abbrev C2:Stmt:=top 29
theorem sc_is_event:Ag ["thing", "names", "size"] ["thing", "names", "size"] (AH C2):=⟨rfl,rfl,rfl,by decide +kernel,rfl,by decide +kernel,by decide +kernel⟩
theorem K4 {φ_is_tuple:List D->M D} {k_is_tuple:Nat} {φ_is_whole:List D->M D} {k_is_whole:Nat} {k:Nat} {f:Addr} (F_is_tuple:Fn P w K mg base "is_tuple" ["thing", "least", "most"] k_is_tuple φ_is_tuple) (hk_is_tuple:k_is_tuple <= k) (F_is_whole:Fn P w K mg base "is_whole" ["thing", "least", "most"] k_is_whole φ_is_whole) (hk_is_whole:k_is_whole <= k) (y_len:mg "len" = none) (cdv:Value) (A:Around) (outer:List Env) (s:Shared) (H:Hp) (E:XK) (hr:Room k (A.deeper (PyProof.Rows.envOfC "is_event" (AH C2) s.heap.objs.size f cdv))) :
    RSs (BT CX0 P w K mg base ["thing", "names", "size"] "is_event" (AH C2) f cdv A outer s H E).nox (Ad C2) (CS φ_is_tuple φ_is_whole):=by
  have nd:=sc_is_event.nd
  exact (AK (A8 (RW.rt (Lp (CL (Bq (Ao (hkj:=hk_is_tuple) F_is_tuple hr (AA (AD 0) (AA AI (AA AI AF)))))) (Lp (Au JG (AW Af (AD 0) AI) (AQ (AA AT (AA AT AF)))) (Kx (Au JG (AW Af (AD 0) AI) (AD 1)))))) (AO (Aa Ax)) Ai)
      (AK (A8 (Au (Cd hr) (DM (Cd hr) (AW Af (AD 0) AI) AT) (DM (Cd hr) (AW Af (AD 0) AI) (AW Af (AD 1) AI))) (AO (Aa (Ix (DM (Cd hr) (BP HY y_len Mi.DE (AA (AD 0) AF)) AI) (K1 (Ao (hkj:=hk_is_whole) F_is_whole hr (AA (AW Af (AD 0) AI) (AA AI (AA (AZ Gz (AD 2) AI) AF)))))))) Ai)
      (AO (Aa (DM (Cd hr) (BP HY y_len Mi.DE (AA (AD 0) AF)) AI)))))
abbrev DV:Stmt:=top 32
theorem sc_Lstream:Ag ["_law_cell", "_law_many", "_law_found", "_law_number", "_law_k"] ["_law_cell", "_law_many"] (AH DV):=⟨rfl,rfl,rfl,by decide +kernel,rfl,by decide +kernel,by decide +kernel⟩
theorem M8  {k:Nat} {f:Addr} (y_len:mg "len" = none) (y_range:mg "range" = none) (cdv:Value) (A:Around) (outer:List Env) (s:Shared) (H:Hp) (E:XK) (hr:Room k (A.deeper (PyProof.Rows.envOfC "_law_stream" (AH DV) s.heap.objs.size f cdv))) :
    RSs (BT CX0 P w K mg base ["_law_cell", "_law_many", "_law_found", "_law_number", "_law_k"] "_law_stream" (AH DV) f cdv A outer s H E).nox (Ad DV) (Ef):=by
  have nd:=sc_Lstream.nd
  exact (AK (Ab 2 nd (Iw AF))
      (AK (Ab 3 nd (AZ Ds (AD 0) AI))
      (AK (Jv A5 PassesOwn.never (RW.rt (Ky (Au (Cd hr) (AZ Dc (AD 0) AI) AI) (Ky (Au U5 (AD 3) AI) (Lq (Au Vq (BP HY y_len Mi.DE (AA (AD 2) AF)) (AD 1)))))) (AK (Dr (C7 PySem.F.slot_list_append PySem.F.type_list_append Dg (AD 2) (AA (AZ Dc (AD 3) (AZ R8 AI AI)) AF)))
      (AO (Ab 3 nd (AZ Ds (AD 3) (AZ R8 AI AI))))))
      (AK (Ab 3 nd (AZ Dc (AZ L1 (AZ Av (AZ Ds (AD 0) AI) AI) AI) AI))
      (AK (Dq PassesOwn.never rfl (M2 y_range (AA (AD 1) AF)) (E9 4 nd) (AK (Ab 3 nd (AZ Dc (AZ L1 (AD 3) (AZ Av (AZ Av (AZ Ds (AD 3) AI) AI) (AD 4))) AI))
      (AK (Dr (C7 PySem.F.slot_list_append PySem.F.type_list_append Dg (AD 2) (AA (AZ Dc (AZ L1 (AD 3) (AZ Av (AZ Ds (AD 3) AI) AI)) AI) AF)))
      (AO (Ab 3 nd (AZ Av (AD 3) AI))))))
      (AO (Aa (FX (AD 2) Ec (Eb (AD 1))))))))))
abbrev DW:Stmt:=top 33
theorem sc_Lmaking:Ag ["_law_x", "_law_kind", "_law_size", "_law_names", "_law_readers", "_law_hands"] ["_law_x", "_law_kind"] (AH DW):=⟨rfl,rfl,rfl,by decide +kernel,rfl,by decide +kernel,by decide +kernel⟩
theorem M9  {k:Nat} {f:Addr} (y_tuple:mg "tuple" = none) (cdv:Value) (A:Around) (outer:List Env) (s:Shared) (H:Hp) (E:XK) (hr:Room k (A.deeper (PyProof.Rows.envOfC "_law_making" (AH DW) s.heap.objs.size f cdv))) :
    RSs (BT CX0 P w K mg base ["_law_x", "_law_kind", "_law_size", "_law_names", "_law_readers", "_law_hands"] "_law_making" (AH DW) f cdv A outer s H E).nox (Ad DW) (Cy):=by
  have nd:=sc_Lmaking.nd
  exact (AK (Ab 2 nd (AZ Av AI (AZ Dc (AZ Ds (AD 0) AI) AI)))
      (AK (Ab 3 nd (AW Af (An (AA (An (AA AT (AA AT (AA AT (AA AT AF))))) (AA (An (AA AT (AA AT (AA AT (AA AT AF))))) (AA (An (AA AT (AA AT (AA AT (AA AT AF))))) AF)))) (AZ Dc (AZ Ds (AD 0) AI) AI)))
      (AK (Ab 4 nd (AZ Av AI (AZ Dc (AZ Ds (AD 0) AI) AI)))
      (AK (Dp 5 (tgs:=["_law_name"]) (ix:=[]) (i:=0) (n:=1) nd ⟨rfl,by decide +kernel,by decide +kernel,trivial,rfl,by decide +kernel⟩ rfl (B3 (FX (AD 3) Ec (Eb (AZ Av AI (AD 4))))) (fun _ _ _ _=>A4 (i:=0) (show List.Nodup (["_law_name"]:List Str) from by decide +kernel) rfl (Or.inl rfl)) (fun _ _ _ _=>C5) (fun _ _ _ _=>(AQ (AA (AD 0) (AA AI (AA (AQ AF) AF))))) (fun _ _ _ _ _ _ _ _ R i e q=>DJ R i e q))
      (AO (Aa (AQ (AA (AD 1) (AA (AD 2) (AA (AZ Dc (AZ Ds (AD 0) AI) (AD 2)) (AA (AQ AF) (AA (DZ GU y_tuple Mi.CV (AA (AD 5) AF)) AF))))))))))))
abbrev Jt:Stmt:=top 36
theorem sc_Lis:Ag ["_law_making_here", "_law_events_here", "_law_due"] ["_law_making_here", "_law_events_here", "_law_due"] (AH Jt):=⟨rfl,rfl,rfl,by decide +kernel,rfl,by decide +kernel,by decide +kernel⟩
theorem Uf {φ_judged:List D->M D} {k_judged:Nat} {k:Nat} {f:Addr} (F_judged:Fn P w K mg base "judged" ["making", "events"] k_judged φ_judged) (hk_judged:k_judged <= k) (cdv:Value) (A:Around) (outer:List Env) (s:Shared) (H:Hp) (E:XK) (hr:Room k (A.deeper (PyProof.Rows.envOfC "_law_is" (AH Jt) s.heap.objs.size f cdv))) :
    RSs (BT CX0 P w K mg base ["_law_making_here", "_law_events_here", "_law_due"] "_law_is" (AH Jt) f cdv A outer s H E).nox (Ad Jt) (MA φ_judged):=by
  have nd:=sc_Lis.nd
  exact (AO (Aa (DM (Cd hr) (GD (tgs:=["_law_kind"]) (ix:=[1,0]) (i:=0) (n:=1) ⟨rfl,by decide +kernel,by decide +kernel,⟨Or.inl rfl,Or.inl rfl,trivial⟩,rfl,by decide +kernel⟩ rfl (B3 (An (AA AT (AA AT (AA AT AF))))) (fun _ _ _ _=>A4 (i:=0) (show List.Nodup (["_law_kind", "_law_events_here", "_law_making_here"]:List Str) from by decide +kernel) rfl (Or.inl rfl)) (fun _ _ _ _=>C5) (fun _ _ _ _=>(Ao (hkj:=hk_judged) F_judged hr (AA (AZ Av (AQ (AA (AD 0) AF)) (FX (AD 2) (Eb AI) Ec)) (AA (AD 1) AF))))) (AD 2))))
abbrev EC:Stmt:=top 37
theorem sc_Lalone:Ag ["_law_making_here", "_law_w", "_law_r", "_law_one", "_law_other", "_law_begin", "_law_read", "_law_wrote", "_law_same", "_law_again"] ["_law_making_here", "_law_w", "_law_r", "_law_one", "_law_other"] (AH EC):=⟨rfl,rfl,rfl,by decide +kernel,rfl,by decide +kernel,by decide +kernel⟩
theorem OY {φ_Lis:List D->M D} {k_Lis:Nat} {k:Nat} {f:Addr} (F_Lis:Fn P w K mg base "_law_is" ["_law_making_here", "_law_events_here", "_law_due"] k_Lis φ_Lis) (hk_Lis:k_Lis <= k) (cdv:Value) (A:Around) (outer:List Env) (s:Shared) (H:Hp) (E:XK) (hr:Room k (A.deeper (PyProof.Rows.envOfC "_law_alone" (AH EC) s.heap.objs.size f cdv))) :
    RSs (BT CX0 P w K mg base ["_law_making_here", "_law_w", "_law_r", "_law_one", "_law_other", "_law_begin", "_law_read", "_law_wrote", "_law_same", "_law_again"] "_law_alone" (AH EC) f cdv A outer s H E).nox (Ad EC) (FI φ_Lis):=by
  have nd:=sc_Lalone.nd
  exact (AK (Ab 5 nd (AW Af (AD 0) AI))
      (AK (Ab 6 nd (An (AA (AQ (AA AT (AA (AD 2) AF))) (AA (AQ (AA AT (AA (AD 2) (AA (AD 3) AF)))) AF))))
      (AK (Ab 7 nd (An (AA (AQ (AA AT (AA (AD 1) (AA (AD 3) AF)))) (AA (AQ (AA AT (AA (AD 1) AF))) AF))))
      (AK (Ab 8 nd (DM (Cd hr) (AD 3) (AD 5)))
      (AK (A8 (RW.rt (Lp (CL (Bq (Ao (hkj:=hk_Lis) F_Lis hr (AA (AD 0) (AA (AD 6) (AA (An (AA (AD 8) (AA (AD 8) (AA (AD 8) AF)))) AF)))))) (Kx (CL (Bq (Ao (hkj:=hk_Lis) F_Lis hr (AA (AD 0) (AA (AZ Av (AD 7) (AD 6)) (AA (An (AA Ax (AA Ax (AA Ax AF)))) AF))))))))) (AO (Aa Ax)) Ai)
      (AK (Ab 9 nd (An (AA (AQ (AA AT (AA (AD 1) (AA (AD 4) AF)))) (AA (AQ (AA AT (AA (AD 1) AF))) AF))))
      (AO (Aa (Ao (hkj:=hk_Lis) F_Lis hr (AA (AD 0) (AA (AZ Av (AZ Av (AD 7) (AD 9)) (AD 6)) (AA (An (AA Ax (AA Ax (AA Ax AF)))) AF))))))))))))
abbrev DX:Stmt:=top 38
theorem sc_Lbeside:Ag ["_law_making_here", "_law_w", "_law_r", "_law_one", "_law_other", "_law_third", "_law_begin", "_law_worth_here", "_law_due", "_law_events_here", "_law_more", "_law_back", "_law_ended"] ["_law_making_here", "_law_w", "_law_r", "_law_one", "_law_other", "_law_third"] (AH DX):=⟨rfl,rfl,rfl,by decide +kernel,rfl,by decide +kernel,by decide +kernel⟩
theorem NA {φ_Lis:List D->M D} {k_Lis:Nat} {k:Nat} {f:Addr} (F_Lis:Fn P w K mg base "_law_is" ["_law_making_here", "_law_events_here", "_law_due"] k_Lis φ_Lis) (hk_Lis:k_Lis <= k) (cdv:Value) (A:Around) (outer:List Env) (s:Shared) (H:Hp) (E:XK) (hr:Room k (A.deeper (PyProof.Rows.envOfC "_law_beside" (AH DX) s.heap.objs.size f cdv))) :
    RSs (BT CX0 P w K mg base ["_law_making_here", "_law_w", "_law_r", "_law_one", "_law_other", "_law_third", "_law_begin", "_law_worth_here", "_law_due", "_law_events_here", "_law_more", "_law_back", "_law_ended"] "_law_beside" (AH DX) f cdv A outer s H E).nox (Ad DX) (Eg φ_Lis):=by
  have nd:=sc_Lbeside.nd
  exact (AK (Ab 6 nd (An (AA (AQ (AA AT (AA (AD 1) (AA (AD 3) AF)))) (AA (AQ (AA AT (AA (AD 1) AF))) (AA (AQ (AA AT (AA (AD 1) (AA (AD 4) AF)))) AF)))))
      (AK (Dq PassesOwn.never rfl (B3 (An (AA (AQ (AA (AD 3) (AA Ax AF))) (AA (AQ (AA (AD 4) (AA Ax AF))) (AA (AQ (AA (AD 5) (AA (DM U4 (AD 5) (AQ (AA (AD 3) (AA (AD 4) AF)))) AF))) AF))))) (Gm (is:=[7,8]) rfl (Bk (A4 (i:=7) nd rfl (by first | exact Or.inl rfl | exact Or.inr rfl)) (Bk (A4 (i:=8) nd rfl (by first | exact Or.inl rfl | exact Or.inr rfl)) FD))) (AK (Ab 9 nd (AZ Av (AD 6) (An (AA (AQ (AA AT (AA (AD 2) AF))) (AA (AQ (AA AT (AA (AD 2) (AA (AD 7) AF)))) AF)))))
      (AO (Dq PassesOwn.never rfl (B3 (AQ (AA (An AF) (AA (An (AA (AQ (AA AT (AA (AD 1) AF))) AF)) AF)))) (E9 10 nd) (AO (A8 (CL (Bq (Ao (hkj:=hk_Lis) F_Lis hr (AA (AD 0) (AA (AZ Av (AD 9) (AD 10)) (AA (An (AA Ax (AA (AD 8) (AA (AD 8) AF)))) AF)))))) (AO (Aa Ax)) Ai))))))
      (AK (Ab 11 nd (AZ Av (AD 6) (An (AA (AQ (AA AT (AA (AD 2) AF))) (AA (AQ (AA AT (AA (AD 2) (AA (AD 4) AF)))) (AA (AQ (AA AT (AA (AD 2) AF))) (AA (AQ (AA AT (AA (AD 2) (AA (AD 3) AF)))) AF)))))))
      (AK (A8 (CL (Bq (Ao (hkj:=hk_Lis) F_Lis hr (AA (AD 0) (AA (AD 11) (AA (An (AA Ax (AA Ax (AA Ax AF)))) AF)))))) (AO (Aa Ax)) Ai)
      (AK (Ab 12 nd (AZ Av (AD 6) (An (AA (AQ (AA AT (AA (AD 2) AF))) (AA (AQ (AA AT (AA (AD 2) (AA (AD 4) AF)))) (AA (AQ (AA AT (AA (AD 1) AF))) (AA (AQ (AA AT (AA (AD 2) AF))) (AA (AQ (AA AT (AA (AD 2) (AA (AD 3) AF)))) AF))))))))
      (AO (Aa (Ao (hkj:=hk_Lis) F_Lis hr (AA (AD 0) (AA (AD 12) (AA (An (AA Ax (AA Ax (AA Ax AF)))) AF)))))))))))
abbrev Gh:Stmt:=top 39
theorem sc_Ltwo:Ag ["_law_making_here", "_law_w", "_law_r", "_law_s", "_law_one", "_law_other", "_law_begin", "_law_back", "_law_beside_here"] ["_law_making_here", "_law_w", "_law_r", "_law_s", "_law_one", "_law_other"] (AH Gh):=⟨rfl,rfl,rfl,by decide +kernel,rfl,by decide +kernel,by decide +kernel⟩
theorem Sx {φ_Lis:List D->M D} {k_Lis:Nat} {k:Nat} {f:Addr} (F_Lis:Fn P w K mg base "_law_is" ["_law_making_here", "_law_events_here", "_law_due"] k_Lis φ_Lis) (hk_Lis:k_Lis <= k) (cdv:Value) (A:Around) (outer:List Env) (s:Shared) (H:Hp) (E:XK) (hr:Room k (A.deeper (PyProof.Rows.envOfC "_law_two" (AH Gh) s.heap.objs.size f cdv))) :
    RSs (BT CX0 P w K mg base ["_law_making_here", "_law_w", "_law_r", "_law_s", "_law_one", "_law_other", "_law_begin", "_law_back", "_law_beside_here"] "_law_two" (AH Gh) f cdv A outer s H E).nox (Ad Gh) (JH φ_Lis):=by
  have nd:=sc_Ltwo.nd
  exact (AK (Ab 6 nd (An (AA (AQ (AA AT (AA (AD 1) (AA (AD 4) AF)))) (AA (AQ (AA AT (AA (AD 1) AF))) (AA (AQ (AA AT (AA (AD 1) (AA (AD 5) AF)))) AF)))))
      (AK (Ab 7 nd (AZ Av (AD 6) (An (AA (AQ (AA AT (AA (AD 2) AF))) (AA (AQ (AA AT (AA (AD 2) (AA (AD 5) AF)))) (AA (AQ (AA AT (AA (AD 3) AF))) (AA (AQ (AA AT (AA (AD 3) (AA (AD 4) AF)))) AF)))))))
      (AK (A8 (CL (Bq (Ao (hkj:=hk_Lis) F_Lis hr (AA (AD 0) (AA (AD 7) (AA (An (AA Ax (AA Ax (AA Ax AF)))) AF)))))) (AO (Aa Ax)) Ai)
      (AK (Ab 8 nd (AZ Av (AD 6) (An (AA (AQ (AA AT (AA (AD 3) AF))) (AA (AQ (AA AT (AA (AD 2) AF))) (AA (AQ (AA AT (AA (AD 2) (AA (AD 5) AF)))) (AA (AQ (AA AT (AA (AD 3) (AA (AD 4) AF)))) AF)))))))
      (AO (Aa (Ao (hkj:=hk_Lis) F_Lis hr (AA (AD 0) (AA (AD 8) (AA (An (AA Ax (AA Ax (AA Ax AF)))) AF))))))))))
abbrev E8:Stmt:=top 40
theorem sc_Llong:Ag ["_law_making_here", "_law_w", "_law_r", "_law_one", "_law_other", "_law_third", "_law_begin", "_law_worth_here", "_law_due", "_law_early"] ["_law_making_here", "_law_w", "_law_r", "_law_one", "_law_other", "_law_third"] (AH E8):=⟨rfl,rfl,rfl,by decide +kernel,rfl,by decide +kernel,by decide +kernel⟩
theorem Qo {φ_Lis:List D->M D} {k_Lis:Nat} {k:Nat} {f:Addr} (F_Lis:Fn P w K mg base "_law_is" ["_law_making_here", "_law_events_here", "_law_due"] k_Lis φ_Lis) (hk_Lis:k_Lis <= k) (cdv:Value) (A:Around) (outer:List Env) (s:Shared) (H:Hp) (E:XK) (hr:Room k (A.deeper (PyProof.Rows.envOfC "_law_long" (AH E8) s.heap.objs.size f cdv))) :
    RSs (BT CX0 P w K mg base ["_law_making_here", "_law_w", "_law_r", "_law_one", "_law_other", "_law_third", "_law_begin", "_law_worth_here", "_law_due", "_law_early"] "_law_long" (AH E8) f cdv A outer s H E).nox (Ad E8) (GF φ_Lis):=by
  have nd:=sc_Llong.nd
  exact (AK (Ab 6 nd (An (AA (AQ (AA AT (AA (AD 1) (AA (AD 3) AF)))) (AA (AQ (AA AT (AA (AD 1) AF))) (AA (AQ (AA AT (AA (AD 2) AF))) (AA (AQ (AA AT (AA (AD 1) (AA (AD 4) AF)))) (AA (AQ (AA AT (AA (AD 1) AF))) AF)))))))
      (AK (Ab 6 nd (AZ Av (AD 6) (An (AA (AQ (AA AT (AA (AD 1) (AA (AD 3) AF)))) (AA (AQ (AA AT (AA (AD 1) AF))) AF)))))
      (AK (Dq PassesOwn.never rfl (B3 (An (AA (AQ (AA (AD 3) (AA Ax AF))) (AA (AQ (AA (AD 4) (AA Ax AF))) (AA (AQ (AA (AD 5) (AA (DM U4 (AD 5) (AQ (AA (AD 3) (AA (AD 4) AF)))) AF))) AF))))) (Gm (is:=[7,8]) rfl (Bk (A4 (i:=7) nd rfl (by first | exact Or.inl rfl | exact Or.inr rfl)) (Bk (A4 (i:=8) nd rfl (by first | exact Or.inl rfl | exact Or.inr rfl)) FD))) (AO (A8 (CL (Bq (Ao (hkj:=hk_Lis) F_Lis hr (AA (AD 0) (AA (AZ Av (AD 6) (An (AA (AQ (AA AT (AA (AD 2) (AA (AD 7) AF)))) AF))) (AA (An (AA Ax (AA (AD 8) (AA (AD 8) AF)))) AF)))))) (AO (Aa Ax)) Ai)))
      (AK (Ab 9 nd (An (AA (AQ (AA AT (AA (AD 1) (AA (AD 3) AF)))) (AA (AQ (AA AT (AA (AD 1) AF))) (AA (AQ (AA AT (AA (AD 2) AF))) (AA (AQ (AA AT (AA (AD 2) (AA (AD 4) AF)))) (AA (AQ (AA AT (AA (AD 1) (AA (AD 4) AF)))) AF)))))))
      (AO (Aa (Ao (hkj:=hk_Lis) F_Lis hr (AA (AD 0) (AA (AD 9) (AA (An (AA Ax (AA Ax (AA Ax AF)))) AF))))))))))
abbrev Js:Stmt:=top 41
theorem sc_law:Ag ["_law_script", "_law_cell", "_law_xs", "_law_making_here", "_law_one", "_law_other", "_law_third", "_law_w", "_law_r"] ["_law_script"] (AH Js):=⟨rfl,rfl,rfl,by decide +kernel,rfl,by decide +kernel,by decide +kernel⟩
theorem Ue {φ_Lstream:List D->M D} {k_Lstream:Nat} {φ_Lmaking:List D->M D} {k_Lmaking:Nat} {φ_Lalone:List D->M D} {k_Lalone:Nat} {φ_Lbeside:List D->M D} {k_Lbeside:Nat} {φ_Ltwo:List D->M D} {k_Ltwo:Nat} {φ_Llong:List D->M D} {k_Llong:Nat} {k:Nat} {f:Addr} (F_Lstream:Fn P w K mg base "_law_stream" ["_law_cell", "_law_many"] k_Lstream φ_Lstream) (hk_Lstream:k_Lstream <= k) (F_Lmaking:Fn P w K mg base "_law_making" ["_law_x", "_law_kind"] k_Lmaking φ_Lmaking) (hk_Lmaking:k_Lmaking <= k) (F_Lalone:Fn P w K mg base "_law_alone" ["_law_making_here", "_law_w", "_law_r", "_law_one", "_law_other"] k_Lalone φ_Lalone) (hk_Lalone:k_Lalone <= k) (F_Lbeside:Fn P w K mg base "_law_beside" ["_law_making_here", "_law_w", "_law_r", "_law_one", "_law_other", "_law_third"] k_Lbeside φ_Lbeside) (hk_Lbeside:k_Lbeside <= k) (F_Ltwo:Fn P w K mg base "_law_two" ["_law_making_here", "_law_w", "_law_r", "_law_s", "_law_one", "_law_other"] k_Ltwo φ_Ltwo) (hk_Ltwo:k_Ltwo <= k) (F_Llong:Fn P w K mg base "_law_long" ["_law_making_here", "_law_w", "_law_r", "_law_one", "_law_other", "_law_third"] k_Llong φ_Llong) (hk_Llong:k_Llong <= k) (y_len:mg "len" = none) (cdv:Value) (A:Around) (outer:List Env) (s:Shared) (H:Hp) (E:XK) (hr:Room k (A.deeper (PyProof.Rows.envOfC "law" (AH Js) s.heap.objs.size f cdv))) :
    RSs (BT CX0 P w K mg base ["_law_script", "_law_cell", "_law_xs", "_law_making_here", "_law_one", "_law_other", "_law_third", "_law_w", "_law_r"] "law" (AH Js) f cdv A outer s H E).nox (Ad Js) (L9 φ_Lstream φ_Lmaking φ_Lalone φ_Lbeside φ_Ltwo φ_Llong):=by
  have nd:=sc_law.nd
  exact (AK (Dq PassesOwn.never rfl (B3 (AZ Av (FX (AD 0) Ec (Eb AI)) (An (AA AI AF)))) (E9 1 nd) (AK (Ab 2 nd (Ao (hkj:=hk_Lstream) F_Lstream hr (AA (AD 1) (AA AI AF))))
      (AK (Ab 3 nd (Ao (hkj:=hk_Lmaking) F_Lmaking hr (AA (AW Af (AD 2) AI) (AA AT AF))))
      (AK (Ab 4 nd (AZ Dc (AW Af (AD 2) AI) (AW Af (AD 3) AI)))
      (AK (Ab 5 nd (AZ Dc (AZ Av (AZ Av (AD 4) AI) (AZ Dc (AW Af (AD 2) AI) (AZ Gz (AW Af (AD 3) AI) AI))) (AW Af (AD 3) AI)))
      (AK (Ab 6 nd (AZ Dc (AW Af (AD 2) AI) (AW Af (AD 3) AI)))
      (AK (Ab 7 nd (AW Af (AW Af (AW Af (AD 3) AI) AI) AI))
      (AK (Ab 8 nd (AW Af (AW Af (AW Af (AD 3) AI) (Ud U2 AI)) AI))
      (AK (A8 (RW.rt (Lp (CL (Bq (Ao (hkj:=hk_Lalone) F_Lalone hr (AA (AD 3) (AA (AD 7) (AA (AD 8) (AA (AD 4) (AA (AD 5) AF)))))))) (Kx (CL (Bq (Ao (hkj:=hk_Lbeside) F_Lbeside hr (AA (AD 3) (AA (AD 7) (AA (AD 8) (AA (AD 4) (AA (AD 5) (AA (AD 6) AF)))))))))))) (AO (Aa Ax)) Ai)
      (AK (A8 (RW.rt (Ky (Au U5 (BP HY y_len Mi.DE (AA (AW Af (AD 3) AI) AF)) AI) (Lq (CL (Bq (Ao (hkj:=hk_Ltwo) F_Ltwo hr (AA (AD 3) (AA (AD 7) (AA (AD 8) (AA (AW Af (AW Af (AW Af (AD 3) AI) AI) AI) (AA (AD 4) (AA (AD 5) AF)))))))))))) (AO (Aa Ax)) Ai)
      (AO (A8 (CL (Bq (Ao (hkj:=hk_Llong) F_Llong hr (AA (AD 3) (AA (AD 7) (AA (AD 8) (AA (AD 4) (AA (AD 5) (AA (AD 6) AF))))))))) (AO (Aa Ax)) Ai))))))))))))
      (AO (Aa Ax)))
end
end K16
namespace K16
open PySem L2 Mi
noncomputable def Ei:List D->M D:=Aq .drop 5 2 (Ef)
noncomputable def CU:List D->M D:=Aq .drop 6 2 (Cy)
noncomputable def BD:List D->M D:=Aq .drop 2 1 (BQ)
noncomputable def CT:List D->M D:=Aq .drop 3 3 (CQ)
noncomputable def DC:List D->M D:=Aq .drop 3 3 (CP)
noncomputable def Bt:List D->M D:=Aq .drop 3 3 (CS CT DC)
noncomputable def Bw:List D->M D:=Aq .frz 9 2 (Cw Bt)
noncomputable def Al:List D->M D:=Aq .drop 3 3 (Bc)
noncomputable def B9:List D->M D:=Aq .drop 3 3 (Cr Al)
noncomputable def B8:List D->M D:=Aq .all 4 1 (B4 Al)
noncomputable def Fp:List D->M D:=Aq .all 6 1 (Ee B8)
noncomputable def Cf:List D->M D:=Aq .drop 1 1 (FH Fp)
noncomputable def CA:List D->M D:=Aq .drop 4 4 (De)
noncomputable def DD:List D->M D:=Aq .drop 4 3 (B5 B9 Cf CA)
noncomputable def Bf:List D->M D:=Aq .drop 3 3 (Cq Al)
noncomputable def Cb:List D->M D:=Aq .drop 4 3 (CZ Bf)
noncomputable def Ch:List D->M D:=Aq .drop 2 2 (Bm Cb Cf)
noncomputable def DO:List D->M D:=Aq .drop 4 3 (CY B9 Cf CA Al)
noncomputable def Cu:List D->M D:=Aq .drop 5 4 (Cp Cb Cf Al)
noncomputable def A7:List D->M D:=Aq .drop 5 3 (B6 DD Ch DO Cu)
noncomputable def FO:List D->M D:=Aq .drop 4 2 (FG BD Bw A7)
noncomputable def F3:List D->M D:=Aq .drop 3 3 (MA FO)
noncomputable def FP:List D->M D:=Aq .drop 10 5 (FI F3)
noncomputable def Ej:List D->M D:=Aq .drop 13 6 (Eg F3)
noncomputable def JR:List D->M D:=Aq .drop 9 6 (JH F3)
noncomputable def GP:List D->M D:=Aq .drop 10 6 (GF F3)
noncomputable def Pi:List D->M D:=Aq .drop 9 1 (L9 Ei CU FP Ej JR GP)
end K16
namespace K16
open PySem L2 Mi
theorem all_mk {l:PySem.W.OpenLaw} {w:World} {K:PySem.W.Frag} {h:Heap} {mg:Str->Option Value} {fa:Addr} (hφ:∀ ns:List Int,ns.length <= 63->∃ μ',Pi [.scr ns] []=some (.bl true,μ')) (X:K.In h) (G:h.Ns mainGlobals mg) (hfa:mg "law" = some (.ref fa))
    (e_Lstream:∃ f fd,Df K "_law_stream" DV f fd)
    (e_Lmaking:∃ f fd,Df K "_law_making" DW f fd)
    (e_claim_begun:∃ f fd,Df K "claim_begun" Bi f fd)
    (e_is_tuple:∃ f fd,Df K "is_tuple" C1 f fd)
    (e_is_whole:∃ f fd,Df K "is_whole" C0 f fd)
    (e_is_event:∃ f fd,Df K "is_event" C2 f fd)
    (e_acts_of:∃ f fd,Df K "acts_of" DU f fd)
    (e_with_thing:∃ f fd,Df K "with_thing" Bz f fd)
    (e_case_begun:∃ f fd,Df K "case_begun" B2 f fd)
    (e_moments_from:∃ f fd,Df K "moments_from" BX f fd)
    (e_reached:∃ f fd,Df K "reached" DT f fd)
    (e_closed:∃ f fd,Df K "closed" EA f fd)
    (e_beside:∃ f fd,Df K "beside" EB f fd)
    (e_claim_writes:∃ f fd,Df K "claim_writes" BY f fd)
    (e_case_ended:∃ f fd,Df K "case_ended" B1 f fd)
    (e_cases_ended:∃ f fd,Df K "cases_ended" Bj f fd)
    (e_claim_written:∃ f fd,Df K "claim_written" BO f fd)
    (e_claim_reads:∃ f fd,Df K "claim_reads" Bh f fd)
    (e_claim_told:∃ f fd,Df K "claim_told" B0 f fd)
    (e_claim_behind:∃ f fd,Df K "claim_behind" BZ f fd)
    (e_judged:∃ f fd,Df K "judged" D9 f fd)
    (e_Lis:∃ f fd,Df K "_law_is" Jt f fd)
    (e_Lalone:∃ f fd,Df K "_law_alone" EC f fd)
    (e_Lbeside:∃ f fd,Df K "_law_beside" DX f fd)
    (e_Ltwo:∃ f fd,Df K "_law_two" Gh f fd)
    (e_Llong:∃ f fd,Df K "_law_long" E8 f fd)
    (e_law:∃ f fd,Df K "law" Js f fd)
    (z_bool:PySem.W.nsIn K mainGlobals "bool" = some none)
    (z_enumerate:PySem.W.nsIn K mainGlobals "enumerate" = some none)
    (z_int:PySem.W.nsIn K mainGlobals "int" = some none)
    (z_isinstance:PySem.W.nsIn K mainGlobals "isinstance" = some none)
    (z_len:PySem.W.nsIn K mainGlobals "len" = some none)
    (z_list:PySem.W.nsIn K mainGlobals "list" = some none)
    (z_range:PySem.W.nsIn K mainGlobals "range" = some none)
    (z_set:PySem.W.nsIn K mainGlobals "set" = some none)
    (z_sorted:PySem.W.nsIn K mainGlobals "sorted" = some none)
    (z_tuple:PySem.W.nsIn K mainGlobals "tuple" = some none)
    (g_HAD:Glo K mg "HAD" HR)
    (g_NONE:Glo K mg "NONE" BM)
    (g_NO_WORTH:Glo K mg "NO_WORTH" Ba)
    (g_WAITS:Glo K mg "WAITS" D1) :
    ∃ fd:FuncData,(∀ (s:Shared) (v:Value),BindsTo s fd ⟨[v],[]⟩ [("_law_script",v)]) /\ ∀ base:Heap,K.In base->base.Ns mainGlobals mg->FnOk l.prog w K mg base CX0 10 fa fd ["_law_script"] (Lm K):=by
  have y_bool:=PySem.W.mg_none_of X G z_bool
  have y_enumerate:=PySem.W.mg_none_of X G z_enumerate
  have y_int:=PySem.W.mg_none_of X G z_int
  have y_isinstance:=PySem.W.mg_none_of X G z_isinstance
  have y_len:=PySem.W.mg_none_of X G z_len
  have y_list:=PySem.W.mg_none_of X G z_list
  have y_range:=PySem.W.mg_none_of X G z_range
  have y_set:=PySem.W.mg_none_of X G z_set
  have y_sorted:=PySem.W.mg_none_of X G z_sorted
  have y_tuple:=PySem.W.mg_none_of X G z_tuple
  obtain ⟨fa_Lstream,fd_Lstream,d_Lstream⟩:=e_Lstream
  have Ef:=PySem.W.mg_of X G d_Lstream.a
  have b_Lstream:=d_Lstream.F.binds (ps:=["_law_cell", "_law_many"]) fun _ _ _ _ _ _ us hl=>match us,hl with | [_,_],_=>rfl
  obtain ⟨fa_Lmaking,fd_Lmaking,d_Lmaking⟩:=e_Lmaking
  have Cy:=PySem.W.mg_of X G d_Lmaking.a
  have b_Lmaking:=d_Lmaking.F.binds (ps:=["_law_x", "_law_kind"]) fun _ _ _ _ _ _ us hl=>match us,hl with | [_,_],_=>rfl
  obtain ⟨fa_claim_begun,fd_claim_begun,d_claim_begun⟩:=e_claim_begun
  have BQ:=PySem.W.mg_of X G d_claim_begun.a
  have b_claim_begun:=d_claim_begun.F.binds (ps:=["making"]) fun _ _ _ _ _ _ us hl=>match us,hl with | [_],_=>rfl
  obtain ⟨fa_is_tuple,fd_is_tuple,d_is_tuple⟩:=e_is_tuple
  have CQ:=PySem.W.mg_of X G d_is_tuple.a
  have b_is_tuple:=d_is_tuple.F.binds (ps:=["thing", "least", "most"]) fun _ _ _ _ _ _ us hl=>match us,hl with | [_,_,_],_=>rfl
  obtain ⟨fa_is_whole,fd_is_whole,d_is_whole⟩:=e_is_whole
  have CP:=PySem.W.mg_of X G d_is_whole.a
  have b_is_whole:=d_is_whole.F.binds (ps:=["thing", "least", "most"]) fun _ _ _ _ _ _ us hl=>match us,hl with | [_,_,_],_=>rfl
  obtain ⟨fa_is_event,fd_is_event,d_is_event⟩:=e_is_event
  have CS:=PySem.W.mg_of X G d_is_event.a
  have b_is_event:=d_is_event.F.binds (ps:=["thing", "names", "size"]) fun _ _ _ _ _ _ us hl=>match us,hl with | [_,_,_],_=>rfl
  obtain ⟨fa_acts_of,fd_acts_of,d_acts_of⟩:=e_acts_of
  have Cw:=PySem.W.mg_of X G d_acts_of.a
  have b_acts_of:=d_acts_of.F.binds (ps:=["making", "events"]) fun _ _ _ _ _ _ us hl=>match us,hl with | [_,_],_=>rfl
  obtain ⟨fa_with_thing,fd_with_thing,d_with_thing⟩:=e_with_thing
  have Bc:=PySem.W.mg_of X G d_with_thing.a
  have b_with_thing:=d_with_thing.F.binds (ps:=["things", "place", "thing"]) fun _ _ _ _ _ _ us hl=>match us,hl with | [_,_,_],_=>rfl
  obtain ⟨fa_case_begun,fd_case_begun,d_case_begun⟩:=e_case_begun
  have Cr:=PySem.W.mg_of X G d_case_begun.a
  have b_case_begun:=d_case_begun.F.binds (ps:=["case", "hand", "worth"]) fun _ _ _ _ _ _ us hl=>match us,hl with | [_,_,_],_=>rfl
  obtain ⟨fa_moments_from,fd_moments_from,d_moments_from⟩:=e_moments_from
  have B4:=PySem.W.mg_of X G d_moments_from.a
  have b_moments_from:=d_moments_from.F.binds (ps:=["case"]) fun _ _ _ _ _ _ us hl=>match us,hl with | [_],_=>rfl
  obtain ⟨fa_reached,fd_reached,d_reached⟩:=e_reached
  have Ee:=PySem.W.mg_of X G d_reached.a
  have b_reached:=d_reached.F.binds (ps:=["cases"]) fun _ _ _ _ _ _ us hl=>match us,hl with | [_],_=>rfl
  obtain ⟨fa_closed,fd_closed,d_closed⟩:=e_closed
  have FH:=PySem.W.mg_of X G d_closed.a
  have b_closed:=d_closed.F.binds (ps:=["cases"]) fun _ _ _ _ _ _ us hl=>match us,hl with | [_],_=>rfl
  obtain ⟨fa_beside,fd_beside,d_beside⟩:=e_beside
  have De:=PySem.W.mg_of X G d_beside.a
  have b_beside:=d_beside.F.binds (ps:=["kind", "size", "worths", "coming"]) fun _ _ _ _ _ _ us hl=>match us,hl with | [_,_,_,_],_=>rfl
  obtain ⟨fa_claim_writes,fd_claim_writes,d_claim_writes⟩:=e_claim_writes
  have B5:=PySem.W.mg_of X G d_claim_writes.a
  have b_claim_writes:=d_claim_writes.F.binds (ps:=["making", "claim", "worth"]) fun _ _ _ _ _ _ us hl=>match us,hl with | [_,_,_],_=>rfl
  obtain ⟨fa_case_ended,fd_case_ended,d_case_ended⟩:=e_case_ended
  have Cq:=PySem.W.mg_of X G d_case_ended.a
  have b_case_ended:=d_case_ended.F.binds (ps:=["case", "hand", "worth"]) fun _ _ _ _ _ _ us hl=>match us,hl with | [_,_,_],_=>rfl
  obtain ⟨fa_cases_ended,fd_cases_ended,d_cases_ended⟩:=e_cases_ended
  have CZ:=PySem.W.mg_of X G d_cases_ended.a
  have b_cases_ended:=d_cases_ended.F.binds (ps:=["cases", "hand", "worth"]) fun _ _ _ _ _ _ us hl=>match us,hl with | [_,_,_],_=>rfl
  obtain ⟨fa_claim_written,fd_claim_written,d_claim_written⟩:=e_claim_written
  have Bm:=PySem.W.mg_of X G d_claim_written.a
  have b_claim_written:=d_claim_written.F.binds (ps:=["making", "claim"]) fun _ _ _ _ _ _ us hl=>match us,hl with | [_,_],_=>rfl
  obtain ⟨fa_claim_reads,fd_claim_reads,d_claim_reads⟩:=e_claim_reads
  have CY:=PySem.W.mg_of X G d_claim_reads.a
  have b_claim_reads:=d_claim_reads.F.binds (ps:=["making", "claim", "reader"]) fun _ _ _ _ _ _ us hl=>match us,hl with | [_,_,_],_=>rfl
  obtain ⟨fa_claim_told,fd_claim_told,d_claim_told⟩:=e_claim_told
  have Cp:=PySem.W.mg_of X G d_claim_told.a
  have b_claim_told:=d_claim_told.F.binds (ps:=["making", "claim", "reader", "worth"]) fun _ _ _ _ _ _ us hl=>match us,hl with | [_,_,_,_],_=>rfl
  obtain ⟨fa_claim_behind,fd_claim_behind,d_claim_behind⟩:=e_claim_behind
  have B6:=PySem.W.mg_of X G d_claim_behind.a
  have b_claim_behind:=d_claim_behind.F.binds (ps:=["making", "claim", "act"]) fun _ _ _ _ _ _ us hl=>match us,hl with | [_,_,_],_=>rfl
  obtain ⟨fa_judged,fd_judged,d_judged⟩:=e_judged
  have FG:=PySem.W.mg_of X G d_judged.a
  have b_judged:=d_judged.F.binds (ps:=["making", "events"]) fun _ _ _ _ _ _ us hl=>match us,hl with | [_,_],_=>rfl
  obtain ⟨fa_Lis,fd_Lis,d_Lis⟩:=e_Lis
  have MA:=PySem.W.mg_of X G d_Lis.a
  have b_Lis:=d_Lis.F.binds (ps:=["_law_making_here", "_law_events_here", "_law_due"]) fun _ _ _ _ _ _ us hl=>match us,hl with | [_,_,_],_=>rfl
  obtain ⟨fa_Lalone,fd_Lalone,d_Lalone⟩:=e_Lalone
  have FI:=PySem.W.mg_of X G d_Lalone.a
  have b_Lalone:=d_Lalone.F.binds (ps:=["_law_making_here", "_law_w", "_law_r", "_law_one", "_law_other"]) fun _ _ _ _ _ _ us hl=>match us,hl with | [_,_,_,_,_],_=>rfl
  obtain ⟨fa_Lbeside,fd_Lbeside,d_Lbeside⟩:=e_Lbeside
  have Eg:=PySem.W.mg_of X G d_Lbeside.a
  have b_Lbeside:=d_Lbeside.F.binds (ps:=["_law_making_here", "_law_w", "_law_r", "_law_one", "_law_other", "_law_third"]) fun _ _ _ _ _ _ us hl=>match us,hl with | [_,_,_,_,_,_],_=>rfl
  obtain ⟨fa_Ltwo,fd_Ltwo,d_Ltwo⟩:=e_Ltwo
  have JH:=PySem.W.mg_of X G d_Ltwo.a
  have b_Ltwo:=d_Ltwo.F.binds (ps:=["_law_making_here", "_law_w", "_law_r", "_law_s", "_law_one", "_law_other"]) fun _ _ _ _ _ _ us hl=>match us,hl with | [_,_,_,_,_,_],_=>rfl
  obtain ⟨fa_Llong,fd_Llong,d_Llong⟩:=e_Llong
  have GF:=PySem.W.mg_of X G d_Llong.a
  have b_Llong:=d_Llong.F.binds (ps:=["_law_making_here", "_law_w", "_law_r", "_law_one", "_law_other", "_law_third"]) fun _ _ _ _ _ _ us hl=>match us,hl with | [_,_,_,_,_,_],_=>rfl
  obtain ⟨fa_law,fd_law,d_law⟩:=e_law
  have L9:=PySem.W.mg_of X G d_law.a
  have b_law:=d_law.F.binds (ps:=["_law_script"]) fun _ _ _ _ _ _ us hl=>match us,hl with | [_],_=>rfl
  have e:=hfa.symm.trans L9
  cases e
  refine ⟨fd_law,fun s v=>?_,fun base _ _=>?_⟩
  . obtain ⟨oc,od,kV,doc,pm,an,cdv,ct,osl,rfl,lk,hcd⟩:=d_law.F.ex
    exact .of_eq rfl
  have F_Lstream:Fn l.prog w K mg base "_law_stream" ["_law_cell", "_law_many"] 1 Ei:=Ap (k:=0) .drop d_Lstream.F sc_Lstream Ef b_Lstream (M8 y_len y_range)
  have F_Lmaking:Fn l.prog w K mg base "_law_making" ["_law_x", "_law_kind"] 1 CU:=Ap (k:=0) .drop d_Lmaking.F sc_Lmaking Cy b_Lmaking (M9 y_tuple)
  have F_claim_begun:Fn l.prog w K mg base "claim_begun" ["making"] 1 BD:=Ap (k:=0) .drop d_claim_begun.F sc_claim_begun BQ b_claim_begun (Hj y_len g_NONE)
  have F_is_tuple:Fn l.prog w K mg base "is_tuple" ["thing", "least", "most"] 1 CT:=Ap (k:=0) .drop d_is_tuple.F sc_is_tuple CQ b_is_tuple (K3 y_tuple y_isinstance y_len)
  have F_is_whole:Fn l.prog w K mg base "is_whole" ["thing", "least", "most"] 1 DC:=Ap (k:=0) .drop d_is_whole.F sc_is_whole CP b_is_whole (K2 y_int y_isinstance y_bool)
  have F_is_event:Fn l.prog w K mg base "is_event" ["thing", "names", "size"] 2 Bt:=Ap (k:=1) .drop d_is_event.F sc_is_event CS b_is_event (K4 F_is_tuple (by decide) F_is_whole (by decide) y_len)
  have F_acts_of:Fn l.prog w K mg base "acts_of" ["making", "events"] 3 Bw:=Ap (k:=2) .frz d_acts_of.F sc_acts_of Cw b_acts_of (M7 F_is_event (by decide) y_list y_isinstance y_enumerate y_len g_NO_WORTH)
  have F_with_thing:Fn l.prog w K mg base "with_thing" ["things", "place", "thing"] 1 Al:=Ap (k:=0) .drop d_with_thing.F sc_with_thing Bc b_with_thing Iy
  have F_case_begun:Fn l.prog w K mg base "case_begun" ["case", "hand", "worth"] 2 B9:=Ap (k:=1) .drop d_case_begun.F sc_case_begun Cr b_case_begun (JB F_with_thing (by decide) g_WAITS)
  have F_moments_from:Fn l.prog w K mg base "moments_from" ["case"] 2 B8:=Ap (k:=1) .all d_moments_from.F sc_moments_from B4 b_moments_from (Gs F_with_thing (by decide) y_enumerate g_HAD g_WAITS)
  have F_reached:Fn l.prog w K mg base "reached" ["cases"] 3 Fp:=Ap (k:=2) .all d_reached.F sc_reached Ee b_reached (M6 F_moments_from (by decide) y_list)
  have F_closed:Fn l.prog w K mg base "closed" ["cases"] 4 Cf:=Ap (k:=3) .drop d_closed.F sc_closed FH b_closed (OW F_reached (by decide) y_sorted y_tuple)
  have F_beside:Fn l.prog w K mg base "beside" ["kind", "size", "worths", "coming"] 1 CA:=Ap (k:=0) .drop d_beside.F sc_beside De b_beside (OX y_tuple y_range y_sorted y_set)
  have F_claim_writes:Fn l.prog w K mg base "claim_writes" ["making", "claim", "worth"] 5 DD:=Ap (k:=4) .drop d_claim_writes.F sc_claim_writes B5 b_claim_writes (Gu F_case_begun (by decide) F_closed (by decide) F_beside (by decide) y_tuple)
  have F_case_ended:Fn l.prog w K mg base "case_ended" ["case", "hand", "worth"] 2 Bf:=Ap (k:=1) .drop d_case_ended.F sc_case_ended Cq b_case_ended (JA F_with_thing (by decide) g_HAD g_NONE)
  have F_cases_ended:Fn l.prog w K mg base "cases_ended" ["cases", "hand", "worth"] 3 Cb:=Ap (k:=2) .drop d_cases_ended.F sc_cases_ended CZ b_cases_ended (Hk F_case_ended (by decide))
  have F_claim_written:Fn l.prog w K mg base "claim_written" ["making", "claim"] 5 Ch:=Ap (k:=4) .drop d_claim_written.F sc_claim_written Bm b_claim_written (F9 F_cases_ended (by decide) F_closed (by decide) g_NONE)
  have F_claim_reads:Fn l.prog w K mg base "claim_reads" ["making", "claim", "reader"] 5 DO:=Ap (k:=4) .drop d_claim_reads.F sc_claim_reads CY b_claim_reads (Hi F_case_begun (by decide) F_closed (by decide) F_beside (by decide) F_with_thing (by decide) g_NONE)
  have F_claim_told:Fn l.prog w K mg base "claim_told" ["making", "claim", "reader", "worth"] 5 Cu:=Ap (k:=4) .drop d_claim_told.F sc_claim_told Cp b_claim_told (Iz F_cases_ended (by decide) F_closed (by decide) F_with_thing (by decide))
  have F_claim_behind:Fn l.prog w K mg base "claim_behind" ["making", "claim", "act"] 6 A7:=Ap (k:=5) .drop d_claim_behind.F sc_claim_behind B6 b_claim_behind (Gv F_claim_writes (by decide) F_claim_written (by decide) F_claim_reads (by decide) F_claim_told (by decide))
  have F_judged:Fn l.prog w K mg base "judged" ["making", "events"] 7 FO:=Ap (k:=6) .drop d_judged.F sc_judged FG b_judged (OV F_claim_begun (by decide) F_acts_of (by decide) F_claim_behind (by decide))
  have F_Lis:Fn l.prog w K mg base "_law_is" ["_law_making_here", "_law_events_here", "_law_due"] 8 F3:=Ap (k:=7) .drop d_Lis.F sc_Lis MA b_Lis (Uf F_judged (by decide))
  have F_Lalone:Fn l.prog w K mg base "_law_alone" ["_law_making_here", "_law_w", "_law_r", "_law_one", "_law_other"] 9 FP:=Ap (k:=8) .drop d_Lalone.F sc_Lalone FI b_Lalone (OY F_Lis (by decide))
  have F_Lbeside:Fn l.prog w K mg base "_law_beside" ["_law_making_here", "_law_w", "_law_r", "_law_one", "_law_other", "_law_third"] 9 Ej:=Ap (k:=8) .drop d_Lbeside.F sc_Lbeside Eg b_Lbeside (NA F_Lis (by decide))
  have F_Ltwo:Fn l.prog w K mg base "_law_two" ["_law_making_here", "_law_w", "_law_r", "_law_s", "_law_one", "_law_other"] 9 JR:=Ap (k:=8) .drop d_Ltwo.F sc_Ltwo JH b_Ltwo (Sx F_Lis (by decide))
  have F_Llong:Fn l.prog w K mg base "_law_long" ["_law_making_here", "_law_w", "_law_r", "_law_one", "_law_other", "_law_third"] 9 GP:=Ap (k:=8) .drop d_Llong.F sc_Llong GF b_Llong (Qo F_Lis (by decide))
  exact SW (φ:=Pi) (Pf (k:=9) .drop d_law.F sc_law (Ue F_Lstream (by decide) F_Lmaking (by decide) F_Lalone (by decide) F_Lbeside (by decide) F_Ltwo (by decide) F_Llong (by decide) y_len)) hφ
end K16
namespace K13
open PySem L2 Mi
def BM:D:=.int (-1)
def Ba:D:=.int (-1)
def BQ  : Sl->M (Fl × Sl):=
    (AV (Ae (mOp Da (AE Ct (AC (mOp AN (AB 0) (mC (.int 4))) AJ)) (mC (.int 1))) (AM 1))
    (AV (sIf (AR (mOp Aj (mOp AN (AB 0) (mC (.int 0))) (mC (.str "whole")))) (Am (AE AX (AC (AE AX (AC (mOp AN (AB 0) (mC (.int 2))) (AC (mC BM) (AC (mOp FY (AE AX (AC (mC BM) AJ)) (AB 1)) AJ)))) AJ))) A1)
    (Am (AE AX (AC (mOp AN (AB 0) (mC (.int 2))) (AC (mC BM) (AC (mOp FY (AE AX (AC (mC .non) AJ)) (AB 1)) AJ)))))))
def De  : Sl->M (Fl × Sl):=
    (AV (sIf (AR (mOp Aj (AB 0) (mC (.str "safe")))) (Am (mUn (Lu D.tup) (AB 1))) A1)
    (Am (AE D7 (AC (mUn D8 (mOp AY (AB 2) (AE AX (AC (AB 3) AJ)))) AJ))))
def Bc  : Sl->M (Fl × Sl):=
    (Am (mOp AY (mOp AY (FJ (AB 0) C8 (EI (AB 1))) (AE AX (AC (AB 2) AJ))) (FJ (AB 0) (EI (mOp AY (AB 1) (mC (.int 1)))) C8)))
def CP  : Sl->M (Fl × Sl):=
    (Am (EK (AE Di (AC (AB 0) (AC (mC (.ty "int")) AJ))) (EK (J8 (AE Di (AC (AB 0) (AC (mC (.ty "bool")) AJ)))) (EJ Hl Hl (AB 1) (AB 0) (AB 2)))))
def CQ  : Sl->M (Fl × Sl):=
    (Am (EK (AE Di (AC (AB 0) (AC (mC (.ty "tuple")) AJ))) (EJ Hl Hl (AB 1) (AE Ct (AC (AB 0) AJ)) (AB 2))))
def Cw (φ_is_event:List D->M D):Sl->M (Fl × Sl):=
    (AV (sIf (CG (AR (AE Di (AC (AB 1) (AC (mC (.ty "list")) AJ))))) C4 A1)
    (AV (Ae (Cm 1 [] (Ce (mOp AN (AB 0) (mC (.int 4)))) (AM 0) Bv (mOp AN (AB 0) (mC (.int 0))) Ar) (AM 2))
    (AV (Ae Th (AM 3))
    (AV (Ae (AE Hm AJ) (AM 4))
    (AV (Ae (mC (.int 0)) (AM 5))
    (AV (Ep (PD (AC (AB 1) AJ)) (Hb [6,7]) (AV (sIf (CG (AR (AE φ_is_event (AC (AB 7) (AC (AB 2) (AC (mOp AN (AB 0) (mC (.int 1))) AJ)))))) C4 A1)
    (AV (Ae (A9 HF (AB 2) (AC (mOp AN (AB 7) (mC (.int 1))) AJ)) (AM 8))
    (AV (sIf (AR (mOp Aj (mOp Aj (mOp AN (AB 7) (mC (.int 0))) (mC (.str "begin"))) (mOp (KQ false) (AB 8) (AB 3)))) C4 A1)
    (AV (sIf (AR (mOp Aj (mOp AN (AB 7) (mC (.int 0))) (mC (.str "begin")))) (AV (IA (AB 3) (AB 8) (AB 5))
    (Ae (mOp JC (AB 5) (mC (.int 1))) (AM 5))) A1)
    (AV (Bu (A9 EY (AB 4) (AC (AE AX (AC (mOp AN (AB 7) (mC (.int 0))) (AC (AB 8) (AC (mIf (AR (mOp Aj (AE Ct (AC (AB 7) AJ)) (mC (.int 3)))) (mOp AN (AB 7) (mC (.int 2))) (mC Ba)) (AC (mOp F5 (AB 3) (AB 8)) AJ))))) AJ)))
    (sIf (AR (mOp Aj (mOp AN (AB 7) (mC (.int 0))) (mC (.str "end")))) (Bu (IF (AB 3) (AB 8))) A1)))))))
    (Am (AB 4))))))))
def CS (φ_is_tuple:List D->M D) (φ_is_whole:List D->M D):Sl->M (Fl × Sl):=
    (AV (sIf (mOr (CG (AR (AE φ_is_tuple (AC (AB 0) (AC (mC (.int 2)) (AC (mC (.int 3)) AJ)))))) (mOr (AR (mOp (Er true) (mOp AN (AB 0) (mC (.int 0))) (AE AX (AC (mC (.str "begin")) (AC (mC (.str "end")) AJ))))) (AR (mOp (Er true) (mOp AN (AB 0) (mC (.int 1))) (AB 1))))) (Am (mC (.bl false))) A1)
    (AV (sIf (AR (mOp Aj (mOp Aj (mOp AN (AB 0) (mC (.int 0))) (mC (.str "begin"))) (mOp Aj (mOp AN (AB 0) (mC (.int 1))) (mOp AN (AB 1) (mC (.int 0)))))) (Am (EK (mOp Aj (AE Ct (AC (AB 0) AJ)) (mC (.int 3))) (AE φ_is_whole (AC (mOp AN (AB 0) (mC (.int 2))) (AC (mC (.int 0)) (AC (mOp Da (AB 2) (mC (.int 1))) AJ)))))) A1)
    (Am (mOp Aj (AE Ct (AC (AB 0) AJ)) (mC (.int 2))))))
def Cy  : Sl->M (Fl × Sl):=
    (AV (Ae (mOp AY (mC (.int 2)) (mOp BE (mOp BR (AB 0) (mC (.int 4))) (mC (.int 9)))) (AM 2))
    (AV (Ae (mOp AN (AE Ar (AC (AE Ar (AC (mC (.str "w")) (AC (mC (.str "r")) (AC (mC (.str "s")) (AC (mC (.str "t")) AJ))))) (AC (AE Ar (AC (mC (.str "writer")) (AC (mC (.str "a")) (AC (mC (.str "ab")) (AC (mC (.str "b")) AJ))))) (AC (AE Ar (AC (mC (.str "z")) (AC (mC (.str "zz")) (AC (mC (.str "zzzzzzzz")) (AC (mC (.str "begin")) AJ))))) AJ)))) (mOp BE (mOp BR (AB 0) (mC (.int 36))) (mC (.int 3)))) (AM 3))
    (AV (Ae (mOp AY (mC (.int 1)) (mOp BE (mOp BR (AB 0) (mC (.int 108))) (mC (.int 3)))) (AM 4))
    (AV (Ae (Cm 1 [] (Ce (FJ (AB 3) C8 (EI (mOp AY (mC (.int 1)) (AB 4))))) (AM 0) Bv (AE AX (AC (AB 0) (AC (mC (.int 0)) (AC (AE AX AJ) AJ)))) Ar) (AM 5))
    (Am (AE AX (AC (AB 1) (AC (AB 2) (AC (mOp BE (mOp BR (AB 0) (mC (.int 324))) (AB 2)) (AC (AE AX AJ) (AC (AE D7 (AC (AB 5) AJ)) AJ)))))))))))
end K13
namespace K13
open PySem L2 Mi
noncomputable def CU:List D->M D:=Aq .drop 6 2 (Cy)
noncomputable def BD:List D->M D:=Aq .drop 2 1 (BQ)
noncomputable def CT:List D->M D:=Aq .drop 3 3 (CQ)
noncomputable def DC:List D->M D:=Aq .drop 3 3 (CP)
noncomputable def Bt:List D->M D:=Aq .drop 3 3 (CS CT DC)
noncomputable def Bw:List D->M D:=Aq .frz 9 2 (Cw Bt)
noncomputable def CA:List D->M D:=Aq .drop 4 4 (De)
noncomputable def Al:List D->M D:=Aq .drop 3 3 (Bc)
end K13
namespace Mi
open PySem L2
section
variable {τ τ1 τ2:Sl} {μ μ1 μ2 μ3 μ4:Mh} {d x y z:D} {ds:List D} {ma mb mc me:Sl->M D} {tc tb:Sl->M Bool} {b:Bool} {m1 m2:Sl->M (Fl × Sl)} {g g':D->D->M D} {r:Fl × Sl}
theorem As {i:Nat} (h:τ[i]? = some (some d)):AB i τ μ=some (d,μ):=by unfold AB; rw [h]
theorem KM (h1:ma τ μ=some (x,μ1)) (h2:mb τ μ1=some (y,μ2)) (h3:g x y μ2=some (d,μ3)):mOp g ma mb τ μ=some (d,μ3):=by unfold mOp; rw [AL h1,AL h2,h3]
theorem MQ {u:D->M D} (h1:ma τ μ=some (x,μ1)) (h3:u x μ1=some (d,μ3)):mUn u ma τ μ=some (d,μ3):=by unfold mUn; rw [AL h1,h3]
theorem EQ {as:Sl->M (List D)} (h1:ma τ μ=some (x,μ1)) (h2:as τ μ1=some (ds,μ2)):AC ma as τ μ=some (x :: ds,μ2):=by unfold AC; rw [AL h1,AL h2]; rfl
theorem CC {f:List D->M D} {as:Sl->M (List D)} (h1:as τ μ=some (ds,μ1)) (h2:f ds μ1=some (d,μ2)):AE f as τ μ=some (d,μ2):=by unfold AE; rw [AL h1,h2]
theorem Ek {f:D->List D->M D} {as:Sl->M (List D)} {u:Unit} (h1:ma τ μ=some (x,μ1)) (h0:Dw x μ1=some (u,μ2)) (h2:as τ μ2=some (ds,μ3)) (h3:f x ds μ3=some (d,μ4)):A9 f ma as τ μ=some (d,μ4):=by unfold A9; rw [AL h1,AL h0,AL h2,h3]
theorem AU (h:ma τ μ=some (.bl b,μ1)):AR ma τ μ=some (b,μ1):=by unfold AR; rw [AL h]; rfl
theorem CB (h:tc τ μ=some (b,μ1)):CG tc τ μ=some (!b,μ1):=by unfold CG; rw [AL h]; rfl
theorem Dz (h1:tc τ μ=some (true,μ1)) (h2:tb τ μ1=some (b,μ2)):G3 tc tb τ μ=some (b,μ2):=by unfold G3; rw [AL h1,if_pos rfl,h2]
theorem GQ (h1:tc τ μ=some (false,μ1)):G3 tc tb τ μ=some (false,μ1):=by unfold G3; rw [AL h1]; rfl
theorem HM (h1:tc τ μ=some (false,μ1)) (h2:tb τ μ1=some (b,μ2)):mOr tc tb τ μ=some (b,μ2):=by unfold mOr; rw [AL h1,if_neg (by decide),h2]
theorem ER (h1:ma τ μ=some (.bl true,μ1)) (h2:mb τ μ1=some (d,μ2)):EK ma mb τ μ=some (d,μ2):=by
  unfold EK; rw [AL h1,AL (show asB (.bl true) μ1=some (true,μ1) from rfl),if_pos rfl,h2]
theorem Rj (h:ma τ μ=some (.bl b,μ1)):J8 ma τ μ=some (.bl (!b),μ1):=by
  unfold J8; rw [AL h,AL (show asB (.bl b) μ1=some (b,μ1) from rfl)]; rfl
theorem Fq (h1:ma τ μ=some (x,μ1)) (h2:mb τ μ1=some (y,μ2)) (h3:g x y μ2=some (.bl true,μ3)) (h4:mc τ μ3=some (z,μ4)) (h5:g' y z μ4=some (d,μ4)):EJ g g' ma mb mc τ μ=some (d,μ4):=by
  unfold EJ; rw [AL h1,AL h2,AL h3,AL (show asB (.bl true) μ3=some (true,μ3) from rfl),if_pos rfl,AL h4,h5]
theorem Ak (h1:m1 τ μ=some ((.next,τ1),μ1)) (h2:m2 τ1 μ1=some (r,μ2)):AV m1 m2 τ μ=some (r,μ2):=by unfold AV; rw [AL h1]; exact h2
theorem BB (h1:m1 τ μ=some ((.rt d,τ1),μ1)):AV m1 m2 τ μ=some ((.rt d,τ1),μ1):=by unfold AV; rw [AL h1]; rfl
theorem El (h1:ma τ μ=some (d,μ1)):Bu ma τ μ=some ((.next,τ),μ1):=by unfold Bu; rw [AL h1]; rfl
theorem Dy (h1:ma τ μ=some (d,μ1)):Am ma τ μ=some ((.rt d,τ),μ1):=by unfold Am; rw [AL h1]; rfl
theorem EM (h1:tc τ μ=some (true,μ1)) (h2:m1 τ μ1=some (r,μ2)):sIf tc m1 m2 τ μ=some (r,μ2):=by unfold sIf; rw [AL h1,if_pos rfl,h2]
theorem EO (h1:tc τ μ=some (false,μ1)) (h2:m2 τ μ1=some (r,μ2)):sIf tc m1 m2 τ μ=some (r,μ2):=by unfold sIf; rw [AL h1,if_neg (by decide),h2]
theorem Ex {bf:D->Sl->M Sl} (h1:ma τ μ=some (d,μ1)) (h2:bf d τ μ1=some (τ1,μ2)):Ae ma bf τ μ=some ((.next,τ1),μ2):=by unfold Ae; rw [AL h1,AL h2]; rfl
theorem DP {src:Sl->M (List D)} {bf:D->Sl->M Sl} (h1:src τ μ=some (ds,μ1)) (h2:DA bf m1 ds τ μ1=some (r,μ2)):Ep src bf m1 τ μ=some (r,μ2):=by unfold Ep; rw [AL h1,h2]
theorem PR {i j:Int} (h:i <= j):Hl (.int i) (.int j) μ=some (.bl true,μ):=by show some (D.bl (decide (i <= j)),μ)=_; rw [decide_eq_true h]
theorem DK {i j:Int} (h:0 < j):BE (.int i) (.int j) μ=some (.int (i % j),μ):=by show (if 0 < j then some (D.int (i % j),μ) else none)=_; rw [if_pos h]
theorem DN {i j:Int} (h:0 < j) (h2:j < 1073741824):BR (.int i) (.int j) μ=some (.int (i / j),μ):=by show (if 0 < j /\ j < 1073741824 then some (D.int (i / j),μ) else none)=_; rw [if_pos ⟨h,h2⟩]
theorem MF {i j:Int} (h:(-(2 ^ 64) < i /\ i < 2 ^ 64) ∨ (-(2 ^ 64) < j /\ j < 2 ^ 64)):FB (.int i) (.int j) μ=some (.int (i * j),μ):=by show (if (-(2 ^ 64) < i /\ i < 2 ^ 64) ∨ (-(2 ^ 64) < j /\ j < 2 ^ 64) then some (D.int (i * j),μ) else none)=_; rw [if_pos h]
theorem II {i:Int}:Di [.int i,.ty "int"] μ=some (.bl true,μ):=by
  show (D4 "int" "int").map (fun b=>(D.bl b,μ))=_; rw [show D4 "int" "int" = some true from by decide]; rfl
theorem IJ {i:Int}:Di [.int i,.ty "bool"] μ=some (.bl false,μ):=by
  show (D4 "int" "bool").map (fun b=>(D.bl b,μ))=_; rw [show D4 "int" "bool" = some false from by decide]; rfl
theorem IH {ds:List D}:Di [.tup ds,.ty "tuple"] μ=some (.bl true,μ):=by
  show (D4 "tuple" "tuple").map (fun b=>(D.bl b,μ))=_; rw [show D4 "tuple" "tuple" = some true from by decide]; rfl
theorem IG {ds:List D} {i:Int} (h2:atI ds i=some d):AN (.tup ds) (.int i) μ=some (d,μ):=by
  show bnd (BU (.tup ds)) (fun ds=>ixD ds i) μ=_
  rw [AL (show BU (.tup ds) μ=some (ds,μ) from rfl)]
  unfold ixD; rw [h2]; rfl
theorem SB {ds:List D} {i:Int} (h2:atI ds i=some d):AN (.lst ds) (.int i) μ=some (d,μ):=by
  show bnd (BU (.lst ds)) (fun ds=>ixD ds i) μ=_
  rw [AL (show BU (.lst ds) μ=some (ds,μ) from rfl)]
  unfold ixD; rw [h2]; rfl
end
end Mi
local macro_rules | `(tactic| wtm_at "own qleaf")=>`(tactic| first | rfl | assumption)
local macro_rules | `(tactic| wtm_at "own qev")=>`(tactic| first
  | (with_reducible apply Mi.ev_nil) | (with_reducible apply Mi.ev_nilA) | (with_reducible apply Mi.ev_c) | (with_reducible apply Mi.ev_noPart) | (with_reducible apply Mi.ev_retN)
  | ((with_reducible apply Mi.As); first | rfl | assumption)
  | ((with_reducible apply Mi.BB); wtm_at "own qev")
  | ((with_reducible apply Mi.Ak); (wtm_at "own qev"); (wtm_at "own qev"))
  | ((with_reducible apply Mi.Ex); (wtm_at "own qev"); (wtm_at "own qev"))
  | ((with_reducible apply Mi.ev_name); rfl)
  | ((with_reducible apply Mi.ev_sub); (wtm_at "own qev"); (wtm_at "own qev"); (wtm_at "own qev"))
  | ((with_reducible apply Mi.El); wtm_at "own qev")
  | ((with_reducible apply Mi.Dy); wtm_at "own qev")
  | ((with_reducible apply Mi.EM); (wtm_at "own qev"); (wtm_at "own qev"))
  | ((with_reducible apply Mi.EO); (wtm_at "own qev"); (wtm_at "own qev"))
  | ((with_reducible apply Mi.KM); (wtm_at "own qev"); (wtm_at "own qev"); (wtm_at "own qev"))
  | ((with_reducible apply Mi.MQ); (wtm_at "own qev"); (wtm_at "own qev"))
  | ((with_reducible apply Mi.CC); (wtm_at "own qev"); (wtm_at "own qev"))
  | ((with_reducible apply Mi.EQ); (wtm_at "own qev"); (wtm_at "own qev"))
  | ((with_reducible apply Mi.Ek); (wtm_at "own qev"); (wtm_at "own qev"); (wtm_at "own qev"); (wtm_at "own qev"))
  | ((with_reducible apply Mi.AU); wtm_at "own qev")
  | ((with_reducible apply Mi.ev_notT); wtm_at "own qev")
  | ((with_reducible apply Mi.ev_notF); wtm_at "own qev")
  | ((with_reducible apply Mi.Dz); (wtm_at "own qev"); (wtm_at "own qev"))
  | ((with_reducible apply Mi.GQ); wtm_at "own qev")
  | ((with_reducible apply Mi.HM); (wtm_at "own qev"); (wtm_at "own qev"))
  | ((with_reducible apply Mi.ev_orT); wtm_at "own qev")
  | ((with_reducible apply Mi.ER); (wtm_at "own qev"); (wtm_at "own qev"))
  | ((with_reducible apply Mi.ev_andVF); wtm_at "own qev")
  | ((with_reducible apply Mi.ev_orVF); (wtm_at "own qev"); (wtm_at "own qev"))
  | ((with_reducible apply Mi.ev_orVT); wtm_at "own qev")
  | ((with_reducible apply Mi.ev_notVT); wtm_at "own qev")
  | ((with_reducible apply Mi.ev_notVF); wtm_at "own qev")
  | ((with_reducible apply Mi.Fq); (wtm_at "own qev"); (wtm_at "own qev"); (wtm_at "own qev"); (wtm_at "own qev"); (wtm_at "own qev"))
  | ((with_reducible apply Mi.ev_chainF); (wtm_at "own qev"); (wtm_at "own qev"); (wtm_at "own qev"))
  | ((with_reducible apply Mi.ev_part); wtm_at "own qev")
  | ((with_reducible apply Mi.ev_sl); (wtm_at "own qev"); (wtm_at "own qev"); (wtm_at "own qev"); (wtm_at "own qev"))
  | wtm_at "own qleaf")
local macro_rules | `(tactic| wtm_at "own qnums")=>`(tactic| first | assumption | decide | omega)
local macro_rules | `(tactic| wtm_at "own qleaf")=>`(tactic| first
  | ((with_reducible apply Mi.PR); wtm_at "own qnums") | ((with_reducible apply Mi.l_leF); wtm_at "own qnums") | ((with_reducible apply Mi.l_lt); wtm_at "own qnums") | ((with_reducible apply Mi.l_ltF); wtm_at "own qnums") | ((with_reducible apply Mi.l_gt); wtm_at "own qnums") | ((with_reducible apply Mi.l_gtF); wtm_at "own qnums")
  | (with_reducible apply Mi.II) | (with_reducible apply Mi.IJ) | (with_reducible apply Mi.l_inst_ss) | (with_reducible apply Mi.IH) | (with_reducible apply Mi.l_add) | (with_reducible apply Mi.l_sub) | ((with_reducible apply Mi.DK); wtm_at "own qnums") | ((with_reducible apply Mi.DN); (wtm_at "own qnums"); (wtm_at "own qnums")) | ((with_reducible apply Mi.MF); first | (left; omega) | (right; omega))
  | ((with_reducible apply Mi.IG); rfl) | ((with_reducible apply Mi.SB); rfl) | ((with_reducible apply Mi.l_ixRef); (first | assumption | rfl); (rfl)) | ((with_reducible apply Mi.l_set); (first | assumption | rfl); (rfl)))
set_option maxHeartbeats 4000000
namespace K13
open PySem L2 Mi Ht
def kdS:Bool->Str
  | true => "safe"
  | false => "steady"
def hdD (n:Str):D:=.tup [.str n,.int 0,.tup []]
def mkD (sf:Bool) (sz bg:Int) (ns:List Str):D:=.tup [.str (kdS sf),.int sz,.int bg,.tup [],.tup (ns.map hdD)]
def tD:Option (List Int)->D
  | none=>.non
  | some l=>.tup (l.map D.int)
def clD (w c:Int) (ts:List (Option (List Int))):D:=.tup [.int w,.int c,.tup (ts.map tD)]
def K9 (n:Nat):List Int:=(List.range n).map Int.ofNat
def bsd (sf:Bool) (sz:Int) (l:List Int) (v:Int):List Int:=if sf then K9 sz.toNat else srt (l ++ [v])
theorem Ay {α:Type} {f:α->D} {k:Nat} (h:∀ a,Cl k (f a)):∀ xs:List α,ClL k (xs.map f)
  | []=>by unfold ClL; trivial
  | x :: xs=>by
    rw [List.map_cons]
    unfold ClL
    exact ⟨h x,Ay h xs⟩
theorem BN (k:Nat) (i:Int):Cl k (.int i):=by unfold Cl; trivial
theorem Ka (k:Nat):∀ t,Cl k (tD t)
  | none=>by unfold tD Cl; trivial
  | some l=>by unfold tD Cl; exact Ay (BN k) l
theorem Fv (k:Nat) (w c:Int) (ts:List (Option (List Int))):Cl k (clD w c ts):=by
  unfold clD Cl ClL
  refine ⟨BN _ _,?_⟩
  unfold ClL
  refine ⟨BN _ _,?_⟩
  unfold ClL
  refine ⟨by unfold Cl; exact Ay (Ka k) ts,by unfold ClL; trivial⟩
section
variable {μ μ1 μ2 μ3 μ4 μ':Mh} {τ τ1:Sl} {x0 d:D} {ds es:List D} {n:Nat}
theorem Ah (h:ds.length <= sizeLine):AX ds μ=some (.tup ds,μ):=by
  unfold AX; rw [AL (show lim ds.length μ=some ((),μ) from by unfold lim; rw [if_pos h])]; rfl
theorem A0 (h:ds.length <= sizeLine):Ar ds μ=some (.lst ds,μ):=by
  unfold Ar; rw [AL (show lim ds.length μ=some ((),μ) from by unfold lim; rw [if_pos h])]; rfl
theorem HL {ma:Sl->M D} {l h:Sl->M (Option Int)} {a b:Option Int} (h1:ma τ μ=some (x0,μ1)) (h2:l τ μ1=some (a,μ2)) (h3:h τ μ2=some (b,μ3)) (h4:Lx a b x0 μ3=some (d,μ4)):FJ ma l h τ μ=some (d,μ4):=by unfold FJ; rw [AL h1,AL h2,AL h3,h4]
theorem GH (h:ds.length + es.length <= sizeLine):AY (.tup ds) (.tup es) μ=some (.tup (ds ++ es),μ):=by
  cases ds with
  | nil=>rfl
  | cons a as=>exact Ah (by simp at h ⊢; omega)
theorem GI (h:ds.length + es.length <= sizeLine):AY (.lst ds) (.lst es) μ=some (.lst (ds ++ es),μ):=A0 (by simpa using h)
theorem Gg {x:Str} (h:PyData.strOk x=true):SeqAt.shaped (.str x)=true:=by
  show (PyData.strOk x && decide ((PyData.str x).depth <= 64))=true
  rw [h]; rfl
theorem G8 {x y:Str} (h1:PyData.strOk x=true) (h2:PyData.strOk y=true):Aj (.str x) (.str y) μ=some (.bl (x == y),μ):=by
  show (if SeqAt.shaped (.str x)=true /\ SeqAt.shaped (.str y)=true then some (D.bl (x == y),μ) else none)=_
  rw [if_pos ⟨Gg h1,Gg h2⟩]
theorem SG:∀ sf,PyData.strOk (kdS sf)=true:=by decide +kernel
theorem PU:∀ sf,(kdS sf == ("whole" : Str))=false:=by decide +kernel
theorem RX:∀ sf,(kdS sf == ("safe" : Str))=sf:=by decide +kernel
theorem RQ {sf:Bool}:Aj (.str (kdS sf)) (.str "whole") μ=some (.bl false,μ):=by rw [G8 (SG sf) (by decide +kernel),PU]
theorem PN {sf:Bool}:Aj (.str (kdS sf)) (.str "safe") μ=some (.bl sf,μ):=by rw [G8 (SG sf) (by decide +kernel),RX]
theorem BI:sizeLine=16777216:=by decide
theorem RU {l:List Int} (h:(BC l).length <= 18):D8 (.tup (l.map D.int)) μ=some (.lst ((srt l).map D.int),μ):=by
  unfold D8
  rw [AL (show BU (.tup (l.map D.int)) μ=some (l.map D.int,μ) from rfl)]
  simp only [IM]
  rw [if_pos h]
theorem Nz {sf:Bool} {sz v:Int} {l:List Int} (h0:0 <= sz) (h1:sz <= 1000) (hl:l.length <= 1000) (hr:(BC (l ++ [v])).length <= 18) :
    CA [.str (kdS sf),.int sz,.tup (l.map D.int),.int v] μ=some (.tup ((bsd sf sz l v).map D.int),μ):=by
  have hz:=BI
  refine AS (g:=[]) (τ2:=Bx 4 [.str (kdS sf),.int sz,.tup (l.map D.int),.int v]) ?_ rfl (by unfold Cl; exact Ay (BN _) _)
  rw [List.append_nil]
  cases sf with
  | true=>
    refine BB (EM (AU (KM (x:=.str (kdS true)) (y:=.str "safe") rfl rfl PN)) (Dy (MQ (x:=.int sz) rfl ?_)))
    show (if 0 <= sz /\ sz <= 1000 then some (D.tup (O6 sz.toNat),μ) else none)=_
    rw [if_pos ⟨h0,h1⟩]
    rfl
  | false=>
    refine Ak (EO (AU (KM (x:=.str (kdS false)) (y:=.str "safe") rfl rfl PN)) rfl) (Dy (CC (ds:=[.lst ((srt (l ++ [v])).map D.int)]) (EQ (ds:=[]) (MQ (x:=.tup ((l ++ [v]).map D.int)) (KM (x:=.tup (l.map D.int)) (y:=.tup [.int v]) rfl rfl ?_) (RU hr)) rfl) rfl))
    rw [GH (by simp; omega),List.map_append]
    rfl
section
variable {ma mb mc:Sl->M D} {x y:D} {g:D->D->M D} {as:Sl->M (List D)} {tc tb:Sl->M Bool} {b:Bool} {m1 m2:Sl->M (Fl × Sl)} {r:Fl × Sl}
theorem po (h1:ma τ μ=some (x,μ)) (h2:mb τ μ=some (y,μ)) (h3:g x y μ=some (d,μ)):mOp g ma mb τ μ=some (d,μ):=KM h1 h2 h3
theorem pn {u:D->M D} (h1:ma τ μ=some (x,μ)) (h3:u x μ=some (d,μ)):mUn u ma τ μ=some (d,μ):=MQ h1 h3
theorem pc (h1:ma τ μ=some (x,μ)) (h2:as τ μ=some (ds,μ)):AC ma as τ μ=some (x :: ds,μ):=EQ h1 h2
theorem pd {f:List D->M D} (h1:as τ μ=some (ds,μ)) (h2:f ds μ=some (d,μ)):AE f as τ μ=some (d,μ):=CC h1 h2
theorem p2 {l h:Sl->M (Option Int)} {a b:Option Int} (h1:ma τ μ=some (x,μ)) (h2:l τ μ=some (a,μ)) (h3:h τ μ=some (b,μ)) (h4:Lx a b x μ=some (d,μ)):FJ ma l h τ μ=some (d,μ):=HL h1 h2 h3 h4
theorem pq (h1:m1 τ μ=some ((.next,τ1),μ)) (h2:m2 τ1 μ=some (r,μ)):AV m1 m2 τ μ=some (r,μ):=Ak h1 h2
theorem pa {bf:D->Sl->M Sl} (h1:ma τ μ=some (d,μ)) (h2:bf d τ μ=some (τ1,μ)):Ae ma bf τ μ=some ((.next,τ1),μ):=Ex h1 h2
theorem piT (h1:tc τ μ=some (true,μ)) (h2:m1 τ μ=some (r,μ)):sIf tc m1 m2 τ μ=some (r,μ):=EM h1 h2
theorem piF (h1:tc τ μ=some (false,μ)) (h2:m2 τ μ=some (r,μ)):sIf tc m1 m2 τ μ=some (r,μ):=EO h1 h2
theorem pr (h1:ma τ μ=some (d,μ)):Am ma τ μ=some ((.rt d,τ),μ):=Dy h1
theorem peT (h1:tc τ μ=some (true,μ)) (h2:ma τ μ=some (d,μ)):mIf tc ma mb τ μ=some (d,μ):=by unfold mIf; rw [AL h1,if_pos rfl,h2]
theorem peF (h1:tc τ μ=some (false,μ)) (h2:mb τ μ=some (d,μ)):mIf tc ma mb τ μ=some (d,μ):=by unfold mIf; rw [AL h1,if_neg (by decide),h2]
end
theorem Fu {α:D} {j:Nat} (h:j <= ds.length):DQ ds none (some (j:Int))=ds.take j:=by
  unfold DQ
  rw [HT.Gi,HT.Iu,Nat.min_eq_left h]
  simp
theorem KU {j:Nat} (h:j <= ds.length):DQ ds (some (j:Int)) none=ds.drop j:=by
  unfold DQ
  rw [HT.Gi,HT.Iu,Nat.min_eq_left h]
  exact List.take_of_length_le (by simp)
theorem Eu {j:Nat} {x:D} (hj:j < ds.length) (hl:ds.length <= 1000) (hc:∀ k,ClL k ds) (hx:∀ k,Cl k x):Al [.tup ds,.int j,x] μ=some (.tup (ds.set j x),μ):=by
  have hz:=BI
  have hcs:∀ (k j:Nat) (ds:List D),ClL k ds->ClL k (ds.set j x):=by
    intro k j ds
    induction ds generalizing j with
    | nil=>intro h; exact h
    | cons a as ih=>
      intro h
      unfold ClL at h
      cases j with
      | zero=>show ClL k (x :: as); unfold ClL; exact ⟨hx k,h.2⟩
      | succ j=>show ClL k (a :: as.set j x); unfold ClL; exact ⟨h.1,ih j h.2⟩
  refine AS (g:=[]) (τ2:=Bx 3 [.tup ds,.int j,x]) ?_ rfl (by unfold Cl; exact hcs _ _ _ (hc _))
  rw [List.append_nil]
  refine pr (po (x:=.tup (ds.take j ++ [x])) (y:=.tup (ds.drop (j + 1))) (po (x:=.tup (ds.take j)) (y:=.tup [x]) (p2 (x:=.tup ds) (a:=none) (b:=some (j:Int)) rfl rfl rfl ?_) rfl (GH (by simp; omega))) (p2 (x:=.tup ds) (a:=some ((j:Int) + 1)) (b:=none) rfl rfl rfl ?_) ?_)
  . show some (D.tup (DQ ds none (some (j:Int))),μ)=_
    rw [Fu (α:=x) (by omega)]
  . show some (D.tup (DQ ds (some ((j:Int) + 1)) none),μ)=_
    rw [show ((j:Int) + 1)=((j + 1:Nat):Int) by omega,KU (by omega)]
  . rw [GH (by simp; omega),List.append_assoc]
    rw [List.set_eq_take_append_cons_drop,if_pos hj]
    rfl
end
end K13
set_option maxHeartbeats 4000000
namespace K13
open PySem L2 Mi Ht
section
variable {μ μ1 μ2 μ3 μ4 μ':Mh} {τ τ1:Sl} {x0 d:D} {ds es:List D} {n:Nat}
theorem Ci {α:Type} {me:Sl->M D} {mc:Sl->M Bool} {τ0:Sl} {f F:α->D} {p:α->Bool}:∀ {xs:List α} {ys:List D},(∀ a ∈ xs,mc (τ0.set 0 (some (f a))) μ=some (p a,μ))->(∀ a ∈ xs,p a=true->me (τ0.set 0 (some (f a))) μ=some (F a,μ))->ET (AM 0) mc me τ0 (xs.map f) ys μ=some (ys ++ (xs.filter p).map F,μ)
  | [],ys,_,_=>by show some (ys,μ)=_; simp
  | z :: xs,ys,hc,h=>by
    show bnd (AM 0 (f z) τ0) _ μ=_
    rw [AL (show AM 0 (f z) τ0 μ=some (τ0.set 0 (some (f z)),μ) from rfl),AL (hc z (by simp))]
    cases q:p z with
    | true=>
      rw [if_pos rfl,AL (h z (by simp) q),Ci (fun w hw=>hc w (by simp [hw])) (fun w hw=>h w (by simp [hw]))]
      simp [q]
    | false=>
      rw [if_neg (by decide),Ci (fun w hw=>hc w (by simp [hw])) (fun w hw=>h w (by simp [hw]))]
      simp [q]
theorem Bn {N:Nat} {ix:List Nat} {src:Sl->M (List D)} {bf:D->Sl->M Sl} {mc:Sl->M Bool} {me:Sl->M D} {fin:List D->M D} (h1:src τ μ=some (ds,μ)) (hl:ds.length <= sizeLine) (h2:ET bf mc me (DH N ix τ) ds [] μ=some (es,μ)) (h3:fin es μ=some (d,μ')):Cm N ix src bf mc me fin τ μ=some (d,μ'):=by
  unfold Cm
  rw [AL h1,AL (show lim ds.length μ=some ((),μ) from by unfold lim; rw [if_pos hl]),AL h2,h3]
theorem CD {α:Type} (xs:List α):xs.filter (fun _=>true)=xs:=by simp
theorem By {ma:Sl->M D} (h:ma τ μ=some (.tup ds,μ)):Ce ma τ μ=some (ds,μ):=by unfold Ce; rw [AL h]; rfl
theorem BJ {ma:Sl->M D} (h:ma τ μ=some (.lst ds,μ)):Ce ma τ μ=some (ds,μ):=by unfold Ce; rw [AL h]; rfl
theorem EG {sf:Bool} {sz bg:Int} {ns:List Str} {m1:Sl->M (Fl × Sl)} (h:τ[0]? = some (some (mkD sf sz bg ns))):sIf (AR (mOp Aj (mOp AN (AB 0) (mC (.int 0))) (mC (.str "whole")))) m1 A1 τ μ=some ((.next,τ),μ):=
  piF (AU (po (x:=.str (kdS sf)) (y:=.str "whole") (po (x:=mkD sf sz bg ns) (y:=.int 0) (As h) rfl rfl) rfl RQ)) rfl
theorem FN {α:Type} (a:α):∀ k:Nat,(List.replicate k [a]).flatten=List.replicate k a
  | 0=>rfl
  | k + 1=>by rw [List.replicate_succ,List.flatten_cons,FN a k]; rfl
variable {sf:Bool} {sz bg:Int} {ns:List Str}
theorem QO (h:ns.length <= 1000) (h2:2 <= ns.length):BD [mkD sf sz bg ns] μ=some (clD bg (-1) (List.replicate (ns.length - 1) none),μ):=by
  have hz:=BI
  refine AS (g:=[]) (τ2:=[some (mkD sf sz bg ns),some (.int ((ns.length:Int) - 1))]) ?_ rfl (Fv _ _ _ _)
  rw [List.append_nil]
  refine pq (pa (d:=.int ((ns.length:Int) - 1)) (po (x:=.int ns.length) (y:=.int 1) (pd (ds:=[.tup (ns.map hdD)]) rfl ?_) rfl rfl) rfl) (pq (EG rfl) (pr (pd (ds:=[.int bg,.int (-1),.tup ((List.replicate (ns.length - 1) none).map tD)]) (pc (x:=.int bg) rfl (pc (x:=.int (-1)) rfl (pc (po (x:=.tup [.non]) (y:=.int ((ns.length:Int) - 1)) rfl rfl ?_) rfl))) (Ah (by simp; omega)))))
  . show some (D.int (((ns.map hdD).length:Nat):Int),μ)=_
    rw [List.length_map]
  . show (if [D.non] ≠ [] /\ [D.non].length <= 1000 /\ 1 <= ((ns.length:Int) - 1) /\ ((ns.length:Int) - 1) <= 1000 then some (D.tup (List.replicate ((ns.length:Int) - 1).toNat [D.non]).flatten,μ) else none)=_
    rw [if_pos ⟨by simp,by simp,by omega,by omega⟩,FN,List.map_replicate,show ((ns.length:Int) - 1).toNat=ns.length - 1 by omega]
    rfl
def Hf (l:List Int):Prop:=l.length <= 100 /\ ∀ x ∈ l,0 <= x /\ x < 10
theorem Ge {l:List Int} (h:∀ x ∈ l,0 <= x /\ x < 10):(BC l).length <= 18:=by
  have h1:=FF (r:=(List.range 10).map Int.ofNat) (G1 l) fun x hx=>by
    obtain ⟨a,b⟩:=h x ((J2 l x).mp hx)
    exact List.mem_map.mpr ⟨x.toNat,List.mem_range.mpr (by omega),by show ((x.toNat:Nat):Int)=x; omega⟩
  simp at h1
  omega
def D6 (sf:Bool) (sz w c:Int):List Int:=if c = -1 then [w] else bsd sf sz [w] c
theorem N7 {ts:List (Option (List Int))} {r:Nat} {t:Option (List Int)}:(ts.map tD).set r (tD t)=(ts.set r t).map tD:=by rw [List.map_set]
theorem VA {i j:Int}:Qq (.int i) (.int j) μ=some (.bl (!(i == j)),μ):=rfl
theorem IU:∀ xs:List Int,Dx (xs.map D.int)=some (xs.map V.int)
  | []=>rfl
  | x :: r=>by show (F2 (.int x)).bind _=_; rw [IU r]; rfl
theorem KH {x:Int}:∀ xs:List Int,inV (.int x) (xs.map V.int)=decide (x ∈ xs)
  | []=>rfl
  | y :: r=>by
    have h:=KH (x:=x) r
    unfold inV at h ⊢
    rw [List.map_cons,List.any_cons,h]
    show ((y == x) || decide (x ∈ r))=_
    by_cases e:x=y
    . subst e; simp
    . have:(y == x)=false:=beq_eq_false_iff_ne.mpr fun z=>e z.symm
      rw [this,Bool.false_or]; simp [e]
theorem SD {neg:Bool} {c:D} {x:Int} {xs:List Int} (h:BU c μ=some (xs.map D.int,μ)):Er neg (.int x) c μ=some (.bl (if neg then !decide (x ∈ xs) else decide (x ∈ xs)),μ):=by
  show F0 neg (.int x) c μ=_
  unfold F0
  rw [AL h]
  simp only [IU]
  show some (D.bl (if neg then !inV (.int x) (xs.map V.int) else inV (.int x) (xs.map V.int)),μ)=_
  rw [KH]
theorem DF {ds:List D} {r:Nat} {x:D} (h:ds[r]? = some x):atI ds (r:Int)=some x:=by
  have hr:r < ds.length:=(List.getElem?_eq_some_iff.mp h).1
  unfold atI ixN
  rw [if_pos (by omega),if_pos (by omega)]
  simpa using h
end
end K13
set_option maxHeartbeats 4000000
namespace K13
open PySem L2 Mi Ht
inductive Ev where
  | wb (v:Int) | we | rb (r:Nat) | re (r:Nat) (v:Int)
deriving DecidableEq
def Ev.beg:Ev->Bool
  | .wb _=>true
  | .we=>false
  | .rb _=>true
  | .re _ _=>false
def Ev.hand:Ev->Nat
  | .wb _=>0
  | .we=>0
  | .rb r=>r + 1
  | .re r _=>r + 1
def Ev.val:Ev->Option Int
  | .wb v=>some v
  | .re _ v=>some v
  | _=>none
abbrev nm (ns:List Str) (h:Nat):Str:=ns.getD h "w"
def bS:Bool->Str
  | true => "begin"
  | false => "end"
def evD (ns:List Str) (e:Ev):D:=.tup (D.str (bS e.beg) :: .str (nm ns e.hand) :: (match e.val with | some v=>[.int v] | none=>[]))
def A3 (e:Ev) (g:Int):D:=.tup [.str (bS e.beg),.int e.hand,.int (e.val.getD (-1)),.int g]
structure Ns (ns:List Str):Prop where
  ok:∀ n ∈ ns,PyData.strOk n=true
  nd:ns.Nodup
  lo:2 <= ns.length
  hi:ns.length <= 4
structure Ev.Ok (ns:List Str) (sz:Int) (e:Ev):Prop where
  h:e.hand < ns.length
  v:∀ v,e.val=some v->0 <= v /\ v < sz
theorem Ns.nok {ns:List Str} (N:Ns ns) {h:Nat} (hh:h < ns.length):PyData.strOk (nm ns h)=true:=N.ok _ (by simp [nm,hh])
theorem Ns.mem {ns:List Str} {h:Nat} (hh:h < ns.length):nm ns h ∈ ns:=by simp [nm,hh]
theorem Ns.inj {ns:List Str} (N:Ns ns) {h k:Nat} (hh:h < ns.length) (hk:k < ns.length) (e:nm ns h=nm ns k):h=k:=by
  have e':ns[h]=ns[k]:=by simpa [nm,hh,hk] using e
  exact (List.getElem_inj N.nd).mp e'
section
variable {μ μ1 μ2 μ3 μ4 μ':Mh} {τ τ1:Sl} {x0 d:D} {ds es:List D} {n:Nat}
variable {sf:Bool} {sz bg:Int} {ns:List Str}
theorem SQ:∀ b,PyData.strOk (bS b)=true:=by decide +kernel
theorem T8:∀ b,(bS b == ("begin" : Str))=b:=by decide +kernel
theorem T7:∀ b,(bS b == ("end" : Str)) = !b:=by decide +kernel
theorem KA {b:Bool}:Aj (.str (bS b)) (.str "begin") μ=some (.bl b,μ):=by rw [G8 (SQ b) (by decide +kernel),T8]
theorem VE {b:Bool}:Aj (.str (bS b)) (.str "end") μ=some (.bl (!b),μ):=by rw [G8 (SQ b) (by decide +kernel),T7]
theorem SF {a b:Bool}:Aj (.bl a) (.bl b) μ=some (.bl (a == b),μ):=by cases a <;> cases b <;> rfl
theorem CH {i j:Int}:Aj (.int i) (.int j) μ=some (.bl (i == j),μ):=rfl
theorem Tl (N:Ns ns) {h k:Nat} (hh:h < ns.length) (hk:k < ns.length):Aj (.str (nm ns h)) (.str (nm ns k)) μ=some (.bl (h == k),μ):=by
  rw [G8 (N.nok hh) (N.nok hk)]
  by_cases e:h=k
  . subst e; simp
  . rw [beq_eq_false_iff_ne.mpr e,beq_eq_false_iff_ne.mpr fun z=>e (N.inj hh hk z)]
theorem Fm:∀ xs:List Str,Dx (xs.map D.str)=some (xs.map V.str)
  | []=>rfl
  | x :: r=>by show (F2 (.str x)).bind _=_; rw [Fm r]; rfl
theorem KG {x:Str}:∀ xs:List Str,inV (.str x) (xs.map V.str)=decide (x ∈ xs)
  | []=>rfl
  | y :: r=>by
    have h:=KG (x:=x) r
    unfold inV at h ⊢
    rw [List.map_cons,List.any_cons,h]
    show ((y == x) || decide (x ∈ r))=_
    by_cases e:x=y
    . subst e; simp
    . have:(y == x)=false:=beq_eq_false_iff_ne.mpr fun z=>e z.symm
      rw [this,Bool.false_or]; simp [e]
theorem SC {neg:Bool} {c:D} {x:Str} {xs:List Str} (h:BU c μ=some (xs.map D.str,μ)):F0 neg (.str x) c μ=some (.bl (if neg then !decide (x ∈ xs) else decide (x ∈ xs)),μ):=by
  unfold F0
  rw [AL h]
  simp only [Fm]
  show some (D.bl (if neg then !inV (.str x) (xs.map V.str) else inV (.str x) (xs.map V.str)),μ)=_
  rw [KG]
theorem QK {v lo hi:Int} (h0:lo <= v) (h1:v <= hi):DC [.int v,.int lo,.int hi] μ=some (.bl true,μ):=by
  refine AS (g:=[]) (τ2:=[some (.int v),some (.int lo),some (.int hi)]) ?_ rfl (by unfold Cl; trivial)
  rw [List.append_nil]
  exact pr (ER (μ1:=μ) (pd (ds:=[.int v,.ty "int"]) rfl II) (ER (μ1:=μ) (Rj (b:=false) (pd (ds:=[.int v,.ty "bool"]) rfl IJ)) (Fq (μ1:=μ) (μ2:=μ) (μ3:=μ) (x:=.int lo) (y:=.int v) (z:=.int hi) rfl rfl (PR h0) rfl (PR h1))))
theorem QL {lo hi:Int} (h0:lo <= ds.length) (h1:ds.length <= hi):CT [.tup ds,.int lo,.int hi] μ=some (.bl true,μ):=by
  refine AS (g:=[]) (τ2:=[some (.tup ds),some (.int lo),some (.int hi)]) ?_ rfl (by unfold Cl; trivial)
  rw [List.append_nil]
  exact pr (ER (μ1:=μ) (pd (ds:=[.tup ds,.ty "tuple"]) rfl IH) (Fq (μ1:=μ) (μ2:=μ) (μ3:=μ) (x:=.int lo) (y:=.int ds.length) (z:=.int hi) rfl (pd (ds:=[.tup ds]) rfl rfl) (PR h0) rfl (PR h1)))
def evL (ns:List Str) (e:Ev):List D:=D.str (bS e.beg) :: .str (nm ns e.hand) :: (match e.val with | some v=>[.int v] | none=>[])
theorem T3 {e:Ev}:evD ns e=.tup (evL ns e):=rfl
theorem MS {e:Ev}:(evL ns e).length=if e.val.isSome then 3 else 2:=by cases e <;> rfl
theorem QN (N:Ns ns) {e:Ev} (h:e.Ok ns sz):Bt [evD ns e,.lst (ns.map D.str),.int sz] μ=some (.bl true,μ):=by
  have hz:=BI
  have hlo:=N.lo
  refine AS (g:=[]) (τ2:=[some (evD ns e),some (.lst (ns.map D.str)),some (.int sz)]) ?_ rfl (by unfold Cl; trivial)
  rw [List.append_nil]
  have len:=MS (ns:=ns) (e:=e)
  have i0:mOp AN (AB 0) (mC (.int 0)) [some (evD ns e),some (.lst (ns.map D.str)),some (.int sz)] μ=some (.str (bS e.beg),μ):=by cases e <;> rfl
  have i1:mOp AN (AB 0) (mC (.int 1)) [some (evD ns e),some (.lst (ns.map D.str)),some (.int sz)] μ=some (.str (nm ns e.hand),μ):=by cases e <;> rfl
  have t1:CG (AR (AE CT (AC (AB 0) (AC (mC (.int 2)) (AC (mC (.int 3)) AJ))))) [some (evD ns e),some (.lst (ns.map D.str)),some (.int sz)] μ=some (false,μ):=
    CB (b:=true) (AU (pd (ds:=[evD ns e,.int 2,.int 3]) rfl (by rw [T3]; exact QL (by rw [len]; split <;> decide) (by rw [len]; split <;> decide))))
  have t2:AR (mOp (Er true) (mOp AN (AB 0) (mC (.int 0))) (AE AX (AC (mC (.str "begin")) (AC (mC (.str "end")) AJ)))) [some (evD ns e),some (.lst (ns.map D.str)),some (.int sz)] μ=some (false,μ):=by
    refine AU (po (x:=.str (bS e.beg)) (y:=.tup [.str "begin",.str "end"]) i0 (pd (ds:=[.str "begin",.str "end"]) rfl (Ah (by simp; omega))) ?_)
    show F0 true (.str (bS e.beg)) (.tup ((["begin", "end"]:List Str).map D.str)) μ=_
    rw [SC rfl]
    cases e.beg <;> rfl
  have t3:AR (mOp (Er true) (mOp AN (AB 0) (mC (.int 1))) (AB 1)) [some (evD ns e),some (.lst (ns.map D.str)),some (.int sz)] μ=some (false,μ):=by
    refine AU (po (x:=.str (nm ns e.hand)) (y:=.lst (ns.map D.str)) i1 rfl ?_)
    show F0 true (.str (nm ns e.hand)) (.lst (ns.map D.str)) μ=_
    rw [SC rfl,decide_eq_true (Ns.mem h.h)]
    rfl
  have t4:AR (mOp Aj (mOp Aj (mOp AN (AB 0) (mC (.int 0))) (mC (.str "begin"))) (mOp Aj (mOp AN (AB 0) (mC (.int 1))) (mOp AN (AB 1) (mC (.int 0))))) [some (evD ns e),some (.lst (ns.map D.str)),some (.int sz)] μ=some (e.val.isSome,μ):=by
    refine AU ?_
    have n0:(ns.map D.str)[0]? = some (D.str (nm ns 0)):=by
      rw [List.getElem?_map,List.getElem?_eq_getElem (by omega)]
      simp [nm,show 0 < ns.length by omega]
    refine po (x:=.bl e.beg) (y:=.bl (e.hand == 0)) (po (x:=.str (bS e.beg)) (y:=.str "begin") i0 rfl KA) (po (x:=.str (nm ns e.hand)) (y:=.str (nm ns 0)) i1 (po (x:=.lst (ns.map D.str)) (y:=.int 0) rfl rfl (SB (DF (r:=0) n0))) (Tl N h.h (by omega))) ?_
    rw [SF]
    cases e <;> rfl
  refine pq (piF (HM t1 (HM t2 t3)) rfl) ?_
  cases hv:e.val with
  | none=>
    rw [hv] at t4 len
    refine pq (piF t4 rfl) (pr (po (x:=.int 2) (y:=.int 2) (pd (ds:=[.tup (evL ns e)]) rfl ?_) rfl rfl))
    show some (D.int (((evL ns e).length:Nat):Int),μ)=_
    rw [len]; rfl
  | some v=>
    rw [hv] at t4 len
    obtain ⟨v0,v1⟩:=h.v v hv
    have i2:mOp AN (AB 0) (mC (.int 2)) [some (evD ns e),some (.lst (ns.map D.str)),some (.int sz)] μ=some (.int v,μ):=by cases e <;> cases hv <;> rfl
    refine BB (piT t4 (pr (ER (μ1:=μ) (po (x:=.int 3) (y:=.int 3) (pd (ds:=[.tup (evL ns e)]) rfl ?_) rfl rfl) (pd (ds:=[.int v,.int 0,.int (sz - 1)]) (pc i2 rfl) (QK v0 (by omega))))))
    show some (D.int (((evL ns e).length:Nat):Int),μ)=_
    rw [len]; rfl
structure C3 where
  w:Int
  c:Int
  ts:List (Option (List Int))
def C3.toD (k:C3):D:=clD k.w k.c k.ts
def C3.step (sf:Bool) (sz:Int) (k:C3):Ev->Option C3
  | .wb v=>some ⟨k.w,v,k.ts.map (Option.map fun l=>bsd sf sz l v)⟩
  | .we=>some ⟨k.c,-1,k.ts⟩
  | .rb r=>some ⟨k.w,k.c,k.ts.set r (some (D6 sf sz k.w k.c))⟩
  | .re r v=>match k.ts[r]? with
    | some (some l)=>if v ∈ l then some ⟨k.w,k.c,k.ts.set r none⟩ else none
    | _=>none
def oD:Option C3->D
  | some k=>k.toD
  | none=>.non
structure C3.Ok (k:C3) (rs:Nat):Prop where
  w:0 <= k.w /\ k.w < 10
  c:k.c ≠ -1->0 <= k.c /\ k.c < 10
  ts:∀ l,some l ∈ k.ts->Hf l
  n:k.ts.length=rs
  m:rs <= 3
def C3.fits (k:C3):Ev->Prop
  | .wb v=>0 <= v /\ v < 10
  | .we=>k.c ≠ -1
  | .rb r=>r < k.ts.length
  | .re r _=>∃ l,k.ts[r]? = some (some l)
end
end K13
set_option maxHeartbeats 4000000
namespace K13
open PySem L2 Mi Ht
def wfG:(Nat->Bool)->List Ev->Prop
  | _,[]=>True
  | G,e :: es=>G e.hand = !e.beg /\ wfG (fun h=>if h=e.hand then e.beg else G h) es
def DG (L:List (Key × D)) (G:Nat->Bool):Prop:=∀ h:Nat,(Cc L (.inl (h:Int))=none /\ G h=false) ∨ ∃ g:Int,Cc L (.inl (h:Int))=some (.int g) /\ G h=true
theorem Ld (L:List (Key × D)) (k k':Key) (d:D):Cc (Db L k d) k'=if k'=k then some d else Cc L k':=by
  unfold Db
  split
  . rename_i h
    induction L with
    | nil=>simp at h
    | cons a L ih=>
      unfold Cc at ih ⊢
      rw [List.map_cons,List.find?_cons,List.find?_cons]
      by_cases ha:a.1=k
      . rw [if_pos ha]
        by_cases hk:k'=k
        . subst hk; simp [ha]
        . have : ¬ a.1=k':=fun z=>hk (z.symm.trans ha)
          simp only [this,decide_false,hk,if_false]
          by_cases hany:(L.any fun kv=>decide (kv.1=k))=true
          . have:=ih hany
            simpa [hk] using this
          . have hm:L.map (fun kv=>if kv.1=k then (kv.1,d) else kv)=L:=by
              conv=>rhs; rw [← List.map_id L]
              refine List.map_congr_left fun b hb=>?_
              rw [if_neg fun z=>hany (List.any_eq_true.mpr ⟨b,hb,by simpa using z⟩)]
              rfl
            rw [hm]
      . rw [if_neg ha]
        have hany:(L.any fun kv=>decide (kv.1=k))=true:=by simpa [ha] using h
        have:=ih hany
        by_cases hk:a.1=k'
        . have hne : ¬ k'=k:=fun z=>ha (hk.trans z)
          simp [hk,hne]
        . simp only [hk,decide_false]
          exact this
  . rename_i h
    unfold Cc
    rw [List.find?_append]
    by_cases hk:k'=k
    . subst hk
      have:L.find? (fun kv=>decide (kv.1=k'))=none:=by
        rw [List.find?_eq_none]
        intro b hb z
        exact h (List.any_eq_true.mpr ⟨b,hb,z⟩)
      rw [this]
      simp
    . rw [if_neg hk]
      have : ¬ k=k':=fun z=>hk z.symm
      cases L.find? (fun kv=>decide (kv.1=k')) <;> simp [this]
theorem Nv (L:List (Key × D)) (k k':Key):Cc (Dk L k) k'=if k'=k then none else Cc L k':=by
  unfold Dk Cc
  induction L with
  | nil=>simp
  | cons a L ih=>
    by_cases ha:a.1=k
    . rw [List.filter_cons_of_neg (by simp [ha]),ih]
      by_cases hk:k'=k
      . simp [hk]
      . have : ¬ a.1=k':=fun z=>hk (z.symm.trans ha)
        simp [hk,List.find?_cons,this]
    . rw [List.filter_cons_of_pos (by simp [ha]),List.find?_cons,List.find?_cons]
      by_cases hk:a.1=k'
      . have : ¬ k'=k:=fun z=>ha (hk.trans z)
        simp [hk,this]
      . simp only [hk,decide_false]
        exact ih
theorem Qt (L:List (Key × D)) (k:Key) (d:D):(Db L k d).length <= L.length + 1:=by unfold Db; split <;> simp
theorem Ps (L:List (Key × D)) (k:Key):(Dk L k).length <= L.length:=List.length_filter_le _ _
theorem DG.put {L:List (Key × D)} {G:Nat->Bool} (h:DG L G) (k:Nat) (g:Int):DG (Db L (.inl (k:Int)) (.int g)) (fun h=>if h=k then true else G h):=fun j=>by
  rw [Ld]
  by_cases e:j=k
  . subst e; exact .inr ⟨g,by simp,by simp⟩
  . have : ¬ (Sum.inl (j:Int):Key)=.inl (k:Int):=fun z=>e (by have:=Sum.inl.inj z; omega)
    simp only [this,if_false,e]
    exact h j
theorem DG.drop {L:List (Key × D)} {G:Nat->Bool} (h:DG L G) (k:Nat):DG (Dk L (.inl (k:Int))) (fun h=>if h=k then false else G h):=fun j=>by
  rw [Nv]
  by_cases e:j=k
  . subst e; exact .inl ⟨by simp,by simp⟩
  . have : ¬ (Sum.inl (j:Int):Key)=.inl (k:Int):=fun z=>e (by have:=Sum.inl.inj z; omega)
    simp only [this,if_false,e]
    exact h j
section
variable {μ μ1 μ2 μ3 μ4 μ':Mh} {τ τ1:Sl} {x0 d:D} {ds es:List D} {n:Nat}
variable {sf:Bool} {sz bg:Int} {ns:List Str}
theorem g2a {a b:MO}:(μ ++ [a,b])[μ.length]? = some a:=by rw [List.getElem?_append_right (Nat.le_refl _)]; simp
theorem g2b {a b:MO}:(μ ++ [a,b])[μ.length + 1]? = some b:=by rw [List.getElem?_append_right (by omega)]; simp
theorem s2a {a b c:MO}:(μ ++ [a,b]).set μ.length c=μ ++ [c,b]:=by rw [List.set_append_right _ _ (Nat.le_refl _)]; simp
theorem s2b {a b c:MO}:(μ ++ [a,b]).set (μ.length + 1) c=μ ++ [a,c]:=by rw [List.set_append_right _ _ (by omega)]; simp
theorem FT {L:List (Key × D)} (h:μ[n]? = some (.dK L)):D3 (.ref n) μ=some ((n,L),μ):=by unfold D3; dsimp only; rw [h]
theorem Tm {L:List (Key × D)} {k:Int} (h:μ[n]? = some (.dK L)):KQ false (.int k) (.ref n) μ=some (.bl (Cc L (.inl k)).isSome,μ):=by
  unfold KQ
  rw [AL (FT h)]
  rfl
theorem MG {L:List (Key × D)} {k:Int} (h:μ[n]? = some (.dK L)) (hv:Cc L (.inl k)=some d):F5 (.ref n) (.int k) μ=some (d,μ):=by
  unfold F5
  rw [AL (FT h)]
  show (Cc L (.inl k)).map (fun v=>(v,μ))=_
  rw [hv]; rfl
theorem Pj {mo mi mv:Sl->M D} {v:D} {k:Int} {L:List (Key × D)} (h1:mv τ μ=some (v,μ)) (h2:mo τ μ=some (.ref n,μ)) (h3:mi τ μ=some (.int k,μ)) (h:μ[n]? = some (.dK L)) (hl:L.length < sizeLine):IA mo mi mv τ μ=some ((.next,τ),μ.set n (.dK (Db L (.inl k) v))):=by
  unfold IA
  rw [AL h1,AL h2,AL h3,AL (FT h)]
  show (if L.length < sizeLine then some ((Fl.next,τ),μ.set n (.dK (Db L (.inl k) v))) else none)=_
  rw [if_pos hl]
theorem Rk {mo mi:Sl->M D} {k:Int} {L:List (Key × D)} (h2:mo τ μ=some (.ref n,μ)) (h3:mi τ μ=some (.int k,μ)) (h:μ[n]? = some (.dK L)) (hv:Cc L (.inl k)=some d):IF mo mi τ μ=some (d,μ.set n (.dK (Dk L (.inl k)))):=by
  unfold IF
  rw [AL h2,AL (show JP (.ref n) μ=some ((),μ) from by unfold JP; rw [AL (FT h)]; rfl),AL h3]
  unfold SL
  rw [AL (FT h)]
  show (Cc L (.inl k)).map (fun v=>(v,μ.set n (MO.dK (Dk L (.inl k)))))=_
  rw [hv]; rfl
theorem BG (h:μ[n]? = some (.lst ds)):Dw (.ref n) μ=some ((),μ):=by
  unfold Dw
  rw [AL (show Ck (.ref n) μ=some (ds,μ) from by unfold Ck; dsimp only; rw [h])]
  rfl
theorem Ca (h:μ[n]? = some (.lst ds)) (hl:ds.length < sizeLine):EY (.ref n) [d] μ=some (.non,μ.set n (.lst (ds ++ [d]))):=by
  show Jf n _ μ=_
  unfold Jf
  rw [h]
  show Option.map _ (if ds.length < sizeLine then some (D.non,ds ++ [d]) else none)=_
  rw [if_pos hl]
  rfl
theorem MN:∀ {ns:List Str} {h:Nat},ns.Nodup->h < ns.length->(ns.map V.str).findIdx? (fun z=>eqV z (V.str (nm ns h)))=some h
  | [],h,_,hh=>absurd hh (by simp)
  | n :: ns,0,_,_=>by
    rw [List.map_cons,List.findIdx?_cons]
    show (if (n == n)=true then some 0 else _)=_
    simp
  | n :: ns,h + 1,nd,hh=>by
    obtain ⟨h1,h2⟩:=List.nodup_cons.mp nd
    have hh':h < ns.length:=by simpa using hh
    have e:nm (n :: ns) (h + 1)=nm ns h:=by simp [nm]
    rw [List.map_cons,List.findIdx?_cons,e]
    have:eqV (V.str n) (V.str (nm ns h))=false:=by
      show (n == nm ns h)=false
      exact beq_eq_false_iff_ne.mpr fun z=>h1 (z ▸ Ns.mem hh')
    rw [this,MN h2 hh']
    rfl
theorem VB (N:Ns ns) {h:Nat} (hh:h < ns.length):HF (.lst (ns.map D.str)) [.str (nm ns h)] μ=some (.int h,μ):=by
  unfold HF
  rw [AL (show Dw (.lst (ns.map D.str)) μ=some ((),μ) from rfl)]
  show bnd (BU (.lst (ns.map D.str))) (fun ds=>fun μ=>match F2 (.str (nm ns h)),Dx ds with
    | some y,some xs=>(xs.findIdx? fun z=>eqV z y).map fun (j:Nat)=>(D.int (j:Int),μ)
    | _,_=>none) μ=_
  rw [AL (show BU (.lst (ns.map D.str)) μ=some (ns.map D.str,μ) from rfl)]
  simp only [Fm]
  show Option.map _ ((ns.map V.str).findIdx? fun z=>eqV z (V.str (nm ns h)))=_
  rw [MN N.nd hh]
  rfl
noncomputable abbrev V1:Sl->M (Fl × Sl):=(AV (sIf (CG (AR (AE Bt (AC (AB 7) (AC (AB 2) (AC (mOp AN (AB 0) (mC (.int 1))) AJ)))))) C4 A1)
    (AV (Ae (A9 HF (AB 2) (AC (mOp AN (AB 7) (mC (.int 1))) AJ)) (AM 8))
    (AV (sIf (AR (mOp Aj (mOp Aj (mOp AN (AB 7) (mC (.int 0))) (mC (.str "begin"))) (mOp (KQ false) (AB 8) (AB 3)))) C4 A1)
    (AV (sIf (AR (mOp Aj (mOp AN (AB 7) (mC (.int 0))) (mC (.str "begin")))) (AV (IA (AB 3) (AB 8) (AB 5))
    (Ae (mOp JC (AB 5) (mC (.int 1))) (AM 5))) A1)
    (AV (Bu (A9 EY (AB 4) (AC (AE AX (AC (mOp AN (AB 7) (mC (.int 0))) (AC (AB 8) (AC (mIf (AR (mOp Aj (AE Ct (AC (AB 7) AJ)) (mC (.int 3)))) (mOp AN (AB 7) (mC (.int 2))) (mC Ba)) (AC (mOp F5 (AB 3) (AB 8)) AJ))))) AJ)))
    (sIf (AR (mOp Aj (mOp AN (AB 7) (mC (.int 0))) (mC (.str "end")))) (Bu (IF (AB 3) (AB 8))) A1))))))
theorem Ac {bf:D->Sl->M Sl} {m1:Sl->M (Fl × Sl)} {x:D} {τ2:Sl} {r:Fl × Sl} (h1:bf x τ μ=some (τ1,μ1)) (h2:m1 τ1 μ1=some ((.next,τ2),μ2)) (h3:DA bf m1 ds τ2 μ2=some (r,μ3)):DA bf m1 (x :: ds) τ μ=some (r,μ3):=by
  show bnd (bf x τ) _ μ=_
  rw [AL h1,AL h2]
  exact h3
theorem QI {e:Ev} {S:Sl} {M:Mh} {o:D} {g:Int} (he:e.Ok ns sz) (h7:S[7]? = some (some (evD ns e))) (h8:S[8]? = some (some (.int e.hand))) (h3:S[3]? = some (some o)) (hg:F5 o (.int e.hand) M=some (.int g,M)) :
    AE AX (AC (mOp AN (AB 7) (mC (.int 0))) (AC (AB 8) (AC (mIf (AR (mOp Aj (AE Ct (AC (AB 7) AJ)) (mC (.int 3)))) (mOp AN (AB 7) (mC (.int 2))) (mC Ba)) (AC (mOp F5 (AB 3) (AB 8)) AJ)))) S M=some (A3 e g,M):=by
  have hz:=BI
  have s7:=As (μ:=M) h7
  have len:=MS (ns:=ns) (e:=e)
  have tl:AR (mOp Aj (AE Ct (AC (AB 7) AJ)) (mC (.int 3))) S M=some (e.val.isSome,M):=by
    refine AU (po (x:=.int ((evL ns e).length:Nat)) (y:=.int 3) (pd (ds:=[.tup (evL ns e)]) (pc s7 rfl) rfl) rfl ?_)
    rw [CH,len]
    cases e <;> rfl
  have iv:mIf (AR (mOp Aj (AE Ct (AC (AB 7) AJ)) (mC (.int 3)))) (mOp AN (AB 7) (mC (.int 2))) (mC Ba) S M=some (.int (e.val.getD (-1)),M):=by
    cases hv:e.val with
    | none=>rw [hv] at tl; exact peF tl rfl
    | some v=>
      rw [hv] at tl
      refine peT tl (po (x:=evD ns e) (y:=.int 2) s7 rfl ?_)
      cases e <;> cases hv <;> rfl
  exact pd (ds:=[.str (bS e.beg),.int e.hand,.int (e.val.getD (-1)),.int g]) (pc (po (x:=evD ns e) (y:=.int 0) s7 rfl (by cases e <;> rfl)) (pc (As h8) (pc iv (pc (po (x:=o) (y:=.int e.hand) (As h3) (As h8) hg) rfl)))) (Ah (by simp; omega))
end
end K13
set_option maxHeartbeats 4000000
namespace K13
open PySem L2 Mi Ht
def A2 (sf:Bool) (sz:Int):C3->List Ev->Bool
  | _,[]=>true
  | k,e :: es=>match k.step sf sz e with
    | none=>false
    | some k'=>A2 sf sz k' es
def GO (sf:Bool) (sz:Int) (m:Nat):C3->List Ev->Prop
  | _,[]=>True
  | k,e :: es=>k.fits e /\ ∀ k',k.step sf sz e=some k'->k'.Ok m /\ GO sf sz m k' es
section
variable {μ μ1 μ2 μ3 μ4 μ':Mh} {τ τ1:Sl} {x0 d:D} {ds:List D} {n:Nat}
variable {sf:Bool} {sz bg:Int} {ns:List Str}
theorem T5 {k:Nat} (p:Ev × Int):Cl k (A3 p.1 p.2):=by simp [A3,Cl,ClL]
theorem IV {bf:D->Sl->M Sl} {m1:Sl->M (Fl × Sl)} {x:D} {τ2:Sl} (h1:bf x τ μ=some (τ1,μ1)) (h2:m1 τ1 μ1=some ((.rt d,τ2),μ2)):DA bf m1 (x :: ds) τ μ=some ((.rt d,τ2),μ2):=by
  show bnd (bf x τ) _ μ=_
  rw [AL h1,AL h2]
  rfl
def C3.start (bg:Int) (n:Nat):C3:=⟨bg,-1,List.replicate n none⟩
theorem Jk {n:Nat} (hn:n <= 3) (h0:0 <= bg) (h1:bg < 10):(C3.start bg n).Ok n:=⟨⟨h0,h1⟩,fun z=>absurd rfl z,fun l hl=>(by
    have hl:some l ∈ List.replicate n (none:Option (List Int)):=hl
    have:=List.eq_of_mem_replicate hl
    cases this),(by simp [C3.start]),hn⟩
theorem Ez:∀ {es:List Ev} {gs:List Int},gs.length=es.length->(es.zip gs).map (·.1)=es
  | [],[],_=>rfl
  | e :: es,g :: gs,h=>by rw [List.zip_cons_cons,List.map_cons,Ez (by simpa using h)]
  | [],_ :: _,h=>by simp at h
  | _ :: _,[],h=>by simp at h
end
end K13
set_option maxHeartbeats 4000000
namespace K13
open PySem L2 Mi Ht
def JU (es:List Ev) (k:Nat):List Nat:=((List.range (es.length - k)).filter fun j=>decide (es[k + j]? = some .we)).map (k + ·)
def BH (es:List Ev) (b k:Nat):Bool:=match JU es k with
  | []=>false
  | j :: _=>decide (j < b)
def DS (c:Nat->Bool) (k:Nat) (e:Ev) (p:Int × List Int):Int × List Int:=match e with
  | .wb v=>if c k=true then (v,p.2) else (p.1,p.2 ++ [v])
  | _=>p
def BW (c:Nat->Bool):Nat->List Ev->Int × List Int->Int × List Int
  | _,[],p=>p
  | k,e :: es,p=>BW c (k + 1) es (DS c k e p)
def Hw (sf:Bool) (sz:Int) (p:Int × List Int):List Int:=if (sf && !p.2.isEmpty)=true then K9 sz.toNat else srt (p.1 :: p.2)
structure First (es:List Ev) (at_ r b:Nat):Prop where
  lt:b < at_
  is:es[b]? = some (.rb r)
  mx:∀ j,b < j->j < at_->es[j]? ≠ some (.rb r)
section
variable {μ μ1 μ2 μ3 μ4 μ':Mh} {τ τ1:Sl} {x0 d a c:D} {ds:List D} {n:Nat}
variable {sf:Bool} {sz bg:Int} {ns:List Str}
end
end K13
set_option maxHeartbeats 4000000
namespace K13
open PySem L2 Mi Ht
section
variable {μ μ1 μ2 μ3 μ4 μ':Mh} {τ τ1:Sl} {x0 d a c:D} {ds:List D} {n:Nat}
variable {sf:Bool} {sz bg:Int} {ns:List Str}
end
end K13
set_option maxHeartbeats 4000000
namespace K13
open PySem L2 Mi Ht
def gS (G:Nat->Bool) (e:Ev):Nat->Bool:=fun h=>if h=e.hand then e.beg else G h
def gA (G:Nat->Bool) (es:List Ev):Nat->Bool:=es.foldl gS G
theorem wf_app:∀ {G:Nat->Bool} {es fs:List Ev},wfG G (es ++ fs) ↔ wfG G es /\ wfG (gA G es) fs
  | G,[],fs=>by simp [wfG,gA]
  | G,e :: es,fs=>by
    show (G e.hand = !e.beg /\ wfG (gS G e) (es ++ fs)) ↔ ((G e.hand = !e.beg /\ wfG (gS G e) es) /\ wfG (gA (gS G e) es) fs)
    rw [wf_app,and_assoc]
theorem Be {G:Nat->Bool} {es:List Ev} {e:Ev}:gA G (es ++ [e])=gS (gA G es) e:=by unfold gA; rw [List.foldl_append]; rfl
abbrev G0:Nat->Bool:=fun _=>false
theorem Dj {es:List Ev} {e:Ev} {j:Nat} (h:j < es.length):(es ++ [e])[j]? = es[j]?:=List.getElem?_append_left h
theorem GM {es:List Ev} {e:Ev}:(es ++ [e])[es.length]? = some e:=by simp
theorem First.more {es:List Ev} {e:Ev} {r b:Nat} (F:First es es.length r b) (h:e ≠ .rb r):First (es ++ [e]) (es ++ [e]).length r b:=by
  have hl:=F.lt
  refine ⟨by simp; omega,by rw [Dj hl]; exact F.is,fun j h1 h2=>?_⟩
  rcases Nat.lt_or_ge j es.length with z | z
  . rw [Dj z]; exact F.mx j h1 z
  . have:j=es.length:=by simp at h2; omega
    subst this
    rw [GM]
    exact fun z=>h (Option.some.inj z)
theorem First.new {es:List Ev} {r:Nat}:First (es ++ [Ev.rb r]) (es ++ [Ev.rb r]).length r es.length:=⟨by simp,GM,fun j h1 h2=>by simp at h2; omega⟩
theorem Bb {c:Nat->Bool}:∀ (es:List Ev) (k:Nat) (e:Ev) (p:Int × List Int),BW c k (es ++ [e]) p=DS c (k + es.length) e (BW c k es p)
  | [],k,e,p=>rfl
  | x :: es,k,e,p=>by
    show BW c (k + 1) (es ++ [e]) (DS c k x p)=_
    rw [Bb es (k + 1) e]
    rw [show k + 1 + es.length=k + (x :: es).length by simp; omega]
    rfl
theorem Jr {c c':Nat->Bool} {k:Nat} {e:Ev} {p:Int × List Int} (h:c k=c' k):DS c k e p=DS c' k e p:=by
  cases e with
  | wb v=>unfold DS; dsimp only; rw [h]
  | _=>rfl
theorem CK {c c':Nat->Bool}:∀ (es:List Ev) (k:Nat) (p:Int × List Int),(∀ j,k <= j->j < k + es.length->c j=c' j)->BW c k es p=BW c' k es p
  | [],_,_,_=>rfl
  | e :: es,k,p,h=>by
    show BW c (k + 1) es (DS c k e p)=BW c' (k + 1) es (DS c' k e p)
    rw [Jr (h k (Nat.le_refl _) (by simp)),CK es (k + 1) _ fun j h1 h2=>h j (by omega) (by simp; omega)]
theorem H9:∀ (es:List Ev) (k:Nat) (p:Int × List Int),(BW (fun _=>true) k es p).2=p.2
  | [],_,_=>rfl
  | e :: es,k,p=>by
    show (BW (fun _=>true) (k + 1) es (DS (fun _=>true) k e p)).2=_
    rw [H9 es]
    cases e <;> rfl
theorem Nh (es:List Ev) (k:Nat):(JU es k).Pairwise (· < ·):=by
  unfold JU
  rw [List.pairwise_map]
  exact (List.Pairwise.sublist List.filter_sublist List.pairwise_lt_range).imp fun h=>by omega
theorem endL_mem {es:List Ev} {k j:Nat}:j ∈ JU es k ↔ k <= j /\ es[j]? = some .we:=by
  unfold JU
  constructor
  . intro h
    obtain ⟨i,hi,rfl⟩:=List.mem_map.mp h
    obtain ⟨_,h2⟩:=List.mem_filter.mp hi
    exact ⟨by omega,of_decide_eq_true h2⟩
  . rintro ⟨h1,h2⟩
    have hl:j < es.length:=(List.getElem?_eq_some_iff.mp h2).1
    have ej:k + (j - k)=j:=by omega
    exact List.mem_map.mpr ⟨j - k,List.mem_filter.mpr ⟨List.mem_range.mpr (by omega),by rw [ej]; exact decide_eq_true h2⟩,ej⟩
theorem cond_iff {es:List Ev} {b k:Nat}:BH es b k=true ↔ ∃ j,k <= j /\ j < b /\ es[j]? = some .we:=by
  unfold BH
  have hr:=Nh es k
  constructor
  . intro h
    cases hq:JU es k with
    | nil=>rw [hq] at h; cases h
    | cons j js=>
      rw [hq] at h
      have hj:j ∈ JU es k:=by rw [hq]; simp
      obtain ⟨h1,h2⟩:=endL_mem.mp hj
      exact ⟨j,h1,of_decide_eq_true h,h2⟩
  . rintro ⟨j,h1,h2,h3⟩
    have hj:j ∈ JU es k:=endL_mem.mpr ⟨h1,h3⟩
    cases hq:JU es k with
    | nil=>rw [hq] at hj; cases hj
    | cons i is=>
      rw [hq] at hj hr
      refine decide_eq_true ?_
      rcases List.mem_cons.mp hj with z | z
      . omega
      . have:=(List.pairwise_cons.mp hr).1 j z
        omega
theorem MX {es fs:List Ev} {b c k:Nat} (h:(∃ j,k <= j /\ j < b /\ es[j]? = some .we) ↔ ∃ j,k <= j /\ j < c /\ fs[j]? = some .we):BH es b k=BH fs c k:=by
  have h1:=cond_iff (es:=es) (b:=b) (k:=k)
  have h2:=cond_iff (es:=fs) (b:=c) (k:=k)
  cases q1:BH es b k <;> cases q2:BH fs c k
  . rfl
  . rw [q1] at h1; rw [q2] at h2; exact absurd (h1.mpr (h.mpr (h2.mp rfl))) (by decide)
  . rw [q1] at h1; rw [q2] at h2; exact absurd (h2.mpr (h.mp (h1.mp rfl))) (by decide)
  . rfl
theorem P4 {es:List Ev} {e:Ev} {b k:Nat} (hb:b <= es.length):BH (es ++ [e]) b k=BH es b k:=MX ⟨fun ⟨j,h1,h2,h3⟩=>⟨j,h1,h2,by rw [← h3,Dj (by omega)]⟩,fun ⟨j,h1,h2,h3⟩=>⟨j,h1,h2,by rw [← h3,Dj (by omega)]⟩⟩
theorem Em {es:List Ev} {e:Ev} {k:Nat} (he:e ≠ .we):BH (es ++ [e]) (es.length + 1) k=BH es es.length k:=MX ⟨fun ⟨j,h1,h2,h3⟩=>by
    rcases Nat.lt_or_ge j es.length with z | z
    . exact ⟨j,h1,z,by rw [← h3,Dj z]⟩
    . have:j=es.length:=by omega
      subst this
      rw [GM] at h3
      exact absurd (Option.some.inj h3) he,fun ⟨j,h1,h2,h3⟩=>⟨j,h1,by omega,by rw [← h3,Dj h2]⟩⟩
theorem Ro {es:List Ev} {k:Nat} (hk:k <= es.length):BH (es ++ [.we]) (es.length + 1) k=true:=cond_iff.mpr ⟨es.length,hk,by omega,GM⟩
theorem Ia {es:List Ev} {b k:Nat} (h:b <= k):BH es b k=false:=by
  cases q:BH es b k with
  | false=>rfl
  | true=>obtain ⟨j,h1,h2,_⟩:=cond_iff.mp q; omega
structure Inv (sf:Bool) (sz bg:Int) (m:Nat) (es:List Ev) (k:C3):Prop where
  ok:k.Ok m
  now:BW (BH es es.length) 0 es (bg,[])=(k.w,if k.c = -1 then [] else [k.c])
  com:k.c ≠ -1->BW (fun _=>true) 0 es (bg,[])=(k.c,[])
  g0:gA G0 es 0=decide (k.c ≠ -1)
  no:∀ r:Nat,k.ts[r]? = some none->gA G0 es (r + 1)=false
  yes:∀ (r:Nat) l,k.ts[r]? = some (some l)->gA G0 es (r + 1)=true /\ ∃ b,First es es.length r b /\ l=Hw sf sz (BW (BH es b) 0 es (bg,[]))
theorem Ku {sz:Int} (h:sz <= 10):Hf (K9 sz.toNat):=by
  refine ⟨by unfold K9; simp; omega,fun x hx=>?_⟩
  obtain ⟨i,hi,rfl⟩:=List.mem_map.mp hx
  have:=List.mem_range.mp hi
  show 0 <= ((i:Nat):Int) /\ ((i:Nat):Int) < 10
  omega
theorem Mu {l:List Int} (h:∀ x ∈ l,0 <= x /\ x < 10):Hf (srt l):=by
  have hm:∀ x ∈ srt l,0 <= x /\ x < 10:=fun x hx=>h x ((GC l x).mp hx)
  refine ⟨?_,hm⟩
  have nd:(srt l).Nodup:=(E7 l).imp fun h=>by omega
  have:=FF (r:=(List.range 10).map Int.ofNat) nd fun x hx=>by
    obtain ⟨a,b⟩:=hm x hx
    exact List.mem_map.mpr ⟨x.toNat,List.mem_range.mpr (by omega),by show ((x.toNat:Nat):Int)=x; omega⟩
  simp at this
  omega
theorem Hz {sf:Bool} {sz v:Int} {l:List Int} (h:sz <= 10) (hl:Hf l) (hv:0 <= v /\ v < 10):Hf (bsd sf sz l v):=by
  unfold bsd
  cases sf with
  | true=>exact Ku h
  | false=>
    refine Mu fun x hx=>?_
    rcases List.mem_append.mp hx with z | z
    . exact hl.2 x z
    . rw [List.mem_singleton] at z; subst z; exact hv
theorem QA {sf:Bool} {sz v:Int} {p:Int × List Int}:bsd sf sz (Hw sf sz p) v=Hw sf sz (p.1,p.2 ++ [v]):=by
  unfold bsd Hw
  cases sf with
  | true=>simp
  | false=>
    simp only [Bool.false_and,Bool.false_eq_true,if_false]
    refine Iv (E7 _) (E7 _) fun x=>?_
    simp only [GC,List.mem_append,List.mem_cons,List.mem_singleton,List.not_mem_nil,or_false]
    constructor
    . rintro ((z | z) | z) <;> simp [z]
    . rintro (z | z | z) <;> simp [z]
theorem QF {sf:Bool} {sz w c:Int}:D6 sf sz w c=Hw sf sz (w,if c = -1 then [] else [c]):=by
  unfold D6 Hw
  by_cases h:c = -1
  . simp only [h,if_true]
    simp
    rfl
  . simp only [h,if_false]
    unfold bsd
    cases sf <;> simp
theorem Eh {sf:Bool} {sz bg:Int} {m:Nat} (hm:m <= 3) (b0:0 <= bg) (b1:bg < 10):Inv sf sz bg m [] (C3.start bg m) where
  ok:=Jk hm b0 b1
  now:=rfl
  com:=fun h=>absurd rfl h
  g0:=by show false=decide ((-1:Int) ≠ -1); simp
  no:=fun _ _=>rfl
  yes:=fun r l h=>by
    have h:(List.replicate m (none:Option (List Int)))[r]? = some (some l):=h
    rw [List.getElem?_replicate] at h
    split at h <;> cases h
theorem PY {sf:Bool} {sz bg:Int} {m:Nat} {es:List Ev} {k k':C3} {e:Ev} (h1:sz <= 10) (I:Inv sf sz bg m es k) (wf:gA G0 es e.hand = !e.beg) (hv:∀ v,e.val=some v->0 <= v /\ v < sz) (hh:e.hand <= m) (hs:k.step sf sz e=some k'):Inv sf sz bg m (es ++ [e]) k':=by
  have len:(es ++ [e]).length=es.length + 1:=by simp
  have old:∀ b,b <= es.length->BW (BH (es ++ [e]) b) 0 (es ++ [e]) (bg,[])=DS (BH (es ++ [e]) b) es.length e (BW (BH es b) 0 es (bg,[])):=fun b hb=>by
    rw [Bb,Nat.zero_add,CK es 0 (bg,[]) fun j _ _=>P4 (k:=j) hb]
  have kept:∀ (r:Nat) b,First es es.length r b->gA G0 es (r + 1)=true->First (es ++ [e]) (es ++ [e]).length r b:=fun r b F hg=>F.more fun z=>by
    subst z
    have wf:gA G0 es (r + 1) = !true:=wf
    rw [hg] at wf
    cases wf
  cases e with
  | wb v=>
    obtain ⟨v0,v1⟩:=hv v rfl
    cases hs
    have c1:k.c = -1:=by
      have:=I.g0
      have wf:gA G0 es 0 = !true:=wf
      rw [wf] at this
      simpa using this.symm
    have nx:BW (BH (es ++ [.wb v]) (es.length + 1)) 0 es (bg,[])=BW (BH es es.length) 0 es (bg,[]):=CK es 0 _ fun j _ _=>Em (by simp)
    refine ⟨⟨I.ok.w,fun _=>⟨v0,by show v < 10; omega⟩,fun l hl=>?_,by show (k.ts.map _).length=m; rw [List.length_map]; exact I.ok.n,I.ok.m⟩,?_,fun _=>?_,?_,fun r hr=>?_,fun r l hr=>?_⟩
    . obtain ⟨t,ht,e⟩:=List.mem_map.mp hl
      cases t with
      | none=>cases e
      | some l0=>cases e; exact Hz h1 (I.ok.ts l0 ht) ⟨v0,by omega⟩
    . rw [len,Bb,nx,I.now,if_pos c1,Nat.zero_add]
      unfold DS
      dsimp only
      have:BH (es ++ [.wb v]) (es.length + 1) es.length=false:=by rw [Em (by simp)]; exact Ia (Nat.le_refl _)
      rw [this,if_neg (by decide),if_neg (by omega)]
      rfl
    . rw [Bb]
      have h2:=H9 es 0 (bg,[])
      unfold DS
      dsimp only
      rw [if_pos rfl,h2]
    . rw [Be]
      show gS _ _ 0=decide (v ≠ -1)
      unfold gS
      rw [if_pos (show 0=(Ev.wb v).hand from rfl),decide_eq_true (by omega)]
      rfl
    . rw [Be]
      show gS _ _ (r + 1)=false
      unfold gS
      rw [if_neg (by simp [Ev.hand])]
      refine I.no r ?_
      have hr:(k.ts.map (Option.map fun l=>bsd sf sz l v))[r]? = some none:=hr
      rw [List.getElem?_map] at hr
      cases q:k.ts[r]? with
      | none=>rw [q] at hr; cases hr
      | some t=>
        rw [q] at hr
        cases t with
        | none=>rfl
        | some l=>cases hr
    . have hr:(k.ts.map (Option.map fun l=>bsd sf sz l v))[r]? = some (some l):=hr
      rw [List.getElem?_map] at hr
      cases q:k.ts[r]? with
      | none=>rw [q] at hr; cases hr
      | some t=>
        rw [q] at hr
        cases t with
        | none=>cases hr
        | some l0=>
          cases hr
          obtain ⟨hg,b,F,hl⟩:=I.yes r l0 q
          have hb:=F.lt
          refine ⟨?_,b,kept r b F hg,?_⟩
          . rw [Be]
            unfold gS
            rw [if_neg (by simp [Ev.hand])]
            exact hg
          . show bsd sf sz l0 v=_
            rw [hl,QA,old b (by omega)]
            unfold DS
            dsimp only
            rw [Ia (by omega),if_neg (by decide)]
  | we=>
    cases hs
    have c1:k.c ≠ -1:=by
      have:=I.g0
      have wf:gA G0 es 0 = !false:=wf
      rw [wf] at this
      simpa using this.symm
    have nx:BW (BH (es ++ [.we]) (es.length + 1)) 0 es (bg,[])=BW (fun _=>true) 0 es (bg,[]):=CK es 0 _ fun j _ hj=>Ro (by omega)
    refine ⟨⟨I.ok.c c1,fun z=>absurd rfl z,I.ok.ts,I.ok.n,I.ok.m⟩,?_,fun z=>absurd rfl z,?_,fun r hr=>?_,fun r l hr=>?_⟩
    . rw [len,Bb,nx,I.com c1]
      rfl
    . rw [Be]
      show gS _ _ 0=decide ((-1:Int) ≠ -1)
      unfold gS
      rw [if_pos (show 0=Ev.we.hand from rfl)]
      rfl
    . rw [Be]
      unfold gS
      rw [if_neg (by simp [Ev.hand])]
      exact I.no r hr
    . obtain ⟨hg,b,F,hl⟩:=I.yes r l hr
      have hb:=F.lt
      refine ⟨?_,b,kept r b F hg,by rw [hl,old b (by omega)]; rfl⟩
      rw [Be]
      unfold gS
      rw [if_neg (by simp [Ev.hand])]
      exact hg
  | rb r0=>
    cases hs
    have hr0:r0 < k.ts.length:=by rw [I.ok.n]; have:r0 + 1 <= m:=hh; omega
    have nx:BW (BH (es ++ [.rb r0]) (es.length + 1)) 0 es (bg,[])=BW (BH es es.length) 0 es (bg,[]):=CK es 0 _ fun j _ _=>Em (by simp)
    have sb:Hf (D6 sf sz k.w k.c):=by
      unfold D6
      split
      . exact ⟨by simp,fun x hx=>by rw [List.mem_singleton] at hx; subst hx; exact I.ok.w⟩
      . rename_i hc
        exact Hz h1 ⟨by simp,fun x hx=>by rw [List.mem_singleton] at hx; subst hx; exact I.ok.w⟩ (I.ok.c hc)
    refine ⟨⟨I.ok.w,I.ok.c,fun l hl=>?_,by show (k.ts.set r0 _).length=m; rw [List.length_set]; exact I.ok.n,I.ok.m⟩,?_,fun z=>?_,?_,fun r hr=>?_,fun r l hr=>?_⟩
    . rcases List.mem_or_eq_of_mem_set hl with z | z
      . exact I.ok.ts l z
      . cases z; exact sb
    . rw [len,Bb,nx,I.now]
      rfl
    . rw [Bb,I.com z]; rfl
    . rw [Be]
      unfold gS
      rw [if_neg (by simp [Ev.hand])]
      exact I.g0
    . have hr:(k.ts.set r0 (some (D6 sf sz k.w k.c)))[r]? = some none:=hr
      by_cases e0:r0=r
      . subst e0
        rw [List.getElem?_set_self hr0] at hr
        cases hr
      . rw [List.getElem?_set_ne e0] at hr
        rw [Be]
        unfold gS
        rw [if_neg (by show ¬ r + 1=r0 + 1; omega)]
        exact I.no r hr
    . have hr:(k.ts.set r0 (some (D6 sf sz k.w k.c)))[r]? = some (some l):=hr
      by_cases e0:r0=r
      . subst e0
        rw [List.getElem?_set_self hr0] at hr
        cases hr
        refine ⟨?_,es.length,First.new,?_⟩
        . rw [Be]
          unfold gS
          rw [if_pos (show r0 + 1=(Ev.rb r0).hand from rfl)]
          rfl
        . rw [old es.length (Nat.le_refl _),I.now,QF]
          rfl
      . rw [List.getElem?_set_ne e0] at hr
        obtain ⟨hg,b,F,hl⟩:=I.yes r l hr
        have hb:=F.lt
        refine ⟨?_,b,kept r b F hg,by rw [hl,old b (by omega)]; rfl⟩
        rw [Be]
        unfold gS
        rw [if_neg (by show ¬ r + 1=r0 + 1; omega)]
        exact hg
  | re r0 v=>
    have nx:BW (BH (es ++ [.re r0 v]) (es.length + 1)) 0 es (bg,[])=BW (BH es es.length) 0 es (bg,[]):=CK es 0 _ fun j _ _=>Em (by simp)
    have hk:k'=⟨k.w,k.c,k.ts.set r0 none⟩:=by
      unfold C3.step at hs
      dsimp only at hs
      split at hs
      . split at hs
        . exact (Option.some.inj hs).symm
        . cases hs
      . cases hs
    subst hk
    have hr0:r0 < k.ts.length:=by rw [I.ok.n]; have:r0 + 1 <= m:=hh; omega
    refine ⟨⟨I.ok.w,I.ok.c,fun l hl=>?_,by show (k.ts.set r0 _).length=m; rw [List.length_set]; exact I.ok.n,I.ok.m⟩,?_,fun z=>?_,?_,fun r hr=>?_,fun r l hr=>?_⟩
    . rcases List.mem_or_eq_of_mem_set hl with z | z
      . exact I.ok.ts l z
      . cases z
    . rw [len,Bb,nx,I.now]
      rfl
    . rw [Bb,I.com z]; rfl
    . rw [Be]
      unfold gS
      rw [if_neg (by simp [Ev.hand])]
      exact I.g0
    . have hr:(k.ts.set r0 none)[r]? = some none:=hr
      rw [Be]
      unfold gS
      by_cases e0:r0=r
      . subst e0
        rw [if_pos (show r0 + 1=(Ev.re r0 v).hand from rfl)]
        rfl
      . rw [List.getElem?_set_ne e0] at hr
        rw [if_neg (by show ¬ r + 1=r0 + 1; omega)]
        exact I.no r hr
    . have hr:(k.ts.set r0 none)[r]? = some (some l):=hr
      by_cases e0:r0=r
      . subst e0
        rw [List.getElem?_set_self hr0] at hr
        cases hr
      . rw [List.getElem?_set_ne e0] at hr
        obtain ⟨hg,b,F,hl⟩:=I.yes r l hr
        have hb:=F.lt
        refine ⟨?_,b,kept r b F hg,by rw [hl,old b (by omega)]; rfl⟩
        rw [Be]
        unfold gS
        rw [if_neg (by show ¬ r + 1=r0 + 1; omega)]
        exact hg
end K13
set_option maxHeartbeats 4000000
namespace K13
open PySem L2 Mi Ht
structure Ev.In (m:Nat) (sz:Int) (e:Ev):Prop where
  h:e.hand <= m
  v:∀ v,e.val=some v->0 <= v /\ v < sz
theorem PZ {sf:Bool} {sz bg:Int} {m:Nat} {es:List Ev} {k:C3} {e:Ev} (h1:sz <= 10) (I:Inv sf sz bg m es k) (wf:gA G0 es e.hand = !e.beg) (ei:e.In m sz):k.fits e:=by
  cases e with
  | wb v=>have:=ei.v v rfl; show 0 <= v /\ v < 10; omega
  | we=>
    have h2:=I.g0
    have wf:gA G0 es 0 = !false:=wf
    rw [wf] at h2
    show k.c ≠ -1
    simpa using h2.symm
  | rb r=>have:=ei.h; show r < k.ts.length; rw [I.ok.n]; have:r + 1 <= m:=this; omega
  | re r v=>
    have hr:r < k.ts.length:=by rw [I.ok.n]; have:r + 1 <= m:=ei.h; omega
    have wf:gA G0 es (r + 1) = !false:=wf
    cases q:k.ts[r] with
    | none=>
      have:=I.no r (by rw [List.getElem?_eq_getElem hr,q])
      rw [wf] at this
      cases this
    | some l=>exact ⟨l,by rw [List.getElem?_eq_getElem hr,q]⟩
theorem HJ {sf:Bool} {sz bg:Int} {m:Nat} (h1:sz <= 10):∀ (es pre:List Ev) (k:C3),wfG G0 (pre ++ es)->(∀ e ∈ es,e.In m sz)->Inv sf sz bg m pre k->GO sf sz m k es
  | [],_,_,_,_,_=>trivial
  | e :: es,pre,k,wf,ei,I=>by
    obtain ⟨w1,w2,_⟩:=wf_app.mp wf
    have e0:=ei e (by simp)
    refine ⟨PZ h1 I w2 e0,fun k' hs=>?_⟩
    have I':=PY h1 I w2 e0.v e0.h hs
    exact ⟨I'.ok,HJ h1 es (pre ++ [e]) k' (by simpa using wf) (fun x hx=>ei x (by simp [hx])) I'⟩
end K13
set_option maxHeartbeats 4000000
namespace K13
open PySem L2 Mi Ht
section
variable {μ μ1 μ2 μ3 μ4 μ':Mh} {τ τ1:Sl} {x0 d:D} {ds es:List D} {n:Nat}
theorem PP:IC (.int 10) (.int 9) μ=some (.int 1000000000,μ):=by
  show (if (0:Int) <= 9 /\ (9:Int) <= 1000000 /\ (10:Int).natAbs < 2 ^ 64 then some (D.int ((10:Int) ^ (9:Int).toNat),μ) else none)=_
  rw [if_pos (by decide)]; rfl
theorem PQ (h:μ[n]? = some (.lst ds)):Ct [.ref n] μ=some (.int ds.length,μ):=by
  unfold Ct
  simp only [h]
theorem LL {mc:Sl->M Bool} {mb:Sl->M (Fl × Sl)} {r:Fl × Sl} {τ2:Sl} {k:Nat} (h1:mc τ μ=some (true,μ)) (h2:mb τ μ=some ((.next,τ2),μ2)) (h3:F7 mc mb k τ2 μ2=some (r,μ3)):F7 mc mb (k + 1) τ μ=some (r,μ3):=by
  unfold F7
  rw [AL h1,if_pos rfl,AL h2]
  exact h3
theorem HK {mc:Sl->M Bool} {mb:Sl->M (Fl × Sl)} {k:Nat} (h1:mc τ μ=some (false,μ)):F7 mc mb (k + 1) τ μ=some ((.next,τ),μ):=by
  unfold F7
  rw [AL h1]
  rfl
noncomputable abbrev Ua:Sl->M Bool:=(G3 (AR (mOp Aj (mOp BE (AB 0) (mC (.int 2))) (mC (.int 0)))) (G3 (AR (mOp K5 (AB 3) (mC (.int 0)))) (AR (mOp Qr (AE Ct (AC (AB 2) AJ)) (AB 1)))))
noncomputable abbrev Ub:Sl->M (Fl × Sl):=(AV (Bu (A9 EY (AB 2) (AC (mOp BE (AB 3) (mOp IC (mC (.int 10)) (mC (.int 9)))) AJ)))
    (Ae (mOp BR (AB 3) (mOp IC (mC (.int 10)) (mC (.int 9)))) (AM 3)))
end
end K13
set_option maxHeartbeats 4000000
namespace K13
open PySem L2 Mi Ht
section
variable {μ μ1 μ2 μ3 μ4 μ':Mh} {τ τ1:Sl} {x0 d:D} {ds es:List D} {n:Nat}
variable {sf:Bool} {sz bg:Int} {ns:List Str}
abbrev nL0:List Str:=["w", "r", "s", "t"]
abbrev nL1:List Str:=["writer", "a", "ab", "b"]
abbrev nL2:List Str:=["z", "zz", "zzzzzzzz", "begin"]
theorem RL {L:List Str} (h1:∀ n ∈ L,PyData.strOk n=true) (h2:L.Nodup) (h3:L.length=4) {j:Nat} (a:2 <= j) (b:j <= 4):Ns (L.take j):=
  ⟨fun n hn=>h1 n (List.mem_of_mem_take hn),h2.sublist (List.take_sublist _ _),by rw [List.length_take]; omega,by rw [List.length_take]; omega⟩
theorem UL {x:Int}:∃ L:List Str,L.length=4 /\ (∀ n ∈ L,PyData.strOk n=true) /\ L.Nodup /\ ∀ M:Mh,AN (.lst [.lst (nL0.map D.str),.lst (nL1.map D.str),.lst (nL2.map D.str)]) (.int (x % 3)) M=some (.lst (L.map D.str),M):=by
  have h0:0 <= x % 3:=Int.emod_nonneg _ (by decide)
  have h1:x % 3 < 3:=Int.emod_lt_of_pos _ (by decide)
  rcases (show x % 3=0 ∨ x % 3=1 ∨ x % 3=2 by omega) with h | h | h <;> rw [h]
  . exact ⟨nL0,rfl,by decide +kernel,by decide +kernel,fun M=>rfl⟩
  . exact ⟨nL1,rfl,by decide +kernel,by decide +kernel,fun M=>rfl⟩
  . exact ⟨nL2,rfl,by decide +kernel,by decide +kernel,fun M=>rfl⟩
theorem VQ {k:Nat}:Cl k (mkD sf sz bg ns):=by
  have:=Ay (k:=k) (f:=hdD) (fun n=>by simp [hdD,Cl,ClL]) ns
  simp [mkD,Cl,ClL,this]
theorem Nx {x:Int}:∃ (sz bg:Int) (ns:List Str),2 <= sz /\ sz <= 10 /\ 0 <= bg /\ bg < sz /\ Ns ns /\ CU [.int x,.str (kdS sf)] μ=some (mkD sf sz bg ns,μ):=by
  have hz:=BI
  let s:Int:=2 + x / 4 % 9
  have qs:s=2 + x / 4 % 9:=rfl
  have s0:2 <= s:=by have:=Int.emod_nonneg (x / 4) (show (9:Int) ≠ 0 by decide); omega
  have s1:s <= 10:=by have:=Int.emod_lt_of_pos (x / 4) (show (0:Int) < 9 by decide); omega
  generalize s=s at qs s0 s1
  have b0:0 <= x / 324 % s:=Int.emod_nonneg _ (by omega)
  have b1:x / 324 % s < s:=Int.emod_lt_of_pos _ (by omega)
  obtain ⟨L,l4,lok,lnd,lix⟩:=UL (x:=x / 36)
  have t0:0 <= x / 108 % 3:=Int.emod_nonneg _ (by decide)
  have t1:x / 108 % 3 < 3:=Int.emod_lt_of_pos _ (by decide)
  let j:Nat:=(1 + (1 + x / 108 % 3)).toNat
  have qj:(j:Int)=1 + (1 + x / 108 % 3):=by show (((1 + (1 + x / 108 % 3)).toNat:Nat):Int)=_; omega
  generalize j=j at qj
  refine ⟨s,x / 324 % s,L.take j,s0,s1,b0,b1,RL lok lnd l4 (by omega) (by omega),?_⟩
  refine AS (g:=[]) (τ2:=[some (.int x),some (.str (kdS sf)),some (.int s),some (.lst (L.map D.str)),some (.int (1 + x / 108 % 3)),some (.lst ((L.take j).map hdD))]) ?_ rfl VQ
  rw [List.append_nil]
  refine pq (τ1:=[some (.int x),some (.str (kdS sf)),some (.int s),none,none,none]) (pa (d:=.int s) (po (x:=.int 2) (y:=.int (x / 4 % 9)) rfl (po (x:=.int (x / 4)) (y:=.int 9) (po (x:=.int x) (y:=.int 4) rfl rfl (DN (by decide) (by decide))) rfl (DK (by decide))) (by rw [qs]; rfl)) rfl) ?_
  refine pq (τ1:=[some (.int x),some (.str (kdS sf)),some (.int s),some (.lst (L.map D.str)),none,none]) (pa (po (x:=.lst [.lst (nL0.map D.str),.lst (nL1.map D.str),.lst (nL2.map D.str)]) (y:=.int (x / 36 % 3)) ?_ (po (x:=.int (x / 36)) (y:=.int 3) (po (x:=.int x) (y:=.int 36) rfl rfl (DN (by decide) (by decide))) rfl (DK (by decide))) (lix μ)) rfl) ?_
  . exact pd (ds:=[.lst (nL0.map D.str),.lst (nL1.map D.str),.lst (nL2.map D.str)]) (pc (pd (ds:=nL0.map D.str) rfl (A0 (by simp; omega))) (pc (pd (ds:=nL1.map D.str) rfl (A0 (by simp; omega))) (pc (pd (ds:=nL2.map D.str) rfl (A0 (by simp; omega))) rfl))) (A0 (by simp; omega))
  refine pq (τ1:=[some (.int x),some (.str (kdS sf)),some (.int s),some (.lst (L.map D.str)),some (.int (1 + x / 108 % 3)),none]) (pa (po (x:=.int 1) (y:=.int (x / 108 % 3)) rfl (po (x:=.int (x / 108)) (y:=.int 3) (po (x:=.int x) (y:=.int 108) rfl rfl (DN (by decide) (by decide))) rfl (DK (by decide))) rfl) rfl) ?_
  refine pq (τ1:=[some (.int x),some (.str (kdS sf)),some (.int s),some (.lst (L.map D.str)),some (.int (1 + x / 108 % 3)),some (.lst ((L.take j).map hdD))]) (pa (Bn (ds:=(L.take j).map D.str) (es:=(L.take j).map hdD) (BJ (p2 (x:=.lst (L.map D.str)) (a:=none) (b:=some (1 + (1 + x / 108 % 3))) rfl rfl rfl ?_)) (by simp; omega) ?_ (A0 (by simp; omega))) rfl) ?_
  . show some (D.lst (DQ (L.map D.str) none (some (1 + (1 + x / 108 % 3)))),μ)=_
    rw [← qj,Fu (α:=.non) (by rw [List.length_map]; omega),List.map_take]
  . have:=Ci (μ:=μ) (mc:=Bv) (me:=(AE AX (AC (AB 0) (AC (mC (.int 0)) (AC (AE AX AJ) AJ))))) (τ0:=[none]) (f:=D.str) (F:=hdD) (p:=fun _=>true) (xs:=L.take j) (ys:=[]) (fun _ _=>rfl) (fun t _ _=>pd (ds:=[.str t,.int 0,.tup []]) (pc rfl (pc rfl (pc (pd (ds:=[]) rfl (Ah (by simp))) rfl))) (Ah (by simp; omega)))
    rw [CD,List.nil_append] at this
    exact this
  . exact pr (pd (ds:=[.str (kdS sf),.int s,.int (x / 324 % s),.tup [],.tup ((L.take j).map hdD)]) (pc rfl (pc rfl (pc (po (x:=.int (x / 324)) (y:=.int s) (po (x:=.int x) (y:=.int 324) rfl rfl (DN (by decide) (by decide))) rfl (DK (by omega))) (pc (pd (ds:=[]) rfl (Ah (by simp))) (pc rfl rfl))))) (Ah (by simp; omega)))
end
end K13
namespace K11
open PySem L2 Mi K13
end K11
namespace K11
open PySem L2 Mi K13
end K11
set_option maxHeartbeats 4000000
namespace K11
open PySem L2 Mi Ht K13
section
variable {sf:Bool} {sz bg:Int} {ns:List Str}
end
section
variable {μ:Mh}
end
end K11
set_option maxHeartbeats 4000000
namespace K11
open PySem L2 Mi Ht K13
section
variable {μ μ1 μ2:Mh} {τ:Sl} {w c f:Int} {b n:Nat} {a0 b0 c0 d:D} {ds:List D}
variable {sf:Bool} {sz bg:Int} {ns:List Str}
end
end K11
set_option maxHeartbeats 4000000
namespace K11
open PySem L2 Mi Ht K13
section
variable {μ μ1 μ2:Mh} {τ:Sl} {w c f x:Int} {b n:Nat} {d:D} {ds:List D}
variable {sf:Bool} {sz bg:Int} {ns:List Str}
end
end K11
set_option maxHeartbeats 4000000
namespace K11
open PySem L2 Mi Ht K13
section
variable {μ μ1 μ2:Mh} {τ:Sl} {w c f x:Int} {b n:Nat} {d:D} {ds:List D}
variable {sf:Bool} {sz bg:Int} {ns:List Str} {ts:List (Option (List Int))}
end
end K11
set_option maxHeartbeats 4000000
namespace K11
open PySem L2 Mi Ht K13
section
variable {μ μ1 μ2:Mh} {τ τ1 τ2:Sl} {w c f x v:Int} {b n:Nat} {d:D} {ds:List D}
theorem Nb {bf:D->Sl->M Sl} {mb:Sl->M (Fl × Sl)} {y:D} {i k:Nat} {r:(Fl × Sl) × Mh} (hn:μ[n]? = some (.lst ds)) (hx:ds[i]? = some y) (h1:bf y τ μ=some (τ1,μ1)) (h2:mb τ1 μ1=some ((.next,τ2),μ2)) (h3:Fk n bf mb k (i + 1) τ2 μ2=some r):Fk n bf mb (k + 1) i τ μ=some r:=by
  unfold Fk
  simp only [hn,hx]
  rw [AL h1,AL h2]
  exact h3
theorem Nc {bf:D->Sl->M Sl} {mb:Sl->M (Fl × Sl)} {i k:Nat} (hn:μ[n]? = some (.lst ds)) (hx:ds[i]? = none):Fk n bf mb (k + 1) i τ μ=some ((.next,τ),μ):=by
  unfold Fk
  simp only [hn,hx]
variable {sf:Bool} {sz bg:Int} {ns:List Str}
end
end K11
namespace Wb
open PySem Nk
def mvR (c:Cs) (i:Nat):Cs:=(c.1,c.2.1,c.2.2.set i c.1)
def rdF:Nat->List Int->List Nat
  | _,[]=>[]
  | k,t :: r=>if t = -2 then k :: rdF (k + 1) r else rdF (k + 1) r
def OS (c:Cs):List Nat:=rdF 0 c.2.2
theorem L7 {i:Nat}:∀ {ts:List Int} {k:Nat},i ∈ rdF k ts ↔ k <= i /\ ts[i - k]? = some (-2)
  | [],k=>by simp [rdF]
  | t :: r,k=>by
    have ih:=L7 (i:=i) (ts:=r) (k:=k + 1)
    unfold rdF
    by_cases hk:i=k
    . subst hk
      split
      . rename_i h; subst h; simp
      . rename_i h
        rw [ih]
        constructor
        . intro z; omega
        . intro z; simp at z; exact absurd z h
    . have e:k <= i /\ (t :: r)[i - k]? = some (-2) ↔ k + 1 <= i /\ r[i - (k + 1)]? = some (-2):=by
        constructor
        . rintro ⟨a,b⟩
          have:i - k=(i - (k + 1)) + 1:=by omega
          rw [this] at b
          exact ⟨by omega,by simpa using b⟩
        . rintro ⟨a,b⟩
          have:i - k=(i - (k + 1)) + 1:=by omega
          rw [this]
          exact ⟨by omega,by simpa using b⟩
      rw [e,← ih]
      split
      . simp [hk]
      . rfl
theorem Lv:∀ (ts:List Int) (k:Nat),(rdF k ts).length <= ts.length
  | [],k=>by simp [rdF]
  | t :: r,k=>by
    have:=Lv r (k + 1)
    unfold rdF
    split <;> simp <;> omega
def EH (c:Cs):List (Nat × Cs):=(if 0 <= c.2.1 then [(0,(c.2.1,-2,c.2.2))] else []) ++ (OS c).map fun i=>(i + 1,mvR c i)
def nxt (c:Cs):List Cs:=(EH c).map (·.2)
def opts (v:Int):List Int->List (List Int)
  | []=>[[]]
  | t :: r=>if t = -2 then (opts v r).map (-2 :: ·) ++ (opts v r).map (v :: ·) else (opts v r).map (t :: ·)
def rch (c:Cs):List Cs:=(opts c.1 c.2.2).map (fun t=>(c.1,c.2.1,t)) ++ if 0 <= c.2.1 then ((opts c.1 c.2.2).flatMap (opts c.2.1)).map (fun t=>(c.2.1,-2,t)) else []
theorem Fa (v:Int):∀ ts,ts ∈ opts v ts
  | []=>by simp [opts]
  | t :: r=>by
    unfold opts
    have:=Fa v r
    split
    . rename_i e; subst e; simp [this]
    . simp [this]
theorem ED {v:Int}:∀ {ts us:List Int} {i:Nat},us ∈ opts v ts->us[i]? = some (-2)->us.set i v ∈ opts v ts
  | [],us,i,h,e=>by simp [opts] at h; subst h; simp at e
  | t :: r,us,i,h,e=>by
    unfold opts at h ⊢
    split at h
    . rename_i ht
      rw [if_pos ht]
      rcases List.mem_append.mp h with h | h
      . obtain ⟨x,hx,rfl⟩:=List.mem_map.mp h
        cases i with
        | zero=>exact List.mem_append_right _ (List.mem_map.mpr ⟨x,hx,rfl⟩)
        | succ i=>exact List.mem_append_left _ (List.mem_map.mpr ⟨x.set i v,ED hx (by simpa using e),rfl⟩)
      . obtain ⟨x,hx,rfl⟩:=List.mem_map.mp h
        cases i with
        | zero=>exact List.mem_append_right _ (List.mem_map.mpr ⟨x,hx,rfl⟩)
        | succ i=>exact List.mem_append_right _ (List.mem_map.mpr ⟨x.set i v,ED hx (by simpa using e),rfl⟩)
    . rename_i ht
      rw [if_neg ht]
      obtain ⟨x,hx,rfl⟩:=List.mem_map.mp h
      cases i with
      | zero=>simp at e; exact absurd e ht
      | succ i=>exact List.mem_map.mpr ⟨x.set i v,ED hx (by simpa using e),rfl⟩
theorem mem_rdrs {c:Cs} {i:Nat}:i ∈ OS c ↔ c.2.2[i]? = some (-2):=by
  unfold OS
  rw [L7]
  simp
theorem mem_nxt {c x:Cs}:x ∈ nxt c ↔ (0 <= c.2.1 /\ x=(c.2.1,-2,c.2.2)) ∨ ∃ i,c.2.2[i]? = some (-2) /\ x=mvR c i:=by
  unfold nxt EH
  rw [List.map_append,List.mem_append,List.map_map]
  constructor
  . rintro (h | h)
    . split at h
      . rename_i h0; simp at h; exact .inl ⟨h0,h⟩
      . simp at h
    . obtain ⟨i,hi,rfl⟩:=List.mem_map.mp h
      exact .inr ⟨i,mem_rdrs.mp hi,rfl⟩
  . rintro (⟨h0,rfl⟩ | ⟨i,hi,rfl⟩)
    . left; rw [if_pos h0]; simp
    . right; exact List.mem_map.mpr ⟨i,mem_rdrs.mpr hi,rfl⟩
theorem Gq (c:Cs):c ∈ rch c:=List.mem_append_left _ (List.mem_map.mpr ⟨_,Fa _ _,rfl⟩)
theorem Lw {c x y:Cs} (h:x ∈ rch c) (hy:y ∈ nxt x):y ∈ rch c:=by
  unfold rch at h ⊢
  rcases List.mem_append.mp h with h | h
  . obtain ⟨ts,ht,rfl⟩:=List.mem_map.mp h
    rcases mem_nxt.mp hy with ⟨h0,rfl⟩ | ⟨i,hi,rfl⟩
    . refine List.mem_append_right _ ?_
      rw [if_pos h0]
      exact List.mem_map.mpr ⟨ts,List.mem_flatMap.mpr ⟨ts,ht,Fa _ _⟩,rfl⟩
    . exact List.mem_append_left _ (List.mem_map.mpr ⟨_,ED ht hi,rfl⟩)
  . split at h
    . rename_i h0
      obtain ⟨ts,ht,rfl⟩:=List.mem_map.mp h
      obtain ⟨us,hu,hv⟩:=List.mem_flatMap.mp ht
      rcases mem_nxt.mp hy with ⟨h1,rfl⟩ | ⟨i,hi,rfl⟩
      . exact absurd h1 (show ¬ (0:Int) <= -2 by decide)
      . refine List.mem_append_right _ ?_
        rw [if_pos h0]
        exact List.mem_map.mpr ⟨_,List.mem_flatMap.mpr ⟨us,hu,ED hv hi⟩,rfl⟩
    . cases h
inductive Rch:Cs->Cs->Prop
  | refl (c:Cs):Rch c c
  | step {a b c:Cs}:Rch a b->c ∈ nxt b->Rch a c
theorem Rch.trans {a b c:Cs} (h:Rch a b) (g:Rch b c):Rch a c:=by
  induction g with
  | refl=>exact h
  | step _ s ih=>exact .step ih s
theorem FA {v c:Int}:∀ {ts us:List Int} (pre:List Int),us ∈ opts v ts->Rch (v,c,pre ++ ts) (v,c,pre ++ us)
  | [],us,pre,h=>by simp [opts] at h; subst h; exact .refl _
  | t :: r,us,pre,h=>by
    unfold opts at h
    have go:∀ (a:Int) {x:List Int},x ∈ opts v r->Rch (v,c,pre ++ a :: r) (v,c,pre ++ a :: x):=fun a x hx=>by
      have:=FA (c:=c) (pre ++ [a]) hx
      simpa using this
    split at h
    . rename_i ht
      subst ht
      rcases List.mem_append.mp h with h | h
      . obtain ⟨x,hx,rfl⟩:=List.mem_map.mp h
        exact go _ hx
      . obtain ⟨x,hx,rfl⟩:=List.mem_map.mp h
        refine Rch.trans (.step (.refl _) (mem_nxt.mpr (.inr ⟨pre.length,by simp,rfl⟩))) ?_
        have:mvR (v,c,pre ++ -2 :: r) pre.length=(v,c,pre ++ v :: r):=by simp [mvR]
        rw [this]
        exact go v hx
    . obtain ⟨x,hx,rfl⟩:=List.mem_map.mp h
      exact go _ hx
theorem rch_iff {c x:Cs}:x ∈ rch c ↔ Rch c x:=by
  constructor
  . intro h
    unfold rch at h
    rcases List.mem_append.mp h with h | h
    . obtain ⟨ts,ht,rfl⟩:=List.mem_map.mp h
      exact FA [] ht
    . split at h
      . rename_i h0
        obtain ⟨ts,ht,rfl⟩:=List.mem_map.mp h
        obtain ⟨us,hu,hv⟩:=List.mem_flatMap.mp ht
        exact (Rch.step (FA (c:=c.2.1) [] hu) (mem_nxt.mpr (.inl ⟨h0,rfl⟩))).trans (FA [] hv)
      . cases h
  . intro h
    induction h with
    | refl=>exact Gq _
    | step _ s ih=>exact Lw ih s
def clo (cs:List Cs):List Cs:=cs.flatMap rch
theorem mem_clo {cs:List Cs} {x:Cs}:x ∈ clo cs ↔ ∃ c ∈ cs,x ∈ rch c:=List.mem_flatMap
def vis (s:List Cs × List Cs) (c:Cs):List Cs × List Cs:=if c ∈ s.1 then s else (s.1 ++ [c],s.2 ++ [c])
def hop (s:List Cs × List Cs) (c:Cs):List Cs × List Cs:=(nxt c).foldl vis (s.1,s.2.dropLast)
structure Wk (cs:List Cs) (ways wait:List Cs):Prop where
  nd:ways.Nodup
  sub:∀ x ∈ wait,x ∈ ways
  don:∀ x ∈ ways,x ∈ wait ∨ ∀ y ∈ nxt x,y ∈ ways
  frm:∀ x ∈ ways,x ∈ clo cs
  all:∀ x ∈ cs,x ∈ ways
theorem Wk.done {cs ways:List Cs} (w:Wk cs ways []) {x:Cs}:x ∈ ways ↔ x ∈ clo cs:=by
  refine ⟨w.frm x,fun h=>?_⟩
  obtain ⟨c,hc,hx⟩:=mem_clo.mp h
  have:=rch_iff.mp hx
  induction this with
  | refl=>exact w.all _ hc
  | step g s ih=>
    rcases w.don _ (ih (mem_clo.mpr ⟨c,hc,rch_iff.mpr g⟩) (rch_iff.mpr g)) with z | z
    . cases z
    . exact z _ s
structure Wm (cs:List Cs) (c:Cs) (ys:List Cs) (s:List Cs × List Cs):Prop where
  nd:s.1.Nodup
  sub:∀ x ∈ s.2,x ∈ s.1
  don:∀ x ∈ s.1,x ∈ s.2 ∨ x=c ∨ ∀ y ∈ nxt x,y ∈ s.1
  ths:∀ y ∈ nxt c,y ∈ ys ∨ y ∈ s.1
  frm:∀ x ∈ s.1,x ∈ clo cs
  all:∀ x ∈ cs,x ∈ s.1
  me:c ∈ s.1
theorem Wm.vis {cs:List Cs} {c y:Cs} {ys:List Cs} {s:List Cs × List Cs} (w:Wm cs c (y :: ys) s) (hy:y ∈ nxt c):Wm cs c ys (vis s y):=by
  unfold Wb.vis
  split
  . rename_i h
    exact ⟨w.nd,w.sub,w.don,fun z hz=>(w.ths z hz).elim (fun q=>(List.mem_cons.mp q).elim (fun e=>.inr (e ▸ h)) .inl) .inr,w.frm,w.all,w.me⟩
  . rename_i h
    refine ⟨?_,?_,?_,?_,?_,fun x hx=>List.mem_append_left _ (w.all x hx),List.mem_append_left _ w.me⟩
    . refine List.nodup_append.mpr ⟨w.nd,by simp,fun a ha b hb e=>h (by simp at hb; rw [← hb,← e]; exact ha)⟩
    . intro x hx
      rcases List.mem_append.mp hx with z | z
      . exact List.mem_append_left _ (w.sub x z)
      . exact List.mem_append_right _ z
    . intro x hx
      rcases List.mem_append.mp hx with z | z
      . rcases w.don x z with q | q | q
        . exact .inl (List.mem_append_left _ q)
        . exact .inr (.inl q)
        . exact .inr (.inr fun u hu=>List.mem_append_left _ (q u hu))
      . exact .inl (List.mem_append_right _ z)
    . intro z hz
      rcases w.ths z hz with q | q
      . rcases List.mem_cons.mp q with e | q
        . exact .inr (List.mem_append_right _ (by rw [e]; simp))
        . exact .inl q
      . exact .inr (List.mem_append_left _ q)
    . intro x hx
      rcases List.mem_append.mp hx with z | z
      . exact w.frm x z
      . rw [List.mem_singleton] at z
        subst z
        obtain ⟨d,hd,hr⟩:=mem_clo.mp (w.frm c w.me)
        exact mem_clo.mpr ⟨d,hd,Lw hr hy⟩
theorem Wm.fold {cs:List Cs} {c:Cs}:∀ {ys:List Cs} {s:List Cs × List Cs},Wm cs c ys s->(∀ y ∈ ys,y ∈ nxt c)->Wm cs c [] (ys.foldl Wb.vis s)
  | [],_,w,_=>w
  | y :: ys,s,w,h=>show Wm cs c [] (ys.foldl Wb.vis (Wb.vis s y)) from Wm.fold (ys:=ys) (w.vis (h y List.mem_cons_self)) fun z hz=>h z (List.mem_cons_of_mem _ hz)
theorem Wk.hop {cs ways wait:List Cs} {c:Cs} (w:Wk cs ways (wait ++ [c])):Wk cs (hop (ways,wait ++ [c]) c).1 (hop (ways,wait ++ [c]) c).2:=by
  have m:Wm cs c (nxt c) (ways,(wait ++ [c]).dropLast):=by
    rw [List.dropLast_concat]
    refine ⟨w.nd,fun x hx=>w.sub x (List.mem_append_left _ hx),fun x hx=>?_,fun y hy=>.inl hy,w.frm,w.all,w.sub c (by simp)⟩
    rcases w.don x hx with q | q
    . rcases List.mem_append.mp q with q | q
      . exact .inl q
      . exact .inr (.inl (by simpa using q))
    . exact .inr (.inr q)
  have f:=m.fold fun _ h=>h
  refine ⟨f.nd,f.sub,fun x hx=>?_,f.frm,f.all⟩
  rcases f.don x hx with q | q | q
  . exact .inl q
  . subst q
    exact .inr fun y hy=>(f.ths y hy).elim (fun z=>by cases z) id
  . exact .inr q
theorem Lc (s:List Cs × List Cs) (c:Cs):(vis s c).1.length + s.2.length=s.1.length + (vis s c).2.length:=by
  unfold vis
  split
  . omega
  . simp; omega
theorem KJ:∀ (ys:List Cs) (s:List Cs × List Cs),(ys.foldl vis s).1.length + s.2.length=s.1.length + (ys.foldl vis s).2.length
  | [],s=>rfl
  | y :: ys,s=>by
    have h1:=Lc s y
    have h2:=KJ ys (vis s y)
    show ((ys.foldl vis (vis s y)).1).length + _=_ + ((ys.foldl vis (vis s y)).2).length
    omega
theorem CN {α:Type} [DecidableEq α]:∀ {xs ys:List α},xs.Nodup->(∀ x ∈ xs,x ∈ ys)->xs.length <= ys.length
  | [],_,_,_=>Nat.zero_le _
  | x :: xs,ys,nd,h=>by
    obtain ⟨n1,n2⟩:=List.nodup_cons.mp nd
    have hx:=h x List.mem_cons_self
    have:=CN (xs:=xs) (ys:=ys.erase x) n2 fun y hy=>(List.mem_erase_of_ne (fun e=>n1 (by rw [← e]; exact hy))).mpr (h y (List.mem_cons_of_mem _ hy))
    rw [List.length_erase_of_mem hx] at this
    have:=List.length_pos_of_mem hx
    simp
    omega
end Wb
set_option maxHeartbeats 4000000
namespace K16
open PySem L2 Mi Nk Wb
open K13 (Ay BN Ah A0 po pn pc pd pq pa piT piF pr peT peF Eu DF BI CH BG Ca Ac BJ By Ci Bn CD)
section
variable {μ μ1 μ2 μ3 μ4 μ':Mh} {τ τ1 τ2:Sl} {x0 d:D} {ds es:List D} {n:Nat}
theorem JS:Al=K13.Al:=rfl
theorem Rl:Bw=K13.Bw:=rfl
theorem Ng:CA=K13.CA:=rfl
theorem Pk:BD=K13.BD:=rfl
def BV (p:Nat × Cs):D:=.tup [.int p.1,csD p.2]
theorem EU (k:Nat) (c:Cs):Cl k (csD c):=by
  unfold csD Cl ClL
  refine ⟨BN _ _,?_⟩
  unfold ClL
  refine ⟨BN _ _,?_⟩
  unfold ClL
  exact ⟨by unfold Cl; exact Ay (BN k) _,by unfold ClL; trivial⟩
theorem MZ (k:Nat) (p:Nat × Cs):Cl k (BV p):=by
  unfold BV Cl ClL
  refine ⟨BN _ _,?_⟩
  unfold ClL
  exact ⟨EU _ _,by unfold ClL; trivial⟩
theorem HX {n ps:Nat} {mb:Sl->M (Fl × Sl)} {ds:List D} {μ g:Mh} {τ2:Sl} (e:mb (Bx n ds) μ=some ((.rt d,τ2),μ ++ g)) (hl:ds.length=ps) (hg:∀ o ∈ g,∀ k,ClO k o) (c:Cl (μ ++ g).length d):Aq .all n ps mb ds μ=some (d,μ ++ g):=
  HW (hw:=.all) e hl (.inr ⟨d,rfl⟩) ⟨⟨[],by show μ ++ g=μ ++ g ++ []; simp⟩,(by show μ.length <= (μ ++ g).length; simp),fun n o h=>by
    by_cases hn:n < μ.length
    . left
      have h':(μ ++ g)[n]? = some o:=h
      rw [List.getElem?_append_left hn] at h'
      exact h'
    . right
      have h':(μ ++ g)[n]? = some o:=h
      rw [List.getElem?_append_right (by omega)] at h'
      exact hg o (List.mem_of_getElem? h') _,.inl ⟨rfl,c⟩⟩
theorem VC {i j:Int}:Ob (.int i) (.int j) μ=some (.bl (decide (j <= i)),μ):=rfl
theorem g1a {a:MO}:(μ ++ [a])[μ.length]? = some a:=by rw [List.getElem?_append_right (Nat.le_refl _)]; simp
theorem s1a {a b:MO}:(μ ++ [a]).set μ.length b=μ ++ [b]:=by rw [List.set_append_right _ _ (Nat.le_refl _)]; simp
theorem Rx {x:D} {S:Sl} {k:Nat} {me:Sl->M D} (h:S[k]? = some (some (.ref μ.length))) (hl:ds.length <= 1000) (he:me S (μ ++ [.lst ds])=some (x,μ ++ [.lst ds])):Bu (A9 EY (AB k) (AC me AJ)) S (μ ++ [.lst ds])=some ((.next,S),μ ++ [.lst (ds ++ [x])]):=by
  have hz:=BI
  refine El (d:=.non) (Ek (μ1:=μ ++ [.lst ds]) (μ2:=μ ++ [.lst ds]) (μ3:=μ ++ [.lst ds]) (x:=.ref μ.length) (ds:=[x]) (As h) (BG g1a) (pc he rfl) ?_)
  rw [Ca g1a (by omega),s1a]
noncomputable abbrev Vs:Sl->M (Fl × Sl):=(sIf (AR (mOp Aj (AB 3) (mC D1))) (Bu (A9 EY (AB 1) (AC (AE AX (AC (mOp AY (AB 2) (mC (.int 1))) (AC (AE AX (AC (mOp AN (AB 0) (mC (.int 0))) (AC (mOp AN (AB 0) (mC (.int 1))) (AC (AE Al (AC (mOp AN (AB 0) (mC (.int 2))) (AC (AB 2) (AC (mOp AN (AB 0) (mC (.int 0))) AJ)))) AJ)))) AJ))) AJ))) A1)
theorem LB {c:Cs} (hc:c.2.2.length <= 100):∀ (rest:List Int) (k:Nat) (acc:List D) (o2 o3:Option D),k + rest.length=c.2.2.length->acc.length + rest.length <= 1000->∃ o2' o3':Option D,
    DA (Hb [2,3]) Vs (Co k (rest.map D.int)) [some (csD c),some (.ref μ.length),o2,o3] (μ ++ [.lst acc])=some ((.next,[some (csD c),some (.ref μ.length),o2',o3']),μ ++ [.lst (acc ++ (rdF k rest).map fun i=>BV (i + 1,mvR c i))])
  | [],k,acc,o2,o3,_,_=>⟨o2,o3,by simp [rdF,Co]; rfl⟩
  | t :: r,k,acc,o2,o3,hk,hl=>by
    have hz:=BI
    have ht:AR (mOp Aj (AB 3) (mC D1)) [some (csD c),some (.ref μ.length),some (.int k),some (.int t)] (μ ++ [.lst acc])=some (t == -2,μ ++ [.lst acc]):=AU (po (x:=.int t) (y:=.int (-2)) rfl rfl CH)
    simp only [List.length_cons] at hk hl
    by_cases e:t = -2
    . obtain ⟨o2',o3',go⟩:=LB hc r (k + 1) (acc ++ [BV (k + 1,mvR c k)]) (some (.int k)) (some (.int t)) (by omega) (by simp; omega)
      refine ⟨o2',o3',?_⟩
      have er:rdF k (t :: r)=k :: rdF (k + 1) r:=by rw [rdF,if_pos e]
      rw [er]
      have ea:acc ++ List.map (fun i=>BV (i + 1,mvR c i)) (k :: rdF (k + 1) r)=acc ++ [BV (k + 1,mvR c k)] ++ (rdF (k + 1) r).map fun i=>BV (i + 1,mvR c i):=by simp
      rw [ea]
      refine Ac (τ1:=[some (csD c),some (.ref μ.length),some (.int k),some (.int t)]) (μ1:=μ ++ [.lst acc]) (x:=.tup [.int k,.int t]) rfl (EM (by rw [ht,e]; rfl) (Rx (μ:=μ) rfl (by omega) ?_)) go
      refine pd (ds:=[.int ((k:Int) + 1),csD (mvR c k)]) (pc (x:=.int ((k:Int) + 1)) (po (x:=.int k) (y:=.int 1) rfl rfl rfl) (pc (x:=csD (mvR c k)) (pd (ds:=[.int c.1,.int c.2.1,.tup ((c.2.2.set k c.1).map D.int)]) (pc (x:=.int c.1) rfl (pc (x:=.int c.2.1) rfl (pc (pd (ds:=[.tup (c.2.2.map D.int),.int k,.int c.1]) rfl ?_) rfl))) (Ah (by simp; omega))) rfl)) (by
          have:=Ah (μ:=μ ++ [.lst acc]) (ds:=[.int ((k:Int) + 1),csD (mvR c k)]) (by simp; omega)
          rw [this]
          unfold BV
          simp)
      rw [JS,Eu (by rw [List.length_map]; omega) (by rw [List.length_map]; omega) (fun k=>Ay (BN k) _) (fun k=>BN k _),List.map_set]
    . obtain ⟨o2',o3',go⟩:=LB hc r (k + 1) acc (some (.int k)) (some (.int t)) (by omega) (by omega)
      refine ⟨o2',o3',?_⟩
      have er:rdF k (t :: r)=rdF (k + 1) r:=by rw [rdF,if_neg e]
      rw [er]
      exact Ac (τ1:=[some (csD c),some (.ref μ.length),some (.int k),some (.int t)]) (μ1:=μ ++ [.lst acc]) (x:=.tup [.int k,.int t]) rfl (EO (by rw [ht,beq_eq_false_iff_ne.mpr e]) rfl) go
theorem Mm {c:Cs} (hc:c.2.2.length <= 100):B8 [csD c] μ=some (.ref μ.length,μ ++ [.lst ((EH c).map BV)]):=by
  have hz:=BI
  have i1:∀ S (M:Mh),S[0]? = some (some (csD c))->mOp AN (AB 0) (mC (.int 1)) S M=some (.int c.2.1,M):=fun S M h=>po (x:=csD c) (y:=.int 1) (As h) rfl rfl
  have fst:sIf (AR (mOp Ob (mOp AN (AB 0) (mC (.int 1))) (mC (.int 0)))) (Bu (A9 EY (AB 1) (AC (AE AX (AC (mC (.int 0)) (AC (AE AX (AC (mOp AN (AB 0) (mC (.int 1))) (AC (mC HR) (AC (mOp AN (AB 0) (mC (.int 2))) AJ)))) AJ))) AJ))) A1 [some (csD c),some (.ref μ.length),none,none] (μ ++ [.lst []])=some ((.next,[some (csD c),some (.ref μ.length),none,none]),μ ++ [.lst ((if 0 <= c.2.1 then [(0,(c.2.1,-2,c.2.2))] else []).map BV)]):=by
    have t:AR (mOp Ob (mOp AN (AB 0) (mC (.int 1))) (mC (.int 0))) [some (csD c),some (.ref μ.length),none,none] (μ ++ [.lst []])=some (decide (0 <= c.2.1),μ ++ [.lst []]):=AU (po (x:=.int c.2.1) (y:=.int 0) (i1 _ _ rfl) rfl VC)
    by_cases h0:0 <= c.2.1
    . rw [if_pos h0]
      refine EM (by rw [t,decide_eq_true h0]) (Rx (μ:=μ) (ds:=[]) rfl (by simp) ?_)
      refine pd (ds:=[.int 0,csD (c.2.1,-2,c.2.2)]) (pc (x:=.int 0) rfl (pc (x:=csD (c.2.1,-2,c.2.2)) (pd (ds:=[.int c.2.1,.int (-2),.tup (c.2.2.map D.int)]) rfl (Ah (by simp; omega))) rfl)) (Ah (by simp; omega))
    . rw [if_neg h0]
      exact EO (μ1:=μ ++ [.lst []]) (by rw [t,decide_eq_false h0]) rfl
  have hlen:((if 0 <= c.2.1 then [(0,(c.2.1,(-2:Int),c.2.2))] else []).map BV).length <= 1:=by split <;> simp
  obtain ⟨o2,o3,go⟩:=LB (μ:=μ) hc c.2.2 0 ((if 0 <= c.2.1 then [(0,(c.2.1,-2,c.2.2))] else []).map BV) none none (by omega) (by omega)
  have em:(if 0 <= c.2.1 then [(0,(c.2.1,(-2:Int),c.2.2))] else []).map BV ++ (rdF 0 c.2.2).map (fun i=>BV (i + 1,mvR c i))=(EH c).map BV:=by
    unfold EH OS
    rw [List.map_append,List.map_map]
    rfl
  rw [em] at go
  refine HX (τ2:=[some (csD c),some (.ref μ.length),o2,o3]) ?_ rfl (fun o ho k=>by rw [List.mem_singleton] at ho; subst ho; exact Ay (MZ k) _) (by unfold Cl; simp)
  refine Ak (τ1:=[some (csD c),some (.ref μ.length),none,none]) (μ1:=μ ++ [.lst []]) ?_ (Ak fst (Ak (DP (ds:=Co 0 (c.2.2.map D.int)) (μ1:=_) rfl go) (Dy (As rfl))))
  refine Ex (d:=.ref μ.length) (μ1:=μ ++ [.lst []]) (CC (ds:=[]) (μ1:=μ) rfl ?_) rfl
  unfold Hm
  rw [AL (show lim ([]:List D).length μ=some ((),μ) from by unfold lim; rw [if_pos (by simp)])]
end
end K16
set_option maxHeartbeats 4000000
namespace K16
open PySem L2 Mi Nk Wb
open K13 (Ay BN Ah A0 po pn pc pd pq pa piT piF pr peT peF Eu DF BI CH BG Ca Ac BJ By Ci Bn CD)
section
variable {μ μ1 μ2 μ3 μ4 μ' g:Mh} {τ τ1 τ2:Sl} {x0 d:D} {ds es:List D} {n:Nat}
theorem gA {a b:MO}:(μ ++ (a :: b :: g))[μ.length]? = some a:=by rw [List.getElem?_append_right (Nat.le_refl _)]; simp
theorem gB {a b:MO}:(μ ++ (a :: b :: g))[μ.length + 1]? = some b:=by rw [List.getElem?_append_right (by omega)]; simp
theorem sA {a b c:MO}:(μ ++ (a :: b :: g)).set μ.length c=μ ++ (c :: b :: g):=by rw [List.set_append_right _ _ (Nat.le_refl _)]; simp
theorem sB {a b c:MO}:(μ ++ (a :: b :: g)).set (μ.length + 1) c=μ ++ (a :: c :: g):=by rw [List.set_append_right _ _ (by omega)]; simp
theorem Kj (c:Cs):JZ (csD c)=some c:=by
  obtain ⟨a,b,ts⟩:=c
  have h:∀ ns:List Int,Dv (ns.map D.int)=some ns:=fun ns=>by
    induction ns with
    | nil=>rfl
    | cons x r ih=>show (Dv (r.map D.int)).map _=_; rw [ih]; rfl
  show (Dv (ts.map D.int)).map _=_
  rw [h]
  rfl
theorem Md {L:List (Cs × D)} (h:μ[n]? = some (.dC L)):JY (.ref n) μ=some ((n,L),μ):=by unfold JY; dsimp only; rw [h]
theorem Me {L:List (Cs × D)} {c:Cs}:(L.any fun z=>decide (z.1=c))=decide (c ∈ L.map (·.1)):=by
  rw [Bool.eq_iff_iff,List.any_eq_true,decide_eq_true_eq,List.mem_map]
  constructor
  . rintro ⟨z,h1,h2⟩; exact ⟨z,h1,of_decide_eq_true h2⟩
  . rintro ⟨z,h1,h2⟩; exact ⟨z,h1,decide_eq_true h2⟩
theorem Tn {L:List (Cs × D)} {c:Cs} (h:μ[n]? = some (.dC L)):Nm true (csD c) (.ref n) μ=some (.bl (!decide (c ∈ L.map (·.1))),μ):=by
  unfold Nm
  rw [AL (Md h)]
  show (JZ (csD c)).map _=_
  rw [Kj,← Me]
  rfl
theorem MR {mo mi mv:Sl->M D} {v:D} {c:Cs} {L:List (Cs × D)} (h1:mv τ μ=some (v,μ)) (h2:mo τ μ=some (.ref n,μ)) (h3:mi τ μ=some (csD c,μ)) (h:μ[n]? = some (.dC L)) (hl:L.length < sizeLine) (hn:c ∉ L.map (·.1)):Gj mo mi mv τ μ=some ((.next,τ),μ.set n (.dC (L ++ [(c,v)]))):=by
  unfold Gj
  rw [AL h1,AL h2,AL h3,AL (Md h)]
  show (match JZ (csD c) with | some c=>if L.length < sizeLine /\ (L.any fun z=>decide (z.1=c))=false then some ((Fl.next,τ),μ.set n (.dC (L ++ [(c,v)]))) else none | none=>none)=_
  rw [Kj]
  show (if L.length < sizeLine /\ (L.any fun z=>decide (z.1=c))=false then some ((Fl.next,τ),μ.set n (.dC (L ++ [(c,v)]))) else none)=_
  rw [if_pos ⟨hl,by rw [Me,decide_eq_false hn]⟩]
abbrev wH (μ:Mh) (W:List (Cs × D)) (wait:List Cs) (g:Mh):Mh:=μ ++ (.dC W :: .lst (wait.map csD) :: g)
noncomputable abbrev SR:Sl->M (Fl × Sl):=(sIf (AR (mOp (Nm true) (AB 5) (AB 1))) (AV (Gj (AB 1) (AB 5) (AE AX (AC (AB 4) (AC (AB 2) AJ))))
    (Bu (A9 EY (AB 3) (AC (AB 5) AJ)))) A1)
theorem Nt {o0:Option D} {c x:Cs} {h:Int} {W:List (Cs × D)} {wait:List Cs} (hW:W.length <= 1000) (hq:wait.length <= 1000) (hc:∀ k,ClL k (W.map (·.2))):∃ W',(W'.map (·.1))=(vis (W.map (·.1),wait) x).1 /\ (∀ k,ClL k (W'.map (·.2))) /\
    SR [o0,some (.ref μ.length),some (csD c),some (.ref (μ.length + 1)),some (.int h),some (csD x)] (wH μ W wait g)=some ((.next,[o0,some (.ref μ.length),some (csD c),some (.ref (μ.length + 1)),some (.int h),some (csD x)]),wH μ W' (vis (W.map (·.1),wait) x).2 g):=by
  have hz:=BI
  have t:AR (mOp (Nm true) (AB 5) (AB 1)) [o0,some (.ref μ.length),some (csD c),some (.ref (μ.length + 1)),some (.int h),some (csD x)] (wH μ W wait g)=some (!decide (x ∈ W.map (·.1)),wH μ W wait g):=AU (po (x:=csD x) (y:=.ref μ.length) rfl rfl (Tn gA))
  by_cases e:x ∈ W.map (·.1)
  . refine ⟨W,by unfold vis; rw [if_pos e],hc,?_⟩
    unfold vis
    rw [if_pos e]
    exact EO (by rw [t,decide_eq_true e]; rfl) rfl
  . refine ⟨W ++ [(x,.tup [.int h,csD c])],by unfold vis; rw [if_neg e,List.map_append]; rfl,fun k=>?_,?_⟩
    . rw [List.map_append]
      have ap:∀ as:List D,ClL k as->ClL k (as ++ [D.tup [.int h,csD c]]):=fun as=>by
        induction as with
        | nil=>intro _; show ClL k [_]; unfold ClL; exact ⟨by unfold Cl ClL; exact ⟨BN _ _,by unfold ClL; exact ⟨EU _ _,by unfold ClL; trivial⟩⟩,by unfold ClL; trivial⟩
        | cons a as ih=>intro z; unfold ClL at z; show ClL k (a :: (as ++ _)); unfold ClL; exact ⟨z.1,ih z.2⟩
      exact ap _ (hc k)
    . unfold vis
      rw [if_neg e]
      refine EM (by rw [t,decide_eq_false e]; rfl) (Ak (μ1:=wH μ (W ++ [(x,.tup [.int h,csD c])]) wait g) ?_ (El (d:=.non) (Ek (μ1:=wH μ (W ++ [(x,.tup [.int h,csD c])]) wait g) (μ2:=wH μ (W ++ [(x,.tup [.int h,csD c])]) wait g) (μ3:=wH μ (W ++ [(x,.tup [.int h,csD c])]) wait g) (x:=.ref (μ.length + 1)) (ds:=[csD x]) rfl (BG gB) rfl ?_)))
      . have:=MR (τ:=[o0,some (.ref μ.length),some (csD c),some (.ref (μ.length + 1)),some (.int h),some (csD x)]) (μ:=wH μ W wait g) (n:=μ.length) (mo:=AB 1) (mi:=AB 5) (mv:=AE AX (AC (AB 4) (AC (AB 2) AJ))) (v:=.tup [.int h,csD c]) (c:=x) (L:=W) (pd (ds:=[.int h,csD c]) rfl (Ah (by simp; omega))) rfl rfl gA (by omega) e
        rw [sA] at this
        exact this
      . rw [Ca gB (by rw [List.length_map]; omega),sB]
        show some (D.non,μ ++ (MO.dC (W ++ [(x,D.tup [D.int h,csD c])]) :: MO.lst (wait.map csD ++ [csD x]) :: g))=some (D.non,μ ++ (MO.dC (W ++ [(x,D.tup [D.int h,csD c])]) :: MO.lst ((wait ++ [x]).map csD) :: g))
        rw [List.map_append]
        rfl
theorem gL {W:List (Cs × D)} {wait:List Cs} {o:MO}:(wH μ W wait (g ++ [o]))[μ.length + 2 + g.length]? = some o:=by
  show (μ ++ (MO.dC W :: MO.lst (wait.map csD) :: (g ++ [o])))[μ.length + 2 + g.length]? = _
  rw [List.getElem?_append_right (by omega)]
  have:μ.length + 2 + g.length - μ.length=g.length + 1 + 1:=by omega
  rw [this]
  simp
theorem Nu {o0:Option D} {c:Cs} {cs:List Cs} (hN:(clo cs).length < 64):∀ (ps pre:List (Nat × Cs)) (k:Nat) (W:List (Cs × D)) (wait:List Cs) (o4 o5:Option D),ps.length < k->Wm cs c (ps.map (·.2)) (W.map (·.1),wait)->(∀ p ∈ ps,p.2 ∈ nxt c)->wait.length <= W.length->(∀ k,ClL k (W.map (·.2)))->
    ∃ (W':List (Cs × D)) (o4' o5':Option D),W'.map (·.1)=((ps.map (·.2)).foldl vis (W.map (·.1),wait)).1 /\ (∀ k,ClL k (W'.map (·.2))) /\
      Fk (μ.length + 2 + g.length) (Hb [4,5]) SR k pre.length [o0,some (.ref μ.length),some (csD c),some (.ref (μ.length + 1)),o4,o5] (wH μ W wait (g ++ [.lst ((pre ++ ps).map BV)]))=some ((.next,[o0,some (.ref μ.length),some (csD c),some (.ref (μ.length + 1)),o4',o5']),wH μ W' ((ps.map (·.2)).foldl vis (W.map (·.1),wait)).2 (g ++ [.lst ((pre ++ ps).map BV)]))
  | [],pre,k + 1,W,wait,o4,o5,hk,w,hp,hl,hc=>⟨W,o4,o5,rfl,hc,K11.Nc gL (by simp)⟩
  | p :: ps,pre,k + 1,W,wait,o4,o5,hk,w,hp,hl,hc=>by
    have hlen:W.length <= 63:=by
      have:=CN w.nd w.frm
      simp at this
      omega
    obtain ⟨W1,e1,c1,st⟩:=Nt (μ:=μ) (g:=g ++ [.lst ((pre ++ p :: ps).map BV)]) (o0:=o0) (c:=c) (x:=p.2) (h:=(p.1:Int)) (W:=W) (wait:=wait) (by omega) (by omega) hc
    have w1:=w.vis (hp p List.mem_cons_self)
    have hl1:(vis (W.map (·.1),wait) p.2).2.length <= W1.length:=by
      have:=Lc (W.map (·.1),wait) p.2
      have e2:=congrArg List.length e1
      simp at this e2
      omega
    obtain ⟨W',o4',o5',e',c',go⟩:=Nu hN ps (pre ++ [p]) k W1 (vis (W.map (·.1),wait) p.2).2 (some (.int p.1)) (some (csD p.2)) (by simp at hk; omega) (by rw [e1]; exact w1) (fun q hq=>hp q (List.mem_cons_of_mem _ hq)) hl1 c1
    rw [e1] at e' go
    refine ⟨W',o4',o5',e',c',?_⟩
    have ea:pre ++ [p] ++ ps=pre ++ p :: ps:=by simp
    rw [ea] at go
    refine K11.Nb (τ1:=[o0,some (.ref μ.length),some (csD c),some (.ref (μ.length + 1)),some (.int p.1),some (csD p.2)]) (y:=BV p) gL (by simp) rfl st ?_
    simpa using go
  | _,_,0,_,_,_,_,hk,_,_,_,_=>absurd hk (by omega)
noncomputable abbrev whB:Sl->M (Fl × Sl):=(AV (Ae (FK Q0 (AB 3)) (AM 2))
    (Lo 1000 (AE B8 (AC (AB 2) AJ)) (Hb [4,5]) SR))
theorem O7 (c:Cs):(EH c).length <= c.2.2.length + 1:=by
  unfold EH OS
  have:=Lv c.2.2 0
  rw [List.length_append,List.length_map]
  split <;> simp <;> omega
theorem Jh {S:Sl} {wait:List Cs} {W:List (Cs × D)} (h:S[3]? = some (some (.ref (μ.length + 1)))):Fx (AB 3) S (wH μ W wait g)=some (!wait.isEmpty,wH μ W wait g):=by
  unfold Fx
  rw [AL (As h),AL (show BU (.ref (μ.length + 1)) (wH μ W wait g)=some (wait.map csD,wH μ W wait g) from by
    show (match (wH μ W wait g)[μ.length + 1]? with | some (.lst ds)=>some (ds,wH μ W wait g) | _=>none)=_
    rw [gB])]
  cases wait <;> rfl
theorem Jc {o0:Option D} {cs:List Cs} (hN:(clo cs).length < 64) (hw:∀ x ∈ clo cs,x.2.2.length <= 100):∀ (k:Nat) (W:List (Cs × D)) (wait:List Cs) (g:Mh) (o2 o4 o5:Option D),(clo cs).length + wait.length < k + W.length->Wk cs (W.map (·.1)) wait->wait.length <= W.length->(∀ k,ClL k (W.map (·.2)))->(∀ o ∈ g,∀ k,ClO k o)->
    ∃ (W':List (Cs × D)) (g':Mh) (o2' o4' o5':Option D),Wk cs (W'.map (·.1)) [] /\ (∀ k,ClL k (W'.map (·.2))) /\ (∀ o ∈ g',∀ k,ClO k o) /\
      F7 (Fx (AB 3)) whB k [o0,some (.ref μ.length),o2,some (.ref (μ.length + 1)),o4,o5] (wH μ W wait g)=some ((.next,[o0,some (.ref μ.length),o2',some (.ref (μ.length + 1)),o4',o5']),wH μ W' [] g')
  | 0,W,wait,g,o2,o4,o5,hk,w,_,_,_=>by
    have:=CN w.nd w.frm
    simp at this
    omega
  | k + 1,W,wait,g,o2,o4,o5,hk,w,hl,hc,hg=>by
    rcases List.eq_nil_or_concat wait with rfl | ⟨q,c,rfl⟩
    . exact ⟨W,g,o2,o4,o5,w,hc,hg,K13.HK (Jh rfl)⟩
    . rw [List.concat_eq_append] at *
      have hlen:W.length <= 63:=by
        have:=CN w.nd w.frm
        simp at this
        omega
      have hcc:c ∈ clo cs:=w.frm c (w.sub c (by simp))
      have hcl:=hw c hcc
      have m:Wm cs c ((EH c).map (·.2)) (W.map (·.1),q):=⟨w.nd,fun x hx=>w.sub x (List.mem_append_left _ hx),fun x hx=>by
        rcases w.don x hx with z | z
        . rcases List.mem_append.mp z with z | z
          . exact .inl z
          . exact .inr (.inl (by simpa using z))
        . exact .inr (.inr z),fun y hy=>.inl hy,w.frm,w.all,w.sub c (by simp)⟩
      have hm:=O7 c
      simp at hl hk
      obtain ⟨W1,o4',o5',e1,c1,go⟩:=Nu (μ:=μ) (g:=g) (o0:=o0) (c:=c) hN (EH c) [] 1000 W q o4 o5 (by omega) m (fun p hp=>List.mem_map.mpr ⟨p,hp,rfl⟩) (by omega) hc
      rw [List.nil_append] at go
      have hh:=w.hop
      have eh:(hop (W.map (·.1),q ++ [c]) c)=((EH c).map (·.2)).foldl vis (W.map (·.1),q):=by
        unfold hop nxt
        rw [List.dropLast_concat]
      rw [eh] at hh
      have hle:=KJ ((EH c).map (·.2)) (W.map (·.1),q)
      have el:=congrArg List.length e1
      simp only [List.length_map] at hle el
      rw [← e1] at hh
      have hg1:∀ o ∈ g ++ [.lst ((EH c).map BV)],∀ k,ClO k o:=fun o ho k=>by
        rcases List.mem_append.mp ho with z | z
        . exact hg o z k
        . rw [List.mem_singleton] at z; subst z; exact Ay (MZ k) _
      obtain ⟨W',g',o2',o4'',o5'',r1,r2,r3,r4⟩:=Jc (o0:=o0) hN hw k W1 _ (g ++ [.lst ((EH c).map BV)]) (some (csD c)) o4' o5' (by omega) hh (by omega) c1 hg1
      refine ⟨W',g',o2',o4'',o5'',r1,r2,r3,K13.LL (τ2:=[o0,some (.ref μ.length),some (csD c),some (.ref (μ.length + 1)),o4',o5']) (μ2:=wH μ W1 (((EH c).map (·.2)).foldl vis (W.map (·.1),q)).2 (g ++ [.lst ((EH c).map BV)])) ((Jh rfl).trans (by simp)) ?_ r4⟩
      refine Ak (τ1:=[o0,some (.ref μ.length),some (csD c),some (.ref (μ.length + 1)),o4,o5]) (μ1:=wH μ W q g) (Ex (d:=csD c) (μ1:=wH μ W q g) ?_ rfl) ?_
      . unfold FK
        rw [AL (show AB 3 [o0,some (.ref μ.length),o2,some (.ref (μ.length + 1)),o4,o5] (wH μ W (q ++ [c]) g)=some (.ref (μ.length + 1),wH μ W (q ++ [c]) g) from rfl),AL (BG gB)]
        show Jf (μ.length + 1) _ (wH μ W (q ++ [c]) g)=_
        unfold Jf
        rw [gB]
        show Option.map _ (((q ++ [c]).map csD)[((q ++ [c]).map csD).length - 1]?.map fun d=>(d,((q ++ [c]).map csD).dropLast))=_
        have e0:((q ++ [c]).map csD)[((q ++ [c]).map csD).length - 1]? = some (csD c):=by simp
        have e2:((q ++ [c]).map csD).dropLast=q.map csD:=by simp
        rw [e0,e2]
        show some (csD c,(wH μ W (q ++ [c]) g).set (μ.length + 1) (.lst (q.map csD)))=_
        rw [sB]
      . unfold Lo
        have vm:=Mm (μ:=wH μ W q g) (c:=c) hcl
        have el:(wH μ W q g).length=μ.length + 2 + g.length:=by
          show (μ ++ (MO.dC W :: MO.lst (q.map csD) :: g)).length=_
          rw [List.length_append]
          simp
          omega
        have ew:wH μ W q g ++ [.lst ((EH c).map BV)]=wH μ W q (g ++ [.lst ((EH c).map BV)]):=by
          show (μ ++ (MO.dC W :: MO.lst (q.map csD) :: g)) ++ _=μ ++ (MO.dC W :: MO.lst (q.map csD) :: (g ++ _))
          simp
        rw [el,ew] at vm
        rw [AL (CC (ds:=[csD c]) (μ1:=wH μ W q g) rfl vm)]
        exact go
end
end K16
set_option maxHeartbeats 4000000
namespace K16
open PySem L2 Mi Nk Wb
open K13 (Ay BN Ah A0 po pn pc pd pq pa piT piF pr peT peF Eu DF BI CH BG Ca Ac BJ By Ci Bn CD)
section
variable {μ μ1 μ2 μ3 μ4 μ' g:Mh} {τ τ1 τ2:Sl} {x0 d:D} {ds es:List D} {n:Nat}
def CM (cs:List Cs):List (Cs × D):=cs.map fun c=>(c,D.non)
theorem J3 (cs:List Cs):(CM cs).map (·.1)=cs:=by unfold CM; rw [List.map_map]; exact List.map_id cs
theorem O4 (cs:List Cs) (k:Nat):ClL k ((CM cs).map (·.2)):=by unfold CM; rw [List.map_map]; exact Ay (fun a=>by show Cl k D.non; unfold Cl; trivial) cs
theorem MP {o0 o3 o4 o5:Option D}:∀ (cs don:List Cs) (o2:Option D),(don ++ cs).Nodup->(don ++ cs).length <= 1000->∃ o2':Option D,
    DA (AM 2) (Gj (AB 1) (AB 2) (mC .non)) (cs.map csD) [o0,some (.ref μ.length),o2,o3,o4,o5] (μ ++ [.dC (CM don)])=some ((.next,[o0,some (.ref μ.length),o2',o3,o4,o5]),μ ++ [.dC (CM (don ++ cs))])
  | [],don,o2,_,_=>⟨o2,by simp; rfl⟩
  | c :: cs,don,o2,nd,hl=>by
    have hz:=BI
    obtain ⟨o2',go⟩:=MP (o0:=o0) (o3:=o3) (o4:=o4) (o5:=o5) cs (don ++ [c]) (some (csD c)) (by simpa using nd) (by simpa using hl)
    refine ⟨o2',?_⟩
    have hn:c ∉ (CM don).map (·.1):=by
      rw [J3]
      intro h
      have:=(List.nodup_append.mp nd).2.2 c h c (by simp)
      exact this rfl
    have hlen:(CM don).length < sizeLine:=by unfold CM; rw [List.length_map]; simp at hl; omega
    refine Ac (τ1:=[o0,some (.ref μ.length),some (csD c),o3,o4,o5]) (μ1:=μ ++ [.dC (CM don)]) rfl ?_ (by simpa using go)
    have:=MR (τ:=[o0,some (.ref μ.length),some (csD c),o3,o4,o5]) (μ:=μ ++ [.dC (CM don)]) (n:=μ.length) (mo:=AB 1) (mi:=AB 2) (mv:=mC .non) (v:=.non) (c:=c) (L:=CM don) rfl rfl rfl g1a hlen hn
    rw [s1a] at this
    have e:CM don ++ [(c,D.non)]=CM (don ++ [c]):=by unfold CM; simp
    rw [e] at this
    exact this
theorem Ml {cs:List Cs} (nd:cs.Nodup) (hN:(clo cs).length < 64) (hw:∀ x ∈ clo cs,x.2.2.length <= 100):∃ (W:List (Cs × D)) (g:Mh),Wk cs (W.map (·.1)) [] /\ Fp [.lst (cs.map csD)] μ=some (.ref μ.length,wH μ W [] g):=by
  have hz:=BI
  have hlen:cs.length <= 63:=by
    have:=CN nd fun x hx=>mem_clo.mpr ⟨x,hx,Gq x⟩
    omega
  obtain ⟨o2,fg⟩:=MP (μ:=μ) (o0:=some (.lst (cs.map csD))) (o3:=none) (o4:=none) (o5:=none) cs [] none (by simpa using nd) (by simp; omega)
  have w0:Wk cs ((CM cs).map (·.1)) cs:=by
    rw [J3]
    exact ⟨nd,fun x h=>h,fun x h=>.inl h,fun x h=>mem_clo.mpr ⟨x,h,Gq x⟩,fun x h=>h⟩
  have hnl:(CM cs).length=cs.length:=by unfold CM; simp
  obtain ⟨W,g,o2',o4',o5',r1,r2,r3,r4⟩:=Jc (μ:=μ) (o0:=some (.lst (cs.map csD))) hN hw A5 (CM cs) cs [] o2 none none (by rw [hnl]; unfold A5; omega) w0 (by omega) (O4 cs) (fun o h=>by cases h)
  refine ⟨W,g,r1,?_⟩
  refine HX (g:=.dC W :: .lst [] :: g) (τ2:=[some (.lst (cs.map csD)),some (.ref μ.length),o2',some (.ref (μ.length + 1)),o4',o5']) ?_ rfl (fun o ho k=>?_) (by unfold Cl; simp)
  . refine Ak (τ1:=[some (.lst (cs.map csD)),some (.ref μ.length),none,none,none,none]) (μ1:=μ ++ [.dC []]) rfl (Ak (DP (ds:=cs.map csD) (μ1:=μ ++ [.dC []]) (BJ rfl) fg) (Ak (τ1:=[some (.lst (cs.map csD)),some (.ref μ.length),o2,some (.ref (μ.length + 1)),none,none]) (μ1:=wH μ (CM cs) cs []) (Ex (d:=.ref (μ.length + 1)) (μ1:=wH μ (CM cs) cs []) ?_ rfl) (Ak r4 (Dy (As rfl)))))
    refine CC (ds:=[.ref μ.length]) (μ1:=μ ++ [.dC (CM cs)]) rfl ?_
    show bnd (JY (.ref μ.length)) _ _=_
    rw [AL (Md g1a)]
    show some (D.ref (μ ++ [MO.dC (CM cs)]).length,μ ++ [MO.dC (CM cs)] ++ [MO.lst ((CM cs).map fun y=>csD y.1)])=_
    have e:(CM cs).map (fun y=>csD y.1)=cs.map csD:=by unfold CM; rw [List.map_map]; rfl
    rw [e,List.append_assoc]
    simp
  . rcases List.mem_cons.mp ho with rfl | ho
    . exact r2 k
    . rcases List.mem_cons.mp ho with rfl | ho
      . show ClL k []; unfold ClL; trivial
      . exact r3 o ho k
theorem Ny {cs:List Cs} (nd:cs.Nodup) (hN:(clo cs).length < 64) (hw:∀ x ∈ clo cs,x.2.2.length <= 100):∃ K:List Cs,K.Nodup /\ (∀ x,x ∈ K ↔ x ∈ clo cs) /\ ∀ μ:Mh,Cf [.lst (cs.map csD)] μ=some (.tup (K.map csD),μ):=by
  have key:∀ μ:Mh,∃ K:List Cs,K.Nodup /\ (∀ x,x ∈ K ↔ x ∈ clo cs) /\ K.Pairwise (fun x y=>cLt x y=true) /\ Cf [.lst (cs.map csD)] μ=some (.tup (K.map csD),μ):=fun μ=>by
    have hz:=BI
    obtain ⟨W,g,w,e⟩:=Ml (μ:=μ) nd hN hw
    have hl:W.length < 64:=by
      have:=CN w.nd w.frm
      simp at this
      omega
    refine ⟨Gd (W.map (·.1)),(Cv _).nodup_iff.mpr w.nd,fun x=>by rw [(Cv _).mem_iff]; exact w.done,Im w.nd,?_⟩
    refine AS (g:=.dC W :: .lst [] :: g) (τ2:=[some (.lst (cs.map csD))]) ?_ rfl (by unfold Cl; exact Ay (EU _) _)
    refine Dy (CC (ds:=[.lst ((Gd (W.map (·.1))).map csD)]) (μ1:=wH μ W [] g) (EQ (x:=.lst ((Gd (W.map (·.1))).map csD)) (μ1:=wH μ W [] g) (CC (ds:=[.ref μ.length]) (μ1:=wH μ W [] g) (EQ (x:=.ref μ.length) (μ1:=wH μ W [] g) (CC (ds:=[.lst (cs.map csD)]) (μ1:=μ) rfl e) rfl) ?_) rfl) rfl)
    show bnd (JY (.ref μ.length)) _ _=_
    rw [AL (Md gA)]
    show (if W.length < 64 then some (D.lst ((Gd (W.map (·.1))).map csD),wH μ W [] g) else none)=_
    rw [if_pos hl]
  obtain ⟨K,k1,k2,k3,_⟩:=key []
  refine ⟨K,k1,k2,fun μ=>?_⟩
  obtain ⟨K',k1',k2',k3',e⟩:=key μ
  have:K'=K:=N3 k3' k3 ((List.perm_ext_iff_of_nodup k1' k1).mpr fun x=>(k2' x).trans (k2 x).symm)
  rw [this] at e
  exact e
end
end K16
set_option maxHeartbeats 4000000
namespace Wb
open PySem Nk
open K13 (Ev)
def LU (v:Int) (c:Cs):Cs:=(c.1,v,c.2.2)
def Nr (r:Nat) (c:Cs):Cs:=(c.1,c.2.1,c.2.2.set r (-2))
def endW (c:Cs):Option Cs:=if c.2.1 = -2 then some (c.1,-1,c.2.2) else none
def endR (r:Nat) (v:Int) (c:Cs):Option Cs:=if c.2.2[r]? = some v then some (c.1,c.2.1,c.2.2.set r (-1)) else none
def pre (S:List Cs):Ev->List Cs
  | .wb v=>S.map (LU v)
  | .we=>S.filterMap endW
  | .rb r=>S.map (Nr r)
  | .re r v=>S.filterMap (endR r v)
def fit (S:List Cs) (e:Ev):Bool:=(match e with
  | .wb _=>S.all fun c=>decide (c.2.1 = -1)
  | .we=>true
  | .rb r=>S.all fun c=>decide (c.2.2[r]? = some (-1))
  | .re r _=>S.all fun c=>decide (r < c.2.2.length)) && decide ((clo (pre S e)).length < 64) && (clo (pre S e)).all (fun c=>decide (c.2.2.length <= 100)) && S.all (fun c=>decide (c.2.2.length <= 100)) && decide (S.length <= 1000)
def gone (S:List Cs):Ev->Bool
  | .re r v=>(S.filterMap (endR r v)).isEmpty
  | _=>false
def Bl:List Cs->List Ev->Bool
  | _,[]=>true
  | S,e :: es=>if gone S e=true then false else Bl (clo (pre S e)) es
def fitW:List Cs->List Ev->Bool
  | _,[]=>true
  | S,e :: es=>fit S e && (gone S e || fitW (clo (pre S e)) es)
def Sim (K S:List Cs):Prop:=K.Nodup /\ ∀ x,x ∈ K ↔ x ∈ S
theorem Dt {α β:Type} {f:α->β}:∀ {xs:List α},(∀ a ∈ xs,∀ b ∈ xs,f a=f b->a=b)->xs.Nodup->(xs.map f).Nodup
  | [],_,_=>List.nodup_nil
  | x :: xs,h,nd=>by
    obtain ⟨n1,n2⟩:=List.nodup_cons.mp nd
    rw [List.map_cons]
    refine List.nodup_cons.mpr ⟨fun z=>?_,Dt (fun a ha b hb=>h a (List.mem_cons_of_mem _ ha) b (List.mem_cons_of_mem _ hb)) n2⟩
    obtain ⟨y,hy,e⟩:=List.mem_map.mp z
    have:=h y (List.mem_cons_of_mem _ hy) x List.mem_cons_self e
    exact n1 (this ▸ hy)
theorem EF {α β:Type} {f:α->Option β}:∀ {xs:List α},(∀ a ∈ xs,∀ b ∈ xs,∀ y,f a=some y->f b=some y->a=b)->xs.Nodup->(xs.filterMap f).Nodup
  | [],_,_=>List.nodup_nil
  | x :: xs,h,nd=>by
    obtain ⟨n1,n2⟩:=List.nodup_cons.mp nd
    have ih:=EF (fun a ha b hb=>h a (List.mem_cons_of_mem _ ha) b (List.mem_cons_of_mem _ hb)) n2
    rw [List.filterMap_cons]
    split
    . exact ih
    . rename_i y e
      refine List.nodup_cons.mpr ⟨fun z=>?_,ih⟩
      obtain ⟨w,hw,ew⟩:=List.mem_filterMap.mp z
      have:=h w (List.mem_cons_of_mem _ hw) x List.mem_cons_self y ew e
      exact n1 (this ▸ hw)
theorem Iq {i:Nat} {a b v:Int}:∀ {xs ys:List Int},xs[i]? = some a->ys[i]? = some a->xs.set i v=ys.set i v->xs=ys
  | [],_,h,_,_=>by simp at h
  | _ :: _,[],_,h,_=>by simp at h
  | x :: xs,y :: ys,h1,h2,e=>by
    cases i with
    | zero=>
      simp at h1 h2 e
      rw [h1,h2,e]
    | succ i=>
      simp at h1 h2 e
      rw [e.1,Iq (b:=b) h1 h2 e.2]
theorem L8 {K S:List Cs} (h:∀ x,x ∈ K ↔ x ∈ S) (e:Ev) (x:Cs):x ∈ pre K e ↔ x ∈ pre S e:=by
  cases e <;> simp only [pre,List.mem_map,List.mem_filterMap,h]
theorem Ti {K S:List Cs} {e:Ev} (s:Sim K S) (f:fit S e=true):(pre K e).Nodup:=by
  obtain ⟨nd,h⟩:=s
  unfold fit at f
  simp only [Bool.and_eq_true] at f
  obtain ⟨⟨⟨⟨f,_⟩,_⟩,_⟩,_⟩:=f
  cases e with
  | wb v=>
    refine Dt (fun a ha b hb z=>?_) nd
    have e1:=of_decide_eq_true (List.all_eq_true.mp f a ((h a).mp ha))
    have e2:=of_decide_eq_true (List.all_eq_true.mp f b ((h b).mp hb))
    obtain ⟨a1,a2,a3⟩:=a
    obtain ⟨b1,b2,b3⟩:=b
    simp only [LU,Prod.mk.injEq] at z e1 e2 ⊢
    exact ⟨z.1,e1.trans e2.symm,z.2.2⟩
  | we=>
    refine EF (fun a ha b hb y z1 z2=>?_) nd
    unfold endW at z1 z2
    split at z1
    . rename_i q1
      split at z2
      . rename_i q2
        obtain ⟨a1,a2,a3⟩:=a
        obtain ⟨b1,b2,b3⟩:=b
        have z:=z1.trans z2.symm
        simp only [Option.some.injEq,Prod.mk.injEq] at z q1 q2 ⊢
        exact ⟨z.1,q1.trans q2.symm,z.2.2⟩
      . cases z2
    . cases z1
  | rb r=>
    refine Dt (fun a ha b hb z=>?_) nd
    have e1:=of_decide_eq_true (List.all_eq_true.mp f a ((h a).mp ha))
    have e2:=of_decide_eq_true (List.all_eq_true.mp f b ((h b).mp hb))
    obtain ⟨a1,a2,a3⟩:=a
    obtain ⟨b1,b2,b3⟩:=b
    simp only [Nr,Prod.mk.injEq] at z e1 e2 ⊢
    exact ⟨z.1,z.2.1,Iq (b:=0) e1 e2 z.2.2⟩
  | re r v=>
    refine EF (fun a ha b hb y z1 z2=>?_) nd
    unfold endR at z1 z2
    split at z1
    . rename_i q1
      split at z2
      . rename_i q2
        obtain ⟨a1,a2,a3⟩:=a
        obtain ⟨b1,b2,b3⟩:=b
        have z:=z1.trans z2.symm
        simp only [Option.some.injEq,Prod.mk.injEq] at z q1 q2 ⊢
        exact ⟨z.1,z.2.1,Iq (b:=0) q1 q2 z.2.2⟩
      . cases z2
    . cases z1
theorem J9 {α β:Type} [DecidableEq α] {f:α->List β}:∀ {xs ys:List α},xs.Nodup->(∀ x ∈ xs,x ∈ ys)->(xs.flatMap f).length <= (ys.flatMap f).length
  | [],_,_,_=>by simp
  | x :: xs,ys,nd,h=>by
    obtain ⟨n1,n2⟩:=List.nodup_cons.mp nd
    have hx:=h x List.mem_cons_self
    have ih:=J9 (f:=f) (xs:=xs) (ys:=ys.erase x) n2 fun y hy=>(List.mem_erase_of_ne (fun e=>n1 (by rw [← e]; exact hy))).mpr (h y (List.mem_cons_of_mem _ hy))
    have p:(ys.flatMap f).Perm ((x :: ys.erase x).flatMap f):=List.Perm.flatMap_right f (List.perm_cons_erase hx)
    rw [p.length_eq,List.flatMap_cons,List.flatMap_cons,List.length_append,List.length_append]
    omega
theorem Rq {cs ds:List Cs} (nd:cs.Nodup) (h:∀ x ∈ cs,x ∈ ds):(clo cs).length <= (clo ds).length:=J9 nd h
theorem Rp {cs ds:List Cs} (h:∀ x,x ∈ cs ↔ x ∈ ds) (x:Cs):x ∈ clo cs ↔ x ∈ clo ds:=by
  rw [mem_clo,mem_clo]
  constructor
  . rintro ⟨c,h1,h2⟩; exact ⟨c,(h c).mp h1,h2⟩
  . rintro ⟨c,h1,h2⟩; exact ⟨c,(h c).mpr h1,h2⟩
end Wb
set_option maxHeartbeats 4000000
namespace K16
open PySem L2 Mi Nk Wb
open K13 (Ay BN Ah A0 po pn pc pd pq pa piT piF pr peT peF Eu DF BI CH BG Ca Ac BJ By Ci Bn CD hdD G8 FN Ev A3 KA bS Ev.beg Ev.hand Ev.val)
section
variable {μ μ1 μ2 μ3 μ4 μ' g:Mh} {τ τ1 τ2:Sl} {x0 d:D} {ds es:List D} {n:Nat} {sz bg:Int} {ns:List Str}
def mkK (kd:Str) (sz bg:Int) (ns:List Str):D:=.tup [.str kd,.int sz,.int bg,.tup [],.tup (ns.map hdD)]
abbrev mkW (sz bg:Int) (ns:List Str):D:=mkK "whole" sz bg ns
def clW (K:List Cs):D:=.tup (K.map csD)
def oC:Option Cs->D
  | some c=>csD c
  | none=>.non
theorem EV (k:Nat) (K:List Cs):Cl k (clW K):=by unfold clW Cl; exact Ay (EU k) K
theorem KD {S:Sl} (h:S[0]? = some (some (mkW sz bg ns))):AR (mOp Aj (mOp AN (AB 0) (mC (.int 0))) (mC (.str "whole"))) S μ=some (true,μ):=
  AU (po (x:=.str "whole") (y:=.str "whole") (po (x:=mkW sz bg ns) (y:=.int 0) (As h) rfl rfl) rfl (by rw [G8 (by decide +kernel) (by decide +kernel)]; simp))
theorem N1 (h:ns.length <= 1000) (h2:2 <= ns.length):BD [mkW sz bg ns] μ=some (clW [(bg,-1,List.replicate (ns.length - 1) (-1))],μ):=by
  have hz:=BI
  refine AS (g:=[]) (τ2:=[some (mkW sz bg ns),some (.int ((ns.length:Int) - 1))]) ?_ rfl (EV _ _)
  rw [List.append_nil]
  refine pq (pa (d:=.int ((ns.length:Int) - 1)) (po (x:=.int ns.length) (y:=.int 1) (pd (ds:=[.tup (ns.map hdD)]) rfl ?_) rfl rfl) rfl) (BB (piT (KD rfl) (pr (pd (ds:=[csD (bg,-1,List.replicate (ns.length - 1) (-1))]) (pc (pd (ds:=[.int bg,.int (-1),.tup ((List.replicate (ns.length - 1) (-1)).map D.int)]) (pc (x:=.int bg) rfl (pc (x:=.int (-1)) rfl (pc (po (x:=.tup [.int (-1)]) (y:=.int ((ns.length:Int) - 1)) rfl rfl ?_) rfl))) (Ah (by simp; omega))) rfl) (Ah (by simp; omega))))))
  . show some (D.int (((ns.map hdD).length:Nat):Int),μ)=_
    rw [List.length_map]
  . show (if [D.int (-1)] ≠ [] /\ [D.int (-1)].length <= 1000 /\ 1 <= ((ns.length:Int) - 1) /\ ((ns.length:Int) - 1) <= 1000 then some (D.tup (List.replicate ((ns.length:Int) - 1).toNat [D.int (-1)]).flatten,μ) else none)=_
    rw [if_pos ⟨by simp,by simp,by omega,by omega⟩,FN,List.map_replicate,show ((ns.length:Int) - 1).toNat=ns.length - 1 by omega]
theorem UJ {c:Cs} {v:Int}:B9 [csD c,.int 0,.int v] μ=some (csD (LU v c),μ):=by
  have hz:=BI
  refine AS (g:=[]) (τ2:=[some (csD c),some (.int 0),some (.int v)]) ?_ rfl (EU _ _)
  rw [List.append_nil]
  exact BB (piT (AU (po (x:=.int 0) (y:=.int 0) rfl rfl CH)) (pr (pd (ds:=[.int c.1,.int v,.tup (c.2.2.map D.int)]) rfl (Ah (by simp; omega)))))
theorem Lb {ts:List Int} {r:Nat} {v:Int} (h:r < ts.length) (hl:ts.length <= 1000):Al [.tup (ts.map D.int),.int r,.int v] μ=some (.tup ((ts.set r v).map D.int),μ):=by
  rw [JS,Eu (by rw [List.length_map]; exact h) (by rw [List.length_map]; exact hl) (fun k=>Ay (BN k) _) (fun k=>BN k _),List.map_set]
theorem UK {c:Cs} {r:Nat} {v:Int} (h:r < c.2.2.length) (hl:c.2.2.length <= 1000):B9 [csD c,.int ((r:Int) + 1),.int v] μ=some (csD (Nr r c),μ):=by
  have hz:=BI
  refine AS (g:=[]) (τ2:=[some (csD c),some (.int ((r:Int) + 1)),some (.int v)]) ?_ rfl (EU _ _)
  rw [List.append_nil]
  refine pq (piF (AU ((po (x:=.int ((r:Int) + 1)) (y:=.int 0) rfl rfl CH).trans (by rw [beq_eq_false_iff_ne.mpr (by omega)]))) rfl) (pr (pd (ds:=[.int c.1,.int c.2.1,.tup ((c.2.2.set r (-2)).map D.int)]) (pc (x:=.int c.1) rfl (pc (x:=.int c.2.1) rfl (pc (pd (ds:=[.tup (c.2.2.map D.int),.int r,.int (-2)]) (pc rfl (pc (po (x:=.int ((r:Int) + 1)) (y:=.int 1) rfl rfl ?_) rfl)) (Lb h hl)) rfl))) (Ah (by simp; omega))))
  show some (D.int ((r:Int) + 1 - 1),μ)=_
  rw [show (r:Int) + 1 - 1=r by omega]
theorem UH {c:Cs} {v:Int}:Bf [csD c,.int 0,.int v] μ=some (oC (endW c),μ):=by
  have hz:=BI
  refine AS (g:=[]) (τ2:=[some (csD c),some (.int 0),some (.int v)]) ?_ rfl (by cases endW c with | none=>unfold oC Cl; trivial | some c=>exact EU _ _)
  rw [List.append_nil]
  have t:AR (mOp Aj (mOp AN (AB 0) (mC (.int 1))) (mC HR)) [some (csD c),some (.int 0),some (.int v)] μ=some (c.2.1 == -2,μ):=AU (po (x:=.int c.2.1) (y:=.int (-2)) rfl rfl CH)
  refine BB (piT (AU (po (x:=.int 0) (y:=.int 0) rfl rfl CH)) (pr ?_))
  unfold endW
  by_cases e:c.2.1 = -2
  . rw [if_pos e]
    exact peT (t.trans (by rw [e]; rfl)) (pd (ds:=[.int c.1,.int (-1),.tup (c.2.2.map D.int)]) rfl (Ah (by simp; omega)))
  . rw [if_neg e]
    exact peF (t.trans (by rw [beq_eq_false_iff_ne.mpr e])) rfl
theorem UI {c:Cs} {r:Nat} {v:Int} (h:r < c.2.2.length) (hl:c.2.2.length <= 1000):Bf [csD c,.int ((r:Int) + 1),.int v] μ=some (oC (endR r v c),μ):=by
  have hz:=BI
  refine AS (g:=[]) (τ2:=[some (csD c),some (.int ((r:Int) + 1)),some (.int v)]) ?_ rfl (by cases endR r v c with | none=>unfold oC Cl; trivial | some c=>exact EU _ _)
  rw [List.append_nil]
  have er:mOp Da (AB 1) (mC (.int 1)) [some (csD c),some (.int ((r:Int) + 1)),some (.int v)] μ=some (.int r,μ):=by
    refine po (x:=.int ((r:Int) + 1)) (y:=.int 1) rfl rfl ?_
    show some (D.int ((r:Int) + 1 - 1),μ)=_
    rw [show (r:Int) + 1 - 1=r by omega]
  have t:AR (mOp Aj (mOp AN (mOp AN (AB 0) (mC (.int 2))) (mOp Da (AB 1) (mC (.int 1)))) (AB 2)) [some (csD c),some (.int ((r:Int) + 1)),some (.int v)] μ=some (c.2.2[r] == v,μ):=
    AU (po (x:=.int c.2.2[r]) (y:=.int v) (po (x:=.tup (c.2.2.map D.int)) (y:=.int r) rfl er (IG (DF (by simp [h])))) rfl CH)
  refine pq (piF (AU ((po (x:=.int ((r:Int) + 1)) (y:=.int 0) rfl rfl CH).trans (by rw [beq_eq_false_iff_ne.mpr (by omega)]))) rfl) (pr ?_)
  unfold endR
  by_cases e:c.2.2[r]? = some v
  . rw [if_pos e]
    have e':c.2.2[r]=v:=by rw [List.getElem?_eq_getElem h] at e; exact Option.some.inj e
    refine peT (t.trans (by rw [e']; simp)) (pd (ds:=[.int c.1,.int c.2.1,.tup ((c.2.2.set r (-1)).map D.int)]) (pc (x:=.int c.1) rfl (pc (x:=.int c.2.1) rfl (pc (pd (ds:=[.tup (c.2.2.map D.int),.int r,.int (-1)]) (pc rfl (pc er rfl)) (Lb h hl)) rfl))) (Ah (by simp; omega)))
  . rw [if_neg e]
    have e' : ¬ c.2.2[r]=v:=fun z=>e (by rw [List.getElem?_eq_getElem h,z])
    exact peF (t.trans (by rw [beq_eq_false_iff_ne.mpr e'])) rfl
theorem SK {f:Cs->Option Cs}:∀ K:List Cs,((K.map fun c=>f c).filter fun o=>o.isSome).map oC=(K.filterMap f).map csD
  | []=>rfl
  | c :: K=>by
    have ih:=SK (f:=f) K
    rw [List.map_cons,List.filterMap_cons]
    cases e:f c with
    | none=>rw [List.filter_cons_of_neg (by simp)]; exact ih
    | some y=>rw [List.filter_cons_of_pos (by simp),List.map_cons,ih]; rfl
theorem Lf {K:List Cs} {h:Int} {v:Int} {f:Cs->Option Cs} (hl:K.length <= 1000) (he:∀ c ∈ K,∀ μ:Mh,Bf [csD c,.int h,.int v] μ=some (oC (f c),μ)):Cb [clW K,.int h,.int v] μ=some (.lst ((K.filterMap f).map csD),μ):=by
  have hz:=BI
  refine AS (g:=[]) (τ2:=[some (clW K),some (.int h),some (.int v),some (.lst ((K.map fun c=>f c).map oC))]) ?_ rfl (by unfold Cl; exact Ay (EU _) _)
  rw [List.append_nil]
  refine pq (pa (d:=.lst ((K.map fun c=>f c).map oC)) (Bn (ds:=K.map csD) (es:=(K.map fun c=>f c).map oC) (By rfl) (by rw [List.length_map]; omega) ?_ (A0 (by rw [List.length_map,List.length_map]; omega))) rfl) (pr (Bn (ds:=(K.map fun c=>f c).map oC) (es:=(K.filterMap f).map csD) (BJ rfl) (by rw [List.length_map,List.length_map]; omega) ?_ (A0 (by rw [List.length_map]; have:=List.length_filterMap_le f K; omega))))
  . have:=Ci (μ:=μ) (mc:=Bv) (me:=AE Bf (AC (AB 0) (AC (AB 1) (AC (AB 2) AJ)))) (τ0:=[none,some (.int h),some (.int v)]) (f:=csD) (F:=fun c=>oC (f c)) (p:=fun _=>true) (xs:=K) (ys:=[]) (fun _ _=>rfl) (fun c hc _=>pd (ds:=[csD c,.int h,.int v]) rfl (he c hc μ))
    rw [CD,List.nil_append] at this
    rw [List.map_map]
    exact this
  . have:=Ci (μ:=μ) (mc:=AR (mOp (Jy true) (AB 0) (mC .non))) (me:=AB 0) (τ0:=[none]) (f:=oC) (F:=oC) (p:=fun o=>o.isSome) (xs:=K.map fun c=>f c) (ys:=[]) (fun o _=>AU (po (x:=oC o) (y:=.non) rfl rfl (by cases o <;> rfl))) (fun o _ _=>rfl)
    rw [List.nil_append,SK] at this
    exact this
theorem LN {K S:List Cs} {e:Ev} (s:Sim K S) (f:fit S e=true):∃ K':List Cs,Sim K' (clo (pre S e)) /\ ∀ μ:Mh,Cf [.lst ((pre K e).map csD)] μ=some (clW K',μ):=by
  have nd:=Ti s f
  have hm:=L8 s.2 e
  unfold fit at f
  simp only [Bool.and_eq_true] at f
  obtain ⟨⟨⟨⟨_,f1⟩,f2⟩,_⟩,_⟩:=f
  have hlen:=Rq nd fun x hx=>(hm x).mp hx
  have hsub:=Rp hm
  obtain ⟨K',k1,k2,k3⟩:=Ny nd (by have:=of_decide_eq_true f1; omega) (fun x hx=>of_decide_eq_true (List.all_eq_true.mp f2 x ((hsub x).mp hx)))
  exact ⟨K',⟨k1,fun x=>(k2 x).trans (hsub x)⟩,k3⟩
theorem QZ {K S:List Cs} {e:Ev} (s:Sim K S) (f:fit S e=true):K.length <= 1000 /\ ∀ c ∈ K,c.2.2.length <= 100:=by
  unfold fit at f
  simp only [Bool.and_eq_true] at f
  obtain ⟨⟨⟨_,_⟩,f3⟩,f4⟩:=f
  have:=CN s.1 fun x hx=>(s.2 x).mp hx
  have:=of_decide_eq_true f4
  exact ⟨by omega,fun c hc=>of_decide_eq_true (List.all_eq_true.mp f3 c ((s.2 c).mp hc))⟩
theorem J7 {K:List Cs} {me:Sl->M D} {τ0:Sl} {F:Cs->Cs} (h:∀ c ∈ K,me (τ0.set 0 (some (csD c))) μ=some (csD (F c),μ)):ET (AM 0) Bv me τ0 (K.map csD) [] μ=some ((K.map F).map csD,μ):=by
  have:=Ci (μ:=μ) (mc:=Bv) (me:=me) (τ0:=τ0) (f:=csD) (F:=fun c=>csD (F c)) (p:=fun _=>true) (xs:=K) (ys:=[]) (fun _ _=>rfl) (fun c hc _=>h c hc)
  rw [CD,List.nil_append] at this
  rw [List.map_map]
  exact this
theorem Mp {K S:List Cs} {e:Ev} {gg:Int} (s:Sim K S) (f:fit S e=true):∃ r:D,(gone S e=true /\ r=.non ∨ gone S e=false /\ ∃ K',Sim K' (clo (pre S e)) /\ r=clW K') /\ ∀ μ:Mh,A7 [mkW sz bg ns,clW K,A3 e gg] μ=some (r,μ):=by
  have hz:=BI
  obtain ⟨hK,hts⟩:=QZ s f
  obtain ⟨K',s',cl'⟩:=LN s f
  have a0:∀ (μ:Mh) (o3 o4:Option D),mOp Aj (mOp AN (AB 2) (mC (.int 0))) (mC (.str "begin")) [some (mkW sz bg ns),some (clW K),some (A3 e gg),o3,o4] μ=some (.bl e.beg,μ):=fun _ _ _=>po (x:=.str (bS e.beg)) (y:=.str "begin") rfl rfl KA
  have a1:∀ (μ:Mh) (o3 o4:Option D),AR (mOp Aj (mOp AN (AB 2) (mC (.int 1))) (mC (.int 0))) [some (mkW sz bg ns),some (clW K),some (A3 e gg),o3,o4] μ=some ((e.hand:Int) == 0,μ):=fun _ _ _=>AU (po (x:=.int e.hand) (y:=.int 0) rfl rfl CH)
  have fr:∀ r:Nat,(e=.rb r ∨ ∃ v,e=.re r v)->∀ c ∈ K,r < c.2.2.length:=fun r he c hc=>by
    unfold fit at f
    simp only [Bool.and_eq_true] at f
    obtain ⟨⟨⟨⟨f,_⟩,_⟩,_⟩,_⟩:=f
    rcases he with rfl | ⟨v,rfl⟩
    . have:=of_decide_eq_true (List.all_eq_true.mp f c ((s.2 c).mp hc))
      exact (List.getElem?_eq_some_iff.mp this).1
    . exact of_decide_eq_true (List.all_eq_true.mp f c ((s.2 c).mp hc))
  cases e with
  | wb v=>
    refine ⟨clW K',.inr ⟨rfl,K',s',rfl⟩,fun μ=>?_⟩
    refine AS (g:=[]) (τ2:=[some (mkW sz bg ns),some (clW K),some (A3 (.wb v) gg),some (.bl true),none]) ?_ rfl (EV _ _)
    rw [List.append_nil]
    refine pq (pa (a0 _ _ _) rfl) (BB (piT (a1 _ _ _) (pr (peT (AU rfl) (pd (ds:=[mkW sz bg ns,clW K,.int v]) rfl ?_)))))
    refine AS (g:=[]) (τ2:=[some (mkW sz bg ns),some (clW K),some (.int v),none]) ?_ rfl (EV _ _)
    rw [List.append_nil]
    refine BB (piT (KD rfl) (pr (pd (ds:=[.lst ((pre K (.wb v)).map csD)]) (pc (Bn (ds:=K.map csD) (es:=(K.map (LU v)).map csD) (By rfl) (by rw [List.length_map]; omega) (J7 fun c hc=>pd (ds:=[csD c,.int 0,.int v]) rfl UJ) (A0 (by rw [List.length_map,List.length_map]; omega))) rfl) (cl' μ))))
  | we=>
    refine ⟨clW K',.inr ⟨rfl,K',s',rfl⟩,fun μ=>?_⟩
    refine AS (g:=[]) (τ2:=[some (mkW sz bg ns),some (clW K),some (A3 .we gg),some (.bl false),none]) ?_ rfl (EV _ _)
    rw [List.append_nil]
    refine pq (pa (a0 _ _ _) rfl) (BB (piT (a1 _ _ _) (pr (peF (AU rfl) (pd (ds:=[mkW sz bg ns,clW K]) rfl ?_)))))
    refine AS (g:=[]) (τ2:=[some (mkW sz bg ns),some (clW K)]) ?_ rfl (EV _ _)
    rw [List.append_nil]
    exact BB (piT (KD rfl) (pr (pd (ds:=[.lst ((pre K .we).map csD)]) (pc (pd (ds:=[clW K,.int 0,.int (-1)]) rfl (Lf hK fun c _ μ=>UH)) rfl) (cl' μ))))
  | rb r=>
    refine ⟨clW K',.inr ⟨rfl,K',s',rfl⟩,fun μ=>?_⟩
    refine AS (g:=[]) (τ2:=[some (mkW sz bg ns),some (clW K),some (A3 (.rb r) gg),some (.bl true),some (.int (((r + 1:Nat):Int) - 1))]) ?_ rfl (EV _ _)
    rw [List.append_nil]
    have er:(((r + 1:Nat):Int) - 1)=(r:Int):=by omega
    refine pq (pa (a0 _ _ _) rfl) (pq (piF ((a1 _ _ _).trans (by show some ((((r + 1:Nat):Int) == 0),μ)=_; rw [beq_eq_false_iff_ne.mpr (by omega)])) rfl) (pq (pa (d:=.int (((r + 1:Nat):Int) - 1)) (po (x:=.int ((r + 1:Nat):Int)) (y:=.int 1) rfl rfl rfl) rfl) (pr (peT (AU rfl) (pd (ds:=[mkW sz bg ns,clW K,.int (((r + 1:Nat):Int) - 1)]) rfl ?_)))))
    rw [er]
    refine AS (g:=[]) (τ2:=[some (mkW sz bg ns),some (clW K),some (.int r),none]) ?_ rfl (EV _ _)
    rw [List.append_nil]
    exact BB (piT (KD rfl) (pr (pd (ds:=[.lst ((pre K (.rb r)).map csD)]) (pc (Bn (ds:=K.map csD) (es:=(K.map (Nr r)).map csD) (By rfl) (by rw [List.length_map]; omega) (J7 fun c hc=>pd (ds:=[csD c,.int ((r:Int) + 1),.int (-1)]) rfl (UK (fr r (.inl rfl) c hc) (by have:=hts c hc; omega))) (A0 (by rw [List.length_map,List.length_map]; omega))) rfl) (cl' μ))))
  | re r v=>
    have er:(((r + 1:Nat):Int) - 1)=(r:Int):=by omega
    have em:(pre K (.re r v)).isEmpty=(S.filterMap (endR r v)).isEmpty:=by
      have hm:=L8 s.2 (.re r v)
      rw [Bool.eq_iff_iff,List.isEmpty_iff,List.isEmpty_iff,List.eq_nil_iff_forall_not_mem,List.eq_nil_iff_forall_not_mem]
      exact ⟨fun h x hx=>h x ((hm x).mpr hx),fun h x hx=>h x ((hm x).mp hx)⟩
    refine ⟨if (S.filterMap (endR r v)).isEmpty then .non else clW K',?_,fun μ=>?_⟩
    . show ((S.filterMap (endR r v)).isEmpty=true /\ _) ∨ ((S.filterMap (endR r v)).isEmpty=false /\ _)
      cases q:(S.filterMap (endR r v)).isEmpty with
      | true=>exact .inl ⟨rfl,rfl⟩
      | false=>exact .inr ⟨rfl,K',s',rfl⟩
    . have cl:Cl μ.length (if (S.filterMap (endR r v)).isEmpty then D.non else clW K'):=by split; (unfold Cl; trivial); exact EV _ _
      refine AS (g:=[]) (τ2:=[some (mkW sz bg ns),some (clW K),some (A3 (.re r v) gg),some (.bl false),some (.int (((r + 1:Nat):Int) - 1))]) ?_ rfl cl
      rw [List.append_nil]
      refine pq (pa (a0 _ _ _) rfl) (pq (piF ((a1 _ _ _).trans (by show some ((((r + 1:Nat):Int) == 0),μ)=_; rw [beq_eq_false_iff_ne.mpr (by omega)])) rfl) (pq (pa (d:=.int (((r + 1:Nat):Int) - 1)) (po (x:=.int ((r + 1:Nat):Int)) (y:=.int 1) rfl rfl rfl) rfl) (pr (peF (AU rfl) (pd (ds:=[mkW sz bg ns,clW K,.int (((r + 1:Nat):Int) - 1),.int v]) rfl ?_)))))
      rw [er]
      refine AS (g:=[]) (τ2:=[some (mkW sz bg ns),some (clW K),some (.int r),some (.int v),some (.lst ((pre K (.re r v)).map csD))]) ?_ rfl cl
      rw [List.append_nil]
      refine BB (piT (KD rfl) (pq (pa (d:=.lst ((pre K (.re r v)).map csD)) (pd (ds:=[clW K,.int ((r:Int) + 1),.int v]) rfl (Lf hK fun c hc μ=>UI (fr r (.inr ⟨v,rfl⟩) c hc) (by have:=hts c hc; omega))) rfl) (pr ?_)))
      have tt:Fx (AB 4) [some (mkW sz bg ns),some (clW K),some (.int r),some (.int v),some (.lst ((pre K (.re r v)).map csD))] μ=some (!(S.filterMap (endR r v)).isEmpty,μ):=by
        unfold Fx
        rw [AL (show AB 4 [some (mkW sz bg ns),some (clW K),some (.int r),some (.int v),some (.lst ((pre K (.re r v)).map csD))] μ=some (.lst ((pre K (.re r v)).map csD),μ) from rfl),AL (show BU (.lst ((pre K (.re r v)).map csD)) μ=some ((pre K (.re r v)).map csD,μ) from rfl)]
        show some (!((pre K (.re r v)).map csD).isEmpty,μ)=_
        rw [← em]
        cases pre K (.re r v) <;> rfl
      cases q:(S.filterMap (endR r v)).isEmpty with
      | true=>exact peF (tt.trans (by rw [q]; rfl)) rfl
      | false=>exact peT (tt.trans (by rw [q]; rfl)) (pd (ds:=[.lst ((pre K (.re r v)).map csD)]) rfl (cl' μ))
end
end K16
set_option maxHeartbeats 4000000
namespace K16
open PySem L2 Mi Nk Wb Ht K13
section
variable {μ μ1 μ2 μ3 μ4 μ':Mh} {τ τ1:Sl} {x0 d:D} {ds es:List D} {n:Nat}
variable {sf:Bool} {sz bg:Int} {ns:List Str} {kd:Str}
theorem Hu {sf:Bool} {sz v:Int} {l:List Int} (h0:0 <= sz) (h1:sz <= 1000) (hl:l.length <= 1000) (hr:(BC (l ++ [v])).length <= 18) :
    CA [.str (kdS sf),.int sz,.tup (l.map D.int),.int v] μ=some (.tup ((bsd sf sz l v).map D.int),μ):=by rw [Ng]; exact K13.Nz h0 h1 hl hr
theorem Le {j:Nat} {x:D} (hj:j < ds.length) (hl:ds.length <= 1000) (hc:∀ k,ClL k ds) (hx:∀ k,Cl k x):Al [.tup ds,.int j,x] μ=some (.tup (ds.set j x),μ):=by rw [JS]; exact K13.Eu hj hl hc hx
theorem Mj {w c:Int} {ts:List (Option (List Int))}:Ch [mkD sf sz bg ns,clD w c ts] μ=some (clD c (-1) ts,μ):=by
  have hz:=BI
  refine AS (g:=[]) (τ2:=[some (mkD sf sz bg ns),some (clD w c ts)]) ?_ rfl (Fv _ _ _ _)
  rw [List.append_nil]
  exact pq (EG rfl) (pr (pd (ds:=[.int c,.int (-1),.tup (ts.map tD)]) rfl (Ah (by simp; omega))))
theorem Nw {w c v:Int} {ts:List (Option (List Int))} (h0:0 <= sz) (h1:sz <= 10) (hv:0 <= v /\ v < 10) (hl:ts.length <= 1000) (hs:∀ l,some l ∈ ts->Hf l) :
    DD [mkD sf sz bg ns,clD w c ts,.int v] μ=some (clD w v (ts.map (Option.map fun l=>bsd sf sz l v)),μ):=by
  have hz:=BI
  refine AS (g:=[]) (τ2:=[some (mkD sf sz bg ns),some (clD w c ts),some (.int v),some (.lst ((ts.map (Option.map fun l=>bsd sf sz l v)).map tD))]) ?_ rfl (Fv _ _ _ _)
  rw [List.append_nil]
  refine pq (EG rfl) (pq (pa (d:=.lst ((ts.map (Option.map fun l=>bsd sf sz l v)).map tD)) (Bn (ds:=ts.map tD) (es:=(ts.map (Option.map fun l=>bsd sf sz l v)).map tD) (By rfl) (by rw [List.length_map]; omega) ?_ (A0 (by rw [List.length_map,List.length_map]; omega))) rfl) (pr (pd (ds:=[.int w,.int v,.tup ((ts.map (Option.map fun l=>bsd sf sz l v)).map tD)]) rfl (Ah (by simp; omega)))))
  have:=Ci (μ:=μ) (mc:=Bv) (me:=(mIf (AR (mOp (Jy false) (AB 0) (mC .non))) (AB 0) (AE CA (AC (mOp AN (AB 1) (mC (.int 0))) (AC (mOp AN (AB 1) (mC (.int 1))) (AC (AB 0) (AC (AB 2) AJ))))))) (τ0:=[none,some (mkD sf sz bg ns),some (.int v)]) (f:=tD) (F:=fun t=>tD (Option.map (fun l=>bsd sf sz l v) t)) (p:=fun _=>true) (xs:=ts) (ys:=[]) (fun _ _=>rfl) (fun t ht _=>?_)
  . rw [CD,List.nil_append] at this
    rw [List.map_map]
    exact this
  . cases t with
    | none=>exact peT (AU (po (x:=.non) (y:=.non) rfl rfl rfl)) rfl
    | some l=>
      obtain ⟨s1,s2⟩:=hs l ht
      refine peF (AU (po (x:=.tup (l.map D.int)) (y:=.non) rfl rfl rfl)) (pd (ds:=[.str (kdS sf),.int sz,.tup (l.map D.int),.int v]) rfl (Hu h0 (by omega) (by omega) (Ge fun x hx=>?_)))
      rcases List.mem_append.mp hx with z | z
      . exact s2 x z
      . rw [List.mem_singleton] at z; subst z; exact hv
theorem QM {w c:Int} {r:Nat} {ts:List (Option (List Int))} (h0:0 <= sz) (h1:sz <= 10) (hw:0 <= w /\ w < 10) (hc:c ≠ -1->0 <= c /\ c < 10) (hl:ts.length <= 1000) (hr:r < ts.length) :
    DO [mkD sf sz bg ns,clD w c ts,.int r] μ=some (clD w c (ts.set r (some (D6 sf sz w c))),μ):=by
  have hz:=BI
  refine AS (g:=[]) (τ2:=[some (mkD sf sz bg ns),some (clD w c ts),some (.int r),some (tD (some (D6 sf sz w c)))]) ?_ rfl (Fv _ _ _ _)
  rw [List.append_nil]
  have fin:Am (AE AX (AC (mOp AN (AB 1) (mC (.int 0))) (AC (mOp AN (AB 1) (mC (.int 1))) (AC (AE Al (AC (mOp AN (AB 1) (mC (.int 2))) (AC (AB 2) (AC (AB 3) AJ)))) AJ)))) [some (mkD sf sz bg ns),some (clD w c ts),some (.int r),some (tD (some (D6 sf sz w c)))] μ=some ((.rt (clD w c (ts.set r (some (D6 sf sz w c)))),[some (mkD sf sz bg ns),some (clD w c ts),some (.int r),some (tD (some (D6 sf sz w c)))]),μ):=by
    refine pr (pd (ds:=[.int w,.int c,.tup ((ts.set r (some (D6 sf sz w c))).map tD)]) (pc (x:=.int w) rfl (pc (x:=.int c) rfl (pc (pd (ds:=[.tup (ts.map tD),.int r,tD (some (D6 sf sz w c))]) rfl ?_) rfl))) (Ah (by simp; omega)))
    rw [Le (by rw [List.length_map]; exact hr) (by rw [List.length_map]; exact hl) (fun k=>Ay (Ka k) ts) (fun k=>Ka k _),N7]
  refine pq (EG rfl) (pq (τ1:=[some (mkD sf sz bg ns),some (clD w c ts),some (.int r),some (tD (some [w]))]) (pa (d:=tD (some [w])) (pd (ds:=[.int w]) rfl (Ah (by simp; omega))) rfl) (pq (τ1:=[some (mkD sf sz bg ns),some (clD w c ts),some (.int r),some (tD (some (D6 sf sz w c)))]) ?_ fin))
  have ht:AR (mOp Qq (mOp AN (AB 1) (mC (.int 1))) (mC BM)) [some (mkD sf sz bg ns),some (clD w c ts),some (.int r),some (tD (some [w]))] μ=some (!(c == -1),μ):=AU (po (x:=.int c) (y:=.int (-1)) rfl rfl VA)
  by_cases e:c = -1
  . have eb:D6 sf sz w c=[w]:=if_pos e
    rw [eb]
    refine piF (by rw [ht,e]; rfl) rfl
  . have eb:D6 sf sz w c=bsd sf sz [w] c:=if_neg e
    rw [eb]
    refine piT (by rw [ht,beq_eq_false_iff_ne.mpr e]; rfl) (pa (d:=tD (some (bsd sf sz [w] c))) (pd (ds:=[.str (kdS sf),.int sz,.tup ([w].map D.int),.int c]) rfl (Hu h0 (by omega) (by simp) (Ge fun x hx=>?_))) rfl)
    simp at hx
    rcases hx with z | z
    . subst z; exact hw
    . subst z; exact hc e
theorem SS {w c v:Int} {r:Nat} {ts:List (Option (List Int))} {l:List Int} (hl:ts.length <= 1000) (hr:ts[r]? = some (some l)) :
    Cu [mkD sf sz bg ns,clD w c ts,.int r,.int v] μ=some (if v ∈ l then clD w c (ts.set r none) else .non,μ):=by
  have hz:=BI
  have hrl:r < ts.length:=(List.getElem?_eq_some_iff.mp hr).1
  refine AS (g:=[]) (τ2:=[some (mkD sf sz bg ns),some (clD w c ts),some (.int r),some (.int v),none]) ?_ rfl (by split; exact Fv _ _ _ _; unfold Cl; trivial)
  rw [List.append_nil]
  have ht:AR (mOp (Er true) (AB 3) (mOp AN (mOp AN (AB 1) (mC (.int 2))) (AB 2))) [some (mkD sf sz bg ns),some (clD w c ts),some (.int r),some (.int v),none] μ=some (!decide (v ∈ l),μ):=
    AU (po (x:=.int v) (y:=.tup (l.map D.int)) rfl (po (x:=.tup (ts.map tD)) (y:=.int r) rfl rfl (IG (DF (by rw [List.getElem?_map,hr]; rfl)))) (SD rfl))
  refine pq (τ1:=[some (mkD sf sz bg ns),some (clD w c ts),some (.int r),some (.int v),none]) (EG rfl) ?_
  by_cases e:v ∈ l
  . rw [if_pos e]
    refine pq (piF (by rw [ht,decide_eq_true e]; rfl) rfl) (pr (pd (ds:=[.int w,.int c,.tup ((ts.set r none).map tD)]) (pc (x:=.int w) rfl (pc (x:=.int c) rfl (pc (pd (ds:=[.tup (ts.map tD),.int r,tD none]) rfl ?_) rfl))) (Ah (by simp; omega))))
    rw [Le (by rw [List.length_map]; exact hrl) (by rw [List.length_map]; exact hl) (fun k=>Ay (Ka k) ts) (fun k=>Ka k _),N7]
  . rw [if_neg e]
    exact BB (piT (by rw [ht,decide_eq_false e]; rfl) (pr rfl))
theorem N0 {k:C3} {m:Nat} {e:Ev} {g:Int} (h0:0 <= sz) (h1:sz <= 10) (K:k.Ok m) (f:k.fits e):A7 [mkD sf sz bg ns,k.toD,A3 e g] μ=some (oD (k.step sf sz e),μ):=by
  have hn:=K.n
  have hm:=K.m
  have cl:Cl μ.length (oD (k.step sf sz e)):=by
    cases k.step sf sz e with
    | none=>unfold oD Cl; trivial
    | some k'=>exact Fv _ _ _ _
  have a0:∀ o3 o4:Option D,mOp Aj (mOp AN (AB 2) (mC (.int 0))) (mC (.str "begin")) [some (mkD sf sz bg ns),some k.toD,some (A3 e g),o3,o4] μ=some (.bl e.beg,μ):=fun _ _=>po (x:=.str (bS e.beg)) (y:=.str "begin") rfl rfl KA
  have a1:∀ o3 o4:Option D,AR (mOp Aj (mOp AN (AB 2) (mC (.int 1))) (mC (.int 0))) [some (mkD sf sz bg ns),some k.toD,some (A3 e g),o3,o4] μ=some ((e.hand:Int) == 0,μ):=fun _ _=>AU (po (x:=.int e.hand) (y:=.int 0) rfl rfl CH)
  cases e with
  | wb v=>
    refine AS (g:=[]) (τ2:=[some (mkD sf sz bg ns),some k.toD,some (A3 (.wb v) g),some (.bl true),none]) ?_ rfl cl
    rw [List.append_nil]
    exact pq (pa (a0 _ _) rfl) (BB (piT (a1 _ _) (pr (peT (AU rfl) (pd (ds:=[mkD sf sz bg ns,k.toD,.int v]) rfl (Nw h0 h1 f (by omega) K.ts))))))
  | we=>
    refine AS (g:=[]) (τ2:=[some (mkD sf sz bg ns),some k.toD,some (A3 .we g),some (.bl false),none]) ?_ rfl cl
    rw [List.append_nil]
    exact pq (pa (a0 _ _) rfl) (BB (piT (a1 _ _) (pr (peF (AU rfl) (pd (ds:=[mkD sf sz bg ns,k.toD]) rfl Mj)))))
  | rb r=>
    refine AS (g:=[]) (τ2:=[some (mkD sf sz bg ns),some k.toD,some (A3 (.rb r) g),some (.bl true),some (.int (((r + 1:Nat):Int) - 1))]) ?_ rfl cl
    rw [List.append_nil]
    have er:(((r + 1:Nat):Int) - 1)=(r:Int):=by omega
    refine pq (pa (a0 _ _) rfl) (pq (piF ((a1 _ _).trans (by show some ((((r + 1:Nat):Int) == 0),μ)=_; rw [beq_eq_false_iff_ne.mpr (by omega)])) rfl) (pq (pa (d:=.int (((r + 1:Nat):Int) - 1)) (po (x:=.int ((r + 1:Nat):Int)) (y:=.int 1) rfl rfl rfl) rfl) (pr (peT (AU rfl) (pd (ds:=[mkD sf sz bg ns,k.toD,.int (((r + 1:Nat):Int) - 1)]) rfl ?_)))))
    rw [er]
    exact QM h0 h1 K.w K.c (by omega) f
  | re r v=>
    refine AS (g:=[]) (τ2:=[some (mkD sf sz bg ns),some k.toD,some (A3 (.re r v) g),some (.bl false),some (.int (((r + 1:Nat):Int) - 1))]) ?_ rfl cl
    rw [List.append_nil]
    obtain ⟨l,hl⟩:=f
    have er:(((r + 1:Nat):Int) - 1)=(r:Int):=by omega
    refine pq (pa (a0 _ _) rfl) (pq (piF ((a1 _ _).trans (by show some ((((r + 1:Nat):Int) == 0),μ)=_; rw [beq_eq_false_iff_ne.mpr (by omega)])) rfl) (pq (pa (d:=.int (((r + 1:Nat):Int) - 1)) (po (x:=.int ((r + 1:Nat):Int)) (y:=.int 1) rfl rfl rfl) rfl) (pr (peF (AU rfl) (pd (ds:=[mkD sf sz bg ns,k.toD,.int (((r + 1:Nat):Int) - 1),.int v]) rfl ?_)))))
    rw [er]
    show Cu [mkD sf sz bg ns,clD k.w k.c k.ts,.int (r:Int),.int v] μ=_
    rw [SS (by omega) hl]
    unfold C3.step
    simp only [hl]
    split <;> rfl
end
end K16
set_option maxHeartbeats 4000000
namespace K16
open PySem L2 Mi Nk Wb Ht K13
section
variable {μ μ1 μ2 μ3 μ4 μ':Mh} {τ τ1:Sl} {x0 d:D} {ds es:List D} {n:Nat}
variable {sf:Bool} {sz bg:Int} {ns:List Str} {kd:Str}
theorem Ja (N:Ns ns) {ev:List D}:∀ (es:List Ev) (k:Nat) (L:List (Key × D)) (G:Nat->Bool) (as:List D) (b:Int) (o6 o7 o8:Option D),(∀ e ∈ es,e.Ok ns sz)->wfG G es->DG L G->L.length + es.length <= 1000->as.length + es.length <= 1000->
    ∃ (gs:List Int) (L':List (Key × D)) (b':Int) (o6' o7' o8':Option D),gs.length=es.length /\
      DA (Hb [6,7]) V1 (Co k (es.map (evD ns))) [some (mkK kd sz bg ns),some (.lst ev),some (.lst (ns.map D.str)),some (.ref μ.length),some (.ref (μ.length + 1)),some (.int b),o6,o7,o8] (μ ++ [.dK L,.lst as]) =
        some ((.next,[some (mkK kd sz bg ns),some (.lst ev),some (.lst (ns.map D.str)),some (.ref μ.length),some (.ref (μ.length + 1)),some (.int b'),o6',o7',o8']),μ ++ [.dK L',.lst (as ++ (es.zip gs).map fun p=>A3 p.1 p.2)])
  | [],k,L,G,as,b,o6,o7,o8,_,_,_,_,_=>⟨[],L,b,o6,o7,o8,rfl,by simp [Co]; rfl⟩
  | e :: es,k,L,G,as,b,o6,o7,o8,ok,wf,dg,hL,hA=>by
    have hz:=BI
    have eo:=ok e (by simp)
    obtain ⟨w1,w2⟩:=wf
    rw [List.length_cons] at hL hA
    have t1:∀ (S:Sl) (M:Mh),S[7]? = some (some (evD ns e))->S[2]? = some (some (.lst (ns.map D.str)))->S[0]? = some (some (mkK kd sz bg ns))->sIf (CG (AR (AE Bt (AC (AB 7) (AC (AB 2) (AC (mOp AN (AB 0) (mC (.int 1))) AJ)))))) C4 A1 S M=some ((.next,S),M):=fun S M h7 h2 h0=>
      piF (CB (b:=true) (AU (pd (ds:=[evD ns e,.lst (ns.map D.str),.int sz]) (pc (As h7) (pc (As h2) (pc (po (x:=mkK kd sz bg ns) (y:=.int 1) (As h0) rfl rfl) rfl))) (QN N eo)))) rfl
    have t2:∀ (S:Sl) (M:Mh),S[7]? = some (some (evD ns e))->S[2]? = some (some (.lst (ns.map D.str)))->Ae (A9 HF (AB 2) (AC (mOp AN (AB 7) (mC (.int 1))) AJ)) (AM 8) S M=some ((.next,S.set 8 (some (.int e.hand))),M):=fun S M h7 h2=>
      pa (Ek (x:=.lst (ns.map D.str)) (μ1:=M) (μ2:=M) (μ3:=M) (ds:=[.str (nm ns e.hand)]) (As h2) rfl (pc (po (x:=evD ns e) (y:=.int 1) (As h7) rfl (by cases e <;> rfl)) rfl) (VB N eo.h)) rfl
    have tb:∀ (S:Sl) (M:Mh),S[7]? = some (some (evD ns e))->mOp Aj (mOp AN (AB 7) (mC (.int 0))) (mC (.str "begin")) S M=some (.bl e.beg,M):=fun S M h7=>po (x:=.str (bS e.beg)) (y:=.str "begin") (po (x:=evD ns e) (y:=.int 0) (As h7) rfl (by cases e <;> rfl)) rfl KA
    have te:∀ (S:Sl) (M:Mh),S[7]? = some (some (evD ns e))->AR (mOp Aj (mOp AN (AB 7) (mC (.int 0))) (mC (.str "end"))) S M=some (!e.beg,M):=fun S M h7=>AU (po (x:=.str (bS e.beg)) (y:=.str "end") (po (x:=evD ns e) (y:=.int 0) (As h7) rfl (by cases e <;> rfl)) rfl VE)
    have t3:∀ (S:Sl) (M:Mh) (L:List (Key × D)),S[7]? = some (some (evD ns e))->S[8]? = some (some (.int e.hand))->S[3]? = some (some (.ref μ.length))->M[μ.length]? = some (.dK L)->DG L G->sIf (AR (mOp Aj (mOp Aj (mOp AN (AB 7) (mC (.int 0))) (mC (.str "begin"))) (mOp (KQ false) (AB 8) (AB 3)))) C4 A1 S M=some ((.next,S),M):=fun S M L h7 h8 h3 hM dg=>by
      have hv:(Cc L (.inl (e.hand:Int))).isSome = !e.beg:=by
        rcases dg e.hand with ⟨z1,z2⟩ | ⟨g,z1,z2⟩
        . rw [z1,← w1,z2]; rfl
        . rw [z1,← w1,z2]; rfl
      refine piF (AU (po (x:=.bl e.beg) (y:=.bl (!e.beg)) (tb S M h7) (po (x:=.int e.hand) (y:=.ref μ.length) (As h8) (As h3) (by rw [Tm hM,hv])) ?_)) rfl
      rw [SF]
      cases e.beg <;> rfl
    cases hb:e.beg with
    | true=>
      have dg1:=dg.put e.hand b
      rw [hb] at w2
      obtain ⟨gs,L',b',o6',o7',o8',hl,go⟩:=Ja N (ev:=ev) es (k + 1) (Db L (.inl (e.hand:Int)) (.int b)) (fun h=>if h=e.hand then true else G h) (as ++ [A3 e b]) (b + 1) (some (.int k)) (some (evD ns e)) (some (.int e.hand)) (fun x hx=>ok x (by simp [hx])) w2 dg1 (by have:=Qt L (.inl (e.hand:Int)) (.int b); omega) (by simp; omega)
      refine ⟨b :: gs,L',b',o6',o7',o8',by simp [hl],?_⟩
      have ez:as ++ List.map (fun p:Ev × Int=>A3 p.1 p.2) ((e,b) :: es.zip gs)=as ++ [A3 e b] ++ (es.zip gs).map (fun p=>A3 p.1 p.2):=by simp
      rw [List.zip_cons_cons,ez]
      refine Ac (x:=.tup [.int k,evD ns e]) (τ1:=[some (mkK kd sz bg ns),some (.lst ev),some (.lst (ns.map D.str)),some (.ref μ.length),some (.ref (μ.length + 1)),some (.int b),some (.int k),some (evD ns e),o8]) (μ1:=μ ++ [.dK L,.lst as]) rfl ?_ go
      refine Ak (t1 _ _ rfl rfl rfl) (Ak (t2 _ _ rfl rfl) (Ak (t3 _ _ L rfl rfl rfl g2a dg) (Ak (τ1:=[some (mkK kd sz bg ns),some (.lst ev),some (.lst (ns.map D.str)),some (.ref μ.length),some (.ref (μ.length + 1)),some (.int (b + 1)),some (.int k),some (evD ns e),some (.int e.hand)]) (μ1:=μ ++ [.dK (Db L (.inl (e.hand:Int)) (.int b)),.lst as]) (EM (μ1:=μ ++ [.dK L,.lst as]) (AU ((tb _ _ rfl).trans (by rw [hb]))) (Ak (τ1:=[some (mkK kd sz bg ns),some (.lst ev),some (.lst (ns.map D.str)),some (.ref μ.length),some (.ref (μ.length + 1)),some (.int b),some (.int k),some (evD ns e),some (.int e.hand)]) (μ1:=μ ++ [.dK (Db L (.inl (e.hand:Int)) (.int b)),.lst as]) ?_ (pa (po (x:=.int b) (y:=.int 1) rfl rfl rfl) rfl))) (Ak (μ1:=μ ++ [.dK (Db L (.inl (e.hand:Int)) (.int b)),.lst (as ++ [A3 e b])]) (El (d:=.non) (Ek (x:=.ref (μ.length + 1)) (ds:=[A3 e b]) (μ1:=μ ++ [.dK (Db L (.inl (e.hand:Int)) (.int b)),.lst as]) (μ2:=μ ++ [.dK (Db L (.inl (e.hand:Int)) (.int b)),.lst as]) (μ3:=μ ++ [.dK (Db L (.inl (e.hand:Int)) (.int b)),.lst as]) rfl (BG g2b) (pc (QI eo rfl rfl rfl (MG g2a (by rw [Ld,if_pos rfl]))) rfl) ?_)) (EO (μ1:=μ ++ [.dK (Db L (.inl (e.hand:Int)) (.int b)),.lst (as ++ [A3 e b])]) ((te _ _ rfl).trans (by rw [hb]; rfl)) rfl)))))
      . have:=Pj (τ:=[some (mkK kd sz bg ns),some (.lst ev),some (.lst (ns.map D.str)),some (.ref μ.length),some (.ref (μ.length + 1)),some (.int b),some (.int k),some (evD ns e),some (.int e.hand)]) (μ:=μ ++ [.dK L,.lst as]) (n:=μ.length) (mo:=AB 3) (mi:=AB 8) (mv:=AB 5) (v:=.int b) (k:=(e.hand:Int)) rfl rfl rfl g2a (by omega)
        rw [s2a] at this
        exact this
      . rw [Ca g2b (by omega),s2b]
    | false=>
      have dg1:=dg.drop e.hand
      rw [hb] at w1 w2
      obtain ⟨g,hg⟩:∃ g:Int,Cc L (.inl (e.hand:Int))=some (.int g):=by
        rcases dg e.hand with ⟨z1,z2⟩ | ⟨g,z1,z2⟩
        . rw [w1] at z2; cases z2
        . exact ⟨g,z1⟩
      obtain ⟨gs,L',b',o6',o7',o8',hl,go⟩:=Ja N (ev:=ev) es (k + 1) (Dk L (.inl (e.hand:Int))) (fun h=>if h=e.hand then false else G h) (as ++ [A3 e g]) b (some (.int k)) (some (evD ns e)) (some (.int e.hand)) (fun x hx=>ok x (by simp [hx])) w2 dg1 (by have:=Ps L (.inl (e.hand:Int)); omega) (by simp; omega)
      refine ⟨g :: gs,L',b',o6',o7',o8',by simp [hl],?_⟩
      have ez:as ++ List.map (fun p:Ev × Int=>A3 p.1 p.2) ((e,g) :: es.zip gs)=as ++ [A3 e g] ++ (es.zip gs).map (fun p=>A3 p.1 p.2):=by simp
      rw [List.zip_cons_cons,ez]
      refine Ac (x:=.tup [.int k,evD ns e]) (τ1:=[some (mkK kd sz bg ns),some (.lst ev),some (.lst (ns.map D.str)),some (.ref μ.length),some (.ref (μ.length + 1)),some (.int b),some (.int k),some (evD ns e),o8]) (μ1:=μ ++ [.dK L,.lst as]) rfl ?_ go
      refine Ak (t1 _ _ rfl rfl rfl) (Ak (t2 _ _ rfl rfl) (Ak (t3 _ _ L rfl rfl rfl g2a dg) (Ak (τ1:=[some (mkK kd sz bg ns),some (.lst ev),some (.lst (ns.map D.str)),some (.ref μ.length),some (.ref (μ.length + 1)),some (.int b),some (.int k),some (evD ns e),some (.int e.hand)]) (μ1:=μ ++ [.dK L,.lst as]) (EO (μ1:=μ ++ [.dK L,.lst as]) (AU ((tb _ _ rfl).trans (by rw [hb]))) rfl) (Ak (μ1:=μ ++ [.dK L,.lst (as ++ [A3 e g])]) (El (d:=.non) (Ek (x:=.ref (μ.length + 1)) (ds:=[A3 e g]) (μ1:=μ ++ [.dK L,.lst as]) (μ2:=μ ++ [.dK L,.lst as]) (μ3:=μ ++ [.dK L,.lst as]) rfl (BG g2b) (pc (QI eo rfl rfl rfl (MG g2a hg)) rfl) ?_)) (EM (μ1:=μ ++ [.dK L,.lst (as ++ [A3 e g])]) ((te _ _ rfl).trans (by rw [hb]; rfl)) (El (d:=.int g) ?_))))))
      . rw [Ca g2b (by omega),s2b]
      . have:=Rk (τ:=[some (mkK kd sz bg ns),some (.lst ev),some (.lst (ns.map D.str)),some (.ref μ.length),some (.ref (μ.length + 1)),some (.int b),some (.int k),some (evD ns e),some (.int e.hand)]) (μ:=μ ++ [.dK L,.lst (as ++ [A3 e g])]) (n:=μ.length) (mo:=AB 3) (mi:=AB 8) (k:=(e.hand:Int)) rfl rfl g2a hg
        rw [s2a] at this
        exact this
theorem LA {S:Sl} (h:S[0]? = some (some (mkK kd sz bg ns))) (hl:ns.length <= 1000):Cm 1 [] (Ce (mOp AN (AB 0) (mC (.int 4)))) (AM 0) Bv (mOp AN (AB 0) (mC (.int 0))) Ar S μ=some (.lst (ns.map D.str),μ):=by
  have hz:=BI
  refine Bn (ds:=ns.map hdD) (es:=ns.map D.str) (By (po (x:=mkK kd sz bg ns) (y:=.int 4) (As h) rfl rfl)) (by rw [List.length_map]; omega) ?_ (A0 (by rw [List.length_map]; omega))
  have:=Ci (μ:=μ) (mc:=Bv) (me:=mOp AN (AB 0) (mC (.int 0))) (τ0:=[none]) (f:=hdD) (F:=D.str) (p:=fun _=>true) (xs:=ns) (ys:=[]) (fun _ _=>rfl) (fun t _ _=>po (x:=hdD t) (y:=.int 0) rfl rfl rfl)
  rw [CD,List.nil_append] at this
  exact this
theorem N2 (N:Ns ns) {es:List Ev} (ok:∀ e ∈ es,e.Ok ns sz) (wf:wfG (fun _=>false) es) (hl:es.length <= 100):∃ gs:List Int,gs.length=es.length /\ Bw [mkK kd sz bg ns,.lst (es.map (evD ns))] μ=some (.lst ((es.zip gs).map fun p=>A3 p.1 p.2),μ):=by
  have hz:=BI
  have hhi:=N.hi
  obtain ⟨gs,L',b',o6,o7,o8,hgs,go⟩:=Ja (μ:=μ) (kd:=kd) (sz:=sz) (bg:=bg) N (ev:=es.map (evD ns)) es 0 [] (fun _=>false) [] 0 none none none ok wf (fun h=>.inl ⟨rfl,rfl⟩) (by simp; omega) (by simp; omega)
  refine ⟨gs,hgs,?_⟩
  rw [Rl]
  refine Np (k:=μ.length + 1) (τ2:=[some (mkK kd sz bg ns),some (.lst (es.map (evD ns))),some (.lst (ns.map D.str)),some (.ref μ.length),some (.ref (μ.length + 1)),some (.int b'),o6,o7,o8]) (g:=[.dK L',.lst ((es.zip gs).map fun p=>A3 p.1 p.2)]) ?_ rfl (by omega) g2b (Ay (fun p=>T5 p) _)
  rw [List.nil_append] at go
  refine Ak (piF (CB (b:=true) (AU (pd (ds:=[.lst (es.map (evD ns)),.ty "list"]) rfl ?_))) rfl) (Ak (τ1:=[some (mkK kd sz bg ns),some (.lst (es.map (evD ns))),some (.lst (ns.map D.str)),none,none,none,none,none,none]) (pa (LA rfl (by omega)) rfl) (Ak (τ1:=[some (mkK kd sz bg ns),some (.lst (es.map (evD ns))),some (.lst (ns.map D.str)),some (.ref μ.length),none,none,none,none,none]) (μ1:=μ ++ [.dK []]) rfl (Ak (τ1:=[some (mkK kd sz bg ns),some (.lst (es.map (evD ns))),some (.lst (ns.map D.str)),some (.ref μ.length),some (.ref (μ.length + 1)),none,none,none,none]) (μ1:=μ ++ [.dK [],.lst []]) ?_ (Ak (τ1:=[some (mkK kd sz bg ns),some (.lst (es.map (evD ns))),some (.lst (ns.map D.str)),some (.ref μ.length),some (.ref (μ.length + 1)),some (.int 0),none,none,none]) (μ1:=μ ++ [.dK [],.lst []]) rfl (Ak (DP (ds:=Co 0 (es.map (evD ns))) (μ1:=μ ++ [.dK [],.lst []]) rfl go) (Dy (μ1:=μ ++ [.dK L',.lst ((es.zip gs).map fun p=>A3 p.1 p.2)]) rfl))))))
  . show (D4 "list" "list").map (fun b=>(D.bl b,μ))=_
    rw [show D4 "list" "list" = some true from by decide]
    rfl
  . refine Ex (d:=.ref (μ.length + 1)) (μ1:=μ ++ [.dK [],.lst []]) (CC (ds:=[]) (μ1:=μ ++ [.dK []]) rfl ?_) rfl
    show Hm [] (μ ++ [.dK []])=_
    unfold Hm
    rw [AL (show lim ([]:List D).length (μ ++ [.dK []])=some ((),μ ++ [.dK []]) from by unfold lim; rw [if_pos (by simp)])]
    simp
end
end K16
set_option maxHeartbeats 4000000
namespace K16
open PySem L2 Mi Nk Wb Ht K13
section
variable {μ μ1 μ2 μ3 μ4 μ':Mh} {τ τ1:Sl} {x0 d:D} {ds es:List D} {n:Nat}
variable {sf:Bool} {sz bg:Int} {ns:List Str} {kd:Str}
noncomputable abbrev RY:Sl->M (Fl × Sl):=(AV (Ae (AE A7 (AC (AB 0) (AC (AB 2) (AC (AB 3) AJ)))) (AM 2))
    (sIf (AR (mOp (Jy false) (AB 2) (mC .non))) (Am (mC (.bl false))) A1))
theorem PV {ev:D} {m:Nat} (h0:0 <= sz) (h1:sz <= 10):∀ (ps:List (Ev × Int)) (k:C3) (o3:Option D),k.Ok m->GO sf sz m k (ps.map (·.1))->∃ (o2' o3':Option D),
    DA (AM 3) RY (ps.map fun p=>A3 p.1 p.2) [some (mkD sf sz bg ns),some ev,some k.toD,o3] μ=some ((if A2 sf sz k (ps.map (·.1)) then .next else .rt (.bl false),[some (mkD sf sz bg ns),some ev,o2',o3']),μ)
  | [],k,o3,_,_=>⟨some k.toD,o3,rfl⟩
  | p :: ps,k,o3,K,F=>by
    obtain ⟨f1,f2⟩:=F
    have vb:=N0 (μ:=μ) (sf:=sf) (bg:=bg) (ns:=ns) (g:=p.2) h0 h1 K f1
    have a1:Ae (AE A7 (AC (AB 0) (AC (AB 2) (AC (AB 3) AJ)))) (AM 2) [some (mkD sf sz bg ns),some ev,some k.toD,some (A3 p.1 p.2)] μ=some ((.next,[some (mkD sf sz bg ns),some ev,some (oD (k.step sf sz p.1)),some (A3 p.1 p.2)]),μ):=pa (pd (ds:=[mkD sf sz bg ns,k.toD,A3 p.1 p.2]) rfl vb) rfl
    cases hs:k.step sf sz p.1 with
    | none=>
      rw [hs] at a1
      refine ⟨some .non,some (A3 p.1 p.2),?_⟩
      have ej:A2 sf sz k ((p :: ps).map (·.1))=false:=by
        show (match k.step sf sz p.1 with | none=>false | some k'=>A2 sf sz k' (ps.map (·.1)))=false
        rw [hs]
      rw [ej]
      exact IV (τ1:=[some (mkD sf sz bg ns),some ev,some k.toD,some (A3 p.1 p.2)]) (μ1:=μ) rfl (pq a1 (piT (AU (po (x:=.non) (y:=.non) rfl rfl rfl)) (pr rfl)))
    | some k'=>
      rw [hs] at a1
      obtain ⟨K',F'⟩:=f2 k' hs
      obtain ⟨o2',o3',go⟩:=PV h0 h1 ps k' (some (A3 p.1 p.2)) K' F'
      refine ⟨o2',o3',?_⟩
      have ej:A2 sf sz k ((p :: ps).map (·.1))=A2 sf sz k' (ps.map (·.1)):=by
        show (match k.step sf sz p.1 with | none=>false | some k'=>A2 sf sz k' (ps.map (·.1)))=A2 sf sz k' (ps.map (·.1))
        rw [hs]
      rw [ej]
      exact Ac (τ1:=[some (mkD sf sz bg ns),some ev,some k.toD,some (A3 p.1 p.2)]) (μ1:=μ) rfl (pq a1 (piF (AU (po (x:=k'.toD) (y:=.non) rfl rfl rfl)) rfl)) go
theorem Je (N:Ns ns) {es:List Ev} (h0:0 <= sz) (h1:sz <= 10) (b0:0 <= bg) (b1:bg < 10) (ok:∀ e ∈ es,e.Ok ns sz) (wf:wfG (fun _=>false) es) (hl:es.length <= 100) (F:GO sf sz (ns.length - 1) (C3.start bg (ns.length - 1)) es) :
    FO [mkD sf sz bg ns,.lst (es.map (evD ns))] μ=some (.bl (A2 sf sz (C3.start bg (ns.length - 1)) es),μ):=by
  have hhi:=N.hi
  have hlo:=N.lo
  obtain ⟨gs,hg,ea⟩:=N2 (μ:=μ) (kd:=kdS sf) (bg:=bg) N ok wf hl
  obtain ⟨o2,o3,go⟩:=PV (μ:=μ) (sf:=sf) (bg:=bg) (ns:=ns) (ev:=.lst (es.map (evD ns))) h0 h1 (es.zip gs) (C3.start bg (ns.length - 1)) none (Jk (by omega) b0 b1) (by rw [Ez hg]; exact F)
  rw [Ez hg] at go
  refine AS (g:=[]) (τ2:=[some (mkD sf sz bg ns),some (.lst (es.map (evD ns))),o2,o3]) ?_ rfl (by unfold Cl; trivial)
  rw [List.append_nil]
  refine pq (pa (d:=(C3.start bg (ns.length - 1)).toD) (pd (ds:=[mkD sf sz bg ns]) rfl (by rw [Pk]; exact K13.QO (by omega) hlo)) rfl) ?_
  have fo:Ep (Ce (AE Bw (AC (AB 0) (AC (AB 1) AJ)))) (AM 3) RY [some (mkD sf sz bg ns),some (.lst (es.map (evD ns))),some (C3.start bg (ns.length - 1)).toD,none] μ=_:=DP (BJ (pd (ds:=[mkD sf sz bg ns,.lst (es.map (evD ns))]) rfl ea)) go
  cases hj:A2 sf sz (C3.start bg (ns.length - 1)) es with
  | true=>rw [hj] at fo; exact pq fo (pr rfl)
  | false=>rw [hj] at fo; exact BB fo
end
end K16
set_option maxHeartbeats 4000000
namespace K16
open PySem L2 Mi Nk Wb Ht K13
section
variable {μ:Mh} {sz bg:Int} {ns:List Str}
theorem MH {ev:D}:∀ (ps:List (Ev × Int)) (S K:List Cs) (o3:Option D),Sim K S->fitW S (ps.map (·.1))=true->∃ (o2' o3':Option D),
    DA (AM 3) RY (ps.map fun p=>A3 p.1 p.2) [some (mkW sz bg ns),some ev,some (clW K),o3] μ=some ((if Bl S (ps.map (·.1)) then .next else .rt (.bl false),[some (mkW sz bg ns),some ev,o2',o3']),μ)
  | [],S,K,o3,_,_=>⟨some (clW K),o3,rfl⟩
  | p :: ps,S,K,o3,s,F=>by
    have F':(fit S p.1 && (gone S p.1 || fitW (clo (pre S p.1)) (ps.map (·.1))))=true:=F
    rw [Bool.and_eq_true] at F'
    obtain ⟨f1,f2⟩:=F'
    obtain ⟨r,hr,vb⟩:=Mp (sz:=sz) (bg:=bg) (ns:=ns) (gg:=p.2) s f1
    have a1:Ae (AE A7 (AC (AB 0) (AC (AB 2) (AC (AB 3) AJ)))) (AM 2) [some (mkW sz bg ns),some ev,some (clW K),some (A3 p.1 p.2)] μ=some ((.next,[some (mkW sz bg ns),some ev,some r,some (A3 p.1 p.2)]),μ):=pa (pd (ds:=[mkW sz bg ns,clW K,A3 p.1 p.2]) rfl (vb μ)) rfl
    have ej:Bl S ((p :: ps).map (·.1))=if gone S p.1=true then false else Bl (clo (pre S p.1)) (ps.map (·.1)):=rfl
    rcases hr with ⟨hg,rfl⟩ | ⟨hg,K',s',rfl⟩
    . refine ⟨some .non,some (A3 p.1 p.2),?_⟩
      rw [ej,hg,if_pos rfl]
      exact IV (τ1:=[some (mkW sz bg ns),some ev,some (clW K),some (A3 p.1 p.2)]) (μ1:=μ) rfl (pq a1 (piT (AU (po (x:=.non) (y:=.non) rfl rfl rfl)) (pr rfl)))
    . rw [hg,Bool.false_or] at f2
      obtain ⟨o2',o3',go⟩:=MH (ev:=ev) ps _ K' (some (A3 p.1 p.2)) s' f2
      refine ⟨o2',o3',?_⟩
      have ej':Bl S ((p :: ps).map (·.1))=Bl (clo (pre S p.1)) (ps.map (·.1)):=by rw [ej,hg]; rfl
      rw [ej']
      exact Ac (τ1:=[some (mkW sz bg ns),some ev,some (clW K),some (A3 p.1 p.2)]) (μ1:=μ) rfl (pq a1 (piF (AU (po (x:=clW K') (y:=.non) rfl rfl rfl)) rfl)) go
def S0 (bg:Int) (m:Nat):List Cs:=[(bg,-1,List.replicate m (-1))]
theorem Mn (N:Ns ns) {es:List Ev} (ok:∀ e ∈ es,e.Ok ns sz) (wf:wfG (fun _=>false) es) (hl:es.length <= 100) (F:fitW (S0 bg (ns.length - 1)) es=true) :
    FO [mkW sz bg ns,.lst (es.map (evD ns))] μ=some (.bl (Bl (S0 bg (ns.length - 1)) es),μ):=by
  have hhi:=N.hi
  have hlo:=N.lo
  obtain ⟨gs,hg,ea⟩:=N2 (μ:=μ) (kd := "whole") (bg:=bg) N ok wf hl
  obtain ⟨o2,o3,go⟩:=MH (μ:=μ) (sz:=sz) (bg:=bg) (ns:=ns) (ev:=.lst (es.map (evD ns))) (es.zip gs) (S0 bg (ns.length - 1)) (S0 bg (ns.length - 1)) none ⟨by simp [S0],fun _=>Iff.rfl⟩ (by rw [Ez hg]; exact F)
  rw [Ez hg] at go
  refine AS (g:=[]) (τ2:=[some (mkW sz bg ns),some (.lst (es.map (evD ns))),o2,o3]) ?_ rfl (by unfold Cl; trivial)
  rw [List.append_nil]
  refine pq (pa (d:=clW (S0 bg (ns.length - 1))) (pd (ds:=[mkW sz bg ns]) rfl (N1 (by omega) hlo)) rfl) ?_
  have fo:Ep (Ce (AE Bw (AC (AB 0) (AC (AB 1) AJ)))) (AM 3) RY [some (mkW sz bg ns),some (.lst (es.map (evD ns))),some (clW (S0 bg (ns.length - 1))),none] μ=_:=DP (BJ (pd (ds:=[mkW sz bg ns,.lst (es.map (evD ns))]) rfl ea)) go
  cases hj:Bl (S0 bg (ns.length - 1)) es with
  | true=>rw [hj] at fo; exact pq fo (pr rfl)
  | false=>rw [hj] at fo; exact BB fo
structure Fw (ns:List Str) (sz bg:Int) (es:List Ev) (d1 d2 d3:Bool):Prop where
  ok:∀ e ∈ es,e.Ok ns sz
  wf:wfG (fun _=>false) es
  len:es.length <= 100
  sa:A2 true sz (C3.start bg (ns.length - 1)) es=d1
  st:A2 false sz (C3.start bg (ns.length - 1)) es=d2
  fw:fitW (S0 bg (ns.length - 1)) es=true
  wh:Bl (S0 bg (ns.length - 1)) es=d3
theorem VD {a b c:Bool}:Aj (.lst [.bl a,.bl b,.bl c]) (.lst [.bl a,.bl b,.bl c]) μ=some (.bl true,μ):=by
  cases a <;> cases b <;> cases c <;> rfl
theorem GZ (N:Ns ns) {es:List Ev} {d1 d2 d3:Bool} (h0:2 <= sz) (h1:sz <= 10) (b0:0 <= bg) (b1:bg < sz) (h:Fw ns sz bg es d1 d2 d3):F3 [mkK "safe" sz bg ns,.lst (es.map (evD ns)),.lst [.bl d1,.bl d2,.bl d3]] μ=some (.bl true,μ):=by
  have hz:=BI
  have hhi:=N.hi
  have hlo:=N.lo
  have ei:∀ e ∈ es,e.In (ns.length - 1) sz:=fun e he=>⟨by have:=(h.ok e he).h; omega,(h.ok e he).v⟩
  have Ft:=HJ (sf:=true) (bg:=bg) (m:=ns.length - 1) h1 es [] (C3.start bg (ns.length - 1)) h.wf ei (Eh (by omega) b0 (by omega))
  have Ff:=HJ (sf:=false) (bg:=bg) (m:=ns.length - 1) h1 es [] (C3.start bg (ns.length - 1)) h.wf ei (Eh (by omega) b0 (by omega))
  have j1:=Je (μ:=μ) (sf:=true) (bg:=bg) N (by omega) h1 b0 (by omega) h.ok h.wf h.len Ft
  have j2:=Je (μ:=μ) (sf:=false) (bg:=bg) N (by omega) h1 b0 (by omega) h.ok h.wf h.len Ff
  have j3:=Mn (μ:=μ) (bg:=bg) N h.ok h.wf h.len h.fw
  rw [h.sa] at j1
  rw [h.st] at j2
  rw [h.wh] at j3
  refine AS (g:=[]) (τ2:=[some (mkK "safe" sz bg ns),some (.lst (es.map (evD ns))),some (.lst [.bl d1,.bl d2,.bl d3])]) ?_ rfl (by unfold Cl; trivial)
  rw [List.append_nil]
  refine pr (po (x:=.lst [.bl d1,.bl d2,.bl d3]) (y:=.lst [.bl d1,.bl d2,.bl d3]) ?_ rfl VD)
  have arg:∀ kd:Str,AE AX (AC (AB 0) AJ) [some (.str kd),some (.lst (es.map (evD ns))),some (mkK "safe" sz bg ns)] μ=some (.tup [.str kd],μ):=fun kd=>pd (ds:=[.str kd]) rfl (Ah (by simp; omega))
  have mk:∀ kd:Str,mOp AY (AE AX (AC (AB 0) AJ)) (FJ (AB 2) (EI (mC (.int 1))) C8) [some (.str kd),some (.lst (es.map (evD ns))),some (mkK "safe" sz bg ns)] μ=some (mkK kd sz bg ns,μ):=fun kd=>by
    refine po (x:=.tup [.str kd]) (y:=.tup [.int sz,.int bg,.tup [],.tup (ns.map hdD)]) (arg kd) (p2 (x:=mkK "safe" sz bg ns) (a:=some 1) (b:=none) rfl rfl rfl ?_) (GH (by simp; omega))
    show some (D.tup (DQ [.str "safe",.int sz,.int bg,.tup [],.tup (ns.map hdD)] (some ((1:Nat):Int)) none),μ)=_
    rw [KU (by simp)]
    rfl
  refine Bn (ds:=[.str "safe",.str "steady",.str "whole"]) (es:=[.bl d1,.bl d2,.bl d3]) (BJ (pd (ds:=[.str "safe",.str "steady",.str "whole"]) rfl (A0 (by simp; omega)))) (by simp; omega) ?_ (A0 (by simp; omega))
  have e1:∀ kd:Str,AM 0 (.str kd) (DH 1 [1,0] (Bx 3 [mkK "safe" sz bg ns,.lst (es.map (evD ns)),.lst [.bl d1,.bl d2,.bl d3]])) μ=some ([some (.str kd),some (.lst (es.map (evD ns))),some (mkK "safe" sz bg ns)],μ):=fun _=>rfl
  show bnd (AM 0 (.str "safe") _) _ μ=_
  rw [AL (e1 "safe"),AL (show Bv _ μ=some (true,μ) from rfl),if_pos rfl,AL (pd (ds:=[mkK "safe" sz bg ns,.lst (es.map (evD ns))]) (pc (mk "safe") rfl) j1)]
  show bnd (AM 0 (.str "steady") _) _ μ=_
  rw [AL (e1 "steady"),AL (show Bv _ μ=some (true,μ) from rfl),if_pos rfl,AL (pd (ds:=[mkK "steady" sz bg ns,.lst (es.map (evD ns))]) (pc (mk "steady") rfl) j2)]
  show bnd (AM 0 (.str "whole") _) _ μ=_
  rw [AL (e1 "whole"),AL (show Bv _ μ=some (true,μ) from rfl),if_pos rfl,AL (pd (ds:=[mkK "whole" sz bg ns,.lst (es.map (evD ns))]) (pc (mk "whole") rfl) j3)]
  rfl
end
end K16
set_option maxHeartbeats 4000000
namespace Wb
open PySem Nk
open K13 (Ev)
structure Rn (f:Int->Int):Prop where
  inj:∀ x y,f x=f y->x=y
  n2:f (-2) = -2
  n1:f (-1) = -1
  pos:∀ x,0 <= f x ↔ 0 <= x
def rn (f:Int->Int) (c:Cs):Cs:=(f c.1,f c.2.1,c.2.2.map f)
def evM (f:Int->Int):Ev->Ev
  | .wb v=>.wb (f v)
  | .we=>.we
  | .rb r=>.rb r
  | .re r v=>.re r (f v)
variable {f:Int->Int}
theorem Rn.is2 (h:Rn f) {x:Int}:f x = -2 ↔ x = -2:=⟨fun e=>h.inj _ _ (e.trans h.n2.symm),fun e=>by rw [e,h.n2]⟩
theorem Rn.is1 (h:Rn f) {x:Int}:f x = -1 ↔ x = -1:=⟨fun e=>h.inj _ _ (e.trans h.n1.symm),fun e=>by rw [e,h.n1]⟩
theorem Rn.opts (h:Rn f) (v:Int):∀ ts:List Int,opts (f v) (ts.map f)=(opts v ts).map (List.map f)
  | []=>rfl
  | t :: r=>by
    have ih:=h.opts v r
    rw [List.map_cons,Wb.opts,Wb.opts,ih]
    by_cases e:t = -2
    . rw [if_pos e,if_pos (h.is2.mpr e),List.map_append,List.map_map,List.map_map,List.map_map,List.map_map]
      congr 1
      refine List.map_congr_left fun x _=>?_
      show -2 :: x.map f=f (-2) :: x.map f
      rw [h.n2]
    . rw [if_neg e,if_neg (fun z=>e (h.is2.mp z)),List.map_map,List.map_map]
      rfl
theorem Rn.rch (h:Rn f) (c:Cs):rch (rn f c)=(rch c).map (rn f):=by
  unfold Wb.rch
  show (Wb.opts (f c.1) (c.2.2.map f)).map _ ++ (if 0 <= f c.2.1 then ((Wb.opts (f c.1) (c.2.2.map f)).flatMap (Wb.opts (f c.2.1))).map _ else [])=_
  rw [h.opts,List.map_append,List.map_map,List.map_map]
  congr 1
  by_cases e:0 <= c.2.1
  . rw [if_pos e,if_pos ((h.pos _).mpr e),List.map_map]
    have:((Wb.opts c.1 c.2.2).map (List.map f)).flatMap (Wb.opts (f c.2.1))=((Wb.opts c.1 c.2.2).flatMap (Wb.opts c.2.1)).map (List.map f):=by
      rw [List.flatMap_map,List.map_flatMap]
      congr 1
      funext x
      exact h.opts _ _
    rw [this,List.map_map]
    refine List.map_congr_left fun x _=>?_
    show (f c.2.1,(-2:Int),x.map f)=(f c.2.1,f (-2),x.map f)
    rw [h.n2]
  . rw [if_neg e,if_neg (fun z=>e ((h.pos _).mp z))]
    rfl
theorem Rn.clo (h:Rn f) (S:List Cs):clo (S.map (rn f))=(clo S).map (rn f):=by
  unfold Wb.clo
  rw [List.flatMap_map,List.map_flatMap]
  congr 1
  funext x
  exact h.rch x
theorem Rn.at (h:Rn f) {ts:List Int} {r:Nat} {v:Int}:(ts.map f)[r]? = some (f v) ↔ ts[r]? = some v:=by
  rw [List.getElem?_map]
  cases ts[r]? with
  | none=>simp
  | some x=>simp; exact ⟨h.inj _ _,fun e=>by rw [e]⟩
theorem LK {α β:Type} {g:α->α} {k:β->β} {u u':α->Option β} (h:∀ a,u' (g a)=(u a).map k):∀ S:List α,(S.map g).filterMap u'=(S.filterMap u).map k
  | []=>rfl
  | a :: S=>by
    rw [List.map_cons,List.filterMap_cons,List.filterMap_cons,h a,LK h S]
    cases u a <;> rfl
theorem Rn.endW (h:Rn f) (c:Cs):endW (rn f c)=(endW c).map (rn f):=by
  unfold Wb.endW
  show (if f c.2.1 = -2 then some (f c.1,(-1:Int),c.2.2.map f) else none)=_
  by_cases e:c.2.1 = -2
  . rw [if_pos e,if_pos (h.is2.mpr e)]
    show some (f c.1,(-1:Int),c.2.2.map f)=some (f c.1,f (-1),c.2.2.map f)
    rw [h.n1]
  . rw [if_neg e,if_neg (fun z=>e (h.is2.mp z))]; rfl
theorem Rn.endR (h:Rn f) (r:Nat) (v:Int) (c:Cs):endR r (f v) (rn f c)=(endR r v c).map (rn f):=by
  unfold Wb.endR
  show (if (c.2.2.map f)[r]? = some (f v) then some (f c.1,f c.2.1,(c.2.2.map f).set r (-1)) else none)=_
  by_cases e:c.2.2[r]? = some v
  . rw [if_pos e,if_pos (h.at.mpr e)]
    show some (f c.1,f c.2.1,(c.2.2.map f).set r (-1))=some (f c.1,f c.2.1,(c.2.2.set r (-1)).map f)
    rw [List.map_set,h.n1]
  . rw [if_neg e,if_neg (fun z=>e (h.at.mp z))]; rfl
theorem Rn.pre (h:Rn f) (S:List Cs) (e:Ev):pre (S.map (rn f)) (evM f e)=(pre S e).map (rn f):=by
  cases e with
  | wb v=>show (S.map (rn f)).map (LU (f v))=(S.map (LU v)).map (rn f); rw [List.map_map,List.map_map]; rfl
  | we=>exact LK h.endW S
  | rb r=>
    show (S.map (rn f)).map (Nr r)=(S.map (Nr r)).map (rn f)
    rw [List.map_map,List.map_map]
    refine List.map_congr_left fun c _=>?_
    show (f c.1,f c.2.1,(c.2.2.map f).set r (-2))=(f c.1,f c.2.1,(c.2.2.set r (-2)).map f)
    rw [List.map_set,h.n2]
  | re r v=>exact LK (h.endR r v) S
theorem Rn.gone (h:Rn f) (S:List Cs) (e:Ev):gone (S.map (rn f)) (evM f e)=gone S e:=by
  cases e with
  | re r v=>
    have:=h.pre S (.re r v)
    show ((S.map (rn f)).filterMap (Wb.endR r (f v))).isEmpty=(S.filterMap (Wb.endR r v)).isEmpty
    have e2:(S.map (rn f)).filterMap (Wb.endR r (f v))=(S.filterMap (Wb.endR r v)).map (rn f):=this
    rw [e2]
    cases S.filterMap (Wb.endR r v) <;> rfl
  | _=>rfl
theorem Rn.fit (h:Rn f) (S:List Cs) (e:Ev):fit (S.map (rn f)) (evM f e)=fit S e:=by
  have dl:∀ (T:List Cs) (k:Nat),(T.map (rn f)).all (fun c=>decide (c.2.2.length <= k))=T.all (fun c=>decide (c.2.2.length <= k)):=fun T k=>by
    rw [List.all_map]
    congr 1
    funext c
    show decide ((c.2.2.map f).length <= k)=_
    rw [List.length_map]
  unfold Wb.fit
  rw [h.pre,h.clo,List.length_map,dl,dl,List.length_map]
  congr 4
  cases e with
  | wb v=>
    show (S.map (rn f)).all _=S.all _
    rw [List.all_map]
    congr 1
    funext c
    show decide (f c.2.1 = -1)=decide (c.2.1 = -1)
    exact decide_eq_decide.mpr h.is1
  | we=>rfl
  | rb r=>
    show (S.map (rn f)).all _=S.all _
    rw [List.all_map]
    congr 1
    funext c
    show decide ((c.2.2.map f)[r]? = some (-1))=decide (c.2.2[r]? = some (-1))
    refine decide_eq_decide.mpr ?_
    have:=h.at (ts:=c.2.2) (r:=r) (v:=-1)
    rw [h.n1] at this
    exact this
  | re r v=>
    show (S.map (rn f)).all _=S.all _
    rw [List.all_map]
    congr 1
    funext c
    show decide (r < (c.2.2.map f).length)=_
    rw [List.length_map]
theorem Rn.jud (h:Rn f):∀ (es:List Ev) (S:List Cs),Bl (S.map (rn f)) (es.map (evM f))=Bl S es
  | [],_=>rfl
  | e :: es,S=>by
    show (if Wb.gone (S.map (rn f)) (evM f e)=true then false else Bl (Wb.clo (Wb.pre (S.map (rn f)) (evM f e))) (es.map (evM f)))=(if Wb.gone S e=true then false else Bl (Wb.clo (Wb.pre S e)) es)
    rw [h.gone,h.pre,h.clo,h.jud es]
theorem Rn.fitW (h:Rn f):∀ (es:List Ev) (S:List Cs),Wb.fitW (S.map (rn f)) (es.map (evM f))=Wb.fitW S es
  | [],_=>rfl
  | e :: es,S=>by
    show (Wb.fit (S.map (rn f)) (evM f e) && (Wb.gone (S.map (rn f)) (evM f e) || Wb.fitW (Wb.clo (Wb.pre (S.map (rn f)) (evM f e))) (es.map (evM f))))=(Wb.fit S e && (Wb.gone S e || Wb.fitW (Wb.clo (Wb.pre S e)) es))
    rw [h.fit,h.gone,h.pre,h.clo,h.fitW es]
def ren (a b t:Int) (x:Int):Int:=if x=0 then a else if x=1 then b else if x=2 then t else if x < 0 then x else x + 100
theorem Ss {a b t:Int} (ha:0 <= a /\ a < 10) (hb:0 <= b /\ b < 10) (ht:0 <= t /\ t < 10) (h1:a ≠ b) (h2:a ≠ t) (h3:b ≠ t):Rn (ren a b t) where
  inj:=fun x y e=>by
    unfold ren at e
    split at e <;> split at e <;> (try split at e) <;> (try split at e) <;> (try split at e) <;> (try split at e) <;> (try split at e) <;> (try split at e) <;> omega
  n2:=rfl
  n1:=rfl
  pos:=fun x=>by
    unfold ren
    split
    . omega
    . split
      . omega
      . split
        . omega
        . split <;> omega
theorem third (a b:Int):∃ t:Int,(0 <= t /\ t < 10) /\ a ≠ t /\ b ≠ t:=by
  by_cases h0:a=0 ∨ b=0
  . by_cases h1:a=1 ∨ b=1
    . exact ⟨2,by omega,by omega,by omega⟩
    . exact ⟨1,by omega,by omega,by omega⟩
  . exact ⟨0,by omega,by omega,by omega⟩
end Wb
namespace K16
open PySem Nk Wb
open K13 (Ev)
theorem UA {a b t:Int} (m:Nat):(S0 0 m).map (rn (ren a b t))=S0 a m:=by
  unfold S0 rn
  simp [ren]
theorem P9 {a b t:Int} {m:Nat} (ha:0 <= a /\ a < 10) (hb:0 <= b /\ b < 10) (ht:0 <= t /\ t < 10) (h1:a ≠ b) (h2:a ≠ t) (h3:b ≠ t) (es:List Ev):Bl (S0 a m) (es.map (evM (ren a b t)))=Bl (S0 0 m) es /\ fitW (S0 a m) (es.map (evM (ren a b t)))=fitW (S0 0 m) es:=by
  have h:=Ss ha hb ht h1 h2 h3
  rw [← UA (a:=a) (b:=b) (t:=t) m]
  exact ⟨h.jud es _,h.fitW es _⟩
theorem UD {a bg:Int} {m:Nat} (ha:0 <= a) (hm:m=1 ∨ m=2 ∨ m=3) (es:List Ev):Bl (S0 bg m) (.wb a :: .we :: es)=Bl (S0 a m) es /\ fitW (S0 bg m) (.wb a :: .we :: es)=fitW (S0 a m) es:=by
  have n2 : ¬ a = -2:=by omega
  rcases hm with rfl | rfl | rfl <;> simp [Bl,fitW,fit,gone,pre,S0,clo,rch,opts,LU,endW,List.replicate,ha,n2]
end K16
set_option maxHeartbeats 4000000
namespace K16
open PySem L2 Mi Nk Wb Ht K13
theorem O8 {x:Int} {n:Nat}:x ∈ K9 n ↔ 0 <= x /\ x < n:=by
  unfold K9
  rw [List.mem_map]
  constructor
  . rintro ⟨k,h,rfl⟩
    have:=List.mem_range.mp h
    exact ⟨Int.natCast_nonneg k,by show ((k:Nat):Int) < n; omega⟩
  . rintro ⟨h1,h2⟩
    exact ⟨x.toNat,List.mem_range.mpr (by omega),by show ((x.toNat:Nat):Int)=x; omega⟩
theorem NO {x sz:Int} (h:0 <= sz):x ∈ K9 sz.toNat ↔ 0 <= x /\ x < sz:=by rw [O8]; omega
section
variable {sz bg a b t:Int} {m:Nat}
structure Ws (sz a b:Int):Prop where
  s0:2 <= sz
  s1:sz <= 10
  a0:0 <= a
  a1:a < sz
  b0:0 <= b
  b1:b < sz
  ne:a ≠ b
local macro_rules | `(tactic| wtm_at "own wk")=>`(tactic| simp [A2,C3.step,C3.start,D6,bsd,GC,List.replicate,NO, *])
def hA1 (r:Nat) (w:Int):List Ev:=[.rb r,.re r w]
def hA2 (a:Int) (r:Nat):List Ev:=[.wb a,.we,.rb r,.re r a]
def hA3 (a b:Int) (r:Nat):List Ev:=[.wb a,.we,.wb b,.we,.rb r,.re r a]
def hB1 (a b:Int) (r:Nat) (w:Int):List Ev:=[.wb a,.we,.wb b,.rb r,.re r w]
def hB2 (a b:Int) (r:Nat) (w:Int):List Ev:=[.wb a,.we,.wb b,.rb r,.re r w,.we]
def hB3 (a b:Int) (r:Nat):List Ev:=[.wb a,.we,.wb b,.rb r,.re r b,.rb r,.re r a]
def hB4 (a b:Int) (r:Nat):List Ev:=[.wb a,.we,.wb b,.rb r,.re r b,.we,.rb r,.re r a]
def hC1 (a b:Int) (r:Nat):List Ev:=[.wb a,.we,.wb b,.rb r,.re r b,.rb 0,.re 0 a]
def hC2 (a b:Int) (r:Nat):List Ev:=[.wb a,.we,.wb b,.rb 0,.rb r,.re r b,.re 0 a]
def hD1 (a b:Int) (r:Nat) (w:Int):List Ev:=[.wb a,.we,.rb r,.wb b,.we,.wb a,.we,.re r w]
def hD2 (a b:Int) (r:Nat):List Ev:=[.wb a,.we,.rb r,.re r b,.wb b]
variable (hm:m=1 ∨ m=2 ∨ m=3) (w:Ws sz a b)
include hm w
theorem kA1 (sf:Bool) (b0:0 <= bg):A2 sf sz (C3.start bg m) (hA1 (m - 1) a)=(a == bg):=by
  obtain ⟨s0,s1,a0,a1,b0',b1,ne⟩:=w
  unfold hA1
  rcases hm with rfl | rfl | rfl <;> cases sf <;> by_cases e:a=bg <;> wtm_at "own wk"
theorem kA2 (sf:Bool):A2 sf sz (C3.start bg m) (hA2 a (m - 1))=true:=by
  obtain ⟨s0,s1,a0,a1,b0',b1,ne⟩:=w
  unfold hA2
  rcases hm with rfl | rfl | rfl <;> cases sf <;> wtm_at "own wk"
theorem kA3 (sf:Bool):A2 sf sz (C3.start bg m) (hA3 a b (m - 1))=false:=by
  obtain ⟨s0,s1,a0,a1,b0',b1,ne⟩:=w
  unfold hA3
  rcases hm with rfl | rfl | rfl <;> cases sf <;> wtm_at "own wk"
theorem kB1 (sf:Bool) (t0:0 <= t) (t1:t < sz):A2 sf sz (C3.start bg m) (hB1 a b (m - 1) t)=(sf || decide (t=a ∨ t=b)):=by
  obtain ⟨s0,s1,a0,a1,b0',b1,ne⟩:=w
  have ne' : ¬ b=a:=fun z=>ne z.symm
  have na : ¬ a = -1:=by omega
  have nb : ¬ b = -1:=by omega
  have sz0:0 <= sz:=by omega
  unfold hB1
  rcases hm with rfl | rfl | rfl <;> cases sf <;> by_cases e1:t=a <;> by_cases e2:t=b <;> wtm_at "own wk"
theorem kB2 (sf:Bool) (t0:0 <= t) (t1:t < sz):A2 sf sz (C3.start bg m) (hB2 a b (m - 1) t)=(sf || decide (t=a ∨ t=b)):=by
  obtain ⟨s0,s1,a0,a1,b0',b1,ne⟩:=w
  have ne' : ¬ b=a:=fun z=>ne z.symm
  have na : ¬ a = -1:=by omega
  have nb : ¬ b = -1:=by omega
  have sz0:0 <= sz:=by omega
  unfold hB2
  rcases hm with rfl | rfl | rfl <;> cases sf <;> by_cases e1:t=a <;> by_cases e2:t=b <;> wtm_at "own wk"
theorem kB3 (sf:Bool):A2 sf sz (C3.start bg m) (hB3 a b (m - 1))=true:=by
  obtain ⟨s0,s1,a0,a1,b0',b1,ne⟩:=w
  have ne' : ¬ b=a:=fun z=>ne z.symm
  have na : ¬ a = -1:=by omega
  have nb : ¬ b = -1:=by omega
  have sz0:0 <= sz:=by omega
  unfold hB3
  rcases hm with rfl | rfl | rfl <;> cases sf <;> wtm_at "own wk"
theorem kB4 (sf:Bool):A2 sf sz (C3.start bg m) (hB4 a b (m - 1))=false:=by
  obtain ⟨s0,s1,a0,a1,b0',b1,ne⟩:=w
  have ne' : ¬ b=a:=fun z=>ne z.symm
  have na : ¬ a = -1:=by omega
  have nb : ¬ b = -1:=by omega
  have sz0:0 <= sz:=by omega
  unfold hB4
  rcases hm with rfl | rfl | rfl <;> cases sf <;> wtm_at "own wk"
theorem kD1 (sf:Bool) (t0:0 <= t) (t1:t < sz):A2 sf sz (C3.start bg m) (hD1 a b (m - 1) t)=(sf || decide (t=a ∨ t=b)):=by
  obtain ⟨s0,s1,a0,a1,b0',b1,ne⟩:=w
  have ne' : ¬ b=a:=fun z=>ne z.symm
  have na : ¬ a = -1:=by omega
  have nb : ¬ b = -1:=by omega
  have sz0:0 <= sz:=by omega
  unfold hD1
  rcases hm with rfl | rfl | rfl <;> cases sf <;> by_cases e1:t=a <;> by_cases e2:t=b <;> wtm_at "own wk"
theorem kD2 (sf:Bool):A2 sf sz (C3.start bg m) (hD2 a b (m - 1))=false:=by
  obtain ⟨s0,s1,a0,a1,b0',b1,ne⟩:=w
  have ne' : ¬ b=a:=fun z=>ne z.symm
  have na : ¬ a = -1:=by omega
  have nb : ¬ b = -1:=by omega
  have sz0:0 <= sz:=by omega
  unfold hD2
  rcases hm with rfl | rfl | rfl <;> cases sf <;> wtm_at "own wk"
omit hm
variable (hm2:m=2 ∨ m=3)
include hm2
theorem kC1 (sf:Bool):A2 sf sz (C3.start bg m) (hC1 a b (m - 1))=true:=by
  obtain ⟨s0,s1,a0,a1,b0',b1,ne⟩:=w
  have ne' : ¬ b=a:=fun z=>ne z.symm
  have na : ¬ a = -1:=by omega
  have nb : ¬ b = -1:=by omega
  have sz0:0 <= sz:=by omega
  unfold hC1
  rcases hm2 with rfl | rfl <;> cases sf <;> wtm_at "own wk"
theorem kC2 (sf:Bool):A2 sf sz (C3.start bg m) (hC2 a b (m - 1))=true:=by
  obtain ⟨s0,s1,a0,a1,b0',b1,ne⟩:=w
  have ne' : ¬ b=a:=fun z=>ne z.symm
  have na : ¬ a = -1:=by omega
  have nb : ¬ b = -1:=by omega
  have sz0:0 <= sz:=by omega
  unfold hC2
  rcases hm2 with rfl | rfl <;> cases sf <;> wtm_at "own wk"
end
end K16
set_option maxHeartbeats 4000000
namespace K16
open PySem L2 Mi Nk Wb Ht K13
section
variable {sz bg a b t:Int} {m:Nat}
theorem Cn (hm:m=1 ∨ m=2 ∨ m=3) (w:Ws sz a b) (es0 es:List Ev) {d:Bool} (t:Int) (ht:0 <= t /\ t < 10) (n1:a ≠ t) (n2:b ≠ t) (he:es=es0.map (evM (ren a b t))) (hj:Bl (S0 0 m) es0=d /\ fitW (S0 0 m) es0=true):Bl (S0 bg m) (.wb a :: .we :: es)=d /\ fitW (S0 bg m) (.wb a :: .we :: es)=true:=by
  obtain ⟨s0,s1,a0,a1,b0',b1,ne⟩:=w
  obtain ⟨w1,w2⟩:=UD (bg:=bg) a0 hm es
  obtain ⟨j1,j2⟩:=P9 (m:=m) ⟨a0,by omega⟩ ⟨b0',by omega⟩ ht ne n1 n2 es0
  rw [w1,w2,he,j1,j2]
  exact hj
variable (hm:m=1 ∨ m=2 ∨ m=3) (w:Ws sz a b)
include hm w
theorem wA1 (b0:0 <= bg) (b1:bg < sz):Bl (S0 bg m) (hA1 (m - 1) a)=(a == bg) /\ fitW (S0 bg m) (hA1 (m - 1) a)=true:=by
  obtain ⟨s0,s1,a0,a1,b0',b1',ne⟩:=w
  by_cases e:a=bg
  . subst e
    obtain ⟨t,ht,n1,n2⟩:=third a b
    obtain ⟨j1,j2⟩:=P9 (m:=m) (a:=a) (b:=b) (t:=t) ⟨a0,by omega⟩ ⟨b0',by omega⟩ ht ne n1 n2 (hA1 (m - 1) 0)
    have he:(hA1 (m - 1) 0).map (evM (ren a b t))=hA1 (m - 1) a:=rfl
    rw [he] at j1 j2
    rw [j1,j2]
    rcases hm with rfl | rfl | rfl <;> (rw [beq_self_eq_true]; decide +kernel)
  . obtain ⟨t,ht,n1,n2⟩:=third bg a
    obtain ⟨j1,j2⟩:=P9 (m:=m) (a:=bg) (b:=a) (t:=t) ⟨b0,by omega⟩ ⟨a0,by omega⟩ ht (fun z=>e z.symm) n1 n2 (hA1 (m - 1) 1)
    have he:(hA1 (m - 1) 1).map (evM (ren bg a t))=hA1 (m - 1) a:=rfl
    rw [he] at j1 j2
    rw [j1,j2,beq_eq_false_iff_ne.mpr e]
    rcases hm with rfl | rfl | rfl <;> decide +kernel
theorem wA2:Bl (S0 bg m) (hA2 a (m - 1))=true /\ fitW (S0 bg m) (hA2 a (m - 1))=true:=by
  obtain ⟨t,ht,n1,n2⟩:=third a b
  refine Cn (hm) w (hA2 0 (m - 1)).tail.tail _ t ht n1 n2 rfl ?_
  rcases hm with rfl | rfl | rfl <;> decide +kernel
theorem wA3:Bl (S0 bg m) (hA3 a b (m - 1))=false /\ fitW (S0 bg m) (hA3 a b (m - 1))=true:=by
  obtain ⟨t,ht,n1,n2⟩:=third a b
  refine Cn (hm) w (hA3 0 1 (m - 1)).tail.tail _ t ht n1 n2 rfl ?_
  rcases hm with rfl | rfl | rfl <;> decide +kernel
theorem wB3:Bl (S0 bg m) (hB3 a b (m - 1))=false /\ fitW (S0 bg m) (hB3 a b (m - 1))=true:=by
  obtain ⟨t,ht,n1,n2⟩:=third a b
  refine Cn (hm) w (hB3 0 1 (m - 1)).tail.tail _ t ht n1 n2 rfl ?_
  rcases hm with rfl | rfl | rfl <;> decide +kernel
theorem wB4:Bl (S0 bg m) (hB4 a b (m - 1))=false /\ fitW (S0 bg m) (hB4 a b (m - 1))=true:=by
  obtain ⟨t,ht,n1,n2⟩:=third a b
  refine Cn (hm) w (hB4 0 1 (m - 1)).tail.tail _ t ht n1 n2 rfl ?_
  rcases hm with rfl | rfl | rfl <;> decide +kernel
theorem wD2:Bl (S0 bg m) (hD2 a b (m - 1))=false /\ fitW (S0 bg m) (hD2 a b (m - 1))=true:=by
  obtain ⟨t,ht,n1,n2⟩:=third a b
  refine Cn (hm) w (hD2 0 1 (m - 1)).tail.tail _ t ht n1 n2 rfl ?_
  rcases hm with rfl | rfl | rfl <;> decide +kernel
theorem wB1 (t0:0 <= t) (t1:t < sz):Bl (S0 bg m) (hB1 a b (m - 1) t)=decide (t=a ∨ t=b) /\ fitW (S0 bg m) (hB1 a b (m - 1) t)=true:=by
  have s1:=w.s1
  by_cases e1:t=a
  . subst e1
    obtain ⟨u,hu,n1,n2⟩:=third t b
    rw [decide_eq_true (.inl rfl)]
    refine Cn hm w (hB1 0 1 (m - 1) 0).tail.tail _ u hu n1 n2 rfl ?_
    rcases hm with rfl | rfl | rfl <;> decide +kernel
  . by_cases e2:t=b
    . subst e2
      obtain ⟨u,hu,n1,n2⟩:=third a t
      rw [decide_eq_true (.inr rfl)]
      refine Cn hm w (hB1 0 1 (m - 1) 1).tail.tail _ u hu n1 n2 rfl ?_
      rcases hm with rfl | rfl | rfl <;> decide +kernel
    . rw [decide_eq_false (by omega)]
      refine Cn hm w (hB1 0 1 (m - 1) 2).tail.tail _ t ⟨t0,by omega⟩ (fun z=>e1 z.symm) (fun z=>e2 z.symm) rfl ?_
      rcases hm with rfl | rfl | rfl <;> decide +kernel
theorem wB2 (t0:0 <= t) (t1:t < sz):Bl (S0 bg m) (hB2 a b (m - 1) t)=decide (t=a ∨ t=b) /\ fitW (S0 bg m) (hB2 a b (m - 1) t)=true:=by
  have s1:=w.s1
  by_cases e1:t=a
  . subst e1
    obtain ⟨u,hu,n1,n2⟩:=third t b
    rw [decide_eq_true (.inl rfl)]
    refine Cn hm w (hB2 0 1 (m - 1) 0).tail.tail _ u hu n1 n2 rfl ?_
    rcases hm with rfl | rfl | rfl <;> decide +kernel
  . by_cases e2:t=b
    . subst e2
      obtain ⟨u,hu,n1,n2⟩:=third a t
      rw [decide_eq_true (.inr rfl)]
      refine Cn hm w (hB2 0 1 (m - 1) 1).tail.tail _ u hu n1 n2 rfl ?_
      rcases hm with rfl | rfl | rfl <;> decide +kernel
    . rw [decide_eq_false (by omega)]
      refine Cn hm w (hB2 0 1 (m - 1) 2).tail.tail _ t ⟨t0,by omega⟩ (fun z=>e1 z.symm) (fun z=>e2 z.symm) rfl ?_
      rcases hm with rfl | rfl | rfl <;> decide +kernel
theorem wD1 (t0:0 <= t) (t1:t < sz):Bl (S0 bg m) (hD1 a b (m - 1) t)=decide (t=a ∨ t=b) /\ fitW (S0 bg m) (hD1 a b (m - 1) t)=true:=by
  have s1:=w.s1
  by_cases e1:t=a
  . subst e1
    obtain ⟨u,hu,n1,n2⟩:=third t b
    rw [decide_eq_true (.inl rfl)]
    refine Cn hm w (hD1 0 1 (m - 1) 0).tail.tail _ u hu n1 n2 rfl ?_
    rcases hm with rfl | rfl | rfl <;> decide +kernel
  . by_cases e2:t=b
    . subst e2
      obtain ⟨u,hu,n1,n2⟩:=third a t
      rw [decide_eq_true (.inr rfl)]
      refine Cn hm w (hD1 0 1 (m - 1) 1).tail.tail _ u hu n1 n2 rfl ?_
      rcases hm with rfl | rfl | rfl <;> decide +kernel
    . rw [decide_eq_false (by omega)]
      refine Cn hm w (hD1 0 1 (m - 1) 2).tail.tail _ t ⟨t0,by omega⟩ (fun z=>e1 z.symm) (fun z=>e2 z.symm) rfl ?_
      rcases hm with rfl | rfl | rfl <;> decide +kernel
omit hm
variable (hm2:m=2 ∨ m=3)
include hm2
theorem wC1:Bl (S0 bg m) (hC1 a b (m - 1))=false /\ fitW (S0 bg m) (hC1 a b (m - 1))=true:=by
  obtain ⟨t,ht,n1,n2⟩:=third a b
  refine Cn (hm2.elim (fun z=>.inr (.inl z)) (fun z=>.inr (.inr z))) w (hC1 0 1 (m - 1)).tail.tail _ t ht n1 n2 rfl ?_
  rcases hm2 with rfl | rfl <;> decide +kernel
theorem wC2:Bl (S0 bg m) (hC2 a b (m - 1))=true /\ fitW (S0 bg m) (hC2 a b (m - 1))=true:=by
  obtain ⟨t,ht,n1,n2⟩:=third a b
  refine Cn (hm2.elim (fun z=>.inr (.inl z)) (fun z=>.inr (.inr z))) w (hC2 0 1 (m - 1)).tail.tail _ t ht n1 n2 rfl ?_
  rcases hm2 with rfl | rfl <;> decide +kernel
end
end K16
set_option maxHeartbeats 4000000
namespace K16
open PySem L2 Mi Nk Wb Ht K13
section
variable {μ:Mh} {sz bg a b t:Int} {m:Nat} {ns:List Str}
def okB (n:Nat) (sz:Int) (e:Ev):Bool:=decide (e.hand < n) && (match e.val with | none=>true | some v=>decide (0 <= v) && decide (v < sz))
theorem U0 {es:List Ev} (h:es.all (okB ns.length sz)=true):∀ e ∈ es,e.Ok ns sz:=fun e he=>by
  have:=List.all_eq_true.mp h e he
  unfold okB at this
  rw [Bool.and_eq_true] at this
  refine ⟨of_decide_eq_true this.1,fun v hv=>?_⟩
  have h2:=this.2
  rw [hv] at h2
  rw [Bool.and_eq_true] at h2
  exact ⟨of_decide_eq_true h2.1,of_decide_eq_true h2.2⟩
theorem C9 {es:List Ev} {d1 d2 d3:Bool} (hns:ns.length=m + 1) (ok:es.all (okB (m + 1) sz)=true) (wf:wfG (fun _=>false) es) (len:es.length <= 100) (sa:A2 true sz (C3.start bg m) es=d1) (st:A2 false sz (C3.start bg m) es=d2) (wh:Bl (S0 bg m) es=d3 /\ fitW (S0 bg m) es=true):Fw ns sz bg es d1 d2 d3:=by
  have e:ns.length - 1=m:=by omega
  exact ⟨U0 (by rw [hns]; exact ok),wf,len,by rw [e]; exact sa,by rw [e]; exact st,by rw [e]; exact wh.2,by rw [e]; exact wh.1⟩
variable (hns:ns.length=m + 1) (hm:m=1 ∨ m=2 ∨ m=3) (w:Ws sz a b)
include hns hm w
theorem HA1 (b0:0 <= bg) (b1:bg < sz):Fw ns sz bg (hA1 (m - 1) a) (a == bg) (a == bg) (a == bg):=by
  refine C9 hns ?_ ?_ (by simp [hA1]) (kA1 hm w true b0) (kA1 hm w false b0) (wA1 hm w b0 b1)
  . obtain ⟨s0,s1,a0,a1,b0',b1',ne⟩:=w
    rcases hm with rfl | rfl | rfl <;> simp [hA1,okB,Ev.hand,Ev.val, *]
  . rcases hm with rfl | rfl | rfl <;> simp [hA1,wfG,Ev.hand,Ev.beg]
theorem HA2:Fw ns sz bg (hA2 a (m - 1)) true true true:=by
  refine C9 hns ?_ ?_ (by simp [hA2]) (kA2 hm w true) (kA2 hm w false) (wA2 hm w)
  . obtain ⟨s0,s1,a0,a1,b0',b1',ne⟩:=w
    rcases hm with rfl | rfl | rfl <;> simp [hA2,okB,Ev.hand,Ev.val, *]
  . rcases hm with rfl | rfl | rfl <;> simp [hA2,wfG,Ev.hand,Ev.beg]
theorem HA3:Fw ns sz bg (hA3 a b (m - 1)) false false false:=by
  refine C9 hns ?_ ?_ (by simp [hA3]) (kA3 hm w true) (kA3 hm w false) (wA3 hm w)
  . obtain ⟨s0,s1,a0,a1,b0',b1',ne⟩:=w
    rcases hm with rfl | rfl | rfl <;> simp [hA3,okB,Ev.hand,Ev.val, *]
  . rcases hm with rfl | rfl | rfl <;> simp [hA3,wfG,Ev.hand,Ev.beg]
theorem HB1 (t0:0 <= t) (t1:t < sz):Fw ns sz bg (hB1 a b (m - 1) t) true (decide (t=a ∨ t=b)) (decide (t=a ∨ t=b)):=by
  refine C9 hns ?_ ?_ (by simp [hB1]) (kB1 hm w true t0 t1) ((kB1 hm w false t0 t1).trans (Bool.false_or _)) (wB1 hm w t0 t1)
  . obtain ⟨s0,s1,a0,a1,b0',b1',ne⟩:=w
    rcases hm with rfl | rfl | rfl <;> simp [hB1,okB,Ev.hand,Ev.val, *]
  . rcases hm with rfl | rfl | rfl <;> simp [hB1,wfG,Ev.hand,Ev.beg]
theorem HB2 (t0:0 <= t) (t1:t < sz):Fw ns sz bg (hB2 a b (m - 1) t) true (decide (t=a ∨ t=b)) (decide (t=a ∨ t=b)):=by
  refine C9 hns ?_ ?_ (by simp [hB2]) (kB2 hm w true t0 t1) ((kB2 hm w false t0 t1).trans (Bool.false_or _)) (wB2 hm w t0 t1)
  . obtain ⟨s0,s1,a0,a1,b0',b1',ne⟩:=w
    rcases hm with rfl | rfl | rfl <;> simp [hB2,okB,Ev.hand,Ev.val, *]
  . rcases hm with rfl | rfl | rfl <;> simp [hB2,wfG,Ev.hand,Ev.beg]
theorem HB3:Fw ns sz bg (hB3 a b (m - 1)) true true false:=by
  refine C9 hns ?_ ?_ (by simp [hB3]) (kB3 hm w true) (kB3 hm w false) (wB3 hm w)
  . obtain ⟨s0,s1,a0,a1,b0',b1',ne⟩:=w
    rcases hm with rfl | rfl | rfl <;> simp [hB3,okB,Ev.hand,Ev.val, *]
  . rcases hm with rfl | rfl | rfl <;> simp [hB3,wfG,Ev.hand,Ev.beg]
theorem HB4:Fw ns sz bg (hB4 a b (m - 1)) false false false:=by
  refine C9 hns ?_ ?_ (by simp [hB4]) (kB4 hm w true) (kB4 hm w false) (wB4 hm w)
  . obtain ⟨s0,s1,a0,a1,b0',b1',ne⟩:=w
    rcases hm with rfl | rfl | rfl <;> simp [hB4,okB,Ev.hand,Ev.val, *]
  . rcases hm with rfl | rfl | rfl <;> simp [hB4,wfG,Ev.hand,Ev.beg]
theorem HD1 (t0:0 <= t) (t1:t < sz):Fw ns sz bg (hD1 a b (m - 1) t) true (decide (t=a ∨ t=b)) (decide (t=a ∨ t=b)):=by
  refine C9 hns ?_ ?_ (by simp [hD1]) (kD1 hm w true t0 t1) ((kD1 hm w false t0 t1).trans (Bool.false_or _)) (wD1 hm w t0 t1)
  . obtain ⟨s0,s1,a0,a1,b0',b1',ne⟩:=w
    rcases hm with rfl | rfl | rfl <;> simp [hD1,okB,Ev.hand,Ev.val, *]
  . rcases hm with rfl | rfl | rfl <;> simp [hD1,wfG,Ev.hand,Ev.beg]
theorem HD2:Fw ns sz bg (hD2 a b (m - 1)) false false false:=by
  refine C9 hns ?_ ?_ (by simp [hD2]) (kD2 hm w true) (kD2 hm w false) (wD2 hm w)
  . obtain ⟨s0,s1,a0,a1,b0',b1',ne⟩:=w
    rcases hm with rfl | rfl | rfl <;> simp [hD2,okB,Ev.hand,Ev.val, *]
  . rcases hm with rfl | rfl | rfl <;> simp [hD2,wfG,Ev.hand,Ev.beg]
omit hm
variable (hm2:m=2 ∨ m=3)
include hm2
theorem HC1:Fw ns sz bg (hC1 a b (m - 1)) true true false:=by
  refine C9 hns ?_ ?_ (by simp [hC1]) (kC1 w hm2 true) (kC1 w hm2 false) (wC1 w hm2)
  . obtain ⟨s0,s1,a0,a1,b0',b1',ne⟩:=w
    rcases hm2 with rfl | rfl <;> simp [hC1,okB,Ev.hand,Ev.val, *]
  . rcases hm2 with rfl | rfl <;> simp [hC1,wfG,Ev.hand,Ev.beg]
theorem HC2:Fw ns sz bg (hC2 a b (m - 1)) true true true:=by
  refine C9 hns ?_ ?_ (by simp [hC2]) (kC2 w hm2 true) (kC2 w hm2 false) (wC2 w hm2)
  . obtain ⟨s0,s1,a0,a1,b0',b1',ne⟩:=w
    rcases hm2 with rfl | rfl <;> simp [hC2,okB,Ev.hand,Ev.val, *]
  . rcases hm2 with rfl | rfl <;> simp [hC2,wfG,Ev.hand,Ev.beg]
end
end K16
set_option maxHeartbeats 4000000
namespace K16
open PySem L2 Mi Nk Wb Ht K13
section
variable {μ:Mh} {sz bg a b t:Int} {m:Nat} {ns:List Str}
theorem Bp {xs ys:List Ev} (h:xs.length + ys.length <= 100):AY (.lst (xs.map (evD ns))) (.lst (ys.map (evD ns))) μ=some (.lst ((xs ++ ys).map (evD ns)),μ):=by
  have hz:=BI
  rw [GI (by rw [List.length_map,List.length_map]; omega),List.map_append]
variable (N:Ns ns) (hns:ns.length=m + 1) (hm:m=1 ∨ m=2 ∨ m=3) (w:Ws sz a b) (b0:0 <= bg) (b1:bg < sz)
include N hns hm w b0 b1
theorem QP:FP [mkK "safe" sz bg ns,.str (nm ns 0),.str (nm ns (m - 1 + 1)),.int a,.int b] μ=some (.bl true,μ):=by
  have h1:=GZ (μ:=μ) N w.s0 w.s1 b0 b1 (HA1 hns hm w b0 b1)
  have h2:=GZ (μ:=μ) N w.s0 w.s1 b0 b1 (HA2 (bg:=bg) hns hm w)
  have h3:=GZ (μ:=μ) N w.s0 w.s1 b0 b1 (HA3 (bg:=bg) hns hm w)
  refine AS (g:=[]) (τ2:=[some (mkK "safe" sz bg ns),some (.str (nm ns 0)),some (.str (nm ns (m - 1 + 1))),some (.int a),some (.int b),some (.int bg),some (.lst ((hA1 (m - 1) a).map (evD ns))),some (.lst (([.wb a,.we]:List Ev).map (evD ns))),some (.bl (a == bg)),some (.lst (([.wb b,.we]:List Ev).map (evD ns)))]) ?_ rfl (by unfold Cl; trivial)
  rw [List.append_nil]
  refine pq (pa (d:=.int bg) rfl rfl) (pq (pa (d:=.lst ((hA1 (m - 1) a).map (evD ns))) rfl rfl) (pq (pa (d:=.lst (([.wb a,.we]:List Ev).map (evD ns))) rfl rfl) (pq (pa (d:=.bl (a == bg)) (po (x:=.int a) (y:=.int bg) rfl rfl CH) rfl) (pq (piF (HM (μ1:=μ) (CB (b:=true) (AU (pd (ds:=[mkK "safe" sz bg ns,.lst ((hA1 (m - 1) a).map (evD ns)),.lst [.bl (a == bg),.bl (a == bg),.bl (a == bg)]]) rfl h1))) (CB (b:=true) (AU (pd (ds:=[mkK "safe" sz bg ns,.lst ((hA2 a (m - 1)).map (evD ns)),.lst [.bl true,.bl true,.bl true]]) (pc rfl (pc (po (x:=.lst (([.wb a,.we]:List Ev).map (evD ns))) (y:=.lst ((hA1 (m - 1) a).map (evD ns))) rfl rfl (Bp (by simp [hA1]))) rfl)) h2)))) rfl) (pq (pa (d:=.lst (([.wb b,.we]:List Ev).map (evD ns))) rfl rfl) (pr (pd (ds:=[mkK "safe" sz bg ns,.lst ((hA3 a b (m - 1)).map (evD ns)),.lst [.bl false,.bl false,.bl false]]) (pc rfl (pc (po (x:=.lst (([.wb a,.we,.wb b,.we]:List Ev).map (evD ns))) (y:=.lst ((hA1 (m - 1) a).map (evD ns))) (po (x:=.lst (([.wb a,.we]:List Ev).map (evD ns))) (y:=.lst (([.wb b,.we]:List Ev).map (evD ns))) rfl rfl (Bp (by simp))) rfl (Bp (by simp [hA1]))) rfl)) h3)))))))
omit hm
variable (hm2:m=2 ∨ m=3)
include hm2
theorem UG:JR [mkK "safe" sz bg ns,.str (nm ns 0),.str (nm ns (m - 1 + 1)),.str (nm ns 1),.int a,.int b] μ=some (.bl true,μ):=by
  have h1:=GZ (μ:=μ) N w.s0 w.s1 b0 b1 (HC1 (bg:=bg) hns w hm2)
  have h2:=GZ (μ:=μ) N w.s0 w.s1 b0 b1 (HC2 (bg:=bg) hns w hm2)
  refine AS (g:=[]) (τ2:=[some (mkK "safe" sz bg ns),some (.str (nm ns 0)),some (.str (nm ns (m - 1 + 1))),some (.str (nm ns 1)),some (.int a),some (.int b),some (.lst (([.wb a,.we,.wb b]:List Ev).map (evD ns))),some (.lst ((hC1 a b (m - 1)).map (evD ns))),some (.lst ((hC2 a b (m - 1)).map (evD ns)))]) ?_ rfl (by unfold Cl; trivial)
  rw [List.append_nil]
  refine pq (pa (d:=.lst (([.wb a,.we,.wb b]:List Ev).map (evD ns))) rfl rfl) (pq (pa (d:=.lst ((hC1 a b (m - 1)).map (evD ns))) (po (x:=.lst (([.wb a,.we,.wb b]:List Ev).map (evD ns))) (y:=.lst (([.rb (m - 1),.re (m - 1) b,.rb 0,.re 0 a]:List Ev).map (evD ns))) rfl rfl (Bp (by simp))) rfl) (pq (piF (CB (b:=true) (AU (pd (ds:=[mkK "safe" sz bg ns,.lst ((hC1 a b (m - 1)).map (evD ns)),.lst [.bl true,.bl true,.bl false]]) rfl h1))) rfl) (pq (pa (d:=.lst ((hC2 a b (m - 1)).map (evD ns))) (po (x:=.lst (([.wb a,.we,.wb b]:List Ev).map (evD ns))) (y:=.lst (([.rb 0,.rb (m - 1),.re (m - 1) b,.re 0 a]:List Ev).map (evD ns))) rfl rfl (Bp (by simp))) rfl) (pr (pd (ds:=[mkK "safe" sz bg ns,.lst ((hC2 a b (m - 1)).map (evD ns)),.lst [.bl true,.bl true,.bl true]]) rfl h2)))))
end
section
variable {μ:Mh} {sz bg a b t:Int} {m:Nat} {ns:List Str}
noncomputable abbrev V0:Sl->M (Fl × Sl):=(AV (Ae (mOp AY (AB 6) (AE Ar (AC (AE AX (AC (mC (.str "begin")) (AC (AB 2) AJ))) (AC (AE AX (AC (mC (.str "end")) (AC (AB 2) (AC (AB 7) AJ)))) AJ)))) (AM 9))
    (Ep (Ce (AE AX (AC (AE Ar AJ) (AC (AE Ar (AC (AE AX (AC (mC (.str "end")) (AC (AB 1) AJ))) AJ)) AJ)))) (AM 10) (sIf (CG (AR (AE F3 (AC (AB 0) (AC (mOp AY (AB 9) (AB 10)) (AC (AE Ar (AC (mC (.bl true)) (AC (AB 8) (AC (AB 8) AJ)))) AJ)))))) (Am (mC (.bl false))) A1)))
variable (N:Ns ns) (hns:ns.length=m + 1) (hm:m=1 ∨ m=2 ∨ m=3) (w:Ws sz a b) (b0:0 <= bg) (b1:bg < sz)
include N hns hm w b0 b1
theorem HZ {third u:Int} {d:Bool} {o9 o10 o11 o12:Option D} (u0:0 <= u) (u1:u < sz) (hd:d=decide (u=a ∨ u=b)):∃ o9' o10':Option D,
    V0 [some (mkK "safe" sz bg ns),some (.str (nm ns 0)),some (.str (nm ns (m - 1 + 1))),some (.int a),some (.int b),some (.int third),some (.lst (([.wb a,.we,.wb b]:List Ev).map (evD ns))),some (.int u),some (.bl d),o9,o10,o11,o12] μ=some ((.next,[some (mkK "safe" sz bg ns),some (.str (nm ns 0)),some (.str (nm ns (m - 1 + 1))),some (.int a),some (.int b),some (.int third),some (.lst (([.wb a,.we,.wb b]:List Ev).map (evD ns))),some (.int u),some (.bl d),o9',o10',o11,o12]),μ):=by
  subst hd
  have h1:=GZ (μ:=μ) N w.s0 w.s1 b0 b1 (HB1 (bg:=bg) (t:=u) hns hm w u0 u1)
  have h2:=GZ (μ:=μ) N w.s0 w.s1 b0 b1 (HB2 (bg:=bg) (t:=u) hns hm w u0 u1)
  refine ⟨some (.lst ((hB1 a b (m - 1) u).map (evD ns))),some (.lst (([.we]:List Ev).map (evD ns))),?_⟩
  refine pq (pa (d:=.lst ((hB1 a b (m - 1) u).map (evD ns))) (po (x:=.lst (([.wb a,.we,.wb b]:List Ev).map (evD ns))) (y:=.lst (([.rb (m - 1),.re (m - 1) u]:List Ev).map (evD ns))) rfl rfl (Bp (by simp))) rfl) (DP (ds:=[.lst (([]:List Ev).map (evD ns)),.lst (([.we]:List Ev).map (evD ns))]) (μ1:=μ) rfl (Ac (μ1:=μ) (μ2:=μ) rfl (piF (CB (b:=true) (AU (pd (ds:=[mkK "safe" sz bg ns,.lst ((hB1 a b (m - 1) u).map (evD ns)),.lst [.bl true,.bl (decide (u=a ∨ u=b)),.bl (decide (u=a ∨ u=b))]]) (pc rfl (pc (po (x:=.lst ((hB1 a b (m - 1) u).map (evD ns))) (y:=.lst (([]:List Ev).map (evD ns))) rfl rfl ((Bp (by simp [hB1])).trans (by rw [List.append_nil]))) rfl)) h1))) rfl) (Ac (μ1:=μ) (μ2:=μ) rfl (piF (CB (b:=true) (AU (pd (ds:=[mkK "safe" sz bg ns,.lst ((hB2 a b (m - 1) u).map (evD ns)),.lst [.bl true,.bl (decide (u=a ∨ u=b)),.bl (decide (u=a ∨ u=b))]]) (pc rfl (pc (po (x:=.lst ((hB1 a b (m - 1) u).map (evD ns))) (y:=.lst (([.we]:List Ev).map (evD ns))) rfl rfl (Bp (by simp [hB1]))) rfl)) h2))) rfl) rfl)))
theorem SE {t a b:Int}:Er false (.int t) (.tup [.int a,.int b]) μ=some (.bl (decide (t=a ∨ t=b)),μ):=by
  have:=SD (μ:=μ) (neg:=false) (c:=.tup (([a,b]:List Int).map D.int)) (x:=t) (xs:=[a,b]) rfl
  rw [show (D.tup [.int a,.int b])=.tup (([a,b]:List Int).map D.int) from rfl,this]
  simp
theorem Mo (t0:0 <= t) (t1:t < sz):Ej [mkK "safe" sz bg ns,.str (nm ns 0),.str (nm ns (m - 1 + 1)),.int a,.int b,.int t] μ=some (.bl true,μ):=by
  have hz:=BI
  have h3:=GZ (μ:=μ) N w.s0 w.s1 b0 b1 (HB3 (bg:=bg) hns hm w)
  have h4:=GZ (μ:=μ) N w.s0 w.s1 b0 b1 (HB4 (bg:=bg) hns hm w)
  obtain ⟨p9,p10,g1⟩:=HZ (μ:=μ) N hns hm w b0 b1 (third:=t) (u:=a) (d:=true) (o9:=none) (o10:=none) (o11:=none) (o12:=none) w.a0 w.a1 (by simp)
  obtain ⟨q9,q10,g2⟩:=HZ (μ:=μ) N hns hm w b0 b1 (third:=t) (u:=b) (d:=true) (o9:=p9) (o10:=p10) (o11:=none) (o12:=none) w.b0 w.b1 (by simp)
  obtain ⟨r9,r10,g3⟩:=HZ (μ:=μ) N hns hm w b0 b1 (third:=t) (u:=t) (d:=decide (t=a ∨ t=b)) (o9:=q9) (o10:=q10) (o11:=none) (o12:=none) t0 t1 rfl
  refine AS (g:=[]) (τ2:=[some (mkK "safe" sz bg ns),some (.str (nm ns 0)),some (.str (nm ns (m - 1 + 1))),some (.int a),some (.int b),some (.int t),some (.lst (([.wb a,.we,.wb b]:List Ev).map (evD ns))),some (.int t),some (.bl (decide (t=a ∨ t=b))),r9,r10,some (.lst ((hB3 a b (m - 1)).map (evD ns))),some (.lst ((hB4 a b (m - 1)).map (evD ns)))]) ?_ rfl (by unfold Cl; trivial)
  rw [List.append_nil]
  refine pq (pa (d:=.lst (([.wb a,.we,.wb b]:List Ev).map (evD ns))) rfl rfl) (pq (DP (ds:=[.tup [.int a,.bl true],.tup [.int b,.bl true],.tup [.int t,.bl (decide (t=a ∨ t=b))]]) (μ1:=μ) (BJ (pd (ds:=[.tup [.int a,.bl true],.tup [.int b,.bl true],.tup [.int t,.bl (decide (t=a ∨ t=b))]]) (pc rfl (pc rfl (pc (pd (ds:=[.int t,.bl (decide (t=a ∨ t=b))]) (pc rfl (pc (po (x:=.int t) (y:=.tup [.int a,.int b]) rfl rfl (SE N hns hm w b0 b1)) rfl)) (Ah (by simp; omega))) rfl))) (A0 (by simp; omega)))) (Ac (μ1:=μ) (μ2:=μ) rfl g1 (Ac (μ1:=μ) (μ2:=μ) rfl g2 (Ac (μ1:=μ) (μ2:=μ) rfl g3 rfl)))) (pq (pa (d:=.lst ((hB3 a b (m - 1)).map (evD ns))) (po (x:=.lst (([.wb a,.we,.wb b]:List Ev).map (evD ns))) (y:=.lst (([.rb (m - 1),.re (m - 1) b,.rb (m - 1),.re (m - 1) a]:List Ev).map (evD ns))) rfl rfl (Bp (by simp))) rfl) (pq (piF (CB (b:=true) (AU (pd (ds:=[mkK "safe" sz bg ns,.lst ((hB3 a b (m - 1)).map (evD ns)),.lst [.bl true,.bl true,.bl false]]) rfl h3))) rfl) (pq (pa (d:=.lst ((hB4 a b (m - 1)).map (evD ns))) (po (x:=.lst (([.wb a,.we,.wb b]:List Ev).map (evD ns))) (y:=.lst (([.rb (m - 1),.re (m - 1) b,.we,.rb (m - 1),.re (m - 1) a]:List Ev).map (evD ns))) rfl rfl (Bp (by simp))) rfl) (pr (pd (ds:=[mkK "safe" sz bg ns,.lst ((hB4 a b (m - 1)).map (evD ns)),.lst [.bl false,.bl false,.bl false]]) rfl h4))))))
noncomputable abbrev Vv:Sl->M (Fl × Sl):=(sIf (CG (AR (AE F3 (AC (AB 0) (AC (mOp AY (AB 6) (AE Ar (AC (AE AX (AC (mC (.str "end")) (AC (AB 2) (AC (AB 7) AJ)))) AJ))) (AC (AE Ar (AC (mC (.bl true)) (AC (AB 8) (AC (AB 8) AJ)))) AJ)))))) (Am (mC (.bl false))) A1)
def NQ (a b:Int) (r:Nat):List Ev:=[.wb a,.we,.rb r,.wb b,.we,.wb a,.we]
theorem G4 {third u:Int} {d:Bool} {o9:Option D} (u0:0 <= u) (u1:u < sz) (hd:d=decide (u=a ∨ u=b)) :
    Vv [some (mkK "safe" sz bg ns),some (.str (nm ns 0)),some (.str (nm ns (m - 1 + 1))),some (.int a),some (.int b),some (.int third),some (.lst ((NQ a b (m - 1)).map (evD ns))),some (.int u),some (.bl d),o9] μ=some ((.next,[some (mkK "safe" sz bg ns),some (.str (nm ns 0)),some (.str (nm ns (m - 1 + 1))),some (.int a),some (.int b),some (.int third),some (.lst ((NQ a b (m - 1)).map (evD ns))),some (.int u),some (.bl d),o9]),μ):=by
  subst hd
  have h1:=GZ (μ:=μ) N w.s0 w.s1 b0 b1 (HD1 (bg:=bg) (t:=u) hns hm w u0 u1)
  exact piF (CB (b:=true) (AU (pd (ds:=[mkK "safe" sz bg ns,.lst ((hD1 a b (m - 1) u).map (evD ns)),.lst [.bl true,.bl (decide (u=a ∨ u=b)),.bl (decide (u=a ∨ u=b))]]) (pc rfl (pc (po (x:=.lst ((NQ a b (m - 1)).map (evD ns))) (y:=.lst (([.re (m - 1) u]:List Ev).map (evD ns))) rfl rfl (Bp (by simp [NQ]))) rfl)) h1))) rfl
theorem ST (t0:0 <= t) (t1:t < sz):GP [mkK "safe" sz bg ns,.str (nm ns 0),.str (nm ns (m - 1 + 1)),.int a,.int b,.int t] μ=some (.bl true,μ):=by
  have hz:=BI
  have h2:=GZ (μ:=μ) N w.s0 w.s1 b0 b1 (HD2 (bg:=bg) hns hm w)
  have g1:=G4 (μ:=μ) N hns hm w b0 b1 (third:=t) (u:=a) (d:=true) (o9:=none) w.a0 w.a1 (by simp)
  have g2:=G4 (μ:=μ) N hns hm w b0 b1 (third:=t) (u:=b) (d:=true) (o9:=none) w.b0 w.b1 (by simp)
  have g3:=G4 (μ:=μ) N hns hm w b0 b1 (third:=t) (u:=t) (d:=decide (t=a ∨ t=b)) (o9:=none) t0 t1 rfl
  refine AS (g:=[]) (τ2:=[some (mkK "safe" sz bg ns),some (.str (nm ns 0)),some (.str (nm ns (m - 1 + 1))),some (.int a),some (.int b),some (.int t),some (.lst ((NQ a b (m - 1)).map (evD ns))),some (.int t),some (.bl (decide (t=a ∨ t=b))),some (.lst ((hD2 a b (m - 1)).map (evD ns)))]) ?_ rfl (by unfold Cl; trivial)
  rw [List.append_nil]
  refine pq (pa (d:=.lst (([.wb a,.we,.rb (m - 1),.wb b,.we]:List Ev).map (evD ns))) rfl rfl) (pq (pa (d:=.lst ((NQ a b (m - 1)).map (evD ns))) (po (x:=.lst (([.wb a,.we,.rb (m - 1),.wb b,.we]:List Ev).map (evD ns))) (y:=.lst (([.wb a,.we]:List Ev).map (evD ns))) rfl rfl (Bp (by simp))) rfl) (pq (DP (ds:=[.tup [.int a,.bl true],.tup [.int b,.bl true],.tup [.int t,.bl (decide (t=a ∨ t=b))]]) (μ1:=μ) (BJ (pd (ds:=[.tup [.int a,.bl true],.tup [.int b,.bl true],.tup [.int t,.bl (decide (t=a ∨ t=b))]]) (pc rfl (pc rfl (pc (pd (ds:=[.int t,.bl (decide (t=a ∨ t=b))]) (pc rfl (pc (po (x:=.int t) (y:=.tup [.int a,.int b]) rfl rfl (SE N hns hm w b0 b1)) rfl)) (Ah (by simp; omega))) rfl))) (A0 (by simp; omega)))) (Ac (μ1:=μ) (μ2:=μ) rfl g1 (Ac (μ1:=μ) (μ2:=μ) rfl g2 (Ac (μ1:=μ) (μ2:=μ) rfl g3 rfl)))) (pq (pa (d:=.lst ((hD2 a b (m - 1)).map (evD ns))) rfl rfl) (pr (pd (ds:=[mkK "safe" sz bg ns,.lst ((hD2 a b (m - 1)).map (evD ns)),.lst [.bl false,.bl false,.bl false]]) rfl h2)))))
end
end K16
set_option maxHeartbeats 4000000
namespace K16
open PySem L2 Mi Nk Wb Ht
open K13 (Ay BN Ah A0 po pn pc pd pq pa piT piF pr peT peF DF BI CH BG Ca Ac BJ By hdD Ns nm LL HK PP PQ Ua Ub HL Fu GI)
section
variable {μ μ1 μ2 μ3 μ4 μ':Mh} {τ τ1:Sl} {x0 d:D} {ds es:List D} {n:Nat}
theorem OE {c:Int} {n:Nat}:∀ (k:Nat) (m:Int) (fs:List Int),fs.length <= n->n <= 100->n < fs.length + k->(∀ x ∈ fs,0 <= x)->∃ (m':Int) (fs':List Int),fs'.length <= n /\ (∀ x ∈ fs',0 <= x) /\
    F7 Ua Ub k [some (.int c),some (.int n),some (.ref μ.length),some (.int m),none] (μ ++ [.lst (fs.map D.int)])=some ((.next,[some (.int c),some (.int n),some (.ref μ.length),some (.int m'),none]),μ ++ [.lst (fs'.map D.int)])
  | 0,m,fs,h1,h2,h3,_=>absurd h3 (by omega)
  | k + 1,m,fs,h1,h2,h3,h0=>by
    have ta:AR (mOp Aj (mOp BE (AB 0) (mC (.int 2))) (mC (.int 0))) [some (.int c),some (.int n),some (.ref μ.length),some (.int m),none] (μ ++ [.lst (fs.map D.int)])=some (c % 2 == 0,μ ++ [.lst (fs.map D.int)]):=AU (po (x:=.int (c % 2)) (y:=.int 0) (po (x:=.int c) (y:=.int 2) rfl rfl (DK (by decide))) rfl CH)
    have tb:AR (mOp K5 (AB 3) (mC (.int 0))) [some (.int c),some (.int n),some (.ref μ.length),some (.int m),none] (μ ++ [.lst (fs.map D.int)])=some (decide (0 < m),μ ++ [.lst (fs.map D.int)]):=AU (po (x:=.int m) (y:=.int 0) rfl rfl rfl)
    have tc:AR (mOp Qr (AE Ct (AC (AB 2) AJ)) (AB 1)) [some (.int c),some (.int n),some (.ref μ.length),some (.int m),none] (μ ++ [.lst (fs.map D.int)])=some (decide ((fs.length:Int) < n),μ ++ [.lst (fs.map D.int)]):=by
      refine AU (po (x:=.int fs.length) (y:=.int n) (pd (ds:=[.ref μ.length]) rfl ((PQ g1a).trans (by rw [List.length_map]))) rfl rfl)
    by_cases e1:c % 2=0
    . have ta':=ta.trans (by rw [e1]; rfl:some (c % 2 == 0,μ ++ [.lst (fs.map D.int)])=some (true,μ ++ [.lst (fs.map D.int)]))
      by_cases e2:0 < m
      . have tb':=tb.trans (by rw [decide_eq_true e2]:some (decide (0 < m),μ ++ [.lst (fs.map D.int)])=some (true,μ ++ [.lst (fs.map D.int)]))
        by_cases e3:fs.length < n
        . obtain ⟨m',fs',r1,r2,r3⟩:=OE (c:=c) (n:=n) k (m / 1000000000) (fs ++ [m % 1000000000]) (by simp; omega) h2 (by simp; omega) (fun x hx=>(List.mem_append.mp hx).elim (h0 x) fun z=>by rw [List.mem_singleton] at z; subst z; exact Int.emod_nonneg _ (by decide))
          refine ⟨m',fs',r1,r2,LL (μ2:=μ ++ [.lst ((fs ++ [m % 1000000000]).map D.int)]) (τ2:=[some (.int c),some (.int n),some (.ref μ.length),some (.int (m / 1000000000)),none]) (Dz ta' (Dz tb' (tc.trans (by rw [decide_eq_true (by omega)])))) (Ak (μ1:=μ ++ [.lst ((fs ++ [m % 1000000000]).map D.int)]) (τ1:=[some (.int c),some (.int n),some (.ref μ.length),some (.int m),none]) ?_ (pa (po (x:=.int m) (y:=.int 1000000000) rfl (po (x:=.int 10) (y:=.int 9) rfl rfl PP) (DN (by decide) (by decide))) rfl)) r3⟩
          rw [List.map_append]
          exact Rx (ds:=fs.map D.int) (x:=.int (m % 1000000000)) rfl (by rw [List.length_map]; omega) (po (x:=.int m) (y:=.int 1000000000) rfl (po (x:=.int 10) (y:=.int 9) rfl rfl PP) (DK (by decide)))
        . exact ⟨m,fs,h1,h0,HK (Dz ta' (Dz tb' (tc.trans (by rw [decide_eq_false (by omega)]))))⟩
      . exact ⟨m,fs,h1,h0,HK (Dz ta' (GQ (tb.trans (by rw [decide_eq_false e2]))))⟩
    . exact ⟨m,fs,h1,h0,HK (GQ (ta.trans (by rw [beq_eq_false_iff_ne.mpr e1])))⟩
noncomputable abbrev Vg:Sl->M (Fl × Sl):=(AV (Ae (mOp BE (mOp FB (AB 3) (mOp AY (mOp AY (mOp BR (AB 3) (mC (.int 1009))) (mC (.int 69621))) (AB 4))) (mC (.int 2147483647))) (AM 3))
    (AV (Bu (A9 EY (AB 2) (AC (mOp BE (mOp FB (AB 3) (mOp AY (mOp BR (AB 3) (mC (.int 127))) (mC (.int 40009)))) (mC (.int 2147483629))) AJ)))
    (Ae (mOp AY (AB 3) (mC (.int 1))) (AM 3))))
theorem Ll {c n:Int}:∀ (is:List Int) (s:Int) (acc:List Int) (o4:Option D),0 <= s->s <= 2147483647->acc.length + is.length <= 1000->∃ (s':Int) (ys:List Int) (o4':Option D),ys.length=is.length /\ (∀ y ∈ ys,0 <= y) /\
    DA (AM 4) Vg (is.map D.int) [some (.int c),some (.int n),some (.ref μ.length),some (.int s),o4] (μ ++ [.lst (acc.map D.int)])=some ((.next,[some (.int c),some (.int n),some (.ref μ.length),some (.int s'),o4']),μ ++ [.lst ((acc ++ ys).map D.int)])
  | [],s,acc,o4,_,_,_=>⟨s,[],o4,rfl,(fun _ h=>by cases h),by rw [List.append_nil]; rfl⟩
  | i :: is,s0,acc,o4,p0,p1,hl=>by
    let s1':Int:=s0 * (s0 / 1009 + 69621 + i) % 2147483647
    have q1:s1'=s0 * (s0 / 1009 + 69621 + i) % 2147483647:=rfl
    have r0:0 <= s1':=Int.emod_nonneg _ (by decide)
    have r1:s1' < 2147483647:=Int.emod_lt_of_pos _ (by decide)
    generalize s1'=s1' at q1 r0 r1
    let x1:Int:=s1' * (s1' / 127 + 40009) % 2147483629
    have q2:x1=s1' * (s1' / 127 + 40009) % 2147483629:=rfl
    have x0:0 <= x1:=Int.emod_nonneg _ (by decide)
    generalize x1=x1 at q2 x0
    simp only [List.length_cons] at hl
    obtain ⟨s',ys,o4',e1,e2,go⟩:=Ll (c:=c) (n:=n) is (s1' + 1) (acc ++ [x1]) (some (.int i)) (by omega) (by omega) (by simp; omega)
    refine ⟨s',x1 :: ys,o4',by simp [e1],fun y hy=>(List.mem_cons.mp hy).elim (fun z=>z ▸ x0) (e2 y),?_⟩
    have ea:acc ++ x1 :: ys=acc ++ [x1] ++ ys:=by simp
    rw [ea]
    refine Ac (τ1:=[some (.int c),some (.int n),some (.ref μ.length),some (.int s0),some (.int i)]) (μ1:=μ ++ [.lst (acc.map D.int)]) rfl ?_ go
    refine Ak (μ1:=μ ++ [.lst (acc.map D.int)]) (τ1:=[some (.int c),some (.int n),some (.ref μ.length),some (.int s1'),some (.int i)]) (pa (d:=.int s1') (po (x:=.int (s0 * (s0 / 1009 + 69621 + i))) (y:=.int 2147483647) (po (x:=.int s0) (y:=.int (s0 / 1009 + 69621 + i)) rfl (po (x:=.int (s0 / 1009 + 69621)) (y:=.int i) (po (x:=.int (s0 / 1009)) (y:=.int 69621) (po (x:=.int s0) (y:=.int 1009) rfl rfl (DN (by decide) (by decide))) rfl rfl) rfl rfl) (MF (.inl ⟨by omega,by omega⟩))) rfl ?_) rfl) (Ak (μ1:=μ ++ [.lst ((acc ++ [x1]).map D.int)]) (τ1:=[some (.int c),some (.int n),some (.ref μ.length),some (.int s1'),some (.int i)]) ?_ (pa (po (x:=.int s1') (y:=.int 1) rfl rfl rfl) rfl))
    . rw [DK (by decide),q1]
    . rw [List.map_append]
      refine Rx (ds:=acc.map D.int) (x:=.int x1) rfl (by rw [List.length_map]; omega) (po (x:=.int (s1' * (s1' / 127 + 40009))) (y:=.int 2147483629) (po (x:=.int s1') (y:=.int (s1' / 127 + 40009)) rfl (po (x:=.int (s1' / 127)) (y:=.int 40009) (po (x:=.int s1') (y:=.int 127) rfl rfl (DN (by decide) (by decide))) rfl rfl) (MF (.inl ⟨by omega,by omega⟩))) rfl ?_)
      rw [DK (by decide),q2]
theorem Mk {c:Int}:∃ x y z u:Int,0 <= x /\ 0 <= y /\ 0 <= z /\ 0 <= u /\ Ei [.int c,.int 4] μ=some (.lst [.int x,.int y,.int z,.int u],μ):=by
  have hz:=BI
  obtain ⟨m,fs,h1,h2,wh⟩:=OE (μ:=μ) (c:=c) (n:=4) A5 (c / 2) [] (by simp) (by omega) (by unfold A5; omega) (fun x h=>by cases h)
  let s0:Int:=(c / 2 + 7919) * 48271 % 2147483647
  have q0:s0=(c / 2 + 7919) * 48271 % 2147483647:=rfl
  have p0:0 <= s0:=Int.emod_nonneg _ (by decide)
  have p1:s0 < 2147483647:=Int.emod_lt_of_pos _ (by decide)
  generalize s0=s0 at q0 p0 p1
  obtain ⟨s',ys,o4',e1,e2,fo⟩:=Ll (μ:=μ) (c:=c) (n:=4) [0,1,2,3] s0 fs none p0 (by omega) (by simp; omega)
  have hall:∀ x ∈ (fs ++ ys).take 4,0 <= x:=fun x hx=>(List.mem_append.mp (List.mem_of_mem_take hx)).elim (h2 x) (e2 x)
  have hlen:((fs ++ ys).take 4).length=4:=by rw [List.length_take,List.length_append,e1]; simp
  have hcut:DQ ((fs ++ ys).map D.int) none (some ((4:Nat):Int))=((fs ++ ys).take 4).map D.int:=by
    rw [Fu (α:=.non) (by rw [List.length_map,List.length_append,e1]; simp),List.map_take]
  obtain ⟨x,y,z,u,hq⟩:∃ x y z u,(fs ++ ys).take 4=[x,y,z,u]:=by
    match (fs ++ ys).take 4,hlen with
    | [x,y,z,u],_=>exact ⟨x,y,z,u,rfl⟩
  rw [hq] at hall hcut
  refine ⟨x,y,z,u,hall x (by simp),hall y (by simp),hall z (by simp),hall u (by simp),AS (g:=[.lst ((fs ++ ys).map D.int)]) (τ2:=[some (.int c),some (.int 4),some (.ref μ.length),some (.int s'),o4']) ?_ rfl (by simp [Cl,ClL])⟩
  refine Ak (μ1:=μ ++ [.lst []]) (τ1:=[some (.int c),some (.int 4),some (.ref μ.length),none,none]) (Ex (d:=.ref μ.length) (μ1:=μ ++ [.lst []]) (CC (ds:=[]) (μ1:=μ) rfl ?_) rfl) ?_
  . unfold Hm
    rw [AL (show lim ([]:List D).length μ=some ((),μ) from by unfold lim; rw [if_pos (by simp)])]
  refine Ak (τ1:=[some (.int c),some (.int 4),some (.ref μ.length),some (.int (c / 2)),none]) (pa (po (x:=.int c) (y:=.int 2) rfl rfl (DN (by decide) (by decide))) rfl) (Ak wh ?_)
  refine Ak (τ1:=[some (.int c),some (.int 4),some (.ref μ.length),some (.int s0),none]) (pa (d:=.int s0) (po (x:=.int ((c / 2 + 7919) * 48271)) (y:=.int 2147483647) (po (x:=.int (c / 2 + 7919)) (y:=.int 48271) (po (x:=.int (c / 2)) (y:=.int 7919) (po (x:=.int c) (y:=.int 2) rfl rfl (DN (by decide) (by decide))) rfl rfl) rfl (MF (.inr (by decide)))) rfl ?_) rfl) ?_
  . rw [DK (by decide),q0]
  have fr:MB (AC (AB 1) AJ) [some (.int c),some (.int 4),some (.ref μ.length),some (.int s0),none] (μ ++ [.lst (fs.map D.int)])=some (([0,1,2,3]:List Int).map D.int,μ ++ [.lst (fs.map D.int)]):=by
    unfold MB
    rw [AL (show AC (AB 1) AJ [some (.int c),some (.int 4),some (.ref μ.length),some (.int s0),none] (μ ++ [.lst (fs.map D.int)])=some ([.int 4],μ ++ [.lst (fs.map D.int)]) from rfl)]
    unfold OL
    dsimp only
    rw [if_pos (by decide)]
    rfl
  refine Ak (DP fr fo) ?_
  refine Dy (HL (x0:=.ref μ.length) (a:=none) (b:=some 4) (μ1:=μ ++ [.lst ((fs ++ ys).map D.int)]) (μ2:=μ ++ [.lst ((fs ++ ys).map D.int)]) (μ3:=μ ++ [.lst ((fs ++ ys).map D.int)]) rfl rfl rfl ?_)
  show bnd (Ck (.ref μ.length)) (fun ds=>Mi.ret (D.lst (DQ ds none (some 4)))) (μ ++ [MO.lst ((fs ++ ys).map D.int)])=_
  rw [AL (show Ck (.ref μ.length) (μ ++ [.lst ((fs ++ ys).map D.int)])=some ((fs ++ ys).map D.int,μ ++ [.lst ((fs ++ ys).map D.int)]) from by unfold Ck; dsimp only; rw [g1a])]
  show some (D.lst (DQ ((fs ++ ys).map D.int) none (some ((4:Nat):Int))),_)=_
  rw [hcut]
  rfl
theorem Nf:CU=K13.CU:=rfl
end
end K16
set_option maxHeartbeats 4000000
namespace K16
open PySem L2 Mi Nk Wb Ht
open K13 (Ay BN Ah A0 po pn pc pd pq pa piT piF pr peT peF DF BI CH BG Ca Ac BJ By hdD Ns nm HL Fu GI Ev)
section
variable {μ:Mh} {sz bg a b t:Int} {m:Nat} {ns:List Str}
noncomputable abbrev U9:Sl->M (Fl × Sl):=(AV (Ae (AE Ei (AC (AB 1) (AC (mC (.int 4)) AJ))) (AM 2))
    (AV (Ae (AE CU (AC (mOp AN (AB 2) (mC (.int 0))) (AC (mC (.str "safe")) AJ))) (AM 3))
    (AV (Ae (mOp BE (mOp AN (AB 2) (mC (.int 1))) (mOp AN (AB 3) (mC (.int 1)))) (AM 4))
    (AV (Ae (mOp BE (mOp AY (mOp AY (AB 4) (mC (.int 1))) (mOp BE (mOp AN (AB 2) (mC (.int 2))) (mOp Da (mOp AN (AB 3) (mC (.int 1))) (mC (.int 1))))) (mOp AN (AB 3) (mC (.int 1)))) (AM 5))
    (AV (Ae (mOp BE (mOp AN (AB 2) (mC (.int 3))) (mOp AN (AB 3) (mC (.int 1)))) (AM 6))
    (AV (Ae (mOp AN (mOp AN (mOp AN (AB 3) (mC (.int 4))) (mC (.int 0))) (mC (.int 0))) (AM 7))
    (AV (Ae (mOp AN (mOp AN (mOp AN (AB 3) (mC (.int 4))) (mUn Oa (mC (.int 1)))) (mC (.int 0))) (AM 8))
    (AV (sIf (mOr (CG (AR (AE FP (AC (AB 3) (AC (AB 7) (AC (AB 8) (AC (AB 4) (AC (AB 5) AJ)))))))) (CG (AR (AE Ej (AC (AB 3) (AC (AB 7) (AC (AB 8) (AC (AB 4) (AC (AB 5) (AC (AB 6) AJ)))))))))) (Am (mC (.bl false))) A1)
    (AV (sIf (G3 (AR (mOp K5 (AE Ct (AC (mOp AN (AB 3) (mC (.int 4))) AJ)) (mC (.int 2)))) (CG (AR (AE JR (AC (AB 3) (AC (AB 7) (AC (AB 8) (AC (mOp AN (mOp AN (mOp AN (AB 3) (mC (.int 4))) (mC (.int 1))) (mC (.int 0))) (AC (AB 4) (AC (AB 5) AJ)))))))))) (Am (mC (.bl false))) A1)
    (sIf (CG (AR (AE GP (AC (AB 3) (AC (AB 7) (AC (AB 8) (AC (AB 4) (AC (AB 5) (AC (AB 6) AJ))))))))) (Am (mC (.bl false))) A1))))))))))
theorem TV {sz y z:Int} (h0:2 <= sz) (h1:sz <= 10) (hz:0 <= z):Ws sz (y % sz) ((y % sz + 1 + z % (sz - 1)) % sz):=by
  have a0:0 <= y % sz:=Int.emod_nonneg _ (by omega)
  have a1:y % sz < sz:=Int.emod_lt_of_pos _ (by omega)
  have k0:0 <= z % (sz - 1):=Int.emod_nonneg _ (by omega)
  have k1:z % (sz - 1) < sz - 1:=Int.emod_lt_of_pos _ (by omega)
  refine ⟨h0,h1,a0,a1,Int.emod_nonneg _ (by omega),Int.emod_lt_of_pos _ (by omega),?_⟩
  generalize y % sz=u at *
  generalize z % (sz - 1)=v at *
  have:sz=2 ∨ sz=3 ∨ sz=4 ∨ sz=5 ∨ sz=6 ∨ sz=7 ∨ sz=8 ∨ sz=9 ∨ sz=10:=by omega
  rcases this with rfl | rfl | rfl | rfl | rfl | rfl | rfl | rfl | rfl <;> omega
theorem Rw {ds:List D} {x:D} (h:ds[ds.length - 1]? = some x):atI ds (-1)=some x:=by
  have hl:ds.length - 1 < ds.length:=(List.getElem?_eq_some_iff.mp h).1
  unfold atI ixN
  rw [if_neg (by decide),if_pos (by omega)]
  rw [show (-1 + (ds.length:Int)).toNat=ds.length - 1 by omega]
  exact h
theorem Pc {i:Nat} (hi:i < ns.length):(ns.map hdD)[i]? = some (hdD (nm ns i)):=by
  rw [List.getElem?_map,List.getElem?_eq_getElem hi]
  simp [nm,hi]
theorem PJ {scr:D} {c:Int} {o2 o3 o4 o5 o6 o7 o8:Option D}:∃ p2 p3 p4 p5 p6 p7 p8:Option D,U9 [some scr,some (.int c),o2,o3,o4,o5,o6,o7,o8] μ=some ((.next,[some scr,some (.int c),p2,p3,p4,p5,p6,p7,p8]),μ):=by
  obtain ⟨x,y,z,u,x0,y0,z0,u0,st⟩:=Mk (μ:=μ) (c:=c)
  obtain ⟨sz,bg,ns,s0,s1,b0,b1,N,mk⟩:=K13.Nx (sf:=true) (μ:=μ) (x:=x)
  have hlo:=N.lo
  have hhi:=N.hi
  have w:=TV (y:=y) (z:=z) s0 s1 z0
  have t0:0 <= u % sz:=Int.emod_nonneg _ (by omega)
  have t1:u % sz < sz:=Int.emod_lt_of_pos _ (by omega)
  generalize hA:y % sz=A at w
  generalize hB:(A + 1 + z % (sz - 1)) % sz=B at w
  generalize hT:u % sz=T at t0 t1
  obtain ⟨m,hns,hm⟩:∃ m,ns.length=m + 1 /\ (m=1 ∨ m=2 ∨ m=3):=⟨ns.length - 1,by omega,by omega⟩
  have hmm:m - 1 + 1=ns.length - 1:=by omega
  refine ⟨some (.lst [.int x,.int y,.int z,.int u]),some (mkK "safe" sz bg ns),some (.int A),some (.int B),some (.int T),some (.str (nm ns 0)),some (.str (nm ns (m - 1 + 1))),?_⟩
  have e4:∀ S:Sl,S[3]? = some (some (mkK "safe" sz bg ns))->mOp AN (AB 3) (mC (.int 4)) S μ=some (.tup (ns.map hdD),μ):=fun S h=>po (x:=mkK "safe" sz bg ns) (y:=.int 4) (As h) rfl rfl
  have e1:∀ S:Sl,S[3]? = some (some (mkK "safe" sz bg ns))->mOp AN (AB 3) (mC (.int 1)) S μ=some (.int sz,μ):=fun S h=>po (x:=mkK "safe" sz bg ns) (y:=.int 1) (As h) rfl rfl
  refine pq (pa (d:=.lst [.int x,.int y,.int z,.int u]) (pd (ds:=[.int c,.int 4]) rfl st) rfl) (pq (pa (d:=mkK "safe" sz bg ns) (pd (ds:=[.int x,.str "safe"]) rfl (by rw [Nf]; exact mk)) rfl) (pq (pa (d:=.int A) (po (x:=.int y) (y:=.int sz) rfl (e1 _ rfl) (by rw [DK (by omega),hA])) rfl) (pq (pa (d:=.int B) (po (x:=.int (A + 1 + z % (sz - 1))) (y:=.int sz) (po (x:=.int (A + 1)) (y:=.int (z % (sz - 1))) (po (x:=.int A) (y:=.int 1) rfl rfl rfl) (po (x:=.int z) (y:=.int (sz - 1)) rfl (po (x:=.int sz) (y:=.int 1) (e1 _ rfl) rfl rfl) (DK (by omega))) rfl) (e1 _ rfl) (by rw [DK (by omega),hB])) rfl) (pq (pa (d:=.int T) (po (x:=.int u) (y:=.int sz) rfl (e1 _ rfl) (by rw [DK (by omega),hT])) rfl) (pq (pa (d:=.str (nm ns 0)) (po (x:=hdD (nm ns 0)) (y:=.int 0) (po (x:=.tup (ns.map hdD)) (y:=.int 0) (e4 _ rfl) rfl (IG (DF (r:=0) (Pc (by omega))))) rfl rfl) rfl) (pq (pa (d:=.str (nm ns (m - 1 + 1))) (po (x:=hdD (nm ns (m - 1 + 1))) (y:=.int 0) (po (x:=.tup (ns.map hdD)) (y:=.int (-1)) (e4 _ rfl) (pn (x:=.int 1) rfl rfl) (IG (Rw ?_))) rfl rfl) rfl) (pq (piF (HM (μ1:=μ) (CB (b:=true) (AU (pd (ds:=[mkK "safe" sz bg ns,.str (nm ns 0),.str (nm ns (m - 1 + 1)),.int A,.int B]) rfl (QP N hns hm w b0 b1)))) (CB (b:=true) (AU (pd (ds:=[mkK "safe" sz bg ns,.str (nm ns 0),.str (nm ns (m - 1 + 1)),.int A,.int B,.int T]) rfl (Mo N hns hm w b0 b1 t0 t1))))) rfl) (pq ?_ (piF (CB (b:=true) (AU (pd (ds:=[mkK "safe" sz bg ns,.str (nm ns 0),.str (nm ns (m - 1 + 1)),.int A,.int B,.int T]) rfl (ST N hns hm w b0 b1 t0 t1)))) rfl)))))))))
  . rw [List.length_map,hmm]
    exact Pc (by omega)
  . have tl:∀ S:Sl,S[3]? = some (some (mkK "safe" sz bg ns))->AR (mOp K5 (AE Ct (AC (mOp AN (AB 3) (mC (.int 4))) AJ)) (mC (.int 2))) S μ=some (decide (2 < (ns.length:Int)),μ):=fun S h=>by
      refine AU (po (x:=.int ns.length) (y:=.int 2) (pd (ds:=[.tup (ns.map hdD)]) (pc (e4 _ h) rfl) ?_) rfl rfl)
      show some (D.int (((ns.map hdD).length:Nat):Int),μ)=_
      rw [List.length_map]
    by_cases h2:m=1
    . exact piF (GQ ((tl _ rfl).trans (by rw [decide_eq_false (by omega)]))) rfl
    . refine piF (Dz ((tl _ rfl).trans (by rw [decide_eq_true (by omega)])) (CB (b:=true) (AU (pd (ds:=[mkK "safe" sz bg ns,.str (nm ns 0),.str (nm ns (m - 1 + 1)),.str (nm ns 1),.int A,.int B]) (pc rfl (pc rfl (pc rfl (pc (po (x:=hdD (nm ns 1)) (y:=.int 0) (po (x:=.tup (ns.map hdD)) (y:=.int 1) (e4 _ rfl) rfl (IG (DF (r:=1) (Pc (by omega))))) rfl rfl) rfl)))) (UG N hns w b0 b1 (by omega)))))) rfl
theorem PK {scr:D}:∀ (cs:List Int) (o1 o2 o3 o4 o5 o6 o7 o8:Option D),∃ p1 p2 p3 p4 p5 p6 p7 p8:Option D,DA (AM 1) U9 (cs.map D.int) [some scr,o1,o2,o3,o4,o5,o6,o7,o8] μ=some ((.next,[some scr,p1,p2,p3,p4,p5,p6,p7,p8]),μ)
  | [],o1,o2,o3,o4,o5,o6,o7,o8=>⟨o1,o2,o3,o4,o5,o6,o7,o8,rfl⟩
  | c :: cs,o1,o2,o3,o4,o5,o6,o7,o8=>by
    obtain ⟨q2,q3,q4,q5,q6,q7,q8,st⟩:=PJ (μ:=μ) (scr:=scr) (c:=c) (o2:=o2) (o3:=o3) (o4:=o4) (o5:=o5) (o6:=o6) (o7:=o7) (o8:=o8)
    obtain ⟨p1,p2,p3,p4,p5,p6,p7,p8,go⟩:=PK (scr:=scr) cs (some (.int c)) q2 q3 q4 q5 q6 q7 q8
    exact ⟨p1,p2,p3,p4,p5,p6,p7,p8,Ac (τ1:=[some scr,some (.int c),o2,o3,o4,o5,o6,o7,o8]) (μ1:=μ) rfl st go⟩
theorem math:∀ cs:List Int,cs.length <= 63->∃ μ',Pi [.scr cs] []=some (.bl true,μ'):=by
  intro cs hc
  have hz:=BI
  let ks:=cs.take (min 10 cs.length)
  obtain ⟨p1,p2,p3,p4,p5,p6,p7,p8,go⟩:=PK (μ:=[]) (scr:=.scr cs) ((cs.take 10) ++ [0]) none none none none none none none none
  refine ⟨[],AS (g:=[]) (τ2:=[some (.scr cs),p1,p2,p3,p4,p5,p6,p7,p8]) ?_ rfl (by unfold Cl; trivial)⟩
  rw [List.append_nil]
  refine pq (DP (ds:=((cs.take 10) ++ [0]).map D.int) (μ1:=[]) (BJ (po (x:=.lst ((cs.take 10).map D.int)) (y:=.lst [.int 0]) (HL (x0:=.scr cs) (a:=none) (b:=some 10) (μ1:=[]) (μ2:=[]) (μ3:=[]) rfl rfl rfl ?_) rfl ?_)) go) (pr rfl)
  . show some (D.lst (DQ (cs.map D.int) none (some ((10:Nat):Int))),([]:Mh))=_
    by_cases h:10 <= cs.length
    . rw [Fu (α:=.non) (by rw [List.length_map]; exact h),List.map_take]
    . unfold DQ
      rw [HT.Gi,HT.Iu]
      simp
  . rw [GI (by simp; omega),List.map_append]
    rfl
end
end K16
open PySem PySem.W PyProof.Rows
local macro_rules | `(tactic| wtm_at "own qdf")=>`(tactic| (refine' Mi.VM ?qa ?ql ?qc ?qk; (case qa=>k_is); (case ql=>k_is); (case qc=>k_is); (case qk=>k_is)))
local macro_rules | `(tactic| wtm_at "own qtl")=>`(tactic| (refine' Mi.tl_mk ?pl ?pe; (case pl=>k_is); (case pe=>rfl)))
set_option maxRecDepth 100000 in
set_option maxHeartbeats 0 in
theorem PySem.Challenge.cw_strongboxes_k16_known_histories_holds : PySem.Challenge.rw_strongboxes_k16_known_histories.Holds := by
  w_on; o_law; k_head; (case hw=>w_witness2)
  k_fill
  refine Mi.UE (k:=10) (l:=PySem.Challenge.rw_strongboxes_k16_known_histories) rfl rfl (by decide) (fun w h Y=>PySem.W.kIn_of Y) ?F
  case F=>
    intro w mg fa h KX G hmg
    refine' K16.all_mk K16.math KX G hmg ?e_Lstream ?e_Lmaking ?e_claim_begun ?e_is_tuple ?e_is_whole ?e_is_event ?e_acts_of ?e_with_thing ?e_case_begun ?e_moments_from ?e_reached ?e_closed ?e_beside ?e_claim_writes ?e_case_ended ?e_cases_ended ?e_claim_written ?e_claim_reads ?e_claim_told ?e_claim_behind ?e_judged ?e_Lis ?e_Lalone ?e_Lbeside ?e_Ltwo ?e_Llong ?e_law ?z_bool ?z_enumerate ?z_int ?z_isinstance ?z_len ?z_list ?z_range ?z_set ?z_sorted ?z_tuple ?g_HAD ?g_NONE ?g_NO_WORTH ?g_WAITS
    (case e_Lstream=>wtm_at "own qdf")
    (case e_Lmaking=>wtm_at "own qdf")
    (case e_claim_begun=>wtm_at "own qdf")
    (case e_is_tuple=>wtm_at "own qdf")
    (case e_is_whole=>wtm_at "own qdf")
    (case e_is_event=>wtm_at "own qdf")
    (case e_acts_of=>wtm_at "own qdf")
    (case e_with_thing=>wtm_at "own qdf")
    (case e_case_begun=>wtm_at "own qdf")
    (case e_moments_from=>wtm_at "own qdf")
    (case e_reached=>wtm_at "own qdf")
    (case e_closed=>wtm_at "own qdf")
    (case e_beside=>wtm_at "own qdf")
    (case e_claim_writes=>wtm_at "own qdf")
    (case e_case_ended=>wtm_at "own qdf")
    (case e_cases_ended=>wtm_at "own qdf")
    (case e_claim_written=>wtm_at "own qdf")
    (case e_claim_reads=>wtm_at "own qdf")
    (case e_claim_told=>wtm_at "own qdf")
    (case e_claim_behind=>wtm_at "own qdf")
    (case e_judged=>wtm_at "own qdf")
    (case e_Lis=>wtm_at "own qdf")
    (case e_Lalone=>wtm_at "own qdf")
    (case e_Lbeside=>wtm_at "own qdf")
    (case e_Ltwo=>wtm_at "own qdf")
    (case e_Llong=>wtm_at "own qdf")
    (case e_law=>wtm_at "own qdf")
    (case z_bool=>k_is)
    (case z_enumerate=>k_is)
    (case z_int=>k_is)
    (case z_isinstance=>k_is)
    (case z_len=>k_is)
    (case z_list=>k_is)
    (case z_range=>k_is)
    (case z_set=>k_is)
    (case z_sorted=>k_is)
    (case z_tuple=>k_is)
    (case g_HAD=>refine' Mi.GL KX G ?qa; (case qa=>k_is))
    (case g_NONE=>refine' Mi.GL KX G ?qa; (case qa=>k_is))
    (case g_NO_WORTH=>refine' Mi.GL KX G ?qa; (case qa=>k_is))
    (case g_WAITS=>refine' Mi.GL KX G ?qa; (case qa=>k_is))
