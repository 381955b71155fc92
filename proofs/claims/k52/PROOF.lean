import PyProof.Rows.All
import Wide.All
import Wide.FinOn
import OpenK.KLine
import KE.KPairTest
import KE.KDictSum
import KE.KDictOf
import KE.KRevSl
import KE.KDictList
import KE.KIsAll
import KE.KPairComp
import KE.KItem
import PyProof.EqAt
import PyProof.EqKinds
import PyProof.TupleCall
import OpenK.KOwn
import KE.RegKIsAll
import KE.KSuperObj
import PySem.Challenge.RW_strongboxes_k52_not_one_upon_another
set_option Elab.async false
set_option linter.all false
set_option maxRecDepth 100000
set_option maxHeartbeats 4000000
set_option autoImplicit true
set_option relaxedAutoImplicit true
section
open PySem PySem.W PyProof.Rows
abbrev AAA:=@wpAny_bind
abbrev AAB:=@wpAny_pure
abbrev AAC:=@Heap.get?_push_of_some
abbrev AAD:=@Heap.get?_push_size
abbrev AAE:=@Nat.le_of_ble_eq_true
abbrev AAF:=@Nat.le_refl
abbrev AAG:=@List.length_map
abbrev AAH:=@List.length_append
abbrev AAI:=@List.length_cons
abbrev AAJ:=@List.mem_cons
abbrev AAK:=@List.mem_singleton
abbrev AAL:=@List.mem_map
abbrev AAM:=@Nat.lt_of_lt_of_le
abbrev AAN:=@decide_eq_false
abbrev AAO:=@decide_eq_true
abbrev AAP:=@List.mem_cons_self
abbrev AAQ:=@List.mem_cons_of_mem
abbrev AAR:=@List.getElem?_append_right
abbrev AAS:=@List.getElem?_append_left
abbrev AAT:=@List.getElem?_eq_some_iff
abbrev AAU:=@List.mem_of_getElem?
abbrev AAV:=@List.getElem?_map
abbrev AAW:=@List.map_cons
abbrev AAX:=@List.append_nil
abbrev AAY:=@List.mem_append_right
abbrev AAZ:=@List.mem_append_left
abbrev AAa:=@wpAny_call_entry
abbrev AAb:=@Nat.ne_of_lt
abbrev AAc:=@beq_eq_false_iff_ne
abbrev AAd:=@Bool.false_ne_true
abbrev AAe:=@Nat.lt_succ_of_lt
abbrev AAf:=@wpAny_setState_of
abbrev AAg:=@wpAny_mono
abbrev AAh:=@Nat.zero_le
abbrev AAi:=@List.replicate_succ
abbrev AAj:=@List.length_replicate
abbrev AAk:=@List.getElem?_set_ne
abbrev AAl:=@wpAny_holding
abbrev AAm:=@wpAny_setField_rec
abbrev AAn:=@wpAny_newObj_type
abbrev AAo:=@Nat.lt_of_le_of_lt
abbrev AAp:=@Nat.le_trans
abbrev AAq:=@List.getElem?_eq_getElem
abbrev AAr:=@wpAny_of_eq
abbrev AAs:=@wpAny_field
abbrev AAt:=@wpAny_seqItems
abbrev AAu:=@wpAny_attempt
abbrev AAv:=@Nat.lt_irrefl
abbrev AAw:=@List.pairwise_cons
end
noncomputable def PySem.W.Fast.tw15026389482206708120:Nat:=0
noncomputable def PySem.W.Fast.tw701529324580087588:Nat:=0
noncomputable def PySem.W.Fast.tw6478323407136971841:Nat:=0
noncomputable def PySem.W.Fast.tw6824164403149917094:Nat:=0
noncomputable def PySem.W.Fast.tw3357938017988965129:Nat:=0
noncomputable def PySem.W.Fast.tw16046258208286023274:Nat:=0
noncomputable def PySem.W.Fast.tw7619124757796645901:Nat:=0
noncomputable def PySem.W.Fast.tw6753616373635242891:Nat:=0
noncomputable def PySem.W.Fast.tw4969695730976666616:Nat:=0
noncomputable def PySem.W.Fast.tw1903363093485665133:Nat:=0
noncomputable def PySem.W.Fast.tw3414896519232033388:Nat:=0
noncomputable def PySem.W.Fast.tw13339352663647652119:Nat:=0
noncomputable def PySem.W.Fast.tw9925365588623533908:Nat:=0
noncomputable def PySem.W.Fast.tw7172582415667542555:Nat:=0
noncomputable def PySem.W.Fast.tw8294812405177834238:Nat:=0
noncomputable def PySem.W.Fast.tw15088531086155706766:Nat:=0
noncomputable def PySem.W.Fast.tw9527567739243819249:Nat:=0
noncomputable def PySem.W.Fast.tw15318179871325070798:Nat:=0
noncomputable def PySem.W.Fast.tw16216185451337469164:Nat:=0
noncomputable def PySem.W.Fast.tw13446748810643060448:Nat:=0
noncomputable def PySem.W.Fast.tw12351379424003958759:Nat:=0
noncomputable def PySem.W.Fast.tw12789291363849808369:Nat:=0
noncomputable def PySem.W.Fast.tw16191308337314054855:Nat:=0
noncomputable def PySem.W.Fast.tw2949553966779302520:Nat:=0
noncomputable def PySem.W.Fast.tw219258499915640964:Nat:=0
noncomputable def PySem.W.Fast.tw3275763027403544158:Nat:=0
noncomputable def PySem.W.Fast.tw8674209488619005340:Nat:=0
noncomputable def PySem.W.Fast.tw7088431148403546049:Nat:=0
noncomputable def PySem.W.Fast.tw9839490967508903419:Nat:=0
noncomputable def PySem.W.Fast.tw17686389612519157913:Nat:=0
noncomputable def PySem.W.Fast.tw15600985156884248549:Nat:=0
noncomputable def PySem.W.Fast.tw5104242235431101455:Nat:=0
noncomputable def PySem.W.Fast.tw7849041156634665706:Nat:=0
noncomputable def PySem.W.Fast.tw2116286482304995393:Nat:=0
noncomputable def PySem.W.Fast.tw5579854820615927856:Nat:=0
noncomputable def PySem.W.Fast.tw3427859466440060464:Nat:=0
noncomputable def PySem.W.Fast.tw155124771769690679:Nat:=0
noncomputable def PySem.W.Fast.tw15533111617177713941:Nat:=0
noncomputable def PySem.W.Fast.tw17738151387376914814:Nat:=0
noncomputable def PySem.W.Fast.tw1893471819676617273:Nat:=0
noncomputable def PySem.W.Fast.tw3924135839165290025:Nat:=0
noncomputable def PySem.W.Fast.tw14252753530573710398:Nat:=0
noncomputable def PySem.W.Fast.tw17874274669332882961:Nat:=0
noncomputable def PySem.W.Fast.tw14007906309555323850:Nat:=0
noncomputable def PySem.W.Fast.tw8915317914147490945:Nat:=0
noncomputable def PySem.W.Fast.tw12831275968149979758:Nat:=0
noncomputable def PySem.W.Fast.tw12578610956625544996:Nat:=0
noncomputable def PySem.W.Fast.tw10298181620139327497:Nat:=0
noncomputable def PySem.W.Fast.tw17317881280625167448:Nat:=0
noncomputable def PySem.W.Fast.tw5436500266611645674:Nat:=0
noncomputable def PySem.W.Fast.tw9982535724757461756:Nat:=0
noncomputable def PySem.W.Fast.tw5465868868636178236:Nat:=0
noncomputable def PySem.W.Fast.tw9842542573570008579:Nat:=0
noncomputable def PySem.W.Fast.tw9454923493282712172:Nat:=0
noncomputable def PySem.W.Fast.tw553943274988074891:Nat:=0
noncomputable def PySem.W.Fast.tw4896953616476085910:Nat:=0
noncomputable def PySem.W.Fast.tw5900804260834046912:Nat:=0
noncomputable def PySem.W.Fast.tw12602590901551546579:Nat:=0
noncomputable def PySem.W.Fast.tw6875769245437414745:Nat:=0
noncomputable def PySem.W.Fast.tw15582345976388628813:Nat:=0
noncomputable def PySem.W.Fast.tw7275449342997936569:Nat:=0
noncomputable def PySem.W.Fast.tw14018382833898970298:Nat:=0
noncomputable def PySem.W.Fast.tw1988019092867993273:Nat:=0
noncomputable def PySem.W.Fast.tw575387831608805692:Nat:=0
noncomputable def PySem.W.Fast.tw17363758022956970648:Nat:=0
noncomputable def PySem.W.Fast.tw4018739640111806170:Nat:=0
noncomputable def PySem.W.Fast.tw2998265142245465574:Nat:=0
noncomputable def PySem.W.Fast.tw4753012194395717140:Nat:=0
noncomputable def PySem.W.Fast.tw7938245413933664107:Nat:=0
noncomputable def PySem.W.Fast.tw10065546675722024907:Nat:=0
noncomputable def PySem.W.Fast.tw6270997732623446002:Nat:=0
noncomputable def PySem.W.Fast.tw4735616892378855057:Nat:=0
noncomputable def PySem.W.Fast.tw17113173296930023700:Nat:=0
noncomputable def PySem.W.Fast.tw1325796717297226946:Nat:=0
noncomputable def PySem.W.Fast.tw4838936931176970068:Nat:=0
noncomputable def PySem.W.Fast.tw15832695705302903348:Nat:=0
noncomputable def PySem.W.Fast.tw18407040175334711424:Nat:=0
noncomputable def PySem.W.Fast.tw752789125391463845:Nat:=0
noncomputable def PySem.W.Fast.tw3605712463311404319:Nat:=0
noncomputable def PySem.W.Fast.tw14128544457677583243:Nat:=0
noncomputable def PySem.W.Fast.tw11160185008071856358:Nat:=0
noncomputable def PySem.W.Fast.tw7645934994835009700:Nat:=0
noncomputable def PySem.W.Fast.tw3032280921794298999:Nat:=0
noncomputable def PySem.W.Fast.tw11446681930082623193:Nat:=0
noncomputable def PySem.W.Fast.tw5350629788955384087:Nat:=0
noncomputable def PySem.W.Fast.tw5660585630933015825:Nat:=0
noncomputable def PySem.W.Fast.tw1569920819311617855:Nat:=0
noncomputable def PySem.W.Fast.tw2032638964969442141:Nat:=0
noncomputable def PySem.W.Fast.tw2929912130766420468:Nat:=0
noncomputable def PySem.W.Fast.tw16296703442427798267:Nat:=0
noncomputable def PySem.W.Fast.tw14005799932569510811:Nat:=0
noncomputable def PySem.W.Fast.tw1870988243805613875:Nat:=0
noncomputable def PySem.W.Fast.tw15820969555735733871:Nat:=0
noncomputable def PySem.W.Fast.tw15483950006744858108:Nat:=0
noncomputable def PySem.W.Fast.tw5209583690585900841:Nat:=0
noncomputable def PySem.W.Fast.tw5245744799717417008:Nat:=0
noncomputable def PySem.W.Fast.tw4717484238819281818:Nat:=0
noncomputable def PySem.W.Fast.tw13962668715768442669:Nat:=0
noncomputable def PySem.W.Fast.tw11605474438071336930:Nat:=0
noncomputable def PySem.W.Fast.tw10682375849275708429:Nat:=0
noncomputable def PySem.W.Fast.tw8230875525081134586:Nat:=0
noncomputable def PySem.W.Fast.tw3218185872770251222:Nat:=0
noncomputable def PySem.W.Fast.tw5498285669962792897:Nat:=0
noncomputable def PySem.W.Fast.tw10284869342089852759:Nat:=0
noncomputable def PySem.W.Fast.tw14968478503229434125:Nat:=0
noncomputable def PySem.W.Fast.tw2950526273077857151:Nat:=0
noncomputable def PySem.W.Fast.tw3648943825095085851:Nat:=0
noncomputable def PySem.W.Fast.tw11398714224679752191:Nat:=0
noncomputable def PySem.W.Fast.tw8930706102637300777:Nat:=0
noncomputable def PySem.W.Fast.tw4246018808624680887:Nat:=0
noncomputable def PySem.W.Fast.tw571633960386817283:Nat:=0
noncomputable def PySem.W.Fast.tw3383873342816321551:Nat:=0
noncomputable def PySem.W.Fast.tw9437952568512932864:Nat:=0
noncomputable def PySem.W.Fast.tw7173325726608047779:Nat:=0
noncomputable def PySem.W.Fast.tw13274445047022428729:Nat:=0
noncomputable def PySem.W.Fast.tw4208520872262257317:Nat:=0
noncomputable def PySem.W.Fast.tw2077291462611839038:Nat:=0
noncomputable def PySem.W.Fast.tw13279966585220884881:Nat:=0
noncomputable def PySem.W.Fast.tw14310817262972419506:Nat:=0
noncomputable def PySem.W.Fast.tw4668951835362475936:Nat:=0
namespace L2
open PySem PySem.Spec PyProof.Rows
noncomputable abbrev Key:=Sum Int Str
noncomputable def KC:Key->Value->Bool
 | .inl k,v=>Value.isInt k v
 | .inr x,v=>Value.isStrOf x v
noncomputable def cE(w:World):Key->Int
 | .inl k=>hashInt k
 | .inr x=>hashStr w x
theorem Bu:∀{k:Key} {v:Value},KC k v=true->(∃i t,k=Sum.inl i/\v=Value.int i t)∨(∃x t,k=Sum.inr x/\v=Value.str x t)
 | .inl i,v,h=>by
  obtain⟨t,e⟩:=Value.isInt_shape (k:=i) (v:=v) h;exact .inl ⟨i,t,rfl,e⟩
 | .inr x,v,h=>by
  obtain⟨t,e⟩:=Value.isStrOf_shape (x:=x) (v:=v) h;exact .inr ⟨x,t,rfl,e⟩
theorem P0(i:Int)(t:Tok):KC (.inl i) (.int i t)=true:=by simp[KC,Value.isInt]
theorem Pz(x:Str)(t:Tok):KC (.inr x) (.str x t)=true:=by simp[KC,Value.isStrOf]
theorem YU(a b:Int):decide ((Sum.inl a:Key)=Sum.inl b)=(a==b):=by
 by_cases e:a=b
 ·subst e;simp
 ·have h:¬(Sum.inl a:Key)=Sum.inl b:=λq=>e (Sum.inl.inj q);rw[AAN h];exact(AAc.mpr e).symm
theorem YR(a b:Str):decide ((Sum.inr a:Key)=Sum.inr b)=decide (a=b):=by
 by_cases e:a=b
 ·subst e;simp
 ·have h:¬(Sum.inr a:Key)=Sum.inr b:=λq=>e (Sum.inr.inj q);rw[AAN h,AAN e]
theorem YT(a:Int)(b:Str):decide ((Sum.inl a:Key)=Sum.inr b)=false:=AAN (λq=>nomatch q)
theorem YS(a:Str)(b:Int):decide ((Sum.inr a:Key)=Sum.inl b)=false:=AAN (λq=>nomatch q)
noncomputable def Bf(prog:Program)(w:World):PySem.KeyKind prog w Key where
 is:=KC
 hash:=cE w
 inj:=λv a b ha hb=>by
  rcases Bu ha with ⟨i,t,rfl,rfl⟩|⟨x,t,rfl,rfl⟩
  ·rcases Bu hb with ⟨j,u,rfl,e⟩|⟨y,u,rfl,e⟩
   ·injection e with e1 _;rw[e1]
   ·exact nomatch e
  ·rcases Bu hb with ⟨j,u,rfl,e⟩|⟨y,u,rfl,e⟩
   ·exact nomatch e
   ·injection e with e1 _;rw[e1]
 byValue:=λk v h=>by
  rcases Bu h with ⟨i,t,rfl,rfl⟩|⟨x,t,rfl,rfl⟩<;>rfl
 pyHash:=λhv h=>by
  rcases Bu hv with ⟨i,t,rfl,rfl⟩|⟨x,t,rfl,rfl⟩
  ·exact wpAny_pyHash_int h
  ·exact wpAny_pyHash_str h
 eqBool:=λhu hv h=>by
  rcases Bu hu with ⟨i,t,rfl,rfl⟩|⟨x,t,rfl,rfl⟩
  ·rcases Bu hv with ⟨j,u,rfl,rfl⟩|⟨y,u,rfl,rfl⟩
   ·rw[YU] at h;exact wpAny_eqBool_int h
   ·rw[YT] at h;exact SeqAt.EqAt.int_str i t y u _ _ _ _ h
  ·rcases Bu hv with ⟨j,u,rfl,rfl⟩|⟨y,u,rfl,rfl⟩
   ·rw[YS] at h;exact SeqAt.EqAt.str_int x t j u _ _ _ _ h
   ·rw[YR] at h;exact wpAny_eqBool_str h
 «strs»:=λk x t v h=>by
  rcases Bu h with ⟨i,u,rfl,e⟩|⟨y,u,rfl,e⟩
  ·exact nomatch e
  ·injection e with e1 _
   subst e1;cases v<;>rfl
theorem L6(prog:Program)(w:World)(i:Int)(t:Tok):(Bf prog w).is (.inl i) (.int i t)=true:=P0 i t
theorem L5(prog:Program)(w:World)(x:Str)(t:Tok):(Bf prog w).is (.inr x) (.str x t)=true:=Pz x t
inductive V where
 |non|bl (b:Bool)|int (i:Int)|str (x:Str)|byt (b:Array UInt8)|flt (b:UInt64)|ref (a:Addr)|ty (n:String)
 deriving DecidableEq
def RelV:V->Value->Prop
 | .non,u=>u=Value.none
 | .bl b,u=>u=Value.bool b
 | .int i,u=>∃t,u=Value.int i t
 | .str x,u=>∃t,u=Value.str x t
 | .byt b,u=>∃t,u=Value.bytes b t
 | .flt b,u=>∃t,u=Value.float b t
 | .ref a,u=>u=Value.ref a
 | .ty n,u=>u=Value.type n
abbrev Vals:List V->List Value->Prop:=Paired RelV
theorem Vals.length(r:Vals xs us):xs.length=us.length:=Paired.length r
theorem Vals.get:∀{xs:List V} {us:List Value} {i:Nat} {x:V},Vals xs us->xs[i]?=some x->∃u,us[i]?=some u/\RelV x u
 |_,_,_,_,.nil,e=>by simp at e
 |_,_,0,_,.cons r _,e=>by simp at e;subst e;exact⟨_,rfl,r⟩
 |_,_,i+1,x,.cons _ t,e=>by
  obtain⟨u,h1,h2⟩:=Vals.get (i:=i) (x:=x) t (by simpa using e);exact⟨u,by simpa using h1,h2⟩
theorem Vals.set(r:RelV x u):∀{xs:List V} {us:List Value} (i:Nat),Vals xs us->Vals (xs.set i x) (us.set i u)
 |_,_,_,.nil=>.nil
 |_,_,0,.cons _ t=>.cons r t
 |_,_,i+1,.cons q t=>.cons q (Vals.set r i t)
theorem Vals.append:∀{xs ys:List V} {us ws:List Value},Vals xs us->Vals ys ws->Vals (xs++ys) (us++ws)
 |_,_,_,_,.nil,s=>s
 |_,_,_,_,.cons r t,s=>.cons r (Vals.append t s)
theorem Vals.take:∀{xs:List V} {us:List Value} (n:Nat),Vals xs us->Vals (xs.take n) (us.take n)
 |_,_,0,_=>.nil
 |_,_,_+1,.nil=>.nil
 |_,_,n+1,.cons r t=>.cons r (Vals.take n t)
theorem Vals.drop:∀{xs:List V} {us:List Value} (n:Nat),Vals xs us->Vals (xs.drop n) (us.drop n)
 |_,_,0,r=>r
 |_,_,_+1,.nil=>.nil
 |_,_,n+1,.cons _ t=>Vals.drop n t
noncomputable def RelO:Option V->Option Value->Prop
 |some v,some u=>RelV v u
 |none,none=>True
 |_,_=>False
noncomputable def KV{κ:Type}:List (κ×V)->List (κ×Value)->Prop:=Paired λ(p:κ×V) (q:κ×Value)=>p.1=q.1/\RelV p.2 q.2
noncomputable def kV:Key->V
 | .inl i=>.int i
 | .inr x=>.str x
inductive HO where
 |lst (xs:List V)
 |tup (xs:List V)
 |dK (kvs:List (Key×V))|dT (kvs:List (List Key×V))
 |set (S:Int->Bool) (n:Nat)
 |ins (C dx:Addr) (fs:List (Str×V))
 |own (x:Addr)
 |xd (fs:List (Str×V))
 |met (f x:Addr)
 |rng (lo hi:Int)
 |frz (o:Obj) (u:HO)
 |tbl (ps:Array Value)
 |ext (φ:Heap->Prop)
abbrev Hp:=Addr->Option HO
noncomputable def upd(H:Hp)(a:Addr)(o:HO):Hp:=λb=>if b=a then some o else H b
theorem BK:upd H a o a=some o:=by unfold upd;rw[if_pos rfl]
theorem Aw(h:b≠a):upd H a o b=H b:=by unfold upd;rw[if_neg h]
theorem aL{H:Hp}(h:H a=some o)(h':H b=some u)(d:o≠u):a≠b:=by
 intro e;subst e;rw[h] at h';exact d (Option.some.inj h')
theorem BZ{H:Hp}(h:H a=some o)(h':H b=none):a≠b:=by
 intro e;subst e;rw[h] at h';cases h'
section
variable(P:Program)(w:World)
noncomputable def ObjOk(H:Hp)(h:Heap)(a:Addr):HO->Prop
 | .lst xs=>xs.length<=sizeLine/\∃(its:List Value) (n:Nat),Vals xs its/\h.get? a=some { cls:=.type "list",data:=.seq its.toArray n }
 | .tup xs=>xs.length<=sizeLine/\∃its:List Value,Vals xs its/\IsTup h a its.toArray
 | .dK kvs=>kvs.length<=sizeLine/\(a==sysModules)=false/\∃vs,KV kvs vs/\h.DictOf (Bf P w) a vs
 | .dT kvs=>kvs.length<=sizeLine/\(a==sysModules)=false/\∃xs:List (List Key×Addr×Value),
   Paired (λ(p:List Key×V) (q:List Key×Addr×Value)=>p.1=q.1/\H q.2.1=some (.tup (p.1.map kV))/\RelV p.2 q.2.2) kvs xs /\
   ∃o es ep,h.get? a=some o/\o.ExactDict/\o.data=.dict es ep/\es.toList=xs.map (entryOfKey (tupleKind (Bf P w)))/\(xs.map (·.1)).Nodup
 | .set S n=>h.SetOf (intKind P w) a S n
 | .ins C dx fs=>H dx=some (.own a)/\fs.length<=1000/\dx≠a/\h.get? a=some (PySem.W.instObj C dx) /\
   ∃mA,h.Ns1 dx mA/\(∀f,RelO (fs.lookup f) (mA f))/\PySem.Within mA (fs.map (·.1))
 | .own _=>∃o,h.get? a=some o
 | .xd fs=>∃mA,h.Ns1 a mA/\∀f,RelO (fs.lookup f) (mA f)
 | .rng lo hi=>∃t u v,h.get? a=some { cls:=.type "range",data:=.fields #[.int lo t,.int hi u,.int 1 v] }
 | .frz o u=>h.get? a=some o/\ObjOk H h a u
 | .tbl ps=>h.get? a=some { cls:=.none,data:=.fields ps }
 | .met f x=>h.get? a=some (PySem.W.methodObj (.ref f) (.ref x))
 | .ext φ=>φ h/\(∃o,h.get? a=some o)/\∀h1 h2:Heap,φ h1->(∀o,h1.get? a=some o->h2.get? a=some o)->φ h2
def HOk(H:Hp)(h:Heap):Prop:=∀a o,H a=some o->ObjOk P w H h a o
end
section
variable{P:Program}{w:World}{H H':Hp}{h h':Heap}{a:Addr}{o:HO}
theorem ObjOk.lt(x:ObjOk P w H h a o):a<h.objs.size:=by
 cases o with
 |lst xs=>obtain⟨_,_,_,_,e⟩:=x;exact Heap.lt_size e
 |tup xs=>obtain⟨_,_,_,p⟩:=x;exact p.lt
 |dK kvs=>obtain⟨_,_,_,_,o,_,_,e,_⟩:=x;exact Heap.lt_size e
 |dT kvs=>obtain⟨_,_,_,_,o,_,_,e,_⟩:=x;exact Heap.lt_size e
 |set S n=>obtain⟨o,_,_,_,e,_⟩:=x;exact Heap.lt_size e
 |ins C dx fs=>obtain⟨_,_,_,e,_⟩:=x;exact Heap.lt_size e
 |own y=>obtain⟨_,e⟩:=x;exact Heap.lt_size e
 |xd fs=>obtain⟨_,⟨_,_,_,e,_⟩,_⟩:=x;exact Heap.lt_size e
 |rng lo hi=>obtain⟨_,_,_,e⟩:=x;exact Heap.lt_size e
 |frz ob u=>obtain⟨e,_⟩:=x;exact Heap.lt_size e
 |tbl ps=>exact Heap.lt_size (show h.get? a=some _ from x)
 |met f y=>exact Heap.lt_size (show h.get? a=some _ from x)
 |ext φ=>obtain⟨_,⟨_,e⟩,_⟩:=x;exact Heap.lt_size e
theorem Paired.mapP:∀{l₁:List α} {l₂:List β},Paired F l₁ l₂->(∀a b,F a b->G a b)->Paired G l₁ l₂
 |_,_,.nil,_=>.nil
 |_,_,.cons r t,f=>.cons (f _ _ r) (Paired.mapP t f)
theorem ObjOk.stay(x:ObjOk P w H h a o)(k:∀b u,(b=a∨H b=some (.own a))->h.get? b=some u->h'.get? b=some u)
  (ho:∀b,H b=some (.own a)->H' b=some (.own a)) (ht:∀b xs,H b=some (.tup xs)->H' b=some (.tup xs)):ObjOk P w H' h' a o:=by
 induction o with
 |lst xs=>obtain⟨z,its,n,r,e⟩:=x;exact⟨z,its,n,r,k _ _ (.inl rfl) e⟩
 |tup xs=>obtain⟨z,its,r,ob,e,c⟩:=x;exact⟨z,its,r,ob,k _ _ (.inl rfl) e,c⟩
 |dK kvs=>obtain⟨z,y,vs,r,ob,es,ep,e,c⟩:=x;exact⟨z,y,vs,r,ob,es,ep,k _ _ (.inl rfl) e,c⟩
 |dT kvs=>
  obtain⟨z,y,xs,r,ob,es,ep,e,c⟩:=x;exact⟨z,y,xs,Paired.mapP r λp q z=>⟨z.1,ht _ _ z.2.1,z.2.2⟩,ob,es,ep,k _ _ (.inl rfl) e,c⟩
 |set S n=>obtain⟨ob,es,ep,t,e,c⟩:=x;exact⟨ob,es,ep,t,k _ _ (.inl rfl) e,c⟩
 |ins C dx fs=>
  obtain⟨d,z,ne,e,mA,⟨od,es,ep,e2,c⟩,r⟩:=x;exact⟨ho _ d,z,ne,k _ _ (.inl rfl) e,mA,⟨od,es,ep,k _ _ (.inr d) e2,c⟩,r⟩
 |own y=>obtain⟨ob,e⟩:=x;exact⟨ob,k _ _ (.inl rfl) e⟩
 |xd fs=>obtain⟨mA,⟨od,es,ep,e,c⟩,r⟩:=x;exact⟨mA,⟨od,es,ep,k _ _ (.inl rfl) e,c⟩,r⟩
 |rng lo hi=>obtain⟨t,u,v,e⟩:=x;exact⟨t,u,v,k _ _ (.inl rfl) e⟩
 |frz ob u ih=>obtain⟨e,q⟩:=x;exact⟨k _ _ (.inl rfl) e,ih q⟩
 |tbl ps=>
  have e:h.get? a=some { cls:=.none,data:=.fields ps }:=x;show h'.get? a=some { cls:=.none,data:=.fields ps };exact k a _ (.inl rfl) e
 |met f y=>
  have e:h.get? a=some (PySem.W.methodObj (.ref f) (.ref y)):=x;show h'.get? a=some (PySem.W.methodObj (.ref f) (.ref y));exact k a _ (.inl rfl) e
 |ext φ=>obtain⟨p,⟨o,e⟩,st⟩:=x;exact⟨st _ _ p λo q=>k _ _ (.inl rfl) q,⟨o,k _ _ (.inl rfl) e⟩,st⟩
theorem HOk.lt(x:HOk P w H h)(e:H a=some o):a<h.objs.size:=(x a o e).lt
theorem HOk.fresh(x:HOk P w H h)(e:h.objs.size<=a):H a=none:=by
 cases q:H a with
 |none=>rfl
 |some u=>exact absurd (AAM (x.lt q) e) (AAv _)
theorem HOk.kept(x:HOk P w H h)(k:∀b u,h.get? b=some u->h'.get? b=some u):HOk P w H h':=λa o e=>
 (x a o e).stay (λb u _ q=>k b u q) (λ_ q=>q) λ_ _ q=>q
theorem HOk.laid(x:HOk P w H h)(k:∀b u,h.get? b=some u->h'.get? b=some u)(hp:h.objs.size<=a)(new:ObjOk P w (upd H a o) h' a o):HOk P w (upd H a o) h':=λb u e=>by
 have hn:=x.fresh hp;by_cases hb:b=a
 ·subst hb;rw[BK] at e;cases e;exact new
 ·rw[Aw hb] at e;exact(x b u e).stay (λc v _ q=>k c v q) (λc q=>by rw[Aw (BZ q hn)];exact q) λc xs q=>by rw[Aw (BZ q hn)];exact q
end
def Rd(H:Hp)(a:Addr)(u:HO):Prop:=H a=some u∨∃o,H a=some (.frz o u)
theorem Rd.ok(r:Rd H a u)(x:HOk P w H h):ObjOk P w H h a u:=by
 rcases r with r|⟨o,r⟩
 ·exact x a u r
 ·obtain⟨_,q⟩:=x a _ r;exact q
noncomputable def Mut:Option HO->Prop
 |some (.lst _)=>True
 |some (.dK _)=>True
 |some (.dT _)=>True
 |some (.set _ _)=>True
 |some (.ins _ _ _)=>True
 |some (.ext _)=>True
 |_=>False
section
variable{P:Program}{w:World}{H:Hp}{h h':Heap}{x e:Addr}{o':HO}
theorem HOk.write(ok:HOk P w H h)(mu:Mut (H x))(he:e=x∨H e=some (.own x))(k:∀b u,b≠e->h.get? b=some u->h'.get? b=some u)(heo:∃u,h'.get? e=some u)
  (new:ObjOk P w (upd H x o') h' x o'):HOk P w (upd H x o') h':=λb u q=>by
 have nown:∀c y,H c=some (.own y)->c≠x:=λc y r z=>by subst z;rw[r] at mu;exact mu
 have ntup:∀c xs,H c=some (.tup xs)->c≠x:=λc xs r z=>by subst z;rw[r] at mu;exact mu
 by_cases hb:b=x
 ·subst hb;rw[BK] at q;cases q;exact new
 ·rw[Aw hb] at q;by_cases hbe:b=e
  ·have q':H b=some (.own x):=by
    rcases he with z|z
    ·exact absurd (hbe.trans z) hb
    ·rw[hbe];exact z
   rw[q] at q';cases q';obtain⟨v,hv⟩:=heo;exact⟨v,by rw[hbe];exact hv⟩
  ·refine(ok b u q).stay (λc v hc r=>k c v ?_ r) (λc r=>by rw[Aw (nown c b r)];exact r) λc xs r=>by rw[Aw (ntup c xs r)];exact r
   rcases hc with rfl|hc
   ·exact hbe
   ·rintro rfl;rcases he with z|z
    ·exact nown c b hc z
    ·rw[hc] at z;cases z;exact hb rfl
end
structure Un(fs ex:List Addr)(H H':Hp)(h h':Heap):Prop where
 keep:∀b o,h.get? b=some o->H b=none->b∉fs->b∉ex->h'.get? b=some o
 slot:∀b o,h.get? b=some o->H b=none->b∈fs->b∉ex->∃sl,h'.get? b=some { o with slots:=sl }
 free:∀b o,h.get? b=some o->H b=none->b∉ex->H' b=none
 there:∀b o,h.get? b=some o->b∉ex->∃o',h'.get? b=some o'
 tups:∀b xs,H b=some (.tup xs)->H' b=some (.tup xs)
 frzs:∀b o u,H b=some (.frz o u)->H' b=some (.frz o u)
 tbls:∀b ps,H b=some (.tbl ps)->∃more,H' b=some (.tbl (ps++more))
section
variable{fs ex:List Addr}{H H1:Hp}{h h1 h':Heap}{a x e:Addr}{o:HO}
theorem Un.any(u:Un fs ex H H1 h h1)(q:h.get? b=some ob)(n:H b=none)(hx:b∉ex):∃sl,h1.get? b=some { ob with slots:=sl }:=by
 by_cases hb:b∈fs
 ·exact u.slot b ob q n hb hx
 ·exact⟨ob.slots,u.keep b ob q n hb hx⟩
theorem Un.kept(k:∀b u,h.get? b=some u->h'.get? b=some u):Un fs ex H H h h':=
 ⟨λb ob q _ _ _=>k b ob q,λb ob q _ _ _=>⟨ob.slots,k b ob q⟩,λ_ _ _ n _=>n,λb ob q _=>⟨ob,k b ob q⟩,λ_ _ q=>q,λ_ _ _ q=>q,λ_ ps q=>⟨#[],by rw[q];simp⟩⟩
theorem Un.refl:Un fs ex H H h h:=Un.kept λ_ _ q=>q
theorem Un.laid(k:∀b u,h.get? b=some u->h'.get? b=some u)(hp:h.objs.size<=a)(hn:H a=none):Un fs ex H (upd H a o) h h' where
 keep:=λb u q _ _ _=>k b u q
 slot:=λb u q _ _ _=>⟨u.slots,k b u q⟩
 free:=λb u q n _=>by rw[Aw (AAb (AAM (Heap.lt_size q) hp))];exact n
 there:=λb u q _=>⟨u,k b u q⟩
 tups:=λb xs q=>by rw[Aw (BZ q hn)];exact q
 frzs:=λb u xs q=>by rw[Aw (BZ q hn)];exact q
 tbls:=λb ps q=>⟨#[],by rw[Aw (BZ q hn),q];simp⟩
theorem Un.write(mu:Mut (H x))(he:e=x∨H e=some (.own x))(k:∀b u,b≠e->h.get? b=some u->h'.get? b=some u)(heo:∃u,h'.get? e=some u):Un fs ex H (upd H x o) h h':=by
 have hx:∀b,H b=none->b≠x:=λb n z=>by subst z;rw[n] at mu;exact mu
 have hb:∀b,H b=none->b≠e:=λb n z=>by
  subst z;rcases he with r|r
  ·exact hx b n r
  ·rw[n] at r;cases r
 have hm:∀b u,H b=some u->¬Mut (some u)->b≠x:=λb u q nm z=>by subst z;rw[q] at mu;exact nm mu
 refine⟨λb u q n _ _=>k b u (hb b n) q,λb u q n _ _=>⟨u.slots,k b u (hb b n) q⟩,λb u q n _=>by rw[Aw (hx b n)];exact n,λb u q _=>?_,
  λb xs q=>by rw[Aw (hm b _ q λz=>z)];exact q,λb u xs q=>by rw[Aw (hm b _ q λz=>z)];exact q,λb ps q=>⟨#[],by rw[Aw (hm b _ q λz=>z),q];simp⟩⟩
 by_cases hbe:b=e
 ·subst hbe;exact heo
 ·exact⟨u,k b u hbe q⟩
end
noncomputable def trk(h:Heap)(H:Hp):List Addr:=(List.range h.objs.size).filter λa=>(H a).isSome
noncomputable def LA(h:Heap)(H:Hp):Heap:=PySem.W.hideAll h (trk h H)
theorem QA(h:Heap)(H:Hp):(LA h H).objs.size=h.objs.size:=PySem.W.hideAll_size _ _
theorem Sv(e:h.get? b=some o)(n:H b=none):(LA h H).get? b=some o:=
 PySem.W.hideAll_get _ e λhm=>by
  have q:(H b).isSome=true:=(List.mem_filter.mp hm).2;rw[n] at q;simp at q
theorem U6(e:(LA h H).get? b=some o):h.get? b=some o/\H b=none:=by
 have e':h.get? b=some o:=PySem.W.of_hideAll (trk h H) e;refine⟨e',?_⟩;cases q:H b with
 |none=>rfl
 |some x=>
  have hm:b∈trk h H:=List.mem_filter.mpr ⟨List.mem_range.mpr (Heap.lt_size e'),by simp[q]⟩;have z:(LA h H).get? b=none:=PySem.W.hideAll_none (trk h H) hm;rw[z] at e;cases e
structure Mod(K:PySem.W.Frag)(mg:Str->Option Value)(base:Heap):Prop where
 kin:K.In base
 glob:base.Ns mainGlobals mg
 blt:∃mb,base.Ns builtinsNs mb/\∀x:Str,x ≠ "__name__" -> mb x=bootBuiltins x
 nolimit:base.NoLimit
set_option genInjectivity false in
structure Cx where
 prog:Program
 w:World
 K:PySem.W.Frag
 mg:Str->Option Value
 base:Heap
 A:Around
 N:List Str
 s₀:Shared
 H₀:Hp
 env:Env
 outer:List Env
 stack:List Env
 ex:List Addr
 fn:Str->Bool
 calm:Bool
 pn:List (Addr×Obj)
 xe:Value->Shared->Prop
noncomputable def frs(l:List Env):List Addr:=l.filterMap (·.frame)
noncomputable abbrev Cx.fs(X:Cx):List Addr:=frs X.outer
def Vis(sc:Scope)(x:Str):Prop:=sc.names.lookup x=some .local∨sc.names.lookup x=some .cell∨sc.names.lookup x=some .free
def Loc(sc:Scope)(x:Str):Prop:=sc.names.lookup x=some .local∨sc.names.lookup x=some .cell
def cW(env:Env)(h:Heap)(m:Str->Option Value)(x:Str)(u:Value):Prop:=
 (env.kindOf x=some .local/\m x=some u)∨((env.kindOf x=some .cell∨env.kindOf x=some .free)/\∃c,env.cells.lookup x=some c/\h.IsCell c (some u))
structure Cx.Ok(X:Cx):Prop where
 mod:Mod X.K X.mg X.base
 kind:X.env.scope.kind=.function
 glob:X.env.globals=mainGlobals
 blt:X.env.builtins=builtinsNs
 above:X.s₀.heap.objs.size<=X.env.locals
 inj:∀x y c,X.env.cells.lookup x=some c->X.env.cells.lookup y=some c->x=y
 has:∀x,(X.env.kindOf x=some .cell∨X.env.kindOf x=some .free)->∃c,X.env.cells.lookup x=some c
 cab:∀x c,X.fn x=true->X.env.cells.lookup x=some c->X.s₀.heap.objs.size<=c
 hd:X.calm=true->X.A.handled=none
 frames:X.A.frames=some X.stack
 stk:X.stack=X.outer∨(X.stack=X.env::X.outer/\X.env.frame=some X.env.locals)
 exf:∀b∈X.ex,b≠X.env.locals/\∀x c,X.env.cells.lookup x=some c->c≠b
 bs:∀b o,X.base.get? b=some o->X.s₀.heap.get? b=some o/\X.H₀ b=none
 bsz:X.base.objs.size<=X.s₀.heap.objs.size
 noex:∀b o,X.base.get? b=some o->b∉X.ex
 exfs:∀b∈X.ex,b∉X.fs
 funs:X.s₀.heap.FunFrames X.base X.outer
 frf:∀b∈X.fs,X.H₀ b=none
structure Inv(X:Cx)(w6:List (Addr×Obj))(O:List (Option V))(H:Hp)(s:Shared):Prop where
 ok:X.Ok
 os:s.os=X.s₀.os
 bare:AllBare s.gens
 base:Un X.fs X.ex X.H₀ H X.s₀.heap s.heap
 loc:∃m,s.heap.Ns X.env.locals m/\∀(i:Nat) (x:Str) (v:V),X.N[i]?=some x->O[i]?=some (some v)->Vis X.env.scope x->∃u,RelV v u/\cW X.env s.heap m x u
 cell:∀x c,X.env.cells.lookup x=some c->∃v,s.heap.IsCell c v
 free:H X.env.locals=none
 freeC:∀x c,X.env.cells.lookup x=some c->H c=none
 pin:∀p∈X.pn++w6,s.heap.get? p.1=some p.2/\H p.1=none/\p.1≠X.env.locals/\p.1∉X.fs/\∀v,p.2.data≠.cell v
 hok:HOk X.prog X.w H s.heap
 len:O.length=X.N.length
section
variable{X:Cx}{w6:List (Addr×Obj)}{O:List (Option V)}{H H':Hp}{s:Shared}{h':Heap}
theorem Cx.Ok.nofr(ok:X.Ok)(e:X.base.get? b=some o):b∉X.fs:=λhb=>by
 have:=(ok.funs.mem hb).1;rw[e] at this;cases this
theorem Inv.bs(I:Inv X w6 O H s):∀b o,X.base.get? b=some o->s.heap.get? b=some o/\H b=none:=λb o e=>
 ⟨I.base.keep b o (I.ok.bs b o e).1 (I.ok.bs b o e).2 (I.ok.nofr e) (I.ok.noex b o e),I.base.free b o (I.ok.bs b o e).1 (I.ok.bs b o e).2 (I.ok.noex b o e)⟩
theorem Inv.bk(I:Inv X w6 O H s):∀b o,X.base.get? b=some o->s.heap.get? b=some o:=λb o e=>(I.bs b o e).1
theorem Inv.mod(I:Inv X w6 O H s):Mod X.K X.mg X.base:=I.ok.mod
theorem Inv.kIn(I:Inv X w6 O H s):X.K.In s.heap:=I.ok.mod.kin.keeps I.bk
theorem Inv.lt(I:Inv X w6 O H s):X.env.locals<s.heap.objs.size:=let ⟨_,hn,_⟩:=I.loc;hn.lt
theorem Inv.sz(I:Inv X w6 O H s):X.s₀.heap.objs.size<=s.heap.objs.size:=AAp I.ok.above (Nat.le_of_lt I.lt)
theorem Inv.nofs(I:Inv X w6 O H s)(h:s.heap.objs.size<=a):a∉X.fs:=λhb=>by
 obtain⟨_,o,ho,_⟩:=I.ok.funs.mem hb;exact absurd (AAM (Heap.lt_size ho) (AAp I.sz h)) (AAv _)
theorem Inv.cne(I:Inv X w6 O H s):∀x c,X.env.cells.lookup x=some c->c≠X.env.locals:=λx c e z=>by
 obtain⟨v,o,ho,hd⟩:=I.cell x c e;obtain⟨m,⟨o',es,ep,ho',hd',_⟩,_⟩:=I.loc;rw[z,ho'] at ho;cases ho;rw[hd'] at hd;cases hd
theorem Inv.funs(I:Inv X w6 O H s):s.heap.FunFrames X.base X.outer:=by
 have all:∀(l:List Env),(∀b∈frs l,b∈X.fs)->X.s₀.heap.FunFrames X.base l->s.heap.FunFrames X.base l:=by
  intro l
  induction l with
  |nil=>intro _ _;trivial
  |cons env r ih=>
   intro hs hl;obtain⟨hk,⟨L,o,hf,hn,ho,hd⟩,hr⟩:=hl;have hL:L∈X.fs:=hs L (by unfold frs;rw[List.filterMap_cons,hf];exact AAP);obtain⟨sl,e⟩:=I.base.slot L o ho (I.ok.frf L hL) hL λz=>I.ok.exfs L z hL;exact⟨hk,⟨L,_,hf,hn,e,hd⟩,ih (λb hb=>hs b (by unfold frs;rw[List.filterMap_cons,hf];exact AAQ _ hb)) hr⟩
 exact all X.outer (λ_ hb=>hb) I.ok.funs
theorem Inv.stack(I:Inv X w6 O H s):s.heap.FunFrames X.base X.stack:=by
 rcases I.ok.stk with e|⟨e,hf⟩
 ·rw[e];exact I.funs
 ·rw[e];obtain⟨m,hn,_⟩:=I.loc;refine .cons (by rw[I.ok.kind];decide) hf hn ?_ I.funs;exact Heap.get?_none_of_le (AAp I.ok.bsz I.ok.above)
theorem Inv.stkSub(I:Inv X w6 O H s):∀b∈frs X.stack,b∈X.env.locals::X.fs:=λb hb=>by
 rcases I.ok.stk with e|⟨e,hf⟩
 ·rw[e] at hb;exact AAQ _ hb
 ·rw[e] at hb;unfold frs at hb;rw[List.filterMap_cons,hf] at hb;exact hb
theorem Inv.stkFree(I:Inv X w6 O H s):∀b∈frs X.stack,H b=none:=λb hb=>by
 rcases AAJ.mp (I.stkSub b hb) with e|hb
 ·rw[e];exact I.free
 ·obtain⟨_,o,ho,_⟩:=I.ok.funs.mem hb;exact I.base.free b o ho (I.ok.frf b hb) λz=>I.ok.exfs b z hb
theorem Inv.step{g':Array GenState}{t':Nat}{ch:List Addr}(I:Inv X w6 O H s)
  (hch:∀b∈ch,(b∈X.ex∨X.s₀.heap.objs.size<=b)/\b≠X.env.locals/\(∀x c,X.env.cells.lookup x=some c->c≠b)/\∀p∈X.pn++w6,p.1≠b)
  (keep:∀b o,b≠X.env.locals->b∉X.fs->b∉ch->s.heap.get? b=some o->H b=none->h'.get? b=some o)
  (slot:∀b o,b≠X.env.locals->b∈X.fs->b∉ch->s.heap.get? b=some o->H b=none->∃sl,h'.get? b=some { o with slots:=sl }) (free:∀b o,b∉ch->s.heap.get? b=some o->H b=none->H' b=none)
  (there:∀b o,b∉ch->s.heap.get? b=some o->∃o',h'.get? b=some o')
  (tups:∀b xs,H b=some (.tup xs)->H' b=some (.tup xs)) (frzs:∀b o u,H b=some (.frz o u)->H' b=some (.frz o u)) (tbls:∀b ps,H b=some (.tbl ps)->∃more,H' b=some (.tbl (ps++more)))
  (ns:∀m,s.heap.Ns X.env.locals m->h'.Ns X.env.locals m) (hok:HOk X.prog X.w H' h') (hg:AllBare g') :
  Inv X w6 O H' { s with heap:=h',gens:=g',drawn:=d',toks:=t' }:=by
 have neL:∀b o,X.s₀.heap.get? b=some o->b≠X.env.locals:=λb o e=>AAb (AAM (Heap.lt_size e) I.ok.above);have neC:∀b o,X.s₀.heap.get? b=some o->b∉X.ex->b∉ch:=λb o e hx hb=>by
  rcases(hch b hb).1 with z|z
  ·exact hx z
  ·exact absurd (AAM (Heap.lt_size e) z) (AAv _)
 have cellK:∀x c,X.env.cells.lookup x=some c->∀v,s.heap.IsCell c v->h'.IsCell c v:=λx c e v ⟨o,ho,hd⟩=>by
  have nch:c∉ch:=λz=>(hch c z).2.2.1 x c e rfl;by_cases hc:c∈X.fs
  ·obtain⟨sl,q⟩:=slot c o (I.cne x c e) hc nch ho (I.freeC x c e);exact⟨_,q,hd⟩
  ·exact⟨o,keep c o (I.cne x c e) hc nch ho (I.freeC x c e),hd⟩
 refine⟨I.ok,I.os,hg,⟨λb o e n hb hx=>?_,λb o e n hb hx=>?_,λb o e n hx=>?_,λb o e hx=>?_,λb xs e=>tups b xs (I.base.tups b xs e),λb o xs e=>frzs b o xs (I.base.frzs b o xs e),λb ps e=>?_⟩,?_,λx c e=>?_,?_,λx c e=>?_,λp hp=>?_,hok,I.len⟩
 ·exact keep b o (neL b o e) hb (neC b o e hx) (I.base.keep b o e n hb hx) (I.base.free b o e n hx)
 ·obtain⟨sl,e1⟩:=I.base.slot b o e n hb hx;obtain⟨sl',e2⟩:=slot b _ (neL b o e) hb (neC b o e hx) e1 (I.base.free b o e n hx);exact⟨sl',e2⟩
 ·obtain⟨o',e1⟩:=I.base.there b o e hx;exact free b o' (neC b o e hx) e1 (I.base.free b o e n hx)
 ·obtain⟨o',e1⟩:=I.base.there b o e hx;exact there b o' (neC b o e hx) e1
 ·obtain⟨m1,e1⟩:=I.base.tbls b ps e;obtain⟨m2,e2⟩:=tbls b _ e1;exact⟨m1++m2,by rw[e2,Array.append_assoc]⟩
 ·obtain⟨m,hn,hl⟩:=I.loc;refine⟨m,ns m hn,λi x v e1 e2 e3=>?_⟩;obtain⟨u,r,l⟩:=hl i x v e1 e2 e3;refine⟨u,r,?_⟩;rcases l with l|⟨k,c,e,z⟩
  ·exact .inl l
  ·exact .inr ⟨k,c,e,cellK x c e _ z⟩
 ·obtain⟨v,z⟩:=I.cell x c e;exact⟨v,cellK x c e v z⟩
 ·obtain⟨m,⟨o,_,_,ho,_⟩,_⟩:=I.loc;exact free _ o (λz=>(hch _ z).2.1 rfl) ho I.free
 ·obtain⟨v,o,ho,hd⟩:=I.cell x c e;exact free c o (λz=>(hch c z).2.2.1 x c e rfl) ho (I.freeC x c e)
 ·obtain⟨e,n,ne,nf,d⟩:=I.pin p hp;have nch:p.1∉ch:=λz=>(hch p.1 z).2.2.2 p hp rfl;exact⟨keep p.1 p.2 ne nf nch e n,free p.1 p.2 nch e n,ne,nf,d⟩
theorem Inv.un{t':Nat}(I:Inv X w6 O H s)(u:Un X.fs [] H H' s.heap h')(hok:HOk X.prog X.w H' h'):Inv X w6 O H' { s with heap:=h',toks:=t' }:=by
 obtain⟨m,⟨o,es,ep,ho,r⟩,_⟩:=id I.loc;obtain⟨sl,hL⟩:=u.any ho I.free (by simp);exact I.step (g':=s.gens) (d':=s.drawn) (ch:=[]) (λ_ z=>nomatch z) (λb o _ hb _ e n=>u.keep b o e n hb (by simp)) (λb o _ hb _ e n=>u.slot b o e n hb (by simp)) (λb o _ e n=>u.free b o e n (by simp)) (λb o _ e=>u.there b o e (by simp)) u.tups u.frzs u.tbls (λm' hm=>by
  obtain⟨o',es',ep',ho',r'⟩:=hm;rw[ho] at ho';cases ho';exact⟨_,es',ep',hL,r'⟩) hok I.bare
theorem Inv.call{g':Array GenState}{t':Nat}{ch:List Addr}(I:Inv X w6 O H s)(u:Un (frs X.stack) ch H H' s.heap h')(hok:HOk X.prog X.w H' h')(hg:AllBare g')
  (hch:∀b∈ch,(b∈X.ex∨X.s₀.heap.objs.size<=b)/\b≠X.env.locals/\(∀x c,X.env.cells.lookup x=some c->c≠b)/\∀p∈X.pn++w6,p.1≠b) :
  Inv X w6 O H' { s with heap:=h',gens:=g',drawn:=d',toks:=t' }:=by
 obtain⟨m,⟨o,es,ep,ho,r⟩,_⟩:=id I.loc;obtain⟨sl,hL⟩:=u.any ho I.free λz=>(hch _ z).2.1 rfl;exact I.step (ch:=ch) hch (λb o hL hb hc e n=>u.keep b o e n (λz=>(AAJ.mp (I.stkSub b z)).elim hL hb) hc) (λb o _ _ hc e n=>u.any e n hc) (λb o hc e n=>u.free b o e n hc) (λb o hc e=>u.there b o e hc) u.tups u.frzs u.tbls (λm' hm=>by
  obtain⟨o',es',ep',ho',r'⟩:=hm;rw[ho] at ho';cases ho';exact⟨_,es',ep',hL,r'⟩) hok hg
theorem Inv.turned{t':Nat}{it:Addr}(I:Inv X w6 O H s)(k:∀b o,b≠it->s.heap.get? b=some o->h'.get? b=some o)(hn:H it=none)(hL:it≠X.env.locals)
  (h1:it∈X.ex∨X.s₀.heap.objs.size<=it) (h2:∀x c,X.env.cells.lookup x=some c->c≠it) (h3:∀p∈X.pn++w6,p.1≠it):Inv X w6 O H { s with heap:=h',toks:=t' }:=by
 have nit:∀b u,H b=some u->b≠it:=λb u e z=>by rw[z,hn] at e;cases e
 refine I.step (g':=s.gens) (d':=s.drawn) (ch:=[it]) (λb hb=>?_) (λb o _ _ hc e _=>k b o (λz=>hc (by simp[z])) e) (λb o _ _ hc e _=>⟨o.slots,k b o (λz=>hc (by simp[z])) e⟩) (λ_ _ _ _ n=>n)
  (λb o hc e=>⟨o,k b o (λz=>hc (by simp[z])) e⟩) (λ_ _ e=>e) (λ_ _ _ e=>e) (λb ps e=>⟨#[],by rw[e];simp⟩) (λm hm=>?_) (λb u e=>?_) I.bare
 ·have e:b=it:=by simpa using hb
  subst e;exact⟨h1,hL,h2,h3⟩
 ·obtain⟨o,es,ep,ho,r⟩:=hm;exact⟨o,es,ep,k _ o (Ne.symm hL) ho,r⟩
 ·refine(I.hok b u e).stay (λc v hc q=>k c v ?_ q) (λ_ q=>q) λ_ _ q=>q;rcases hc with z|z
  ·rw[z];exact nit b u e
  ·exact nit c _ z
theorem Inv.tok(I:Inv X w6 O H s)(t:Nat):Inv X w6 O H { s with toks:=t }:=I.un (h':=s.heap) (t':=t) Un.refl I.hok
theorem Inv.kept(I:Inv X w6 O H s)(k:∀b u,s.heap.get? b=some u->h'.get? b=some u):Inv X w6 O H { s with heap:=h',toks:=t' }:=I.un (Un.kept k) (I.hok.kept k)
theorem Inv.laid(I:Inv X w6 O H s)(k:∀b u,s.heap.get? b=some u->h'.get? b=some u)(hp:s.heap.objs.size<=a)(new:ObjOk X.prog X.w (upd H a o) h' a o):
  Inv X w6 O (upd H a o) { s with heap:=h',toks:=t' }:=I.un (Un.laid k hp (I.hok.fresh hp)) (I.hok.laid k hp new)
theorem Inv.write(I:Inv X w6 O H s)(mu:Mut (H x))(he:e=x∨H e=some (.own x))(k:∀b u,b≠e->s.heap.get? b=some u->h'.get? b=some u)(heo:∃u,h'.get? e=some u)
  (new:ObjOk X.prog X.w (upd H x o) h' x o):Inv X w6 O (upd H x o) { s with heap:=h',toks:=t' }:=I.un (Un.write mu he k heo) (I.hok.write mu he k heo new)
theorem Inv.weak(I:Inv X w6 O H s)(hl:v7.length=O.length)(w:∀(i:Nat) v,v7[i]?=some (some v)->O[i]?=some (some v)):Inv X w6 v7 H s:=
 ⟨I.ok,I.os,I.bare,I.base,let ⟨m,hn,hl'⟩:=I.loc;⟨m,hn,λi x v e1 e2 e3=>hl' i x v e1 (w i v e2) e3⟩,I.cell,I.free,I.freeC,I.pin,I.hok,hl.trans I.len⟩
theorem Inv.pins_of(I:Inv X w6 O H s)(h:∀p∈pins',s.heap.get? p.1=some p.2/\H p.1=none/\p.1≠X.env.locals/\p.1∉X.fs/\∀v,p.2.data≠.cell v):Inv X pins' O H s:=
 ⟨I.ok,I.os,I.bare,I.base,I.loc,I.cell,I.free,I.freeC,λp hp=>(List.mem_append.mp hp).elim (λz=>I.pin p (AAZ _ z)) (h p),I.hok,I.len⟩
theorem Ir{N:List Str}(hN:N.Nodup){i j:Nat}{x:Str}(a:N[i]?=some x)(b:N[j]?=some x):i=j:=by
 obtain⟨h1,e1⟩:=AAT.mp a;obtain⟨h2,e2⟩:=AAT.mp b;exact(List.getElem_inj hN).mp (e1.trans e2.symm)
theorem Jr{M:Model}{A:Around}{E:Value->Shared->Prop}{i:Nat}{x:Str}{u:Value}{Q:Unit->Shared->Prop}(I:Inv X w6 O H s)(hN:X.N.Nodup)(hi:X.N[i]?=some x)(hx:Loc X.env.scope x)(r:RelV v u)
  (h:∀s',Inv X w6 (O.set i (some v)) H s'->(∃a,Heap.SameBut a s.heap s'.heap/\(a=X.env.locals∨X.env.cells.lookup x=some a))->Q () s') (hf:X.fn x=true∨X.env.scope.names.lookup x=some .local:=by first|exact .inl rfl|exact .inr rfl|assumption):wpAny M A (storeName X.env x u) Q E s:=by
 obtain⟨m,hn,hl⟩:=id I.loc;have hcls:(X.env.scope.kind==.class||(X.env.scope.kind==.module&&X.env.locals != X.env.globals))=false:=by rw[I.ok.kind];rfl
 have hiσ:i<O.length:=by rw[I.len];exact(AAT.mp hi).1
 have cne:=I.cne;have tracked:∀{a:Addr} {h':Heap},(∃o,s.heap.get? a=some o/\H a=none)->Heap.SameBut a s.heap h'->HOk X.prog X.w H h':=λ{a h'} ha hs b ob e=>by
  obtain⟨_,_,hfree⟩:=ha;refine(I.hok b ob e).stay (λc w' hc q=>(hs.2 c ?_).trans q) (λ_ q=>q) λ_ _ q=>q;rintro rfl;rcases hc with rfl|hc
  ·rw[hfree] at e;cases e
  ·rw[hfree] at hc;cases hc
 rcases hx with hk|hk
 ·refine wpAny_storeName_local hk hn (λh' hn' hs=>?_) hcls;obtain⟨oL,_,_,hoL,_⟩:=id hn;refine h _ ⟨I.ok,I.os,I.bare,⟨λb o e n hb hx=>?_,λb o e n hb hx=>?_,I.base.free,λb o e hx=>?_,I.base.tups,I.base.frzs,I.base.tbls⟩,⟨_,hn',λj y v' e1 e2 e3=>?_⟩,λy c e=>?_,I.free,I.freeC,λp hp=>?_,tracked ⟨oL,hoL,I.free⟩ hs,by simpa using I.len⟩ ⟨_,hs,.inl rfl⟩
  ·exact(hs.2 b (AAb (AAM (Heap.lt_size e) I.ok.above))).trans (I.base.keep b o e n hb hx)
  ·obtain⟨sl,e1⟩:=I.base.slot b o e n hb hx;exact⟨sl,(hs.2 b (AAb (AAM (Heap.lt_size e) I.ok.above))).trans e1⟩
  ·obtain⟨o',e1⟩:=I.base.there b o e hx;exact⟨o',(hs.2 b (AAb (AAM (Heap.lt_size e) I.ok.above))).trans e1⟩
  ·by_cases hj:j=i
   ·subst hj;rw[hi] at e1;cases e1;rw[List.getElem?_set_self hiσ] at e2;cases e2;exact⟨u,r,.inl ⟨hk,by simp⟩⟩
   ·rw[AAk (Ne.symm hj)] at e2;obtain⟨u',r',q⟩:=hl j y v' e1 e2 e3;refine⟨u',r',?_⟩;rcases q with ⟨k,e⟩|⟨k,c,e,z⟩
    ·refine .inl ⟨k,?_⟩;have:y≠x:=λe=>hj (Ir hN e1 (e ▸ hi));simp[this,e]
    ·exact .inr ⟨k,c,e,z.sameBut hs (cne y c e)⟩
  ·obtain⟨w',z⟩:=I.cell y c e;exact⟨w',z.sameBut hs (cne y c e)⟩
  ·obtain⟨e,n,ne,nf,d⟩:=I.pin p hp;exact⟨(hs.2 p.1 ne).trans e,n,ne,nf,d⟩
 ·have hfn:X.fn x=true:=by
   rcases hf with z|z
   ·exact z
   ·rw[z] at hk;cases hk
  obtain⟨c,hc⟩:=I.ok.has x (.inl hk);obtain⟨w',z⟩:=I.cell x c hc;refine wpAny_storeName_cell I.ok.kind hk hc z (λh' hc' hs=>?_);obtain⟨oc,hoc,hocd⟩:=id z;refine h { s with heap:=h' } ⟨I.ok,I.os,I.bare,⟨λb o e n hb hx=>?_,λb o e n hb hx=>?_,I.base.free,λb o e hx=>?_,I.base.tups,I.base.frzs,I.base.tbls⟩,⟨m,hn.sameBut hs (Ne.symm (cne x c hc)),λj y v' e1 e2 e3=>?_⟩,λy c' e=>?_,I.free,I.freeC,λp hp=>?_,tracked ⟨oc,hoc,I.freeC x c hc⟩ hs,by simpa using I.len⟩ ⟨c,hs,.inr hc⟩
  ·exact(hs.2 b (AAb (AAM (Heap.lt_size e) (I.ok.cab x c hfn hc)))).trans (I.base.keep b o e n hb hx)
  ·obtain⟨sl,e1⟩:=I.base.slot b o e n hb hx;exact⟨sl,(hs.2 b (AAb (AAM (Heap.lt_size e) (I.ok.cab x c hfn hc)))).trans e1⟩
  ·obtain⟨o',e1⟩:=I.base.there b o e hx;exact⟨o',(hs.2 b (AAb (AAM (Heap.lt_size e) (I.ok.cab x c hfn hc)))).trans e1⟩
  ·by_cases hj:j=i
   ·subst hj;rw[hi] at e1;cases e1;rw[List.getElem?_set_self hiσ] at e2;cases e2;exact⟨u,r,.inr ⟨.inl hk,c,hc,hc'⟩⟩
   ·rw[AAk (Ne.symm hj)] at e2;obtain⟨u',r',q⟩:=hl j y v' e1 e2 e3;refine⟨u',r',?_⟩;rcases q with q|⟨k,c',e,z'⟩
    ·exact .inl q
    ·refine .inr ⟨k,c',e,z'.sameBut hs ?_⟩;rintro rfl;exact hj (Ir hN e1 (I.ok.inj _ _ _ e hc ▸ hi))
  ·by_cases hcc:c'=c
   ·subst hcc;exact⟨_,hc'⟩
   ·obtain⟨w2,z2⟩:=I.cell y c' e;exact⟨w2,z2.sameBut hs hcc⟩
  ·obtain⟨e,n,ne,nf,d⟩:=I.pin p hp;refine⟨(hs.2 p.1 ?_).trans e,n,ne,nf,d⟩;intro q;rw[q,hoc] at e;have q':oc=p.2:=Option.some.inj e;exact d w' (by rw[←q'];exact hocd)
theorem Ge(I:Inv X w6 O H s)(hN:X.N.Nodup)(hi:X.N[i]?=some x)(hx:Loc X.env.scope x)(r:RelV v u)
  (h:∀s',Inv X w6 (O.set i (some v)) H s'->Q () s') (hf:X.fn x=true∨X.env.scope.names.lookup x=some .local:=by first|exact .inl rfl|exact .inr rfl|assumption):wpAny M A (storeName X.env x u) Q E s:=
 Jr I hN hi hx r (λs' I' _=>h s' I') hf
theorem Inv.call'(I:Inv X w6 O H s)(ho:s'.os=s.os)(u:Un (frs X.stack) ch H H' s.heap s'.heap)(hok:HOk X.prog X.w H' s'.heap)(hg:AllBare s'.gens)
  (hch:∀b∈ch,(b∈X.ex∨X.s₀.heap.objs.size<=b)/\b≠X.env.locals/\(∀x c,X.env.cells.lookup x=some c->c≠b)/\∀p∈X.pn++w6,p.1≠b):Inv X w6 O H' s':=by
 obtain⟨h',g',d',t',o'⟩:=s';have e:o'=s.os:=ho;subst e;exact I.call (g':=g') (t':=t') (d':=d') u hok hg hch
end
noncomputable abbrev XK:=Value->Option Addr->Hp->Prop
noncomputable abbrev St:=List (Option V)
noncomputable abbrev VK:=V->Hp->Prop
noncomputable abbrev TE:=St->Hp->VK->Prop
noncomputable abbrev TT:=St->Hp->(Bool->Hp->Prop)->Prop
noncomputable abbrev TA:=St->Hp->(List V->Hp->Prop)->Prop
structure LQ where
 nx:St->Hp->Prop
 rt:VK
 bk:St->Hp->Prop:=λ_ _=>False
 ct:St->Hp->Prop:=λ_ _=>False
noncomputable abbrev TS:=LQ->St->Hp->Prop
def EP(X:Cx)(w6:List (Addr×Obj))(O:St)(Q:VK)(u:Value)(s':Shared):Prop:=∃v H',Inv X w6 O H' s'/\RelV v u/\Q v H'
def TP(X:Cx)(w6:List (Addr×Obj))(O:St)(Q:Bool->Hp->Prop)(b:Bool)(s':Shared):Prop:=∃H',Inv X w6 O H' s'/\Q b H'
def AP(X:Cx)(w6:List (Addr×Obj))(O:St)(Q:List V->Hp->Prop)(us:List Value)(s':Shared):Prop:=∃vs H',Inv X w6 O H' s'/\Vals vs us/\Q vs H'
def SP(X:Cx)(w6:List (Addr×Obj))(D:LQ)(f:Flow)(s':Shared):Prop:=
 match f with
 | .next=>∃v7 H',Inv X w6 v7 H' s'/\D.nx v7 H'
 | .brk=>∃v7 H',Inv X w6 v7 H' s'/\D.bk v7 H'
 | .cont=>∃v7 H',Inv X w6 v7 H' s'/\D.ct v7 H'
 | .ret u=>∃v v7 H',Inv X w6 v7 H' s'/\RelV v u/\D.rt v H'
def PE(X:Cx)(e:Expr)(t:TE):Prop:=
 ∀(w6:List (Addr×Obj)) (s:Shared) (O:St) (H:Hp) (Q:VK),Inv X w6 O H s->t O H Q->wpAny (model X.prog X.w) X.A (eval e X.env) (EP X w6 O Q) X.xe s
def PT(X:Cx)(e:Expr)(t:TT):Prop:=
 ∀(w6:List (Addr×Obj)) (s:Shared) (O:St) (H:Hp) (Q:Bool->Hp->Prop),Inv X w6 O H s->t O H Q->wpAny (model X.prog X.w) X.A (isTrue e X.env (eval e X.env)) (TP X w6 O Q) X.xe s
def PW(X:Cx)(e:Expr)(t:TT):Prop:=
 ∀(whole:Sem Value) (w6:List (Addr×Obj)) (s:Shared) (O:St) (H:Hp) (Q:Bool->Hp->Prop),Inv X w6 O H s->t O H Q->wpAny (model X.prog X.w) X.A (isTrue e X.env whole) (TP X w6 O Q) X.xe s
theorem PW.pt(h:PW X e t):PT X e t:=h _
def PA(X:Cx)(es:List Expr)(t:TA):Prop:=
 ∀(pos:Pos) (w6:List (Addr×Obj)) (s:Shared) (O:St) (H:Hp) (Q:List V->Hp->Prop),Inv X w6 O H s->t O H Q->wpAny (model X.prog X.w) X.A (spliced (backTo pos (starEach es X.env))) (AP X w6 O Q) X.xe s
def PS(X:Cx)(st:Stmt)(t:TS):Prop:=
 ∀(w6:List (Addr×Obj)) (s:Shared) (O:St) (H:Hp) (D:LQ),Inv X w6 O H s->t D O H->wpAny (model X.prog X.w) X.A (exec st X.env) (SP X w6 D) X.xe s
def PSs(X:Cx)(st:List Stmt)(t:TS):Prop:=
 ∀(w6:List (Addr×Obj)) (s:Shared) (O:St) (H:Hp) (D:LQ),Inv X w6 O H s->t D O H->wpAny (model X.prog X.w) X.A (execs st X.env) (SP X w6 D) X.xe s
theorem thn(h:wpAny M A t Q E s)(hQ:∀a s,Q a s->Q' a s):wpAny M A t Q' E s:=AAg h hQ λ_ _ x=>x
section
variable{X:Cx}
noncomputable def bJ(i:Nat):TE:=λO H Q=>∃v,O[i]?=some (some v)/\Q v H
noncomputable def tC(v:V):TE:=λ_ H Q=>Q v H
theorem Xp(hN:X.N[i]?=some x)(hv:Vis X.env.scope x)(hd:(x==("__debug__" : Str))=false:=by decide)(hcd:(x==("__classdict__" : Str))=false:=by decide):PE X (.Name x pos) (bJ i):=by
 intro w6 s O H Q I h;obtain⟨v,e,h⟩:=h;obtain⟨m,hn,hl⟩:=I.loc;obtain⟨u,r,l⟩:=hl i x v hN e hv;have fin:EP X w6 O Q u s:=⟨v,H,I,r,h⟩;rcases l with ⟨hk,hm⟩|⟨hk,c,hc,hcell⟩
 ·exact wpAny_Name (wpAny_loadName_local I.ok.kind hk hn hm fin) hd
 ·rcases hk with hk|hk
  ·exact wpAny_Name (wpAny_loadName_cell I.ok.kind hk hc hcell fin) hd
  ·exact wpAny_Name (wpAny_loadName_free I.ok.kind hk hc hcell fin hcd) hd
theorem SB:PE X (.Constant (.int i) j pos) (tC (.int i)):=λ_ _ _ H _ I h=>wpAny_Constant_int ⟨.int i,H,I.tok _,⟨_,rfl⟩,h⟩
theorem Z7:PE X (.Constant (.bool b) j pos) (tC (.bl b)):=λ_ _ _ H _ I h=>Constant_bool ⟨.bl b,H,I,rfl,h⟩
theorem Xs:PE X (.Constant .none j pos) (tC .non):=λ_ _ _ H _ I h=>Constant_none ⟨.non,H,I,rfl,h⟩
theorem R8:PE X (.Constant (.str x) j pos) (tC (.str x)):=λ_ _ _ H _ I h=>Calls.Constant_str ⟨.str x,H,I.tok _,⟨_,rfl⟩,h⟩
def Gl(X:Cx)(x:Str):Prop:=X.env.kindOf x=some .globalImplicit
theorem EF(I:Inv X w6 O H s)(hg:Gl X x)(hm:X.mg x=some u)(h:Q u s)
  (hd:(x==("__debug__" : Str))=false:=by decide):wpAny (model X.prog X.w) X.A (eval (.Name x pos) X.env) Q E s:=
 Calls.Name_function_global I.ok.kind hg (Calls.loadGlobal_global (by rw[I.ok.glob];exact I.mod.glob.keeps I.bk) hm h) hd
theorem GU(I:Inv X w6 O H s)(hg:Gl X x)(hm:X.mg x=none)(hv:bootBuiltins x=some u)(h:Q u s)
  (hn:x ≠ "__name__" := by decide) (hd:(x==("__debug__" : Str))=false:=by decide):wpAny (model X.prog X.w) X.A (eval (.Name x pos) X.env) Q E s:=by
 obtain⟨mb,h1,h2⟩:=I.mod.blt;exact Calls.Name_function_global I.ok.kind hg (Calls.loadGlobal_builtin (by rw[I.ok.glob];exact I.mod.glob.keeps I.bk) hm (by rw[I.ok.blt];exact h1.keeps I.bk) ((h2 x hn).trans hv) h) hd
theorem F4(hg:Gl X x)(hm:X.mg x=some u)(r:RelV v u)(hd:(x==("__debug__" : Str))=false:=by decide):PE X (.Name x pos) (tC v):=
 λ_ _ _ H _ I h=>EF I hg hm ⟨v,H,I,r,h⟩ hd
theorem Uv(hg:Gl X x)(hm:X.mg x=none)(hv:bootBuiltins x=some u)(r:RelV v u)(hn:x ≠ "__name__" := by decide)(hd:(x==("__debug__" : Str))=false:=by decide):PE X (.Name x pos) (tC v):=
 λ_ _ _ H _ I h=>GU I hg hm hv ⟨v,H,I,r,h⟩ hn hd
variable{a b:Expr}{ta tb:TE}{pos:Pos}
def PC(X:Cx)(op:CmpOp)(a b:Expr)(t:TE):Prop:=
 ∀(w6:List (Addr×Obj)) (s:Shared) (O:St) (H:Hp) (Q:VK),Inv X w6 O H s->t O H Q->
  wpAny (model X.prog X.w) X.A (eval a X.env) (λv s₁=>wpAny (model X.prog X.w) X.A (eval b X.env) (λu s₂=>wpAny (model X.prog X.w) X.A (compareOp op v u) (EP X w6 O Q) X.xe s₂) X.xe s₁) X.xe s
noncomputable def tB(t:TE):TT:=λO H Q=>t O H λx H1=>∃c,x=.bl c/\Q c H1
theorem SH(h:PC X op a b t)(h1:behindInMarks op b=false:=by first|exact nobehind _ (by decide) (by decide)|rfl):PE X (.Compare a [op] [b] pos) t:=λw6 s O H Q I hw=>wpAny_Compare1 (h w6 s O H Q I hw) h1
theorem Xg(h:PC X op a b t)(h1:behindInMarks op b=false:=by first|exact nobehind _ (by decide) (by decide)|rfl):PT X (.Compare a [op] [b] pos) (tB t):=by
 intro w6 s O H Q I hw;refine wpAny_isTrue_Compare1 (thn (h w6 s O H _ I hw) λv s1 h1=>thn h1 λu s2 h2=>thn h2 λc s3 ⟨x,H1,I1,r1,q1⟩=>?_) h1;obtain⟨d,rfl,q⟩:=q1;cases r1;exact wpAny_truthy_bool ⟨H1,I1,q⟩
theorem Xe(h:PE X e t)(he:∀whole,isTrue e X.env whole=(do let v ←whole;standAt e.pos;holding [v] (truthy v)):=by intro _;rfl):PT X e (tB t):=by
 intro w6 s O H Q I hw;refine isTrue_plain (thn (h w6 s O H _ I hw) λv s1 ⟨x,H1,I1,r1,q1⟩=>?_) (he _);obtain⟨d,rfl,q⟩:=q1;cases r1;exact wpAny_truthy_bool ⟨H1,I1,q⟩
variable{tA tB':TT}{rest:List Expr}
noncomputable def tOr(t u:TT):TT:=λO H Q=>t O H λc H1=>if c=true then Q true H1 else u O H1 Q
noncomputable def bO(t:TT):TT:=λO H Q=>t O H λc H1=>Q (!c) H1
theorem XZ(ha:PT X a tA):PW X (.BoolOp .Or [a] pos) tA:=by
 intro wh w6 s O H Q I h;refine isTrue_or (thn (ha w6 s O H Q I h) λc s1 e=>?_);cases c with
 |false=>exact isTrue_or_nil e
 |true=>exact e
theorem Zy(ha:PT X a tA)(hb:PW X (.BoolOp .Or (b::rest) pos) tB'):PW X (.BoolOp .Or (a::b::rest) pos) (tOr tA tB'):=by
 intro wh w6 s O H Q I h;refine isTrue_or (thn (ha w6 s O H _ I h) λc s1 ⟨H1,I1,q1⟩=>?_);cases c with
 |true=>exact⟨H1,I1,q1⟩
 |false=>exact hb wh w6 s1 O H1 Q I1 q1
theorem Xf(ha:PT X a tA):PT X (.UnaryOp .Not a pos) (bO tA):=by
 intro w6 s O H Q I h;exact isTrue_not (ha w6 s O H (λc H1=>Q (!c) H1) I h)
noncomputable def Ze(ta tb:TE):TE:=λO H Q=>ta O H λx H1=>∃c,x=.bl c/\if c=true then tb O H1 Q else Q (.bl false) H1
noncomputable def bN(ta tb:TE):TE:=λO H Q=>ta O H λx H1=>∃c,x=.bl c/\if c=true then Q (.bl true) H1 else tb O H1 Q
noncomputable def ZP(ta:TE):TE:=λO H Q=>ta O H λx H1=>∃c,x=.bl c/\Q (.bl (!c)) H1
theorem Xq(h:PE X a t):PE X (.BoolOp op [a] pos) t:=λw6 s O H Q I hw=>BoolOp_one (h w6 s O H Q I hw)
theorem Xw(ha:PE X a ta)(hb:PE X (.BoolOp .And (b::rest) pos) tb):PE X (.BoolOp .And (a::b::rest) pos) (Ze ta tb):=by
 intro w6 s O H Q I h;refine BoolOp_and (thn (ha w6 s O H _ I h) λv s1 ⟨x,H1,I1,r1,q1⟩=>?_);obtain⟨c,rfl,q1⟩:=q1;cases r1;refine wpAny_truthy_bool ?_;cases c with
 |true=>exact hb w6 s1 O H1 Q I1 q1
 |false=>exact⟨.bl false,H1,I1,rfl,q1⟩
theorem Z4(ha:PE X a ta)(hb:PE X (.BoolOp .Or (b::rest) pos) tb):PE X (.BoolOp .Or (a::b::rest) pos) (bN ta tb):=by
 intro w6 s O H Q I h;refine BoolOp_or (thn (ha w6 s O H _ I h) λv s1 ⟨x,H1,I1,r1,q1⟩=>?_);obtain⟨c,rfl,q1⟩:=q1;cases r1;refine wpAny_truthy_bool ?_;cases c with
 |false=>exact hb w6 s1 O H1 Q I1 q1
 |true=>exact⟨.bl true,H1,I1,rfl,q1⟩
theorem Xr(ha:PE X a ta):PE X (.UnaryOp .Not a pos) (ZP ta):=by
 intro w6 s O H Q I h;refine UnaryOp_ (thn (ha w6 s O H _ I h) λv s1 ⟨x,H1,I1,r1,q1⟩=>?_);obtain⟨c,rfl,q1⟩:=q1;cases r1;exact not_of (wpAny_truthy_bool ⟨.bl (!c),H1,I1,rfl,q1⟩)
noncomputable def tIf(t:TT)(ta tb:TE):TE:=λO H Q=>t O H λc H1=>if c=true then ta O H1 Q else tb O H1 Q
theorem SC(hc:PT X c tA)(ha:PE X a ta)(hb:PE X b tb):PE X (.IfExp c a b pos) (tIf tA ta tb):=by
 intro w6 s O H Q I h;refine wpAny_IfExp (thn (hc w6 s O H _ I h) λd s1 ⟨H1,I1,q1⟩=>?_);cases d with
 |true=>exact ha w6 s1 O H1 Q I1 q1
 |false=>exact hb w6 s1 O H1 Q I1 q1
end
def SqL(K:PySem.W.Frag)(H:Hp)(a:Addr)(xs:List V):Prop:=
 Rd H a (.lst xs) ∨
  ∃(o:Obj) (its:Array Value) (n:Nat),K.lookup a=some o/\o.cls=.type "list" /\ o.dict=none/\o.data=.seq its n/\its.size<=sizeLine/\Vals xs its.toList
def SqT(K:PySem.W.Frag)(H:Hp)(a:Addr)(xs:List V):Prop:=
 Rd H a (.tup xs) ∨
  ∃(o:Obj) (its:Array Value) (n:Nat),K.lookup a=some o/\o.cls=.type "tuple" /\ o.data=.seq its n/\its.size<=sizeLine/\Vals xs its.toList
noncomputable def cV:Value->Option V
 | .none=>some .non
 | .bool b=>some (.bl b)
 | .int i _=>some (.int i)
 | .str x _=>some (.str x)
 | .bytes b _=>some (.byt b)
 | .float b _=>some (.flt b)
 | .ref a=>some (.ref a)
 | .type n=>some (.ty n)
 |_=>none
theorem RelV.abs(r:RelV x u):cV u=some x:=by
 cases x with
 |non=>cases r;rfl
 |bl _=>cases r;rfl
 |int _=>obtain⟨t,rfl⟩:=r;rfl
 |str _=>obtain⟨t,rfl⟩:=r;rfl
 |byt _=>obtain⟨t,rfl⟩:=r;rfl
 |flt _=>obtain⟨t,rfl⟩:=r;rfl
 |ref _=>cases r;rfl
 |ty _=>cases r;rfl
theorem RelV.inj(r:RelV x u)(q:RelV y u):x=y:=Option.some.inj (r.abs.symm.trans q.abs)
theorem Vals.inj:∀{xs ys:List V} {us:List Value},Vals xs us->Vals ys us->xs=ys
 |_,_,_,.nil,.nil=>rfl
 |_,_,_,.cons r t,.cons r' t'=>by rw[r.inj r',Vals.inj t t']
section
variable{X:Cx}{w6:List (Addr×Obj)}{O:St}{H:Hp}{s:Shared}{a:Addr}{xs ys:List V}
theorem SqL.of{K:PySem.W.Frag}(h:H a=some (.lst xs)):SqL K H a xs:=.inl (.inl h)
theorem SqT.of{K:PySem.W.Frag}(h:H a=some (.tup xs)):SqT K H a xs:=.inl (.inl h)
theorem Inv.list(I:Inv X w6 O H s)(h:SqL X.K H a xs):∃its:List Value,Vals xs its/\PlainL s.heap a its.toArray/\xs.length<=sizeLine:=by
 rcases h with h|⟨o,its,n,hk,hc,hd,hs,hz,r⟩
 ·obtain⟨z,its,n,r,e⟩:=h.ok I.hok;exact⟨its,r,⟨_,n,e,rfl,rfl,rfl⟩,z⟩
 ·refine⟨its.toList,r,⟨o,n,I.kIn a o hk,hc,hd,by simpa using hs⟩,?_⟩;have e:=r.length;simp only[Array.length_toList] at e;omega
theorem Inv.tuple(I:Inv X w6 O H s)(h:SqT X.K H a xs):∃its:List Value,Vals xs its/\IsTup s.heap a its.toArray/\xs.length<=sizeLine:=by
 rcases h with h|⟨o,its,n,hk,hc,hs,hz,r⟩
 ·obtain⟨z,its,r,p⟩:=h.ok I.hok;exact⟨its,r,p,z⟩
 ·refine⟨its.toList,r,⟨o,I.kIn a o hk,hc,n,by simpa using hs⟩,?_⟩;have e:=r.length;simp only[Array.length_toList] at e;omega
theorem Inv.list_inj(I:Inv X w6 O H s)(h:SqL X.K H a xs)(h':SqL X.K H a ys):xs=ys:=by
 obtain⟨its,r,⟨o,n,e,_,_,d⟩,_⟩:=I.list h;obtain⟨its',r',⟨o',n',e',_,_,d'⟩,_⟩:=I.list h';rw[e] at e';cases e';rw[d] at d';injection d' with d1 _
 have:its=its':=by simpa using congrArg Array.toList d1
 subst this;exact r.inj r'
theorem Inv.tuple_inj(I:Inv X w6 O H s)(h:SqT X.K H a xs)(h':SqT X.K H a ys):xs=ys:=by
 obtain⟨its,r,⟨o,e,_,n,d⟩,_⟩:=I.tuple h;obtain⟨its',r',⟨o',e',_,n',d'⟩,_⟩:=I.tuple h';rw[e] at e';cases e';rw[d] at d';injection d' with d1 _
 have:its=its':=by simpa using congrArg Array.toList d1
 subst this;exact r.inj r'
end
noncomputable abbrev Cx.wish(X:Cx)(E:Value->Shared->Prop):Cx:={ X with xe:=E }
noncomputable abbrev Cx.nox(X:Cx):Cx:=X.wish λ_ _=>False
theorem Cx.Ok.wish{X:Cx}(ok:X.Ok)(E:Value->Shared->Prop):(X.wish E).Ok:=
 ⟨ok.mod,ok.kind,ok.glob,ok.blt,ok.above,ok.inj,ok.has,ok.cab,ok.hd,ok.frames,ok.stk,ok.exf,ok.bs,ok.bsz,ok.noex,ok.exfs,ok.funs,ok.frf⟩
theorem Cx.Ok.unwish{X:Cx}(ok:(X.wish E).Ok):X.Ok:=
 ⟨ok.mod,ok.kind,ok.glob,ok.blt,ok.above,ok.inj,ok.has,ok.cab,ok.hd,ok.frames,ok.stk,ok.exf,ok.bs,ok.bsz,ok.noex,ok.exfs,ok.funs,ok.frf⟩
section
variable{X:Cx}{w6:List (Addr×Obj)}{O:St}{H:Hp}{s:Shared}{E:Value->Shared->Prop}
theorem Inv.wish(I:Inv X w6 O H s)(E:Value->Shared->Prop):Inv (X.wish E) w6 O H s:=⟨I.ok.wish E,I.os,I.bare,I.base,I.loc,I.cell,I.free,I.freeC,I.pin,I.hok,I.len⟩
theorem Inv.unwish(I:Inv (X.wish E) w6 O H s):Inv X w6 O H s:=⟨I.ok.unwish,I.os,I.bare,I.base,I.loc,I.cell,I.free,I.freeC,I.pin,I.hok,I.len⟩
theorem SP.unwish(h:SP (X.wish E) w6 D f s'):SP X w6 D f s':=by
 cases f with
 |next=>obtain⟨v7,H',I,q⟩:=h;exact⟨v7,H',I.unwish,q⟩
 |brk=>obtain⟨v7,H',I,q⟩:=h;exact⟨v7,H',I.unwish,q⟩
 |cont=>obtain⟨v7,H',I,q⟩:=h;exact⟨v7,H',I.unwish,q⟩
 |ret u=>obtain⟨v,v7,H',I,r,q⟩:=h;exact⟨v,v7,H',I.unwish,r,q⟩
theorem PSs.nox{st:List Stmt}(h:PSs X.nox st t):PSs X st t:=λw6 s O H D I hw=>
 AAg (h w6 s O H D (I.wish _) hw) (λ_ _ q=>q.unwish) λ_ _ z=>False.elim z
end
section
variable{X:Cx}{st:Stmt}{rest:List Stmt}{t u:TS}{e:Expr}{te:TE}{pos:Pos}
noncomputable def ZR:TS:=λD O H=>D.nx O H
noncomputable def bL(t u:TS):TS:=λD O H=>t { D with nx:=u D } O H
theorem Ug:PSs X [] ZR:=λ_ _ O H _ I h=>wpAny_execs_nil ⟨O,H,I,h⟩
theorem Rs(h1:PS X st t)(h2:PSs X rest u):PSs X (st::rest) (bL t u):=by
 intro w6 s O H D I h;refine wpAny_execs_cons (thn (h1 w6 s O H { D with nx:=u D } I h) λf s1 q=>?_);cases f with
 |next=>
  obtain⟨v7,H',I',q⟩:=q;exact h2 w6 s1 v7 H' D I' q
 |ret v=>exact q
 |brk=>exact q
 |cont=>exact q
theorem Uf(h1:PS X st t):PSs X [st] t:=by
 intro w6 s O H D I h;refine wpAny_execs_cons (thn (h1 w6 s O H D I h) λf s1 q=>?_);cases f with
 |next=>exact wpAny_execs_nil q
 |ret v=>exact q
 |brk=>exact q
 |cont=>exact q
noncomputable def Zb:TS:=λD O H=>D.ct O H
theorem Ly:PS X (.Continue pos) Zb:=λ_ _ O H _ I h=>wpAny_Continue ⟨O,H,I,h⟩
theorem Inv.quiet(I:Inv X w6 O H s):interactive X.env=false:=by simp[interactive,I.ok.kind]
noncomputable def ZX(te:TE):TS:=λD O H=>te O H λ_ H1=>D.nx O H1
theorem Uh(he:PE X e te)(hs:swapsWith e none pos.line X.env=pure false:=by rfl):PS X (.Expr e pos) (ZX te):=by
 intro w6 s O H D I h;exact wpAny_Expr_any (thn (he w6 s O H _ I h) λv s1 ⟨x,H1,I1,r1,q1⟩=>⟨O,H1,I1,q1⟩) I.quiet hs
noncomputable def bM(te:TE):TS:=λD O H=>te O H D.rt
theorem Xi(he:PE X e te):PS X (.Return (some e) pos) (bM te):=by
 intro w6 s O H D I h;exact wpAny_Return_some (thn (he w6 s O H _ I h) λv s1 ⟨x,H1,I1,r1,q1⟩=>⟨x,O,H1,I1,r1,q1⟩)
noncomputable def bQ(c:TT)(t u:TS):TS:=λD O H=>c O H λb H1=>if b=true then t D O H1 else u D O H1
theorem Z1(hc:PT X c tc)(ha:PSs X a t)(hb:PSs X b u):PS X (.If c a b pos) (bQ tc t u):=by
 intro w6 s O H D I h;refine wpAny_If (thn (hc w6 s O H _ I h) λd s1 ⟨H1,I1,q1⟩=>?_);cases d with
 |true=>exact ha w6 s1 O H1 D I1 q1
 |false=>exact hb w6 s1 O H1 D I1 q1
end
noncomputable abbrev TG:=V->St->Hp->(St->Hp->Prop)->Prop
noncomputable abbrev TGs:=List V->St->Hp->(St->Hp->Prop)->Prop
def PG(X:Cx)(target:Expr)(t:TG):Prop:=
 ∀(w6:List (Addr×Obj)) (s:Shared) (O:St) (H:Hp) (v:V) (u:Value) (Q:St->Hp->Prop),Inv X w6 O H s->RelV v u->t v O H Q->
  wpAny (model X.prog X.w) X.A (assign target X.env u) (λ_ s'=>∃v7 H',Inv X w6 v7 H' s'/\Q v7 H') X.xe s
def PGs(X:Cx)(ts:List Expr)(t:TGs):Prop:=
 ∀(w6:List (Addr×Obj)) (s:Shared) (O:St) (H:Hp) (vs:List V) (us:List Value) (Q:St->Hp->Prop),Inv X w6 O H s->Vals vs us->t vs O H Q->
  wpAny (model X.prog X.w) X.A (assignInOrder ((assignEach ts X.env).map (·.2)) us) (λ_ s'=>∃v7 H',Inv X w6 v7 H' s'/\Q v7 H') X.xe s
noncomputable abbrev bB:=V->V->V->Hp->(Hp->Prop)->Prop
def bE(X:Cx)(t:bB):Prop:=
 ∀(w6:List (Addr×Obj)) (s:Shared) (O:St) (H:Hp) (o i v:V) (ov iv u:Value) (Q:Hp->Prop),Inv X w6 O H s->RelV o ov->RelV i iv->RelV v u->t o i v H Q->
  wpAny (model X.prog X.w) X.A (setItem ov iv u) (λ_ s'=>∃H',Inv X w6 O H' s'/\Q H') X.xe s
section
variable{X:Cx}{pos:Pos}
noncomputable def Ho(i:Nat):TG:=λv O H Q=>Q (O.set i (some v)) H
theorem AV(hN:X.N.Nodup)(hi:X.N[i]?=some x)(hx:Loc X.env.scope x)(hf:X.fn x=true∨X.env.scope.names.lookup x=some .local:=by first|exact .inl rfl|exact .inr rfl|assumption):PG X (.Name x pos) (Ho i):=by
 intro w6 s O H v u Q I r h;exact wpAny_assign_Name (Ge I hN hi hx r (λs' I'=>⟨_,H,I',h⟩) hf)
noncomputable def ac:TGs:=λvs O H Q=>vs=[]/\Q O H
noncomputable def Wd(t:TG)(u:TGs):TGs:=λvs O H Q=>∃v r,vs=v::r/\t v O H λv7 H'=>u r v7 H' Q
theorem Cc:PGs X [] ac:=by
 intro w6 s O H vs us Q I r h;obtain⟨e,h⟩:=h;subst e;cases r;exact assignInOrder_nil ⟨O,H,I,h⟩
theorem Ag(h1:PG X e t)(h2:PGs X es u)
  (hs:(assignEach (e::es) X.env).map (·.2)=assign e X.env::(assignEach es X.env).map (·.2):=by rfl):PGs X (e::es) (Wd t u):=by
 intro w6 s O H vs us Q I r h;obtain⟨v,vr,e1,h⟩:=h;subst e1;cases r with
 |cons r rr=>
  rw[hs];refine assignInOrder_cons (thn (h1 w6 s O H _ _ _ I r h) λ_ s1 ⟨j8,H1,I1,q1⟩=>?_);exact h2 w6 s1 j8 H1 _ _ Q I1 rr q1
noncomputable def Ve(K:PySem.W.Frag)(n:Nat)(t:TGs):TG:=λv O H Q=>∃a xs,v=.ref a/\SqT K H a xs/\xs.length=n/\t xs O H Q
theorem NG(hc:X.calm=true)(h:PGs X es t)
  (hn:(assignEach es X.env).length=n:=by rfl) (hst:(assignEach es X.env).findIdx? (·.1)=none:=by rfl):PG X (.Tuple es k pos) (Ve X.K n t):=by
 intro w6 s O H v u Q I r hw;obtain⟨a,xs,e1,hq,hl,hw⟩:=hw;subst e1;cases r;obtain⟨its,rv,ht,hz⟩:=I.tuple hq;refine assign_Tuple_tuple (I.ok.hd hc) ht (by simp[hn,←hl,rv.length]) hst λh' hx=>?_;have I1:Inv X w6 O H { s with heap:=h' }:=I.kept (t':=s.toks) λb o e=>hx b o (AAb (Heap.lt_size e)) e;exact h w6 _ O H xs _ Q I1 (by simpa using rv) hw
noncomputable def cK(to ti:TE)(t:bB):TG:=λv O H Q=>to O H λo H1=>ti O H1 λi H2=>t o i v H2 λH3=>Q O H3
theorem Xo(ho:PE X o to)(hi:PE X i ti)(hs:bE X t)
  (ha:∀v,assign (.Subscript o i pos) X.env v=(do
   let ov ←holding [v] (eval o X.env)
   let iv ←holding [v,ov] (eval i X.env)
   standAt pos
   holding [v,ov,iv] (setItem ov iv v)
   release [v,ov,iv] []):=by intro _;rfl):PG X (.Subscript o i pos) (cK to ti t):=by
 intro w6 s O H v u Q I r h;rw[ha];refine AAA (AAl (thn (ho w6 s O H _ I h) λov s1 ⟨x,H1,I1,r1,q1⟩=>?_));refine AAA (AAl (thn (hi w6 s1 O H1 _ I1 q1) λiv s2 ⟨y,H2,I2,r2,q2⟩=>?_));refine AAA (wpAny_standAt (AAA (AAl (thn (hs w6 s2 O H2 x y v ov iv u _ I2 r1 r2 r q2) λ_ s3 ⟨H3,I3,q3⟩=>?_))));exact wpAny_release ⟨O,H3,I3,q3⟩
noncomputable def UA(te:TE)(g:TG):TS:=λD O H=>te O H λx H1=>g x O H1 D.nx
theorem Xk(he:PE X e te)(hg:PG X tg g)(hs:swapsWithSole [tg] e pos.line X.env=pure false:=by rfl)(hw:swappedStores [tg] e X.env=pure none:=by rfl)
  (h1:(assignEach [tg] X.env).map (·.2)=[assign tg X.env]:=by rfl):PS X (.Assign [tg] e pos) (UA te g):=by
 intro w6 s O H D I h;refine wpAny_Assign_stores (thn (he w6 s O H _ I h) λv s1 ⟨x,H1,I1,r1,q1⟩=>?_) hs hw;rw[h1];exact thn (hg w6 s1 O H1 x v _ I1 r1 q1) λ_ s2 q=>q
theorem Xh(hN:X.N.Nodup)(hi:X.N[i]?=some x)(hx:Loc X.env.scope x)(he:PE X e te)(hs:swapsWith e (some (.Name x pos')) pos.line X.env=pure false:=by rfl)(hf:X.fn x=true∨X.env.scope.names.lookup x=some .local:=by first|exact .inl rfl|exact .inr rfl|assumption):
  PS X (.Assign [.Name x pos'] e pos) (UA te (Ho i)):=by
 intro w6 s O H D I h;refine wpAny_Assign_Name (thn (he w6 s O H _ I h) λv s1 ⟨y,H1,I1,r1,q1⟩=>?_) hs;exact Ge I1 hN hi hx r1 (λs2 I2=>⟨_,H1,I2,q1⟩) hf
end
section
variable{X:Cx}{pos:Pos}
noncomputable def W7(c:TT)(tb:TS):TS:=λD O H=>∃W:Nat->St->Hp->Prop,(∃m,W m O H)/\∀m O H,W m O H->
 c O H λb H1=>if b=true then ∃N:St->Hp->Prop,(∀v7 H',N v7 H'->∃m',m'<m/\W m' v7 H')/\tb { D with nx:=N,ct:=N,bk:=D.nx } O H1 else D.nx O H1
theorem Rt(hp:PassesOwn (model X.prog X.w) X.A X.env X.xe)(hc:PT X c tc)(hb:PSs X body tb):PS X (.While c body [] pos) (W7 tc tb):=by
 intro w6 s O H D I h;obtain⟨W,⟨m0,w0⟩,turn⟩:=h;refine wpAny_While (codeAny_whileLoop (λn s'=>∃v7 H',Inv X w6 v7 H' s'/\W n v7 H') ?_ m0 ⟨O,H,I,w0⟩);rintro n s1 ⟨j8,H1,I1,w1⟩;refine wpAny_passesOwn hp (thn (hc w6 s1 j8 H1 _ I1 (turn n j8 H1 w1)) λb s2 ⟨H2,I2,q2⟩=>?_);cases b with
 |true=>
  obtain⟨N,hN,q2⟩:=q2;rw[if_pos rfl];refine wpAny_passesOwn hp (thn (hb w6 s2 j8 H2 _ I2 q2) λf s3 q3=>?_);cases f with
  |next=>
   obtain⟨m5,H3,I3,n3⟩:=q3;obtain⟨m',hm,w3⟩:=hN m5 H3 n3;exact⟨m',hm,m5,H3,I3,w3⟩
  |cont=>
   obtain⟨m5,H3,I3,n3⟩:=q3;obtain⟨m',hm,w3⟩:=hN m5 H3 n3;exact⟨m',hm,m5,H3,I3,w3⟩
  |brk=>exact q3
  |ret v=>exact q3
 |false=>
  rw[if_neg AAd];exact wpAny_execs_nil ⟨j8,H2,I2,q2⟩
end
set_option genInjectivity false in
structure It where
 go:Nat->Hp->Prop
 yld:Nat->Hp->V->Hp->Prop
 stop:Nat->Hp->Prop
def Fy(X:Cx)(w6:List (Addr×Obj))(H:Hp)(b:Addr):Prop:=
 H b=none/\b≠X.env.locals/\b∉X.fs/\(b∈X.ex∨X.s₀.heap.objs.size<=b)/\(∀x c,X.env.cells.lookup x=some c->c≠b)/\∀p∈X.pn++w6,p.1≠b
theorem Inv.fpOk(I:Inv X w6 O H s)(hb:s.heap.objs.size<=b)(hn:H' b=none):Fy X w6 H' b:=by
 refine⟨hn,Nat.ne_of_gt (AAM I.lt hb),I.nofs hb,.inr (AAp I.sz hb),λx c e z=>?_,λp hp z=>?_⟩
 ·obtain⟨v,q⟩:=I.cell x c e;exact absurd (AAM q.lt (by rw[z];exact hb)) (AAv _)
 ·exact absurd (AAM (Heap.lt_size (I.pin p hp).1) (by rw[z];exact hb)) (AAv _)
structure Jl(P:Program)(w:World)(K:PySem.W.Frag)(tg:Expr)(J:It)(fp:List Addr)(it:Addr)(tn:Nat->Heap->Prop):Prop where
 mem:it∈fp
 obj:∀i h,tn i h->∀b∈fp,∃o,h.get? b=some o/\∀v,o.data≠.cell v
 keep:∀i h h',tn i h->(∀b∈fp,∀o,h.get? b=some o->h'.get? b=some o)->tn i h'
 item:∀(X:Cx),X.prog=P->X.w=w->X.K=K->X.calm=true->∀(i:Nat) (w6:List (Addr×Obj)) (s:Shared) (O:St) (H:Hp) (E:Value->Shared->Prop),Inv X w6 O H s->(∀b∈fp,Fy X w6 H b)->tn i s.heap->J.go i H->
  wpAny (model P w) X.A (pyNext (.ref it)) (λr s1=>∃u,r=some u /\
   wpAny (model P w) X.A (letOwnedTupleGo tg (.ref it) u) (λ_ s2=>∃x H',Inv X w6 O H' s2/\RelV x u/\J.yld i H x H'/\tn (i+1) s2.heap/\∀b∈fp,H' b=none) E s1) E s
 done:∀(X:Cx),X.prog=P->X.w=w->X.K=K->X.calm=true->∀(i:Nat) (w6:List (Addr×Obj)) (s:Shared) (O:St) (H:Hp) (E:Value->Shared->Prop),Inv X w6 O H s->(∀b∈fp,Fy X w6 H b)->tn i s.heap->J.stop i H->
  wpAny (model P w) X.A (pyNext (.ref it)) (λr s1=>r=none/\Inv X w6 O H s1) E s
 self:∀(A:Around) (i:Nat) (s:Shared) (Q:Value->Shared->Prop) (E:Value->Shared->Prop),tn i s.heap->Q (.ref it) s->wpAny (model P w) A (pyIter (.ref it)) Q E s
noncomputable abbrev TI:=St->Hp->(It->Hp->Prop)->Prop
def PIE(X:Cx)(w6:List (Addr×Obj))(O:St)(tg:Expr)(R:It->Hp->Prop)(itv:Value)(s2:Shared):Prop:=
 ∃(it:Addr) (fp:List Addr) (tn:Nat->Heap->Prop) (J:It) (H':Hp),itv=.ref it/\Inv X w6 O H' s2/\Jl X.prog X.w X.K tg J fp it tn/\tn 0 s2.heap/\(∀b∈fp,Fy X w6 H' b)/\R J H'
def PI(X:Cx)(tg iter:Expr)(wi:TI):Prop:=
 ∀(w6:List (Addr×Obj)) (s:Shared) (O:St) (H:Hp) (R:It->Hp->Prop),Inv X w6 O H s->wi O H R->
  wpAny (model X.prog X.w) X.A (eval iter X.env) (λv s1=>wpAny (model X.prog X.w) X.A (pyIter v) (PIE X w6 O tg R) X.xe s1) X.xe s
theorem Sx(ho:s.heap.get? it=some o)(hc:o.cls=.type n)(hd:o.data=.fields vs)
  (hn:["enumerate", "zip", "dict_itemiterator", "dict_reverseitemiterator", "odict_iterator", "itertools.zip_longest", "itertools.pairwise"].contains n=false) (hQ:Q () s):wpAny M A (letOwnedTupleGo tg (.ref it) u) Q E s:=by
 unfold letOwnedTupleGo;cases tg<;>first
  |exact AAB hQ
  |(cases u<;>first
    |exact AAB hQ
    |(refine AAA (wpAny_load ho ?_);rw[hc,hd];show wpAny M A (if (["enumerate", "zip", "dict_itemiterator", "dict_reverseitemiterator", "odict_iterator", "itertools.zip_longest", "itertools.pairwise"].contains n&&vs[0]?==some (rawInt _))=true then _ else _) Q E s;rw[if_neg (by intro h;rw[hn,Bool.false_and] at h;cases h)];exact AAB hQ))
noncomputable def Itl(K:PySem.W.Frag)(a:Addr):It:=
 ⟨λi H=>∃xs x,SqL K H a xs/\xs[i]?=some x,λi H x H'=>H'=H/\∀xs,SqL K H a xs->xs[i]?=some x,λi H=>∃xs,SqL K H a xs/\xs.length<=i⟩
noncomputable def Itt(K:PySem.W.Frag)(a:Addr):It:=
 ⟨λi H=>∃xs x,SqT K H a xs/\xs[i]?=some x,λi H x H'=>H'=H/\∀xs,SqT K H a xs->xs[i]?=some x,λi H=>∃xs,SqT K H a xs/\xs.length<=i⟩
noncomputable def Itr(lo:Int)(n:Nat):It:=⟨λi _=>i<n,λi H x H'=>H'=H/\x=.int (lo+i),λi _=>n<=i⟩
theorem PN{P:Program}{w:World}{K:PySem.W.Frag}{tg:Expr}(a it:Addr):Jl P w K tg (Itl K a) [it] it (λi h=>h.IsListIter it a i) where
 mem:=by simp
 obj:=λi h st b hb=>by
  have e:b=it:=by simpa using hb
  subst e;obtain⟨o,e,c,d⟩:=st;exact⟨o,e,λv z=>by rw[d] at z;cases z⟩
 keep:=λi h h' st k=>st.at λo e=>k it (by simp) o e
 item:=by
  intro X hP hw hK hc i w6 s O H E I hf st hg;subst hP hw hK;obtain⟨xs,x,hq,hx⟩:=hg;obtain⟨its,rv,p,hz⟩:=I.list hq;obtain⟨u,hu,ru⟩:=rv.get hx;obtain⟨f0,f1,f2,f3,f4,f5⟩:=hf it (by simp);refine wpAny_pyNext_list_item st p.isList (x:=u) (by simpa using hu) λh' st' sb=>?_;have I1:Inv X w6 O H { s with heap:=h' }:=I.turned (t':=s.toks) (λb o hb e=>(sb.2 b hb).trans e) f0 f1 f3 f4 f5;obtain⟨o,e,c,d⟩:=id st';exact⟨u,rfl,Sx (s:={ s with heap:=h' }) e c d (by decide) ⟨x,H,I1,ru,⟨rfl,λys hy=>by rw[I.list_inj hy hq];exact hx⟩,st',λb hb=>(hf b hb).1⟩⟩
 done:=by
  intro X hP hw hK hc i w6 s O H E I hf st hg;subst hP hw hK;obtain⟨xs,hq,hx⟩:=hg;obtain⟨its,rv,p,hz⟩:=I.list hq;obtain⟨f0,f1,f2,f3,f4,f5⟩:=hf it (by simp);have hl:=rv.length;exact wpAny_pyNext_list_end (I.ok.hd hc) st p.isList (by simp;omega) λh' eb=>⟨rfl,I.turned (t':=s.toks) (λb o hb e=>eb b o hb e) f0 f1 f3 f4 f5⟩
 self:=λ_ _ _ _ _ st h=>wpAny_pyIter_listiter st h
theorem Mx{P:Program}{w:World}{K:PySem.W.Frag}{tg:Expr}(a it:Addr):Jl P w K tg (Itt K a) [it] it (λi h=>h.IsTupleIter it a i) where
 mem:=by simp
 obj:=λi h st b hb=>by
  have e:b=it:=by simpa using hb
  subst e;obtain⟨o,e,c,d⟩:=st;exact⟨o,e,λv z=>by rw[d] at z;cases z⟩
 keep:=λi h h' st k=>st.at λo e=>k it (by simp) o e
 item:=by
  intro X hP hw hK hc i w6 s O H E I hf st hg;subst hP hw hK;obtain⟨xs,x,hq,hx⟩:=hg;obtain⟨its,rv,p,hz⟩:=I.tuple hq;obtain⟨u,hu,ru⟩:=rv.get hx;obtain⟨f0,f1,f2,f3,f4,f5⟩:=hf it (by simp);refine wpAny_pyNext_tuple_item st (show s.heap.IsTuple a its.toArray from p) (x:=u) (by simpa using hu) λh' st' sb=>?_;have I1:Inv X w6 O H { s with heap:=h' }:=I.turned (t':=s.toks) (λb o hb e=>(sb.2 b hb).trans e) f0 f1 f3 f4 f5;obtain⟨o,e,c,d⟩:=id st';exact⟨u,rfl,Sx (s:={ s with heap:=h' }) e c d (by decide) ⟨x,H,I1,ru,⟨rfl,λys hy=>by rw[I.tuple_inj hy hq];exact hx⟩,st',λb hb=>(hf b hb).1⟩⟩
 done:=by
  intro X hP hw hK hc i w6 s O H E I hf st hg;subst hP hw hK;obtain⟨xs,hq,hx⟩:=hg;obtain⟨its,rv,p,hz⟩:=I.tuple hq;obtain⟨f0,f1,f2,f3,f4,f5⟩:=hf it (by simp);have hl:=rv.length;exact wpAny_pyNext_tuple_end (I.ok.hd hc) st (show s.heap.IsTuple a its.toArray from p) (by simp;omega) λh' eb=>⟨rfl,I.turned (t':=s.toks) (λb o hb e=>eb b o hb e) f0 f1 f3 f4 f5⟩
 self:=λ_ _ _ _ _ st h=>wpAny_pyIter_tupleiter st h
theorem My{P:Program}{w:World}{K:PySem.W.Frag}{tg:Expr}(it:Addr)(lo:Int)(n:Nat):Jl P w K tg (Itr lo n) [it] it (λi h=>IsRangeIter h it (lo+(i:Nat) * 1) ((n:Int)-(i:Nat)) 1) where
 mem:=by simp
 obj:=λi h st b hb=>by
  have e:b=it:=by simpa using hb
  subst e;exact⟨_,st,λv z=>by
   have z':Data.fields _=Data.cell v:=z;cases z'⟩
 keep:=λi h h' st k=>k it (by simp) _ st
 item:=by
  intro X hP hw hK hc i w6 s O H E I hf st hg;subst hP hw hK;obtain⟨f0,f1,f2,f3,f4,f5⟩:=hf it (by simp);have W:=Walks.range (prog:=X.prog) (w:=X.w) (I.ok.hd hc) it lo 1 n;refine W.item i s _ _ hg st λv h' tk hv st' kk=>?_;obtain⟨t,rfl⟩:=hv;have I1:Inv X w6 O H { s with heap:=h',toks:=tk }:=I.turned (λb o hb e=>kk b o (by simpa using hb) e) f0 f1 f3 f4 f5;refine⟨_,rfl,Sx (s:={ s with heap:=h',toks:=tk }) (n := "range_iterator") st' rfl rfl (by decide) ⟨.int (lo+i),H,I1,⟨t,?_⟩,⟨rfl,rfl⟩,st',λb hb=>(hf b hb).1⟩⟩;rw[Int.mul_one]
 done:=by
  intro X hP hw hK hc i w6 s O H E I hf st hg;subst hP hw hK;obtain⟨f0,f1,f2,f3,f4,f5⟩:=hf it (by simp);exact wpAny_pyNext_range_end (I.ok.hd hc) st (by have:n<=i:=hg;omega) λh' eb=>⟨rfl,I.turned (t':=s.toks) (λb o hb e=>eb b o hb e) f0 f1 f3 f4 f5⟩
 self:=λ_ _ _ _ _ st h=>wpAny_pyIter_rangeiter st h
section
variable{X:Cx}{tg:Expr}
noncomputable def Wc(K:PySem.W.Frag)(tl:TE):TI:=λO H R=>tl O H λx H1=>∃a,x=.ref a/\(∃xs,SqL K H1 a xs)/\R (Itl K a) H1
noncomputable def aX(K:PySem.W.Frag)(tl:TE):TI:=λO H R=>tl O H λx H1=>∃a,x=.ref a/\(∃xs,SqT K H1 a xs)/\R (Itt K a) H1
theorem OV{l:Expr}{tl:TE}(hl:PE X l tl):PI X tg l (Wc X.K tl):=by
 intro w6 s O H R I h;refine thn (hl w6 s O H _ I h) λv s1 ⟨x,H1,I1,r1,q1⟩=>?_;obtain⟨a,e,⟨xs,hq⟩,q⟩:=q1;subst e;cases r1;obtain⟨its,rv,p,hz⟩:=I1.list hq;refine wpAny_pyIter_list p.isList ?_;refine⟨s1.heap.objs.size,[s1.heap.objs.size],_,_,H1,rfl,I1.kept (t':=s1.toks) λb o e=>AAC _ e,PN a _,⟨_,AAD _ rfl,rfl,rfl⟩,λb hb=>?_,q⟩;have e:b=s1.heap.objs.size:=by simpa using hb
 subst e;exact I1.fpOk (AAF _) (I1.hok.fresh (AAF _))
theorem Xm{l:Expr}{tl:TE}(hl:PE X l tl):PI X tg l (aX X.K tl):=by
 intro w6 s O H R I h;refine thn (hl w6 s O H _ I h) λv s1 ⟨x,H1,I1,r1,q1⟩=>?_;obtain⟨a,e,⟨xs,hq⟩,q⟩:=q1;subst e;cases r1;obtain⟨its,rv,p,hz⟩:=I1.tuple hq;refine wpAny_pyIter_tuple (show s1.heap.IsTuple a its.toArray from p) ?_;refine⟨s1.heap.objs.size,[s1.heap.objs.size],_,_,H1,rfl,I1.kept (t':=s1.toks) λb o e=>AAC _ e,Mx a _,⟨_,AAD _ rfl,rfl,rfl⟩,λb hb=>?_,q⟩;have e:b=s1.heap.objs.size:=by simpa using hb
 subst e;exact I1.fpOk (AAF _) (I1.hok.fresh (AAF _))
theorem Rm{w6:List (Addr×Obj)}{O:St}{H:Hp}{s:Shared}{lo hi:Int}{t u v:Tok}{tk:Nat}(I:Inv X w6 O H s)(h1:-(2 ^ 62)<=lo)(h2:lo<2 ^ 62)(h3:-(2 ^ 62)<=hi)(h4:hi<2 ^ 62)
  (q:R (Itr lo (hi-lo).toNat) H):wpAny (model X.prog X.w) X.A (pyIter (.ref s.heap.objs.size)) (PIE X w6 O tg R) E { s with heap:=s.heap.push { cls:=.type "range",data:=.fields #[.int lo t,.int hi u,.int 1 v] },toks:=tk }:=by
 refine wpAny_pyIter_range (IsRange.new ..) (small_one h1 h2 h3 h4) ?_;have I1:Inv X w6 O H { s with heap:=s.heap.push { cls:=.type "range",data:=.fields #[.int lo t,.int hi u,.int 1 v] },toks:=tk }:=I.kept λb o e=>AAC _ e;refine⟨(s.heap.push { cls:=.type "range",data:=.fields #[.int lo t,.int hi u,.int 1 v] }).objs.size,[(s.heap.push { cls:=.type "range",data:=.fields #[.int lo t,.int hi u,.int 1 v] }).objs.size],_,_,H,rfl,
  I1.kept (t':=tk) λb o e=>AAC _ e,My _ lo (hi-lo).toNat,?_,λb hb=>?_,q⟩
 ·have e1:lo+((0:Nat):Int) * 1=lo:=by simp
  have e2:(((hi-lo).toNat:Nat):Int)-((0:Nat):Int)=Builtin.Range.rangeSize lo hi 1:=by rw[rangeSize_one];split<;>omega
  show IsRangeIter _ _ (lo+((0:Nat):Int) * 1) ((((hi-lo).toNat:Nat):Int)-((0:Nat):Int)) 1;rw[e1,e2];exact AAD _ rfl
 ·have e:b=(s.heap.push { cls:=.type "range",data:=.fields #[.int lo t,.int hi u,.int 1 v] }).objs.size:=by simpa using hb
  subst e;exact I1.fpOk (AAF _) (I1.hok.fresh (AAF _))
noncomputable def aY(ta:TA):TI:=λO H R=>ta O H λvs H1=>∃j:Int,vs=[.int j]/\-(2 ^ 62)<=j/\j<2 ^ 62/\R (Itr 0 j.toNat) H1
theorem Pj{a:Expr}{p pos:Pos}(hg:Gl X "range")(hm:X.mg "range" = none)(ha:PA X [a] ta)(hs:starEach [a] X.env=[(false,eval a X.env)]:=by rfl):PI X tg (.Call (.Name "range" p) [a] [] pos) (aY ta):=by
 intro w6 s O H R I h;refine Call_ (GU I hg hm boot_range (PyProof.Rows.callWith_type1 (thn (ha pos w6 s O H _ I h) λus s1 ⟨vs,H1,I1,r1,q1⟩=>?_) hs rfl));obtain⟨j,e,q1,q2,q⟩:=q1;subst e;cases r1 with
 |cons r rr=>
  cases rr;obtain⟨t,rfl⟩:=r;exact call_range_1 (Rm I1 (by omega) (by omega) q1 q2 (by simpa using q))
noncomputable def ZV(wi:TI)(g:TG)(tb:TS):TS:=λD O H=>wi O H λJ H1=>∃W:Nat->Nat->St->Hp->Prop,(∃m,W 0 m O H1)/\∀i m O H,W i m O H->
 (J.stop i H/\D.nx O H)∨(J.go i H/\∃N:St->Hp->Prop,(∀v7 H',N v7 H'->∃m',m'<m/\W (i+1) m' v7 H')/\∀x H',J.yld i H x H'->g x O H' λk9 H2=>tb { D with nx:=N,ct:=N,bk:=D.nx } k9 H2)
noncomputable def Ip(fp:List Addr)(h:Heap):List (Addr×Obj):=fp.filterMap λb=>(h.get? b).map λo=>(b,o)
theorem CQ(hb:b∈fp)(e:h.get? b=some o):(b,o)∈Ip fp h:=List.mem_filterMap.mpr ⟨b,hb,by rw[e];rfl⟩
theorem Po(hp:p∈Ip fp h):p.1∈fp/\h.get? p.1=some p.2:=by
 obtain⟨b,hb,e⟩:=List.mem_filterMap.mp hp;cases q:h.get? b with
 |none=>rw[q] at e;cases e
 |some o=>
  rw[q] at e;have e':(b,o)=p:=Option.some.inj e;subst e';exact⟨hb,q⟩
theorem Inv.pinned(I:Inv X w6 O H s)(hf:∀b∈fp,Fy X w6 H b)(ho:∀b∈fp,∃o,s.heap.get? b=some o/\∀v,o.data≠.cell v):Inv X (w6++Ip fp s.heap) O H s:=
 I.pins_of λp hp=>(List.mem_append.mp hp).elim (λz=>I.pin p (AAY _ z)) λz=>by
  obtain⟨hb,e⟩:=Po z;obtain⟨f0,f1,f2,_⟩:=hf p.1 hb;obtain⟨o,e',d⟩:=ho p.1 hb;rw[e] at e';cases e';exact⟨e,f0,f1,f2,d⟩
theorem Inv.unpinned(I:Inv X (w6++pl) O H s):Inv X w6 O H s:=I.pins_of λp hp=>I.pin p (AAY _ (AAZ _ hp))
theorem Ru(hp:PassesOwn (model X.prog X.w) X.A X.env X.xe)(hc:X.calm=true)(hi:PI X tg iter wi)(hg:PG X tg g)(hb:PSs X body tb)
  (hs:∀x,foldedSetIterable iter X.env x=pure x:=by intro _;rfl):PS X (.For tg iter body [] pos) (ZV wi g tb):=by
 intro w6 s O H D I h;refine wpAny_For (thn (hi w6 s O H _ I h) λv s1 h1=>thn h1 λitv s2 h2=>?_) hs;obtain⟨it,fp,tn,J,H2,e,I2,T,st2,f2,W,⟨m0,w0⟩,turn⟩:=h2;subst e;have stat:∀{H':Hp},(∀b∈fp,H' b=none)->∀b∈fp,Fy X w6 H' b:=λhn b hb=>⟨hn b hb,(f2 b hb).2⟩;refine codeAny_forLoop_any (λn s'=>∃i v7 H',Inv X w6 v7 H' s'/\tn i s'.heap/\(∀b∈fp,H' b=none)/\W i n v7 H') ?_ m0 ⟨0,O,H2,I2,st2,λb hb=>(f2 b hb).1,w0⟩;rintro n s3 ⟨i,m5,H3,I3,st3,fr3,w3⟩;rcases turn i n m5 H3 w3 with ⟨stop,qn⟩|⟨go,N,hN,step⟩
 ·refine wpAny_passesOwn hp (thn (T.done X rfl rfl rfl hc i w6 s3 m5 H3 X.xe I3 (stat fr3) st3 stop) λr s4 ⟨hr,I4⟩=>?_);subst hr;exact wpAny_execs_nil ⟨m5,H3,I4,qn⟩
 ·refine wpAny_passesOwn hp (thn (T.item X rfl rfl rfl hc i w6 s3 m5 H3 X.xe I3 (stat fr3) st3 go) λr s4 ⟨u,hr,h4⟩=>?_);subst hr;refine wpAny_passesOwn hp (thn h4 λ_ s5 ⟨x,H5,I5,r5,y5,st5,fr5⟩=>?_);have I5':=I5.pinned (stat fr5) (T.obj _ _ st5);refine wpAny_passesOwn hp (thn (hg _ s5 m5 H5 x u _ I5' r5 (step x H5 y5)) λ_ s6 ⟨m6,H6,I6,q6⟩=>?_);refine wpAny_passesOwn hp (thn (hb _ s6 m6 H6 _ I6 q6) λf s7 q7=>?_);have again:∀{k8:St} {H7:Hp},Inv X (w6++Ip fp s5.heap) k8 H7 s7->N k8 H7->∃m,m<n/\∃i v7 H',Inv X w6 v7 H' s7/\tn i s7.heap/\(∀b∈fp,H' b=none)/\W i m v7 H':=λ{k8 H7} I7 n7=>by
   obtain⟨m',hm,w7⟩:=hN k8 H7 n7;refine⟨m',hm,i+1,k8,H7,I7.unpinned,T.keep _ _ _ st5 λb hb o e=>(I7.pin (b,o) (AAY _ (AAY _ (CQ hb e)))).1,λb hb=>?_,w7⟩;obtain⟨o,e,d⟩:=T.obj _ _ st5 b hb;exact(I7.pin (b,o) (AAY _ (AAY _ (CQ hb e)))).2.1
  cases f with
  |next=>obtain⟨k8,H7,I7,n7⟩:=q7;exact again I7 n7
  |cont=>obtain⟨k8,H7,I7,n7⟩:=q7;exact again I7 n7
  |brk=>obtain⟨k8,H7,I7,q7⟩:=q7;exact⟨k8,H7,I7.unpinned,q7⟩
  |ret v=>obtain⟨x7,k8,H7,I7,r7,q7⟩:=q7;exact⟨x7,k8,H7,I7.unpinned,r7,q7⟩
end
noncomputable abbrev R2:=V->V->Hp->VK->Prop
def OpR(X:Cx)(f:Value->Value->Sem Value)(r:R2):Prop:=
 ∀(w6:List (Addr×Obj)) (s:Shared) (O:St) (H:Hp) (x y:V) (v u:Value) (Q:VK),Inv X w6 O H s->RelV x v->RelV y u->r x y H Q->
  wpAny (model X.prog X.w) X.A (f v u) (EP X w6 O Q) X.xe s
def UnR(X:Cx)(f:Value->Sem Value)(r:V->Hp->VK->Prop):Prop:=
 ∀(w6:List (Addr×Obj)) (s:Shared) (O:St) (H:Hp) (x:V) (v:Value) (Q:VK),Inv X w6 O H s->RelV x v->r x H Q->
  wpAny (model X.prog X.w) X.A (f v) (EP X w6 O Q) X.xe s
def Bo(X:Cx)(f:Value)(r:List V->Hp->VK->Prop):Prop:=
 ∀(w6:List (Addr×Obj)) (s:Shared) (O:St) (H:Hp) (xs:List V) (us:List Value) (Q:VK),Inv X w6 O H s->Vals xs us->r xs H Q->
  wpAny (model X.prog X.w) X.A (call f us) (EP X w6 O Q) X.xe s
noncomputable def tOp(r:R2)(ta tb:TE):TE:=λO H Q=>ta O H λx H1=>tb O H1 λy H2=>r x y H2 Q
noncomputable def tUn(r:V->Hp->VK->Prop)(ta:TE):TE:=λO H Q=>ta O H λx H1=>r x H1 Q
noncomputable def rI(C:Int->Int->Prop)(g:Int->Int->V):R2:=λx y H Q=>∃i j,x=.int i/\y=.int j/\C i j/\Q (g i j) H
noncomputable def rI0(g:Int->Int->V):R2:=λx y H Q=>∃i j,x=.int i/\y=.int j/\Q (g i j) H
noncomputable def rU(g:Int->V):V->Hp->VK->Prop:=λx H Q=>∃i,x=.int i/\Q (g i) H
section
variable{X:Cx}{a b:Expr}{ta tb:TE}{pos:Pos}
theorem Y4(ha:PE X a ta)(hb:PE X b tb){w6:List (Addr×Obj)}{s:Shared}{H:Hp}{R:V->V->Hp->Prop}(I:Inv X w6 O H s)
  (h:ta O H λx H1=>tb O H1 λy H2=>R x y H2) {Q:Value->Shared->Prop} {f:Value->Value->Sem Value}
  (hf:∀v u s2 x y H2,Inv X w6 O H2 s2->RelV x v->RelV y u->R x y H2->wpAny (model X.prog X.w) X.A (f v u) Q X.xe s2) :
  wpAny (model X.prog X.w) X.A (eval a X.env) (λv s₁=>wpAny (model X.prog X.w) X.A (eval b X.env) (λu s₂=>wpAny (model X.prog X.w) X.A (f v u) Q X.xe s₂) X.xe s₁) X.xe s:=by
 refine thn (ha w6 s O H _ I h) λv s1 ⟨x,H1,I1,r1,q1⟩=>?_;refine thn (hb w6 s1 O H1 _ I1 q1) λu s2 ⟨y,H2,I2,r2,q2⟩=>?_;exact hf v u s2 x y H2 I2 r1 r2 q2
theorem Z5{op:Operator}{r:R2}(ho:OpR X (binaryOp op) r)(ha:PE X a ta)(hb:PE X b tb):PE X (.BinOp a op b pos) (tOp r ta tb):=by
 intro w6 s O H Q I h;exact wpAny_BinOp (Y4 ha hb I h λv u s2 x y H2 I2 rx ry q=>ho w6 s2 O H2 x y v u Q I2 rx ry q)
theorem Z3(ho:UnR X (unaryOp op) r)(ha:PE X a ta):PE X (.UnaryOp op a pos) (tUn r ta):=by
 intro w6 s O H Q I h;exact UnaryOp_ (thn (ha w6 s O H _ I h) λv s1 ⟨x,H1,I1,r1,q1⟩=>ho w6 s1 O H1 x v Q I1 r1 q1)
theorem opI{f:Value->Value->Sem Value}{g:Int->Int->Int}
  (rule:∀(i j:Int) (t u:Tok) (s:Shared) (Q:Value->Shared->Prop) (E:Value->Shared->Prop),C i j->Q (.int (g i j) s.toks) { s with toks:=s.toks+1 }->wpAny (model X.prog X.w) X.A (f (.int i t) (.int j u)) Q E s) :
  OpR X f (rI C λi j=>.int (g i j)):=by
 intro w6 s O H x y v u Q I rx ry h;obtain⟨i,j,rfl,rfl,hc,q⟩:=h;obtain⟨t,rfl⟩:=rx;obtain⟨t',rfl⟩:=ry;exact rule i j t t' s _ _ hc ⟨.int (g i j),H,I.tok _,⟨_,rfl⟩,q⟩
theorem aD{g:Int->Int->Int}
  (rule:∀(i j:Int) (t u:Tok) (s:Shared) (Q:Value->Shared->Prop) (E:Value->Shared->Prop),Q (.int (g i j) s.toks) { s with toks:=s.toks+1 }->wpAny (model X.prog X.w) X.A (f (.int i t) (.int j u)) Q E s) :
  OpR X f (rI0 λi j=>.int (g i j)):=by
 intro w6 s O H x y v u Q I rx ry h;obtain⟨i,j,rfl,rfl,q⟩:=h;obtain⟨t,rfl⟩:=rx;obtain⟨t',rfl⟩:=ry;exact rule i j t t' s _ _ ⟨.int (g i j),H,I.tok _,⟨_,rfl⟩,q⟩
theorem U2{g:Int->Int->Bool}
  (rule:∀(i j:Int) (t u:Tok) (s:Shared) (Q:Value->Shared->Prop) (E:Value->Shared->Prop),Q (.bool (g i j)) s->wpAny (model X.prog X.w) X.A (f (.int i t) (.int j u)) Q E s) :
  OpR X f (rI0 λi j=>.bl (g i j)):=by
 intro w6 s O H x y v u Q I rx ry h;obtain⟨i,j,rfl,rfl,q⟩:=h;obtain⟨t,rfl⟩:=rx;obtain⟨t',rfl⟩:=ry;exact rule i j t t' s _ _ ⟨.bl (g i j),H,I,rfl,q⟩
def cb(i j:Int):Prop:=0<j/\j<1073741824
def cZ(i j:Int):Prop:=0<=j/\j<=1000000/\i.natAbs<2 ^ 64
def CMul(i j:Int):Prop:=(-(2 ^ 64)<i/\i<2 ^ 64)∨(-(2 ^ 64)<j/\j<2 ^ 64)
theorem CMul.ok(h:CMul i j):IntMulOk i j:=by
 rcases h with ⟨h1,h2⟩|⟨h1,h2⟩
 ·exact .of_left (intBits_le_64 h1 h2)
 ·exact .of_right (intBits_le_64 h1 h2)
theorem X8:OpR X (binaryOp .Add) (rI0 λi j=>.int (i+j)):=aD λ_ _ _ _ _ _ _ q=>add_int q
theorem Xz:OpR X (binaryOp .Sub) (rI0 λi j=>.int (i-j)):=aD λ_ _ _ _ _ _ _ q=>sub_int q
theorem X3:OpR X (binaryOp .Mult) (rI CMul λi j=>.int (i * j)):=opI λ_ _ _ _ _ _ _ hc q=>mul_int q hc.ok
theorem U0:OpR X (binaryOp .FloorDiv) (rI cb λi j=>.int (i / j)):=opI λi j _ _ _ _ _ hc q=>by
 have h1:(0:Int)<j:=hc.1;have h2:j<1073741824:=hc.2;exact floordiv_int (by omega) (by rw[Int.fdiv_eq_ediv_of_nonneg i (by omega)];exact q) (.inl (PyProof.noPylong_small (by omega)))
theorem X4:OpR X (binaryOp .Mod) (rI (λ_ j=>0<j) λi j=>.int (i % j)):=opI λi j _ _ _ _ _ hc q=>by
 have h1:(0:Int)<j:=hc;exact mod_int' (by omega) (by rw[Int.fmod_eq_emod_of_nonneg i (by omega)];exact q)
theorem X1:OpR X (binaryOp .Pow) (rI cZ λi j=>.int (i ^ j.toNat)):=opI λ_ _ _ _ _ _ _ hc q=>pow_int_small hc.1 hc.2.1 hc.2.2 q
theorem unI{g:Int->Int}
  (rule:∀(i:Int) (t:Tok) (s:Shared) (Q:Value->Shared->Prop) (E:Value->Shared->Prop),Q (.int (g i) s.toks) { s with toks:=s.toks+1 }->wpAny (model X.prog X.w) X.A (f (.int i t)) Q E s) :
  UnR X f (rU λi=>.int (g i)):=by
 intro w6 s O H x v Q I rx h;obtain⟨i,rfl,q⟩:=h;obtain⟨t,rfl⟩:=rx;exact rule i t s _ _ ⟨.int (g i),H,I.tok _,⟨_,rfl⟩,q⟩
theorem Wy:UnR X (unaryOp .USub) (rU λi=>.int (-i)):=unI λ_ _ _ _ _ q=>neg_int q
end
section
variable{X:Cx}{a b c:Expr}{ta tb tc:TE}{pos:Pos}
theorem LD(I:Inv X w6 O H s)(q:Q (.bl k) H)(e:k=k'):EP X w6 O Q (.bool k') s:=by
 subst e;exact⟨.bl k,H,I,rfl,q⟩
theorem Z9:OpR X (compareOp .Lt) (rI0 λi j=>.bl (decide (i<j))):=U2 λ_ _ _ _ _ _ _ q=>lt_int q
theorem aA:OpR X (compareOp .LtE) (rI0 λi j=>.bl (decide (i<=j))):=U2 λ_ _ _ _ _ _ _ q=>le_int q
theorem aB:OpR X (compareOp .Gt) (rI0 λi j=>.bl (decide (j<i))):=U2 λ_ _ _ _ _ _ _ q=>gt_int q
theorem aC:OpR X (compareOp .GtE) (rI0 λi j=>.bl (decide (j<=i))):=U2 λ_ _ _ _ _ _ _ q=>ge_int q
theorem Pm:OpR X (compareOp .In) (λx y H Q=>∃i j,x=.str i/\y=.str j/\Q (.bl (!(Builtin.Str.occurrences j i 0 j.length 1).isEmpty)) H):=by
 intro w6 s O H x y v u Q I rx ry h;obtain⟨i,j,rfl,rfl,q⟩:=h;obtain⟨t,rfl⟩:=rx;obtain⟨t',rfl⟩:=ry;exact in_str (LD I q rfl)
theorem X5:OpR X (compareOp .Is) (λx y H Q=>y=.non/\Q (.bl (decide (x=.non))) H):=by
 intro w6 s O H x y v u Q I rx ry h;obtain⟨rfl,q⟩:=h;cases ry;refine is_none_gen (LD I q ?_);cases x<;>first
  |(cases rx;rfl)
  |(obtain⟨t,rfl⟩:=rx;rfl)
theorem Uz:OpR X (compareOp .IsNot) (λx y H Q=>y=.non/\Q (.bl (!decide (x=.non))) H):=by
 intro w6 s O H x y v u Q I rx ry h;obtain⟨rfl,q⟩:=h;cases ry;refine isnot_none_gen (LD I q ?_);cases x<;>first
  |(cases rx;rfl)
  |(obtain⟨t,rfl⟩:=rx;rfl)
theorem Kv:OpR X (compareOp .NotIn) (λx y H Q=>∃i j,x=.str i/\y=.str j/\Q (.bl (!(!(Builtin.Str.occurrences j i 0 j.length 1).isEmpty))) H):=by
 intro w6 s O H x y v u Q I rx ry h;obtain⟨i,j,rfl,rfl,q⟩:=h;obtain⟨t,rfl⟩:=rx;obtain⟨t',rfl⟩:=ry;exact notIn_str (LD I q rfl)
theorem SO(b:Expr)(h:op≠.In:=by decide)(h2:op≠.NotIn:=by decide):behindInMarks op b=false:=by
 have e1:(op==CmpOp.In)=false:=by cases op<;>first|rfl|exact absurd rfl h
 have e2:(op==CmpOp.NotIn)=false:=by cases op<;>first|rfl|exact absurd rfl h2
 cases b<;>simp[behindInMarks,e1,e2]
theorem Uu{r:R2}(ho:OpR X (compareOp op) r)(ha:PE X a ta)(hb:PE X b tb)(hm:behindInMarks op b=false):PE X (.Compare a [op] [b] pos) (tOp r ta tb):=by
 intro w6 s O H Q I h;exact wpAny_Compare1 (Y4 ha hb I h λv u s2 x y H2 I2 rx ry q=>ho w6 s2 O H2 x y v u Q I2 rx ry q) hm
noncomputable def ZN(t:TE):TT:=λO H Q=>t O H λx H'=>∃k,x=.bl k/\Q k H'
theorem Ue(ho:OpR X (compareOp op) r)(ha:PE X a ta)(hb:PE X b tb)(hm:behindInMarks op b=false):PT X (.Compare a [op] [b] pos) (ZN (tOp r ta tb)):=by
 intro w6 s O H Q I h;refine wpAny_isTrue_Compare1 (thn (ha w6 s O H _ I h) λv s1 ⟨x,H1,I1,r1,q1⟩=>thn (hb w6 s1 O H1 _ I1 q1) λu s2 ⟨y,H2,I2,r2,q2⟩=>
  thn (ho w6 s2 O H2 x y v u _ I2 r1 r2 q2) λc s3 ⟨z,H3,I3,r3,k,e,q3⟩=>?_) hm
 subst e;cases r3;exact wpAny_truthy_bool ⟨H3,I3,q3⟩
noncomputable def Q2(r r':R2)(ta tb tc:TE):TE:=λO H Q=>ta O H λx H1=>tb O H1 λy H2=>r x y H2 λz H3=>∃k,z=.bl k /\
 (if k=true then tc O H3 λw' H4=>r' y w' H4 Q else Q (.bl false) H3)
theorem SI(ho:OpR X (compareOp op) r)(ho':OpR X (compareOp op') r')(ha:PE X a ta)(hb:PE X b tb)(hc:PE X c tc)
  (hm:lastMarks [op,op'] [b,c]=false:=by with_unfolding_all rfl):PE X (.Compare a [op,op'] [b,c] pos) (Q2 r r' ta tb tc):=by
 intro w6 s O H Q I h;refine Compare_chain (thn (ha w6 s O H _ I h) λv s1 ⟨x,H1,I1,r1,q1⟩=>chain_link (thn (hb w6 s1 O H1 _ I1 q1) λu s2 ⟨y,H2,I2,r2,q2⟩=>
  thn (ho w6 s2 O H2 x y v u _ I2 r1 r2 q2) λd s3 ⟨z,H3,I3,r3,k,e,q3⟩=>?_)) hm
 subst e;cases r3;refine wpAny_truthy_bool ?_;cases k with
 |false=>exact ite_ff ⟨.bl false,H3,I3,rfl,q3⟩
 |true=>exact ite_tt (chain_last (thn (hc w6 s3 O H3 _ I3 q3) λw' s4 ⟨z',H4,I4,r4,q4⟩=>ho' w6 s4 O H4 y z' u w' Q I4 r2 r4 q4))
theorem HQ:(sizeLine:Nat)<2 ^ 63:=by rw[sizeLine_eq];decide
theorem NI:OpR X (binaryOp .Add) (λx y H Q=>∃i j,x=.str i/\y=.str j/\i.length+j.length<=sizeLine/\Q (.str (i++j)) H):=by
 intro w6 s O H x y v u Q I rx ry h;obtain⟨i,j,rfl,rfl,hz,q⟩:=h;obtain⟨t,rfl⟩:=rx;obtain⟨t',rfl⟩:=ry;exact add_str (λt' tk=>⟨.str (i++j),H,I.tok _,⟨_,rfl⟩,q⟩) hz
theorem ET(r:Vals [x] us):∃u,us=[u]/\RelV x u:=by
 cases r with
 |cons r1 r2=>cases r2;exact⟨_,rfl,r1⟩
theorem N5(r:Vals [x,y] us):∃u w',us=[u,w']/\RelV x u/\RelV y w':=by
 cases r with
 |cons r1 r2=>
  cases r2 with
  |cons r3 r4=>cases r4;exact⟨_,_,rfl,r1,r3⟩
theorem QV(hc:X.calm=true):Bo X (.builtin "max") (λxs H Q=>∃i j,xs=[.int i,.int j]/\Q (.int (if j > i then j else i)) H):=by
 intro w6 s O H xs us Q I r h;obtain⟨i,j,rfl,q⟩:=h;obtain⟨u,w',rfl,⟨t,rfl⟩,⟨t',rfl⟩⟩:=N5 r;refine max_two_ints (I.ok.hd hc) λh' tk k=>⟨_,H,I.kept k,?_,q⟩;by_cases hj:j > i
 ·rw[if_pos hj,if_pos hj];exact⟨_,rfl⟩
 ·rw[if_neg hj,if_neg hj];exact⟨_,rfl⟩
theorem QR(hc:X.calm=true):Bo X (.builtin "min") (λxs H Q=>∃i j,xs=[.int i,.int j]/\Q (.int (if j<i then j else i)) H):=by
 intro w6 s O H xs us Q I r h;obtain⟨i,j,rfl,q⟩:=h;obtain⟨u,w',rfl,⟨t,rfl⟩,⟨t',rfl⟩⟩:=N5 r;refine min_two_ints (I.ok.hd hc) λh' tk k=>⟨_,H,I.kept k,?_,q⟩;by_cases hj:j<i
 ·rw[if_pos hj,if_pos hj];exact⟨_,rfl⟩
 ·rw[if_neg hj,if_neg hj];exact⟨_,rfl⟩
theorem QZ:Bo X (.type "int") (λxs H Q=>(∃i,xs=[.int i]/\Q (.int i) H)∨∃k,xs=[.bl k]/\Q (.int (if k then 1 else 0)) H):=by
 intro w6 s O H xs us Q I r h;rcases h with ⟨i,rfl,q⟩|⟨k,rfl,q⟩
 ·obtain⟨u,rfl,t,rfl⟩:=ET r;exact call_int_int ⟨.int i,H,I,⟨_,rfl⟩,q⟩
 ·obtain⟨u,rfl,r1⟩:=ET r;cases r1;exact call_int_bool ⟨.int (if k then 1 else 0),H,I.tok _,⟨_,rfl⟩,q⟩
def cX(K:PySem.W.Frag)(x:V)(H:Hp)(n:Nat):Prop:=
 match x with
 | .str y=>y.length<=sizeLine/\n=y.length
 | .byt y=>y.size<=sizeLine/\n=y.size
 | .ref p=>(∃xs,SqL K H p xs/\n=xs.length)∨∃xs,SqT K H p xs/\n=xs.length
 |_=>False
theorem TY:Bo X (.builtin "len") (λxs H Q=>∃x n,xs=[x]/\cX X.K x H n/\Q (.int n) H):=by
 intro w6 s O H xs us Q I r h;obtain⟨x,n,rfl,e,q⟩:=h;obtain⟨u,rfl,rx⟩:=ET r;have hl:=HQ;have hs:sizeLine=16777216:=sizeLine_eq;cases x with
 |str y=>
  obtain⟨t,rfl⟩:=rx;obtain⟨hy,e'⟩:y.length<=sizeLine/\n=y.length:=e;subst e';exact len_str (by omega) ⟨.int _,H,I.tok _,⟨_,rfl⟩,q⟩
 |byt y=>
  obtain⟨t,rfl⟩:=rx;obtain⟨hy,e'⟩:y.size<=sizeLine/\n=y.size:=e;subst e';exact PySem.W.len_bytes (by omega) ⟨.int _,H,I.tok _,⟨_,rfl⟩,q⟩
 |ref p=>
  cases rx;have e':(∃xs,SqL X.K H p xs/\n=xs.length)∨∃xs,SqT X.K H p xs/\n=xs.length:=e;rcases e' with ⟨xs,hx,e'⟩|⟨xs,hx,e'⟩
  ·subst e';obtain⟨its,r',pl,hz⟩:=I.list hx;have hlen:=r'.length;exact Calls.call_len_list pl.isList (by simp only[List.size_toArray];omega) ⟨.int xs.length,H,I.tok _,⟨_,by simp only[List.size_toArray];rw[hlen]⟩,q⟩
  ·subst e';obtain⟨its,r',pl,hz⟩:=I.tuple hx;have hlen:=r'.length;exact len_tuple pl (by simp only[List.size_toArray];omega) ⟨.int xs.length,H,I.tok _,⟨_,by simp only[List.size_toArray];rw[hlen]⟩,q⟩
 |_=>exact(show False from e).elim
end
structure ObjM(h:Heap)(x dx C:Addr)(mA:Str->Option Value):Prop where
 obj:h.get? x=some (PySem.W.instObj C dx)
 ns:h.Ns1 dx mA
 ne:dx≠x
theorem Px{h:Heap}{dx:Addr}{mA:Str->Option Value}(n:h.Ns1 dx mA):∃od,h.get? dx=some od/\∀name,PySem.W.lookIn name od=some (mA name):=by
 obtain⟨o,es,ep,ho,hd,hk,_,hm⟩:=n;refine⟨o,ho,λname=>?_⟩;have e:=hm name;unfold nsFind findBy at e;rw[←Array.find?_toList] at e;unfold PySem.W.lookIn;rw[hd];dsimp only;split
 ·rename_i y q;rw[q] at e;exact congrArg some e
 ·rename_i q;rw[q] at e;have a:es.toList.any (·.refKey)=false:=by
   rw[List.any_eq_false];intro y hy;obtain⟨z,t,hkey⟩:=hk y (Array.mem_toList_iff.mp hy);simp[DictEntry.refKey,hkey]
  have a':¬es.toList.any (·.refKey)=true:=by rw[a];exact AAd
  rw[if_neg a'];exact congrArg some e
theorem ObjM.look(I:ObjM h x dx C mA):∃od,PySem.W.InstAt h x (PySem.W.instObj C dx) C (some od)/\∀name,PySem.W.lookIn name od=some (mA name):=
 let ⟨od,ho,hl⟩:=Px I.ns
 ⟨od,⟨I.obj,rfl,rfl,ho⟩,hl⟩
section
variable{prog:Program}{w:World}{A:Around}{E:Value->Shared->Prop}{s:Shared}{K:PySem.W.Frag}{x dx C f:Addr}{mA:Str->Option Value}{name:Str}{v:Value}
theorem Vd(X:K.In s.heap)(I:ObjM s.heap x dx C mA)(hg:PySem.W.plainGet K C name=true)(hh:PySem.W.hasDictIn K C=true)
  (ha:PySem.W.findIn K (.ref C) name=some none) (hv:mA name=some v) (hv':PySem.W.handedIn v=true) (h:Q v { s with toks:=s.toks+1 }) :
  wpAny (model prog w) A (getAttr (.ref x) name expr) Q E s:=by
 obtain⟨od,J,hl⟩:=I.look;exact PySem.W.get_value X J (PySem.W.plainGet_of hg).1 (PySem.W.findObj_own hh ha rfl (by rw[hl,hv])) hv' h
theorem Sz(X:K.In s.heap)(I:ObjM s.heap x dx C mA)(hg:PySem.W.plainGet K C name=true)
  (hf:PySem.W.findIn K (.ref C) name=some (some (.ref f))) (ht:PySem.W.isFn K (.ref f)=true) (hv:mA name=none) (h:Q (.ref f,[.ref x]) s) :
  wpAny (model prog w) A (getMethod (.ref x) name pl) Q E s:=by
 obtain⟨od,J,hl⟩:=I.look;exact PySem.W.method_fn X J (PySem.W.plainGet_of hg).1 (PySem.W.plainGet_of hg).2 hf (beq_iff_eq.mp ht) (by show (PySem.W.lookIn name od).map (·.isSome)=some false;rw[hl,hv];rfl) h
theorem UG(X:K.In s.heap)(I:ObjM s.heap x dx C mA)
  (hs:PySem.W.findIn K (.ref C) "__setattr__" = some (some (.builtin "object.__setattr__"))) (hp:PySem.W.plainOver K C=true) (ht:PySem.W.takerIn K C name=some none) (hh:PySem.W.hasDictIn K C=true)
  (hw:PySem.Within mA ns) (hsz:ns.length<=sizeLine)
  (h:∀h',ObjM h' x dx C (λy=>if y=name then some v else mA y)->Heap.SameBut dx s.heap h'->Q () { s with heap:=h',toks:=s.toks+2 }) :
  wpAny (model prog w) A (setAttr (.ref x) name v) Q E s:=by
 obtain⟨od,J,hl⟩:=I.look;refine PySem.W.set_plain X J hs (PySem.W.osa_open (s:={ s with toks:=s.toks+1 }) (r:=none) X J hp ht λb=>?_);obtain⟨cd,hc,hd'⟩:=PySem.W.any_some hh;have hx:s.heap.get? x=some ⟨.ref C,some dx,.plain,#[]⟩:=I.obj;refine AAA (AAB (AAA (AAA (wpAny_loadPart hx (AAA (PySem.W.Looks.here (s:={ s with toks:=s.toks+1 }) (PySem.W.looks_clsIn X hc) ?_))))));rw[hd'];refine AAB (a:=some dx) (AAA (AAB (AAA ?_)));refine wpAny_nsSet1 (s:={ s with toks:=s.toks+1 }) I.ns λh' hn2 hs2=>?_;obtain⟨oD,esD,epD,hoD,hdD,hcD⟩:=hn2.count (PySem.Within.cons name v hw);refine AAA (wpAny_lookBehind hoD (by rw[hdD];exact pastItsLine_dict (AAp hcD (by rw[AAI];omega))) ?_);exact AAB (h _ ⟨(hs2.2 _ (Ne.symm I.ne)).trans I.obj,hn2,I.ne⟩ hs2)
theorem SS(X:K.In s.heap)(hm:PySem.W.makesIn K C=true)
  (hi:PySem.W.findIn K (.ref C) "__init__" = some (some (.ref f))) (hf:PySem.W.typeIn K (.ref f)=some (.type "function"))
  (h:codeAny (model prog w) (A.under (.builtin "type.__call__" ⟨.ref C::vs,kw⟩)) (.call (.ref f) ⟨.ref (s.heap.objs.size+1)::vs,kw⟩) (PySem.W.InitBack (s.heap.objs.size+1) R)
   { s with heap:=(s.heap.push PySem.W.emptyDict).push (PySem.W.instObj C s.heap.objs.size) }) :
  codeAny (model prog w) A (.call (.ref C) ⟨vs,kw⟩) R s:=by
 obtain⟨hh,g,d,t,os⟩:=s;exact PySem.W.make_core (PySem.W.makes_of X hm) (PySem.W.looks_findIn X hi) (λself=>PySem.W.bind_fn X self hf) (.inl rfl) h
end
noncomputable def EN(f:Str)(v:V):List (Str×V)->List (Str×V)
 |[]=>[(f,v)]
 |(g,x)::r=>if g=f then (g,v)::r else (g,x)::EN f v r
theorem Hl(f g:Str)(v:V):∀fs:List (Str×V),(EN f v fs).lookup g=if g=f then some v else fs.lookup g
 |[]=>by
  show List.lookup g [(f,v)]=_;by_cases h:g=f
  ·have hb:(g==f)=true:=beq_iff_eq.mpr h;simp only[List.lookup,hb,if_pos h]
  ·have hb:(g==f)=false:=AAc.mpr h;simp only[List.lookup,hb,if_neg h]
 |(k,x)::r=>by
  have ih:=Hl f g v r;rw[show EN f v ((k,x)::r)=(if k=f then (k,v)::r else (k,x)::EN f v r) from rfl];by_cases hk:k=f
  ·rw[if_pos hk];by_cases h:g=k
   ·have hb:(g==k)=true:=beq_iff_eq.mpr h;simp only[List.lookup,hb,if_pos (h.trans hk)]
   ·have hb:(g==k)=false:=AAc.mpr h;simp only[List.lookup,hb,if_neg (λe:g=f=>h (e.trans hk.symm))]
  ·rw[if_neg hk];by_cases h:g=k
   ·have hb:(g==k)=true:=beq_iff_eq.mpr h;simp only[List.lookup,hb,if_neg (λe:g=f=>hk (h.symm.trans e))]
   ·have hb:(g==k)=false:=AAc.mpr h;simp only[List.lookup,hb];exact ih
theorem HR(f:Str)(v:V):∀fs:List (Str×V),f∈(EN f v fs).map (·.1)/\∀g,g∈fs.map (·.1)->g∈(EN f v fs).map (·.1)
 |[]=>⟨by simp[EN],λg h=>by simp at h⟩
 |(k,x)::r=>by
  obtain⟨i1,i2⟩:=HR f v r;rw[show EN f v ((k,x)::r)=(if k=f then (k,v)::r else (k,x)::EN f v r) from rfl];by_cases hk:k=f
  ·rw[if_pos hk];subst hk;exact⟨by simp,λg h=>by simpa using h⟩
  ·rw[if_neg hk];refine⟨?_,λg h=>?_⟩
   ·rw[AAW];exact AAQ _ i1
   ·rw[AAW] at h ⊢;rcases AAJ.mp h with e|e
    ·exact AAJ.mpr (.inl e)
    ·exact AAQ _ (i2 g e)
theorem Hm(f:Str)(v:V):∀fs:List (Str×V),(EN f v fs).length<=fs.length+1
 |[]=>by simp[EN]
 |(k,x)::r=>by
  have ih:=Hm f v r;rw[show EN f v ((k,x)::r)=(if k=f then (k,v)::r else (k,x)::EN f v r) from rfl];by_cases hk:k=f
  ·rw[if_pos hk,AAI,AAI];omega
  ·rw[if_neg hk,AAI,AAI];omega
theorem RelO.some_of(r:RelO (some v) o):∃u,o=some u/\RelV v u:=by
 cases o with
 |none=>exact(show False from r).elim
 |some u=>exact⟨u,rfl,r⟩
theorem RelO.none_of(r:RelO none o):o=none:=by
 cases o with
 |none=>rfl
 |some u=>exact(show False from r).elim
theorem QE(r:RelV v u):PySem.W.handedIn u=true:=by
 cases v with
 |non=>cases (show u=Value.none from r);rfl
 |bl b=>cases (show u=Value.bool b from r);rfl
 |int i=>obtain⟨t,e⟩:=(show ∃t,u=Value.int i t from r);cases e;rfl
 |str x=>obtain⟨t,e⟩:=(show ∃t,u=Value.str x t from r);cases e;rfl
 |byt b=>obtain⟨t,e⟩:=(show ∃t,u=Value.bytes b t from r);cases e;rfl
 |flt b=>obtain⟨t,e⟩:=(show ∃t,u=Value.float b t from r);cases e;rfl
 |ref a=>cases (show u=Value.ref a from r);rfl
 |ty n=>cases (show u=Value.type n from r);rfl
section
variable{P:Program}{w:World}{H:Hp}{h:Heap}{a C dx:Addr}{fs:List (Str×V)}
theorem IJ(hok:HOk P w H h)(e:H a=some (.ins C dx fs)):∃mA,ObjM h a dx C mA/\(∀f,RelO (fs.lookup f) (mA f))/\PySem.Within mA (fs.map (·.1))/\fs.length<=1000/\H dx=some (.own a):=by
 obtain⟨d,z,ne,ob,mA,n,r,q⟩:=(show ObjOk P w H h a (.ins C dx fs) from hok a _ e);exact⟨mA,⟨ob,n,ne⟩,r,q,z,d⟩
end
structure Cls(K:PySem.W.Frag)(C:Addr):Prop where
 pg:PySem.W.plainGet K C Str.empty=true
 hd:PySem.W.hasDictIn K C=true
 po:PySem.W.plainOver K C=true
 sa:PySem.W.findIn K (.ref C) "__setattr__" = some (some (.builtin "object.__setattr__"))
theorem Cls.get{K:PySem.W.Frag}{C:Addr}(c:Cls K C)(f:Str):PySem.W.plainGet K C f=true:=c.pg
def NoAttr(K:PySem.W.Frag)(C:Addr)(f:Str):Prop:=PySem.W.findIn K (.ref C) f=some none
theorem NoAttr.taker{K:PySem.W.Frag}{C:Addr}{f:Str}(n:NoAttr K C f):PySem.W.takerIn K C f=some none:=by
 unfold PySem.W.takerIn;rw[show PySem.W.findIn K (.ref C) f=some none from n];rfl
structure Tl(K:PySem.W.Frag)(C:Addr)(m:Str)(f:Addr):Prop where
 at_:PySem.W.findIn K (.ref C) m=some (some (.ref f))
 fn:PySem.W.isFn K (.ref f)=true
 kp:PySem.W.keepIn K (.ref f)=true
section
variable{X:Cx}{w6:List (Addr×Obj)}{O:St}{H:Hp}{s:Shared}{a C dx:Addr}{fs:List (Str×V)}{f:Str}{v:V}{A:Around}{E:Value->Shared->Prop}
theorem JF(I:Inv X w6 O H s)(e:H a=some (.ins C dx fs))(c:Cls X.K C)(n:NoAttr X.K C f)(l:fs.lookup f=some v)
  (h:∀u s',Inv X w6 O H s'->RelV v u->Q u s'):wpAny (model X.prog X.w) A (getAttr (.ref a) f b) Q E s:=by
 obtain⟨mA,O_,r,_,_,_⟩:=IJ I.hok e;obtain⟨u,hu,ru⟩:=RelO.some_of (v:=v) (o:=mA f) (by rw[←l];exact r f);exact Vd I.kIn O_ (c.get f) c.hd n hu (QE ru) (h u _ (I.tok _) ru)
theorem JE(I:Inv X w6 O H s)(e:H a=some (.ins C dx fs))(c:Cls X.K C)(k:Tl X.K C m g)(l:fs.lookup m=none)
  (h:Q (.ref g,[.ref a]) s):wpAny (model X.prog X.w) A (getMethod (.ref a) m pl) Q E s:=by
 obtain⟨mA,O_,r,_,_,_⟩:=IJ I.hok e;have hn:mA m=none:=RelO.none_of (by rw[←l];exact r m);exact Sz I.kIn O_ (c.get m) k.at_ k.fn hn h
theorem IZ(I:Inv X w6 O H s)(e:H a=some (.ins C dx fs))(c:Cls X.K C)(n:NoAttr X.K C f)(hl:fs.length<1000)(ry:RelV y u)
  (h:∀s',Inv X w6 O (upd H a (.ins C dx (EN f y fs))) s'->Q () s'):wpAny (model X.prog X.w) A (setAttr (.ref a) f u) Q E s:=by
 obtain⟨mA,O_,r,wi,_,ho⟩:=IJ I.hok e;have hz:(fs.map (·.1)).length<=sizeLine:=by rw[AAG,sizeLine_eq];omega
 refine UG I.kIn O_ c.sa c.po n.taker c.hd wi hz λh' O' sb=>h _ ?_;have hd:∃o,h'.get? dx=some o:=let ⟨o,_,_,e',_⟩:=O'.ns;⟨o,e'⟩
 refine I.write (x:=a) (e:=dx) (by rw[e];exact True.intro) (.inr ho) (λb q hb z=>(sb.2 b hb).trans z) hd ?_;refine⟨by rw[Aw O_.ne];exact ho,?_,O_.ne,O'.obj,_,O'.ns,λg=>?_,λg hg=>?_⟩
 ·have:=Hm f y fs;omega
 ·show RelO ((EN f y fs).lookup g) (if g=f then some u else mA g);rw[Hl];by_cases q:g=f
  ·rw[if_pos q,if_pos q];exact ry
  ·rw[if_neg q,if_neg q];exact r g
 ·by_cases q:g=f
  ·rw[q];exact(HR f y fs).1
  ·refine(HR f y fs).2 g (wi g λz=>hg ?_);show (if g=f then some u else mA g)=none;rw[if_neg q];exact z
theorem Inv.made(I:Inv X w6 O H s):Inv X w6 O (upd (upd H s.heap.objs.size (.own (s.heap.objs.size+1))) (s.heap.objs.size+1) (.ins C s.heap.objs.size []))
  { s with heap:=(s.heap.push PySem.W.emptyDict).push (PySem.W.instObj C s.heap.objs.size) }:=by
 have e1:(s.heap.push PySem.W.emptyDict).get? s.heap.objs.size=some PySem.W.emptyDict:=AAD s.heap rfl;have e2:((s.heap.push PySem.W.emptyDict).push (PySem.W.instObj C s.heap.objs.size)).get? (s.heap.objs.size+1)=some (PySem.W.instObj C s.heap.objs.size):=by
  have:=AAD (s.heap.push PySem.W.emptyDict) (o:=PySem.W.instObj C s.heap.objs.size) rfl
  rwa [Heap.size_push] at this
 have e3:(s.heap.push PySem.W.emptyDict).Ns s.heap.objs.size (λ_=>none):=⟨PySem.W.emptyDict,#[],_,e1,rfl,(λe he=>absurd he (by simp)),λ_=>rfl⟩;have I1:=I.laid (a:=s.heap.objs.size) (o:=.own (s.heap.objs.size+1)) (h':=s.heap.push PySem.W.emptyDict) (t':=s.toks) (λb u q=>AAC _ q) (AAF _) ⟨_,e1⟩;refine I1.laid (a:=s.heap.objs.size+1) (o:=.ins C s.heap.objs.size []) (t':=s.toks) (λb u q=>AAC _ q) (Nat.le_of_eq (Heap.size_push _ _)) ?_;have ne:s.heap.objs.size≠s.heap.objs.size+1:=AAb (Nat.lt_succ_self _);refine⟨by rw[Aw ne,BK],AAh _,ne,e2,λ_=>none,(Heap.Ns1.of_empty e3).at λo q=>AAC _ q,λ_=>True.intro,λy hy=>absurd rfl hy⟩
theorem V0(hb:attributeBase e f env (eval e env)=eval e env)
  (h:wpAny (model prog w) A (eval e env) (λo s₁=>wpAny (model prog w) A (getAttr o f true) Q E s₁) E s):wpAny (model prog w) A (eval (.Attribute e f pos) env) Q E s:=
 Attribute_any_ h (by rw[arm_eval_Attribute,hb])
end
noncomputable def bS(K:PySem.W.Frag)(ta:TE)(f:Str):TE:=λO H Q=>ta O H λx H1=>∃a C dx fs v,x=.ref a/\H1 a=some (.ins C dx fs)/\Cls K C/\NoAttr K C f/\fs.lookup f=some v/\Q v H1
noncomputable def bX(K:PySem.W.Frag)(ta tv:TE)(f:Str):TS:=λD O H=>tv O H λy H1=>ta O H1 λx H2=>∃a C dx fs,x=.ref a/\H2 a=some (.ins C dx fs)/\Cls K C/\NoAttr K C f/\fs.length<1000 /\
 D.nx O (upd H2 a (.ins C dx (EN f y fs)))
def bF(X:Cx)(op:Operator)(rd:V->V->Hp->VK->Prop):Prop:=
 ∀(w6:List (Addr×Obj)) (s:Shared) (O:St) (H:Hp) (x y:V) (u v:Value) (Q:VK),Inv X w6 O H s->RelV x u->RelV y v->rd x y H Q->wpAny (model X.prog X.w) X.A (inplaceOp op u v) (EP X w6 O Q) X.xe s
noncomputable def UK(K:PySem.W.Frag)(ta tv:TE)(rd:V->V->Hp->VK->Prop)(f:Str):TS:=λD O H=>ta O H λx H1=>∃a C dx fs v,x=.ref a/\H1 a=some (.ins C dx fs)/\Cls K C/\NoAttr K C f/\fs.lookup f=some v /\
 tv O H1 λy H2=>rd v y H2 λz H3=>∃dx' fs',H3 a=some (.ins C dx' fs')/\fs'.length<1000/\D.nx O (upd H3 a (.ins C dx' (EN f z fs')))
section
variable{X:Cx}{o e value:Expr}{f:Str}{pos pos' tpos:Pos}{ta tv:TE}
theorem Xv(he:PE X e ta)(hb:attributeBase e f X.env (eval e X.env)=eval e X.env):PE X (.Attribute e f pos) (bS X.K ta f):=by
 intro w6 s O H Q I h;refine V0 hb (thn (he w6 s O H _ I h) λu s1 ⟨x,H1,I1,rx,a,C,dx,fs,v,ex,ea,c,n,l,q⟩=>?_);subst ex;obtain rfl:u=Value.ref a:=rx;exact JF I1 ea c n l λu' s2 I2 ru=>⟨v,H1,I2,ru,q⟩
theorem Xj(ha:PE X o ta)(hv:PE X value tv)(hs:swapsWith value (some (.Attribute o f pos')) pos.line X.env=pure false):PS X (.Assign [.Attribute o f pos'] value pos) (bX X.K ta tv f):=by
 intro w6 s O H D I h;refine plainObj_wpAny_Assign_Attribute (thn (hv w6 s O H _ I h) λu s1 ⟨y,H1,I1,ry,q⟩=>thn (ha w6 s1 O H1 _ I1 q) λov s2 ⟨x,H2,I2,rx,a,C,dx,fs,ex,ea,c,n,l,q2⟩=>?_) hs;subst ex;obtain rfl:ov=Value.ref a:=rx;exact IZ I2 ea c n l ry λs3 I3=>⟨O,_,I3,q2⟩
theorem Pg(ha:PE X o ta)(hv:PE X value tv)(hop:bF X op rd):PS X (.AugAssign (.Attribute o f tpos) op value pos) (UK X.K ta tv rd f):=by
 intro w6 s O H D I h;refine wpAny_AugAssign_AttributeAny (thn (ha w6 s O H _ I h) λov s1 ⟨x,H1,I1,rx,a,C,dx,fs,v,ex,ea,c,n,l,q⟩=>?_);subst ex;obtain rfl:ov=Value.ref a:=rx;refine JF I1 ea c n l λu s2 I2 ru=>thn (hv w6 s2 O H1 _ I2 q) λw3 s3 ⟨y,H2,I3,ry,q3⟩=>thn (hop w6 s3 O H2 v y u w3 _ I3 ru ry q3) λw4 s4 ⟨z,H3,I4,rz,dx',fs',ea',l',q4⟩=>?_;exact IZ I4 ea' c n l' rz λs5 I5=>⟨O,_,I5,q4⟩
noncomputable def bz:V->V->Hp->VK->Prop:=λx y H Q=>∃i j,x=.int i/\y=.int j/\Q (.int (i+j)) H
theorem YZ:bF X .Add bz:=by
 rintro w6 s O H x y u v Q I rx ry ⟨i,j,rfl,rfl,q⟩;obtain⟨t,rfl⟩:=(show ∃t,u=Value.int i t from rx);obtain⟨t',rfl⟩:=(show ∃t',v=Value.int j t' from ry);exact PyProof.Rows.iadd_int ⟨.int (i+j),H,I.tok _,⟨_,rfl⟩,q⟩
end
section
variable{X:Cx}{w6:List (Addr×Obj)}{O:St}{H:Hp}{s:Shared}{A:Around}{E:Value->Shared->Prop}{Q:Value->Shared->Prop}{c:Value}{b:Bool}
inductive HA (K:PySem.W.Frag) (H:Hp):V->Value->Prop where
 |non:HA K H .non (.type "NoneType")
 |bl (x:Bool):HA K H (.bl x) (.type "bool")
 |int (i:Int):HA K H (.int i) (.type "int")
 |str (x:Str):HA K H (.str x) (.type "str")
 |flt (x:UInt64):HA K H (.flt x) (.type "float")
 |lst {a:Addr} {xs:List V} (e:H a=some (.lst xs)):HA K H (.ref a) (.type "list")
 |frz {a:Addr} {o:Obj} {xs:List V} (e:H a=some (.frz o (.lst xs))):HA K H (.ref a) (.type "list")
 |tup {a:Addr} {xs:List V} (e:H a=some (.tup xs)):HA K H (.ref a) (.type "tuple")
 |dK {a:Addr} {kvs:List (Key×V)} (e:H a=some (.dK kvs)):HA K H (.ref a) (.type "dict")
 |dT {a:Addr} {kvs:List (List Key×V)} (e:H a=some (.dT kvs)):HA K H (.ref a) (.type "dict")
 |ins {a C dx:Addr} {fs:List (Str×V)} (e:H a=some (.ins C dx fs)) (cl:Cls K C) (ha:PySem.W.findIn K (.ref C) "__class__" = some (some (.builtin "object.__class__")))
   (hn:PySem.W.specialIn K (.builtin "object.__class__") "__get__" = some (some (.builtin "getset_descriptor.__get__"))) (htk:PySem.W.takesIn K (.builtin "object.__class__")=some true)
   (hm:PySem.W.mroIn K C (.type "object")=some true):HA K H (.ref a) (.ref C)
theorem P4(I:Inv X w6 O H s)(rx:RelV x u)(ty:HA X.K H x t)(e:PySem.W.kitOne X.K t c=some b)(h:∀tk,Q (.bool b) { s with toks:=tk }):
  wpAny (model X.prog X.w) A (call (.builtin "isinstance") [u,c]) Q E s:=by
 cases ty with
 |non=>cases (show u=Value.none from rx);exact PySem.W.kia_one PySem.W.kitx_none I.kIn True.intro e (λz=>nomatch z) h
 |bl y=>cases (show u=Value.bool y from rx);exact PySem.W.kia_one PySem.W.kitx_bool I.kIn True.intro e (λz=>nomatch z) h
 |int i=>obtain⟨t,q⟩:=(show ∃t,u=Value.int i t from rx);cases q;exact PySem.W.kia_one PySem.W.kitx_int I.kIn True.intro e (λz=>nomatch z) h
 |str y=>obtain⟨t,q⟩:=(show ∃t,u=Value.str y t from rx);cases q;exact PySem.W.kia_one PySem.W.kitx_str I.kIn True.intro e (λz=>nomatch z) h
 |flt y=>obtain⟨t,q⟩:=(show ∃t,u=Value.float y t from rx);cases q;exact PySem.W.kia_one PySem.W.kitx_float I.kIn True.intro e (λz=>nomatch z) h
 |@lst a xs ea=>
  cases (show u=Value.ref a from rx);obtain⟨_,_,n,_,h1⟩:=(show ObjOk X.prog X.w H s.heap a (.lst xs) from I.hok a _ ea);exact PySem.W.kia_one PySem.W.kitx_list I.kIn ⟨_,h1,rfl⟩ e (λz=>nomatch z) h
 |@frz a ob xs ea=>
  cases (show u=Value.ref a from rx);obtain⟨_,_,_,n,_,h1⟩:=(show ObjOk X.prog X.w H s.heap a (.frz ob (.lst xs)) from I.hok a _ ea);exact PySem.W.kia_one PySem.W.kitx_list I.kIn ⟨_,h1,rfl⟩ e (λz=>nomatch z) h
 |@tup a xs ea=>
  cases (show u=Value.ref a from rx);obtain⟨_,_,_,p⟩:=(show ObjOk X.prog X.w H s.heap a (.tup xs) from I.hok a _ ea);obtain⟨o,h1,h2,_⟩:=p;exact PySem.W.kia_one PySem.W.kitx_tuple I.kIn ⟨o,h1,h2⟩ e (λz=>nomatch z) h
 |@dK a kvs ea=>
  cases (show u=Value.ref a from rx);obtain⟨_,_,vs,_,p⟩:=(show ObjOk X.prog X.w H s.heap a (.dK kvs) from I.hok a _ ea);obtain⟨o,es,ep,h1,h2,_⟩:=p;exact PySem.W.kia_one PySem.W.kitx_dict I.kIn ⟨o,h1,h2.1⟩ e (λz=>nomatch z) h
 |@dT a kvs ea=>
  cases (show u=Value.ref a from rx);obtain⟨_,_,xs,_,o,es,ep,h1,h2,_⟩:=(show ObjOk X.prog X.w H s.heap a (.dT kvs) from I.hok a _ ea);exact PySem.W.kia_one PySem.W.kitx_dict I.kIn ⟨o,h1,h2.1⟩ e (λz=>nomatch z) h
 |@ins a C dx fs ea cl ha hn htk hm=>
  cases (show u=Value.ref a from rx);obtain⟨mA,O_,_⟩:=IJ I.hok ea;obtain⟨od,J,_⟩:=O_.look;exact PySem.W.kia_one (PySem.W.kitx_own (cl.get _) cl.hd ha hn htk hm) I.kIn J e (λz=>nomatch z) h
end
structure Room(k:Nat)(A:Around):Prop where
 hd:A.handled=none
 dp:A.depth+3 * k+5<recursionLimit
 un:A.units+16 * k+200<cLine
 gd:A.guards=some []
theorem Room.mono(r:Room k A)(h:j<=k):Room j A:=⟨r.hd,by have:=r.dp;omega,by have:=r.un;omega,r.gd⟩
theorem Room.deeper(r:Room (k+1) A)(env:Env):Room k (A.deeper env):=
 ⟨r.hd,by have:=r.dp;show A.depth+1+3 * k+5<_;omega,by have:=r.un;show A.units+3+16 * k+200<_;omega,r.gd⟩
theorem NQ{A:Around}{us:List Value}{kw:List (Str×Value)}:(A.under (.builtin "type.__call__" ⟨.ref C::us,kw⟩)).depth=A.depth+1:=by
 first|rfl|simp[Around.under,Code.weight,Code.isCreation,Code.isGuard,Code.isCaller,Code.frames,Code.isFrame,guardIds]
theorem NP{A:Around}{C:Addr}:(A.under (.builtin "type.__call__" ⟨.ref C::us,kw⟩)).units=A.units+1:=by
 first|rfl|simp[Around.under,Code.cUnits,Code.frames,Code.isFrame]
theorem Room.make(r:Room (k+1) A)(C:Addr)(us:List Value)(kw:List (Str×Value)):Room k (A.under (.builtin "type.__call__" ⟨.ref C::us,kw⟩)):=
 ⟨r.hd,by have:=r.dp;rw[NQ];omega,by have:=r.un;rw[NP];omega,r.gd⟩
theorem Room.depth(r:Room k A):A.depth<recursionLimit:=by have:=r.dp;omega
theorem Room.units(r:Room k A):A.units+64<cLine:=by have:=r.un;omega
noncomputable def ZQ:TA:=λ_ H Q=>Q [] H
noncomputable def Zc(ta:TE)(tr:TA):TA:=λO H Q=>ta O H λx H1=>tr O H1 λxs H2=>Q (x::xs) H2
section
variable{X:Cx}{e:Expr}{es:List Expr}{te:TE}{t:TA}{pos:Pos}
theorem Dr:PA X [] ZQ:=λ_ _ _ _ H Q I h=>Calls.spliced_nil ⟨[],H,I,.nil,h⟩
theorem B7(ha:PE X e te)(hr:PA X es t)(hs:starEach (e::es) X.env=(false,eval e X.env)::starEach es X.env:=by rfl):PA X (e::es) (Zc te t):=by
 intro pos w6 s O H Q I h;rw[hs];show wpAny _ _ (spliced ((false,eval e X.env)::backTo pos (starEach es X.env))) _ _ s;refine Calls.spliced_cons (thn (ha w6 s O H _ I h) λu s1 ⟨x,H1,I1,r1,q1⟩=>?_);exact thn (hr pos w6 s1 O H1 _ I1 q1) λus s2 ⟨xs,H2,I2,r2,q2⟩=>⟨x::xs,H2,I2,.cons r1 r2,q2⟩
noncomputable def bK(t:TA):TE:=λO H Q=>t O H λxs H1=>xs.length<=sizeLine/\∀p,H1 p=none->Q (.ref p) (upd H1 p (.tup xs))
noncomputable def bP(t:TA):TE:=λO H Q=>t O H λxs H1=>xs.length<=sizeLine/\∀p,H1 p=none->Q (.ref p) (upd H1 p (.lst xs))
theorem R7(h:PA X es t):PE X (.Tuple es x1 pos) (bK t):=by
 intro w6 s O H Q I hq;refine wpAny_Tuple_spliced (thn (h pos w6 s O H _ I hq) λus s1 ⟨xs,H1,I1,r,z,q⟩=>⟨by rw[←r.length];exact z,?_⟩);have hf:H1 s1.heap.objs.size=none:=I1.hok.fresh (AAF _);refine⟨.ref s1.heap.objs.size,upd H1 s1.heap.objs.size (.tup xs),I1.laid (t':=s1.toks) (λb u e=>AAC _ e) (AAF _) ?_,rfl,q _ hf⟩;exact⟨z,us,r,⟨_,AAD _ rfl,rfl,_,rfl⟩⟩
theorem SA(h:PA X es t):PE X (.List es pos) (bP t):=by
 intro w6 s O H Q I hq;refine wpAny_List_spliced (thn (h pos w6 s O H _ I hq) λus s1 ⟨xs,H1,I1,r,z,q⟩=>⟨by rw[←r.length];exact z,?_⟩);have hf:H1 s1.heap.objs.size=none:=I1.hok.fresh (AAF _);refine⟨.ref s1.heap.objs.size,upd H1 s1.heap.objs.size (.lst xs),I1.laid (t':=s1.toks) (λb u e=>AAC _ e) (AAF _) ?_,rfl,q _ hf⟩;exact⟨z,us,0,r,AAD _ rfl⟩
end
noncomputable abbrev Sp:=List V->Hp->VK->XK->Prop
noncomputable abbrev CXT:=List Env->Hp->Shared->XK->Value->Shared->Prop
structure Env0(P:Program)(w:World)(K:PySem.W.Frag)(mg:Str->Option Value)(base:Heap)(A:Around)(outer:List Env)(s:Shared)(H:Hp):Prop where
 frames:A.frames=some outer
 mod:Mod K mg base
 bs:∀b o,base.get? b=some o->s.heap.get? b=some o/\H b=none
 bsz:base.objs.size<=s.heap.objs.size
 funs:s.heap.FunFrames base outer
 frf:∀b∈frs outer,H b=none
 hok:HOk P w H s.heap
 bare:AllBare s.gens
def CE(outer:List Env)(P:Program)(w:World)(H:Hp)(s:Shared)(Q:VK)(u:Value)(s':Shared):Prop:=
 ∃v H',s'.os=s.os/\AllBare s'.gens/\Un (frs outer) [] H H' s.heap s'.heap/\HOk P w H' s'.heap/\RelV v u/\Q v H'
def CR(CX:CXT)(outer:List Env)(P:Program)(w:World)(H:Hp)(s:Shared)(Q:VK)(E:XK)(r:Result)(s':Shared):Prop:=
 match r with
 | .ok (.ret u)=>CE outer P w H s Q u s'
 | .ok _=>False
 | .error e=>CX outer H s E e s'
structure FnOk(P:Program)(w:World)(K:PySem.W.Frag)(mg:Str->Option Value)(base:Heap)(CX:CXT)(k:Nat)(f:Addr)(fd:FuncData)(ps:List Str)(sp:Sp):Prop where
 len:∀vs H Q E,sp vs H Q E->vs.length=ps.length
 run:∀(A:Around) (outer:List Env) (s:Shared) (H:Hp) (args:Args) (us:List Value) (vs:List V) (Q:VK) (E:XK),Room k A->Env0 P w K mg base A outer s H->BindsTo s fd args (ps.zip us)->Vals vs us->sp vs H Q E->
  codeAny (model P w) A (.call (.ref f) args) (CR CX outer P w H s Q E) s
theorem FnOk.mono{P:Program}{w:World}{K:PySem.W.Frag}{mg:Str->Option Value}{base:Heap}(F:FnOk P w K mg base CX j f fd ps sp)(h:j<=k):
  FnOk P w K mg base CX k f fd ps sp:=⟨F.len,λA outer s H args us vs Q E hr=>F.run A outer s H args us vs Q E (hr.mono h)⟩
theorem FnOk.imp{P:Program}{w:World}{K:PySem.W.Frag}{mg:Str->Option Value}{base:Heap}(F:FnOk P w K mg base CX k f fd ps sp)
  (h:∀vs H Q E,sp' vs H Q E->sp vs H Q E):FnOk P w K mg base CX k f fd ps sp':=
 ⟨λvs H Q E q=>F.len vs H Q E (h _ _ _ _ q),λA outer s H args us vs Q E hr he hb hv hs=>F.run A outer s H args us vs Q E hr he hb hv (h _ _ _ _ hs)⟩
theorem Env0.make{P:Program}{w:World}{K:PySem.W.Frag}{mg:Str->Option Value}(e:Env0 P w K mg base A outer s H)(C:Addr)(us:List Value)(kw:List (Str×Value)):
  Env0 P w K mg base (A.under (.builtin "type.__call__" ⟨.ref C::us,kw⟩)) outer s H:=⟨by first|exact e.frames|(simpa[Around.under,Code.envs,Code.isFrame,pushEnvs] using e.frames),e.mod,e.bs,e.bsz,e.funs,e.frf,e.hok,e.bare⟩
section
variable{X:Cx}{w6:List (Addr×Obj)}{O:St}{H:Hp}{s s':Shared}
theorem Inv.env0(I:Inv X w6 O H s):Env0 X.prog X.w X.K X.mg X.base X.A X.stack s H:=
 ⟨I.ok.frames,I.ok.mod,I.bs,AAp I.ok.bsz I.sz,I.stack,I.stkFree,I.hok,I.bare⟩
theorem Inv.after(I:Inv X w6 O H s)(h:CE X.stack X.prog X.w H s Q u s'):EP X w6 O Q u s':=by
 obtain⟨v,H',os,bare,un,hok,r,q⟩:=h;obtain⟨hh,g,d,t,os'⟩:=s';obtain rfl:os'=s.os:=os;exact⟨v,H',I.call (h':=hh) (g':=g) (d':=d) (t':=t) (ch:=[]) un hok bare (λb z=>absurd z (by simp)),r,q⟩
end
noncomputable def Zd(sp:Sp)(dvs:List V)(E:XK)(t:TA):TE:=λO H Q=>t O H λvs H1=>sp (vs++dvs) H1 Q E
noncomputable def WB(C:Addr)(m:Str)(sp:Sp)(dvs:List V)(E:XK)(ta:TE)(t:TA):TE:=λO H Q=>ta O H λx H1=>∃a dx fs,x=.ref a/\H1 a=some (.ins C dx fs)/\fs.lookup m=none /\
 t O H1 λvs H2=>sp (x::(vs++dvs)) H2 Q E
noncomputable def ZS(C:Addr)(sp:Sp)(dvs:List V)(E:XK)(t:TA):TE:=λO H Q=>t O H λvs H1=>∀x dx,H1 x=none->H1 dx=none->dx≠x->
 sp (.ref x::(vs++dvs)) (upd (upd H1 dx (.own x)) x (.ins C dx [])) (λv H2=>v=.non/\Q (.ref x) H2) E
def Binds(K:PySem.W.Frag)(fd:FuncData)(ps:List Str)(ds:List Value):Prop:=
 ∀(s:Shared) (us:List Value),K.In s.heap->(us++ds).length=ps.length->BindsTo s fd ⟨us,[]⟩ (ps.zip (us++ds))
theorem Binds.all{K:PySem.W.Frag}(h:∀us:List Value,us.length=ps.length->bindArgs fd ⟨us,[]⟩=pure (ps.zip us)):Binds K fd ps []:=λs us _ hl=>by
 rw[AAX] at hl ⊢;exact .of_eq (h us hl)
def GZ(CX:CXT)(X:Cx)(E:XK):Prop:=∀(w6:List (Addr×Obj)) (O:St) (H:Hp) (s:Shared) (e:Value) (s':Shared),Inv X w6 O H s->CX X.stack H s E e s'->X.xe e s'
section
variable{X:Cx}{CX:CXT}{k:Nat}{f C:Addr}{fd:FuncData}{ps:List Str}{sp:Sp}{dvs:List V}{ds:List Value}{E:XK}{x m:Str}{p pos apos:Pos}{e o:Expr}{es:List Expr}{ta:TE}{t:TA}
theorem M5(F:FnOk X.prog X.w X.K X.mg X.base CX k f fd ps sp)(hr:Room k X.A)(hb:Binds X.K fd ps ds)(hd:Vals dvs ds)(hx:GZ CX X E)
  (I:Inv X w6 O H s) (r:Vals vs us) (h:sp (vs++dvs) H Q E):wpAny (model X.prog X.w) X.A (call (.ref f) us) (EP X w6 O Q) X.xe s:=by
 have r2:Vals (vs++dvs) (us++ds):=r.append hd;have hl:(us++ds).length=ps.length:=by rw[←r2.length];exact F.len _ _ _ _ h
 refine wpAny_call (codeAny_mono (F.run X.A X.stack s H ⟨us,[]⟩ (us++ds) (vs++dvs) Q E hr I.env0 (hb s us I.kIn hl) r2 h) λr s' hq=>?_);cases r with
 |error e=>exact hx w6 O H s e s' I hq
 |ok fl=>
  cases fl with
  |ret u=>exact I.after hq
  |next=>exact False.elim hq
  |brk=>exact False.elim hq
  |cont=>exact False.elim hq
theorem OW(F:FnOk X.prog X.w X.K X.mg X.base CX k f fd ps sp)(hr:Room k X.A)(hg:Gl X x)(hm:X.mg x=some (.ref f))(hk:PySem.W.keepIn X.K (.ref f)=true)(hb:Binds X.K fd ps ds)(hd:Vals dvs ds)(hx:GZ CX X E)
  (ha:PA X (e::es) t) (hdb:(x==("__debug__" : Str))=false:=by decide) (he:starEach (e::es) X.env=(false,eval e X.env)::starEach es X.env:=by rfl) (hpl:(backTo pos (starEach es X.env)).any (·.1)=false:=by rfl) :
  PE X (.Call (.Name x p) (e::es) [] pos) (Zd sp dvs E t):=by
 intro w6 s O H Q I h;refine wpAny_Call_Name_kw (EF I hg hm ?_ hdb);refine PySem.W.callWith_K (h₀:=X.base) I.ok.mod.kin hk (thn (ha pos w6 s O H _ I h) λus s1 ⟨vs,H1,I1,r,q⟩=>⟨I1.kIn,?_⟩) he hpl;exact M5 F hr hb hd hx I1 r q
theorem Up(he:PE X o ta)(c:Cls X.K C)(hm:Tl X.K C m f)(F:FnOk X.prog X.w X.K X.mg X.base CX k f fd ps sp)(hr:Room k X.A)(hb:Binds X.K fd ps ds)(hd:Vals dvs ds)(hx:GZ CX X E)(ha:PA X (e::es) t)
  (hst:starEach (e::es) X.env=(false,eval e X.env)::starEach es X.env:=by rfl) (hpl:(backTo pos (starEach es X.env)).any (·.1)=false:=by rfl)
  (ht:eval (.Call (.Attribute o m apos) (e::es) [] pos) X.env=(do
   let ov ←eval o X.env
   standAt apos.atName
   let (f,first) ←holding [ov] (getMethod ov m pl)
   callWith pos f first (backTo pos (starEach (e::es) X.env)) (backToKw pos (keywordEach [] X.env))):=by rfl) :
  PE X (.Call (.Attribute o m apos) (e::es) [] pos) (WB C m sp dvs E ta t):=by
 intro w6 s O H Q I h;refine PySem.W.methodCall_KW (pl:=pl) (thn (he w6 s O H _ I h) λu s1 ⟨x,H1,I1,rx,a,dx,fs,ex,ea,l,q⟩=>?_) ht;subst ex;obtain rfl:u=Value.ref a:=rx;refine JE I1 ea c hm l ?_;refine PySem.W.callWith_K (first:=[.ref a]) (h₀:=X.base) I.ok.mod.kin hm.kp (thn (ha pos w6 s1 O H1 _ I1 q) λus s2 ⟨vs,H2,I2,r,q2⟩=>⟨I2.kIn,?_⟩) hst hpl;exact M5 (us:=.ref a::us) (vs:=.ref a::vs) F hr hb hd hx I2 (.cons rfl r) q2
theorem R9(he:PE X o ta)(c:Cls X.K C)(hm:Tl X.K C m f)(F:FnOk X.prog X.w X.K X.mg X.base CX k f fd ps sp)(hr:Room k X.A)(hb:Binds X.K fd ps ds)(hd:Vals dvs ds)(hx:GZ CX X E)
  (ht:eval (.Call (.Attribute o m apos) [] [] pos) X.env=(do
   let ov ←eval o X.env
   standAt apos.atName
   let (f,first) ←holding [ov] (getMethod ov m pl)
   callWith pos f first (backTo pos (starEach [] X.env)) (backToKw pos (keywordEach [] X.env))):=by rfl) :
  PE X (.Call (.Attribute o m apos) [] [] pos) (WB C m sp dvs E ta ZQ):=by
 intro w6 s O H Q I h;refine PySem.W.methodCall_KW (pl:=pl) (thn (he w6 s O H _ I h) λu s1 ⟨x,H1,I1,rx,a,dx,fs,ex,ea,l,q⟩=>?_) ht;subst ex;obtain rfl:u=Value.ref a:=rx;refine JE I1 ea c hm l ?_;exact PySem.W.callWith_K0 (first:=[.ref a]) I1.kIn hm.kp (M5 (us:=[.ref a]) (vs:=[.ref a]) F hr hb hd hx I1 (.cons rfl .nil) q)
structure Mk(K:PySem.W.Frag)(C f:Addr):Prop where
 makes:PySem.W.makesIn K C=true
 init:PySem.W.findIn K (.ref C) "__init__" = some (some (.ref f))
 fn:PySem.W.isFn K (.ref f)=true
 kp:PySem.W.keepIn K (.ref C)=true
theorem RQ(M:Mk X.K C f)(F:FnOk X.prog X.w X.K X.mg X.base CX k f fd ps sp)(hr:Room (k+1) X.A)(hb:Binds X.K fd ps ds)(hd:Vals dvs ds)
  (hx:GZ CX X E) (I:Inv X w6 O H s) (r:Vals vs us)
  (h:∀x dx,H x=none->H dx=none->dx≠x->sp (.ref x::(vs++dvs)) (upd (upd H dx (.own x)) x (.ins C dx [])) (λv H2=>v=.non/\Q (.ref x) H2) E) :
  wpAny (model X.prog X.w) X.A (call (.ref C) us) (EP X w6 O Q) X.xe s:=by
 have hq:=h (s.heap.objs.size+1) s.heap.objs.size (I.hok.fresh (Nat.le_succ _)) (I.hok.fresh (AAF _)) (AAb (Nat.lt_succ_self _));have I2:=Inv.made (C:=C) I;have r2:Vals (V.ref (s.heap.objs.size+1)::(vs++dvs)) (Value.ref (s.heap.objs.size+1)::(us++ds)):=.cons rfl (r.append hd);have hl:(Value.ref (s.heap.objs.size+1)::us++ds).length=ps.length:=by
  have e:=r2.length;rw[F.len _ _ _ _ hq] at e;exact e.symm
 refine wpAny_call (SS (f:=f) I.kIn M.makes M.init (beq_iff_eq.mp M.fn) (codeAny_mono (F.run _ X.stack _ _ ⟨Value.ref (s.heap.objs.size+1)::us,[]⟩ (Value.ref (s.heap.objs.size+1)::(us++ds)) _ _ E (hr.make C us [])
  (I2.env0.make C us []) (hb _ (Value.ref (s.heap.objs.size+1)::us) I2.kIn hl) r2 hq) λr s' hq'=>?_))
 cases r with
 |error e=>exact hx w6 O _ _ e s' I2 hq'
 |ok fl=>
  cases fl with
  |ret u=>
   obtain⟨v,H',I3,rv,ev,q3⟩:=I2.after hq';subst ev;exact⟨rv,⟨V.ref (s.heap.objs.size+1),H',I3,rfl,q3⟩⟩
  |next=>exact False.elim hq'
  |brk=>exact False.elim hq'
  |cont=>exact False.elim hq'
theorem Uq(M:Mk X.K C f)(F:FnOk X.prog X.w X.K X.mg X.base CX k f fd ps sp)(hr:Room (k+1) X.A)(hg:Gl X x)(hm:X.mg x=some (.ref C))(hb:Binds X.K fd ps ds)(hd:Vals dvs ds)(hx:GZ CX X E)
  (ha:PA X (e::es) t) (hdb:(x==("__debug__" : Str))=false:=by decide) (he:starEach (e::es) X.env=(false,eval e X.env)::starEach es X.env:=by rfl) (hpl:(backTo pos (starEach es X.env)).any (·.1)=false:=by rfl) :
  PE X (.Call (.Name x p) (e::es) [] pos) (ZS C sp dvs E t):=by
 intro w6 s O H Q I h;refine wpAny_Call_Name_kw (EF I hg hm ?_ hdb);refine PySem.W.callWith_K (h₀:=X.base) I.ok.mod.kin M.kp (thn (ha pos w6 s O H _ I h) λus s1 ⟨vs,H1,I1,r,q⟩=>⟨I1.kIn,?_⟩) he hpl;exact RQ M F hr hb hd hx I1 r q
end
structure Ab(N P:List Str)(sc:Scope):Prop where
 kind:sc.kind=.function
 co:sc.isCoroutine=false
 gen:sc.isGenerator=false
 nd:N.Nodup
 pre:N.take P.length=P
 par:∀x∈P,sc.names.lookup x=some .local∨sc.names.lookup x=some .cell
 nofree:∀y∈sc.names,y.2≠.free
theorem KZ{kindOf:Str->Option NameKind}:∀{binds:List (Str×Value)} {m:Str->Option Value},(∀v,(x,v)∉binds)->bindL kindOf binds m x=m x
 |[],_,_=>rfl
 |(n,v)::r,m,h=>by
  unfold bindL;rw[KZ λw hw=>h w (AAQ _ hw)];split
  ·have:x≠n:=by rintro rfl;exact h v AAP
   simp[this]
  ·rfl
theorem Kb{kindOf:Str->Option NameKind}:∀{binds:List (Str×Value)} {m:Str->Option Value},(∀v,(x,v)∉binds)->bindC kindOf binds m x=m x
 |[],_,_=>rfl
 |(n,v)::r,m,h=>by
  unfold bindC;rw[Kb λw hw=>h w (AAQ _ hw)];split
  ·rfl
  ·have:x≠n:=by rintro rfl;exact h v AAP
   simp[this]
theorem Ka{kindOf:Str->Option NameKind}:∀{P:List Str} {vs:List Value} {i:Nat} {m:Str->Option Value},P.Nodup->P[i]?=some x->vs[i]?=some v->kindOf x=some .local->
  bindL kindOf (P.zip vs) m x=some v
 |[],_,_,_,_,h,_,_=>by simp at h
 |_::_,[],_,_,_,_,h,_=>by simp at h
 |p::P,w::vs,0,m,nd,h1,h2,hk=>by
  simp at h1 h2;subst h1;subst h2;show bindL kindOf ((p,w)::P.zip vs) m p=_;unfold bindL;rw[KZ λv hv=>(List.nodup_cons.mp nd).1 (List.of_mem_zip hv).1,if_pos hk];simp
 |p::P,w::vs,i+1,m,nd,h1,h2,hk=>by
  show bindL kindOf ((p,w)::P.zip vs) m x=_;unfold bindL;exact Ka (i:=i) (List.nodup_cons.mp nd).2 (by simpa using h1) (by simpa using h2) hk
theorem Kc{kindOf:Str->Option NameKind}:∀{P:List Str} {vs:List Value} {i:Nat} {m:Str->Option Value},P.Nodup->P[i]?=some x->vs[i]?=some v->kindOf x≠some .local->
  bindC kindOf (P.zip vs) m x=some v
 |[],_,_,_,_,h,_,_=>by simp at h
 |_::_,[],_,_,_,_,h,_=>by simp at h
 |p::P,w::vs,0,m,nd,h1,h2,hk=>by
  simp at h1 h2;subst h1;subst h2;show bindC kindOf ((p,w)::P.zip vs) m p=_;unfold bindC;rw[Kb λv hv=>(List.nodup_cons.mp nd).1 (List.of_mem_zip hv).1,if_neg hk];simp
 |p::P,w::vs,i+1,m,nd,h1,h2,hk=>by
  show bindC kindOf ((p,w)::P.zip vs) m x=_;unfold bindC;exact Kc (i:=i) (List.nodup_cons.mp nd).2 (by simpa using h1) (by simpa using h2) hk
noncomputable def start(N:List Str)(vs:List V):St:=vs.map some++List.replicate (N.length-vs.length) none
noncomputable def Fu(CX:CXT)(P:Program)(w:World)(K:PySem.W.Frag)(mg:Str->Option Value)(base:Heap)(N:List Str)(qual:Str)(scope:Scope)(f:Addr)(cd:Value)(A:Around)(outer:List Env)(s:Shared)(H:Hp)(E:XK):Cx where
 prog:=P
 w:=w
 K:=K
 mg:=mg
 base:=base
 A:=A.deeper (envOfC qual scope s.heap.objs.size f cd)
 N:=N
 s₀:=s
 H₀:=H
 env:=envOfC qual scope s.heap.objs.size f cd
 outer:=outer
 stack:=envOfC qual scope s.heap.objs.size f cd::outer
 ex:=[]
 calm:=true
 fn:=λ_=>true
 pn:=[]
 xe:=λe s'=>wpAny (model P w) (A.deeper (envOfC qual scope s.heap.objs.size f cd)) (leaving (envOfC qual scope s.heap.objs.size f cd) e) (λ_ s''=>CX outer H s E e s'') (λe' s''=>CX outer H s E e' s'') s'
theorem MY{sc:Scope}(h:sc.names.lookup x=some .cell):∃c,(cellsFrom n sc.names []).lookup x=some c:=by
 have q:=PySem.W.cellsFrom_some sc.names n [] (.inl h);exact Option.isSome_iff_exists.mp q
theorem P5{CX:CXT}{P:Program}{w:World}{K:PySem.W.Frag}{mg:Str->Option Value}{base:Heap}{N ps:List Str}{qual:Str}{scope:Scope}
  (S:Ab N ps scope) (hd:A.handled=none) (e0:Env0 P w K mg base A outer s H) (hl:vs.length=ps.length) (r:Vals vs us)
  (x:InCallC s s.heap.objs.size (bindL (envOfC qual scope s.heap.objs.size f cd).kindOf (ps.zip us) λ_=>none) (cellsFrom (s.heap.objs.size+1) scope.names []) (bindC (envOfC qual scope s.heap.objs.size f cd).kindOf (ps.zip us) λ_=>none) s1) :
  Inv (Fu CX P w K mg base N qual scope f cd A outer s H E) [] (start N vs) H s1:=by
 have hpl:ps.length<=N.length:=by have:=congrArg List.length S.pre;rw[List.length_take] at this;omega
 obtain⟨h1,tk,rfl,hk⟩:=x.done;have noA:∀b:Addr,b∉(Fu CX P w K mg base N qual scope f cd A outer s H E).ex:=λb z=>absurd (show b∈([]:List Addr) from z) (by simp);refine⟨⟨e0.mod,S.kind,rfl,rfl,AAF _,λy z c h1 h2=>?_,λy hy=>?_,λy c _ h=>?_,λ_=>hd,Around.frames_deeper e0.frames,.inr ⟨rfl,rfl⟩,λb z=>absurd z (noA b),e0.bs,e0.bsz,λb _ _=>noA b,λb z=>absurd z (noA b),e0.funs,e0.frf⟩,
  rfl,e0.bare,Un.kept hk,⟨_,x.toInCall.ns,λi y v h1 h2 h3=>?_⟩,λy c h=>⟨_,x.cell y c h⟩,e0.hok.fresh (AAF _),λy c h=>?_,λp hp=>absurd (show p∈([]:List (Addr×Obj)) from hp) (by simp),e0.hok.kept hk,?_⟩
 ·exact name_of_addr x.apart (PySem.mem_of_lookup h1) (PySem.mem_of_lookup h2)
 ·have hy:scope.names.lookup y=some .cell∨scope.names.lookup y=some .free:=hy;rcases hy with hy|hy
  ·exact MY hy
  ·exact absurd rfl (S.nofree _ (PySem.mem_of_lookup hy))
 ·exact Nat.le_of_lt (x.above y c (PySem.mem_of_lookup h))
 ·have hi:i<vs.length:=by
   unfold start at h2;by_cases hi:i<vs.length
   ·exact hi
   ·rw[AAR (by simpa using hi)] at h2;rw[List.getElem?_replicate] at h2;split at h2<;>cases h2
  have ha:vs[i]?=some v:=by
   unfold start at h2;rw[AAS (by simpa using hi),AAV] at h2;cases e:vs[i]? with
   |none=>rw[e] at h2;cases h2
   |some a=>rw[e] at h2;cases h2;rfl
  obtain⟨u,hu,rv⟩:=r.get ha;have hp:ps[i]?=some y:=by
   rw[←S.pre,List.getElem?_take_of_lt (by omega)];exact h1
  have ndP:ps.Nodup:=by rw[←S.pre];exact S.nd.sublist (List.take_sublist _ _)
  refine⟨u,rv,?_⟩;rcases S.par y (AAU hp) with k|k
  ·exact .inl ⟨k,Ka ndP hp hu k⟩
  ·obtain⟨c,e⟩:=MY (n:=s.heap.objs.size+1) k;refine .inr ⟨.inl k,c,e,?_⟩;have q:=x.cell y c e;rw[Kc ndP hp hu (by show scope.names.lookup y≠_;rw[k];decide)] at q;exact q
 ·exact e0.hok.fresh (Nat.le_of_lt (x.above y c (PySem.mem_of_lookup h)))
 ·unfold start;show _=N.length;rw[AAH,AAG,AAj];omega
theorem We{CX:CXT}{P:Program}{w:World}{K:PySem.W.Frag}{mg:Str->Option Value}{base:Heap}{k:Nat}{f:Addr}{name qual:Str}{params:Arguments}{body:List Stmt}{scope:Scope}{dV kV doc pm cdv ct oc:Value}{an od:Option Addr}
  {osl:Array (Option Value)} {N ps:List Str} {sp:Sp} (lk:K.lookup f=some ⟨oc,od,.func (PySem.W.fnOf name qual params body scope dV kV doc pm an cdv ct),osl⟩) (hcd:PySem.W.codeIn K cdv qual=true) (S:Ab N ps scope)
  (len:∀vs H Q E,sp vs H Q E->vs.length=ps.length)
  (hbody:∀(A:Around) (outer:List Env) (s:Shared) (H:Hp) (vs:List V) (Q:VK) (E:XK),Room k (A.deeper (envOfC qual scope s.heap.objs.size f cdv))->sp vs H Q E->
   ∃t,PSs (Fu CX P w K mg base N qual scope f cdv A outer s H E) body t/\t { nx:=λ_ H'=>Q .non H',rt:=Q } (start N vs) H) :
  FnOk P w K mg base CX (k+1) f (PySem.W.fnOf name qual params body scope dV kV doc pm an cdv ct) ps sp:=by
 refine⟨len,λA outer s H args us vs Q E hr e0 hb r hsp=>?_⟩;have hl:=len _ _ _ _ hsp;have KX:K.In s.heap:=e0.mod.kin.keeps λb o e=>(e0.bs b o e).1;have lim:s.heap.NoLimit:=e0.mod.nolimit.keeps λb o e=>(e0.bs b o e).1;have hkind:∀y∈ps.zip us,scope.names.lookup y.1=some .local∨(scope.names.lookup y.1=some .cell/\((cellsFrom (s.heap.objs.size+1) scope.names []).lookup y.1).isSome=true):=λ⟨n,v⟩ hy=>by
  rcases S.par n (List.of_mem_zip hy).1 with q|q
  ·exact .inl q
  ·exact .inr ⟨q,PySem.W.cellsFrom_some _ _ _ (.inl q)⟩
 refine codeAny_call_function hr.depth (KX _ _ lk) rfl S.co S.gen rfl (PySem.W.codeRec_of KX hcd) (hb _ _ _ _ ?_);refine wpAny_newFunctionEnv_cells S.kind hkind λenv he s1 x=>?_;subst he;refine⟨lim.keeps x.toInCall.keep,codeAny_func ?_⟩;obtain⟨t,ht,hq⟩:=hbody A outer s H vs Q E (hr.deeper _) hsp;have I:Inv (Fu CX P w K mg base N qual scope f cdv A outer s H E) [] (start N vs) H s1:=P5 S hr.hd e0 hl r x;refine AAg (ht [] s1 (start N vs) H _ I hq) (λfl s' hs=>?_) λe s' hs=>hs;have fin:∀{v7:St} {H':Hp} {v:V} {u:Value},Inv (Fu CX P w K mg base N qual scope f cdv A outer s H E) [] v7 H' s'->RelV v u->Q v H'->CE outer P w H s Q u s':=
  λ{v7 H' v u} J rv q=>⟨v,H',J.os,J.bare,J.base,J.hok,rv,q⟩
 cases fl with
 |ret u=>
  obtain⟨v,v7,H',J,rv,q⟩:=hs;exact fin J rv q
 |next=>
  obtain⟨v7,H',J,q⟩:=hs;exact fin (v:=V.non) (u:=Value.none) J rfl q
 |brk=>
  obtain⟨_,_,_,q⟩:=hs;exact False.elim q
 |cont=>
  obtain⟨_,_,_,q⟩:=hs;exact False.elim q
section
variable{X:Cx}{x:Str}{p pos:Pos}{e:Expr}{es:List Expr}{t:TA}{id T:String}{r:List V->Hp->VK->Prop}
noncomputable def tCB(r:List V->Hp->VK->Prop)(t:TA):TE:=λO H Q=>t O H λvs H1=>r vs H1 Q
theorem Eb(hc:Bo X (.builtin id) r)(hg:Gl X x)(hm:X.mg x=none)(hv:bootBuiltins x=some (.builtin id))(ha:PA X (e::es) t)(hn:x ≠ "__name__" := by decide)(hdb:(x==("__debug__" : Str))=false:=by decide)
  (he:starEach (e::es) X.env=(false,eval e X.env)::starEach es X.env:=by rfl) (hpl:(backTo pos (starEach es X.env)).any (·.1)=false:=by rfl):PE X (.Call (.Name x p) (e::es) [] pos) (tCB r t):=by
 intro w6 s O H Q I h;refine wpAny_Call_Name_kw (GU I hg hm hv ?_ hn hdb);exact PyProof.Rows.callWith_builtin1 (thn (ha pos w6 s O H _ I h) λus s1 ⟨vs,H1,I1,r1,q1⟩=>hc w6 s1 O H1 vs us Q I1 r1 q1) he hpl
theorem EZ(hc:Bo X (.type T) r)(hg:Gl X x)(hm:X.mg x=none)(hv:bootBuiltins x=some (.type T))(ha:PA X (e::es) t)(hn:x ≠ "__name__" := by decide)(hdb:(x==("__debug__" : Str))=false:=by decide)
  (he:starEach (e::es) X.env=(false,eval e X.env)::starEach es X.env:=by rfl) (hpl:(backTo pos (starEach es X.env)).any (·.1)=false:=by rfl):PE X (.Call (.Name x p) (e::es) [] pos) (tCB r t):=by
 intro w6 s O H Q I h;refine wpAny_Call_Name_kw (GU I hg hm hv ?_ hn hdb);exact PyProof.Rows.callWith_type1 (thn (ha pos w6 s O H _ I h) λus s1 ⟨vs,H1,I1,r1,q1⟩=>hc w6 s1 O H1 vs us Q I1 r1 q1) he hpl
end
end L2
namespace HT
open PySem PyProof.Rows
section
variable{prog:Program}{w:World}{A:Around}{E:Value->Shared->Prop}{s:Shared}
theorem Vv(ht:IsTup s.heap t vs.toArray)(hb:IsTup s.heap b ws.toArray)(hv:vs≠[])
  (h1:ws=[]->Q (.ref t) s) (h2:ws≠[]->Q (.ref s.heap.objs.size) { s with heap:=s.heap.push { cls:=.type "tuple",data:=.seq (vs++ws).toArray } })
  (hsz:vs.length+ws.length<=sizeLine):wpAny (model prog w) A (binaryOp .Add (.ref t) (.ref b)) Q E s:=by
 obtain⟨⟨cls,dd,data,sl⟩,ho,hc,n,hd⟩:=id ht;obtain⟨⟨cls2,dd2,data2,sl2⟩,ho2,hc2,n2,hd2⟩:=id hb;simp only at hc hd hc2 hd2;subst hc hd hc2 hd2;have e:vs.toArray++ws.toArray=(vs++ws).toArray:=by simp
 by_cases hw:ws=[]
 ·exact concat_meets ⟨_,ho,rfl⟩ ⟨_,ho2,rfl⟩ noFill_tuple_add seq_tuple_add PySem.F.slot_tuple_add PySem.F.entry_tuple_add (PySem.F.args_tuple_add_2 _ _)
   (tuple_addW1 t b vs.toArray ws.toArray n n2 dd dd2 sl sl2 (by simpa using hv) (by simp[hw])) ⟨ho,ho2,h1 hw⟩
 ·refine concat_meets ⟨_,ho,rfl⟩ ⟨_,ho2,rfl⟩ noFill_tuple_add seq_tuple_add PySem.F.slot_tuple_add PySem.F.entry_tuple_add (PySem.F.args_tuple_add_2 _ _)
   (tuple_addW2 t b vs.toArray ws.toArray n n2 dd dd2 sl sl2 (by simpa using hv) (by simpa using hw) (by rw[List.size_toArray,List.size_toArray];exact hsz)) ⟨ho,ho2,?_⟩
  rw[e];exact h2 hw
noncomputable def sIx(n d:Nat):Option Int->Nat
 |none=>d
 |some v=>if v<0 then (v+(n:Int)).toNat else min v.toNat n
theorem XH(n d:Nat)(hd:d<=n)(o:Option Int):sIx n d o<=n:=by
 cases o with
 |none=>exact hd
 |some v=>
  show (if v<0 then (v+(n:Int)).toNat else min v.toNat n)<=n;by_cases hv:v<0
  ·rw[if_pos hv];omega
  ·rw[if_neg hv];exact Nat.min_le_right _ _
theorem O3(v:Int)(n d:Nat):(if v<0 then max (v+(n:Int)) 0 else min v (n:Int))=((sIx n d (some v):Nat):Int):=by
 show (if v<0 then max (v+(n:Int)) 0 else min v (n:Int))=(((if v<0 then (v+(n:Int)).toNat else min v.toNat n):Nat):Int);by_cases hv:v<0
 ·simp only[if_pos hv];omega
 ·simp only[if_neg hv];omega
theorem Nx(lo hi:Option Int)(n:Nat):Builtin.Slice.sliceAdjust lo hi 1 (n:Int)=(((sIx n 0 lo:Nat):Int),((sIx n n hi:Nat):Int)):=by
 have h1:¬((1:Int)<0):=by omega
 unfold Builtin.Slice.sliceAdjust;simp only[h1,if_false];refine Prod.ext ?_ ?_
 ·cases lo with
  |none=>rfl
  |some v=>exact O3 v n 0
 ·cases hi with
  |none=>rfl
  |some v=>exact O3 v n n
theorem NF(i j:Nat):Builtin.Slice.slicePlaces (i:Int) (j:Int) 1=j-i:=by
 unfold Builtin.Slice.slicePlaces;have h1:(1:Int) > 0:=by omega
 simp only[h1,if_true,Int.ediv_one];split<;>omega
theorem IV(p:IsPart v o)(h:Q o s):wpAny (model prog w) A (Builtin.Slice.slicePartIndex v) Q E s:=by
 cases p with
 |none=>exact slicePart_none h
 |int i t=>exact slicePart_int h
theorem EU{sl:Addr}{vl vu:Value}{lo hi:Option Int}{n:Nat}{Q:Int×Int×Nat->Shared->Prop}(hs:s.heap.IsSliceOf sl vl vu .none)(pl:IsPart vl lo)(pu:IsPart vu hi)
  (h:Q (((sIx n 0 lo:Nat):Int),1,sIx n n hi-sIx n 0 lo) s):wpAny (model prog w) A (Builtin.Slice.sliceApplied (.ref sl) (pure (n:Int))) Q E s:=by
 obtain⟨os,hos,hcs,hds⟩:=id hs;unfold Builtin.Slice.sliceApplied Builtin.Slice.sliceFields;refine AAA (AAA (AAs hos hds (x:=vl) rfl (AAA (AAs hos hds (x:=vu) rfl (AAA (AAs hos hds (x:=.none) rfl (AAB ?_)))))));refine AAA (slicePart_none ?_);show wpAny _ _ (if ((1:Int)==0)=true then _ else _) _ _ s;rw[if_neg (by decide)];refine AAA (IV pl (AAA (IV pu (AAA (AAB ?_)))));show wpAny _ _ (match Builtin.Slice.sliceAdjust lo hi 1 (n:Int) with|(lo,hi)=>pure (lo,(1:Int),Builtin.Slice.slicePlaces lo hi 1)) _ _ s;rw[Nx lo hi n];show wpAny _ _ (pure (((sIx n 0 lo:Nat):Int),(1:Int),Builtin.Slice.slicePlaces ((sIx n 0 lo:Nat):Int) ((sIx n n hi:Nat):Int) 1)) _ _ s;rw[NF];exact AAB h
theorem Rw(xs:Array Value)(i k:Nat):((List.range k).filterMap λ(m:Nat)=>xs[((i:Int)+(m:Int) * 1).toNat]?).toArray=((xs.toList.drop i).take k).toArray:=by
 have e:(λ(m:Nat)=>xs[((i:Int)+(m:Int) * 1).toNat]?)=λm=>xs[i+m]?:=by
  funext m
  have:((i:Int)+(m:Int) * 1).toNat=i+m:=by omega
  rw[this]
 rw[e];have:=pick_run xs i k;rw[List.filterMap_map] at this;have e2:((λx=>xs[x]?) ∘ λx=>i+x)=λm=>xs[i+m]?:=rfl;rw[e2] at this;rw[this]
theorem Gw{t sl:Addr}{items:Array Value}{vl vu:Value}{lo hi:Option Int}{Q:Value->Shared->Prop}(ht:IsTup s.heap t items)(hs:s.heap.IsSliceOf sl vl vu .none)(pl:IsPart vl lo)(pu:IsPart vu hi)
  (hw:¬(sIx items.size 0 lo=0/\sIx items.size items.size hi=items.size))
  (h:Q (.ref s.heap.objs.size) { s with heap:=s.heap.push { cls:=.type "tuple",data:=.seq ((items.toList.drop (sIx items.size 0 lo)).take (sIx items.size items.size hi-sIx items.size 0 lo)).toArray } })
  (hsz:items.size<=sizeLine):wpAny (model prog w) A (getItem (.ref t) (.ref sl)) Q E s:=by
 have htake:sizeOk (.seq ((items.toList.drop (sIx items.size 0 lo)).take (sIx items.size items.size hi-sIx items.size 0 lo)).toArray):=by
  show ((items.toList.drop (sIx items.size 0 lo)).take (sIx items.size items.size hi-sIx items.size 0 lo)).toArray.size<=sizeLine;rw[List.size_toArray,List.length_take,List.length_drop,Array.length_toList];omega
 have hj:sIx items.size items.size hi<=items.size:=XH _ _ (AAF _) hi;obtain⟨os,hos,hcs,hds⟩:=id hs;have hTs:s.TypeIs (.ref sl) "slice" := ⟨os,hos,hcs⟩;unfold getItem
 try with_reducible refine AAl ?_
 first|refine AAA (AAB ?_)|skip
 refine AAA (wpAny_sequenceKey ht.typeIs (by decide) ?_);refine AAA (wpAny_callSpecial?_slot (name:=Str.ofString "__getitem__") ht.typeIs PyProof.Rows.slot_tuple_getitem
  (AAa PyProof.Rows.slot_tuple_getitem ht.typeIs entry_tuple_getitem ?_ (args_tuple_getitem _ _)))
 show wpAny _ _ (Builtin.Tuple.tupleItemsOf (.ref t) >>= _) _ _ s;refine AAA (tupleItemsOf_ ht ?_);refine AAA (wpAny_typeOf hTs ?_);rw[if_pos (by decide)];refine AAA (EU hs pl pu ?_);have hno:¬((((sIx items.size 0 lo:Nat):Int)==0&&(1:Int)==1&&(sIx items.size items.size hi-sIx items.size 0 lo)==items.size)=true):=by
  intro q;rw[Bool.and_eq_true,Bool.and_eq_true] at q;have q1:((sIx items.size 0 lo:Nat):Int)=0:=eq_of_beq q.1.1;have q2:sIx items.size items.size hi-sIx items.size 0 lo=items.size:=eq_of_beq q.2;exact hw ⟨by omega,by omega⟩
 show wpAny _ _ (if (((sIx items.size 0 lo:Nat):Int)==0&&(1:Int)==1&&(sIx items.size items.size hi-sIx items.size 0 lo)==items.size)=true then _ else _) _ _ s;rw[if_neg hno,Rw]
 first
  |exact AAA (m:=Builtin.Tuple.tupleExact _) (AAn (AAB ⟨_,rfl,AAB h⟩) htake)
  |exact AAA (m:=Builtin.Tuple.tupleExact _) (AAn (AAA (AAB (AAB ⟨_,rfl,AAB h⟩))) htake)
  |exact AAA (AAA (m:=Builtin.Tuple.tupleExact _) (AAn (AAB (AAB ⟨_,rfl,AAB h⟩)) htake))
  |exact AAA (AAA (m:=Builtin.Tuple.tupleExact _) (AAn (AAB ⟨_,rfl,AAB h⟩) htake))
end
end HT
namespace L2
open PySem PySem.Spec PyProof.Rows
noncomputable abbrev TO:=St->Hp->(Option Int->Hp->Prop)->Prop
def PO(X:Cx)(e:Option Expr)(t:TO):Prop:=
 ∀(w6:List (Addr×Obj)) (s:Shared) (O:St) (H:Hp) (Q:Option Int->Hp->Prop),Inv X w6 O H s->t O H Q->
  wpAny (model X.prog X.w) X.A (evalPart e X.env) (λu s'=>∃o H',Inv X w6 O H' s'/\IsPart u o/\Q o H') X.xe s
noncomputable def T9:TO:=λ_ H Q=>Q none H
noncomputable def ZO(t:TE):TO:=λO H Q=>t O H λx H1=>∃i,x=.int i/\Q (some i) H1
section
variable{X:Cx}{e:Expr}{te:TE}{lo hi:Option Expr}{tl th:TO}{pos p2:Pos}
theorem Ul:PO X none T9:=by
 intro w6 s O H Q I h;rw[evalPart_none];exact AAB ⟨none,H,I,.none,h⟩
theorem Uk(h:PE X e te):PO X (some e) (ZO te):=by
 intro w6 s O H Q I hw;rw[evalPart_some];refine thn (h w6 s O H _ I hw) λu s1 ⟨x,H1,I1,r1,q1⟩=>?_;obtain⟨i,rfl,q⟩:=q1;obtain⟨t,rfl⟩:=r1;exact⟨some i,H1,I1,.int i t,q⟩
def SlR(X:Cx)(r:V->Option Int->Option Int->Hp->VK->Prop):Prop:=
 ∀(w6:List (Addr×Obj)) (s:Shared) (O:St) (H:Hp) (x:V) (v vl vu:Value) (lo hi:Option Int) (sl:Addr) (Q:VK),Inv X w6 O H s->RelV x v->s.heap.IsSliceOf sl vl vu .none->IsPart vl lo->IsPart vu hi->r x lo hi H Q->
  ∃T id,typeLookup (.type T) "__getitem__" = pure (some (.builtin id))/\s.TypeIs v T/\wpAny (model X.prog X.w) X.A (getItem v (.ref sl)) (EP X w6 O Q) X.xe s
theorem SlR.or(h:SlR X r)(h':SlR X r'):SlR X (λx lo hi H Q=>r x lo hi H Q∨r' x lo hi H Q):=by
 intro w6 s O H x v vl vu lo hi sl Q I rx hs pl pu q;rcases q with q|q
 ·exact h w6 s O H x v vl vu lo hi sl Q I rx hs pl pu q
 ·exact h' w6 s O H x v vl vu lo hi sl Q I rx hs pl pu q
noncomputable def tSl(r:V->Option Int->Option Int->Hp->VK->Prop)(te:TE)(tl th:TO):TE:=λO H Q=>te O H λx H1=>tl O H1 λl H2=>th O H2 λu H3=>r x l u H3 Q
theorem Lz(hr:SlR X r)(he:PE X e te)(hl:PO X lo tl)(hu:PO X hi th):PE X (.Subscript e (.Slice lo hi none p2) pos) (tSl r te tl th):=by
 intro w6 s O H Q I h;refine Subscript_ (thn (he w6 s O H _ I h) λv s1 ⟨x,H1,I1,r1,q1⟩=>?_);refine wpAny_Slice (thn (hl w6 s1 O H1 _ I1 q1) λvl s2 ⟨l,H2,I2,pl,q2⟩=>thn (hu w6 s2 O H2 _ I2 q2) λvu s3 ⟨u,H3,I3,pu,q3⟩=>?_);rw[evalPart_none];refine AAB ?_;have I4:Inv X w6 O H3 { s3 with heap:=s3.heap.push { cls:=.type "slice",data:=.fields #[vl,vu,.none] } }:=I3.kept (t':=s3.toks) λb ob q=>AAC _ q;obtain⟨T,id,hT,ht,hg⟩:=hr w6 { s3 with heap:=s3.heap.push { cls:=.type "slice",data:=.fields #[vl,vu,.none] } } O H3 x v vl vu l u s3.heap.objs.size Q I4 r1 (Heap.IsSliceOf.new ..) pl pu q3;show wpAny (model X.prog X.w) X.A (subscriptTail e (.Slice lo hi none p2) v (.ref s3.heap.objs.size)) (EP X w6 O Q) X.xe { s3 with heap:=s3.heap.push { cls:=.type "slice",data:=.fields #[vl,vu,.none] } };exact tail_any (ops:=[.ref s3.heap.objs.size,v]) ht hT hg (by with_unfolding_all rfl)
noncomputable def MV(xs:List V)(lo hi:Option Int):List V:=(xs.drop (HT.sIx xs.length 0 lo)).take (HT.sIx xs.length xs.length hi-HT.sIx xs.length 0 lo)
theorem Hu(xs:List V)(lo hi:Option Int):(MV xs lo hi).length<=xs.length:=by
 unfold MV;rw[List.length_take,List.length_drop];omega
noncomputable def br(K:PySem.W.Frag):V->Option Int->Option Int->Hp->VK->Prop:=λx lo hi H Q=>∃a xs,x=.ref a/\SqT K H a xs /\
 ¬(HT.sIx xs.length 0 lo=0/\HT.sIx xs.length xs.length hi=xs.length)/\∀p,H p=none->Q (.ref p) (upd H p (.tup (MV xs lo hi)))
theorem XF:SlR X (br X.K):=by
 intro w6 s O H x v vl vu lo hi sl Q I rx hs pl pu h;obtain⟨a,xs,rfl,hx,hw,q⟩:=h;cases rx;obtain⟨its,r,ht,hz⟩:=I.tuple hx;have hlen:its.toArray.size=xs.length:=by rw[List.size_toArray];exact r.length.symm
 refine⟨"tuple",_,PyProof.Rows.slot_tuple_getitem.lookup,ht.typeIs,?_⟩;refine HT.Gw ht hs pl pu (by rw[hlen];exact hw) ?_ (by rw[hlen];exact hz);rw[hlen];refine⟨.ref s.heap.objs.size,_,I.laid (t':=s.toks) (o:=.tup (MV xs lo hi)) (λb ob q=>AAC _ q) (AAF _) ?_,rfl,q _ (I.hok.fresh (AAF _))⟩;exact⟨AAp (Hu xs lo hi) hz,_,(r.drop (HT.sIx xs.length 0 lo)).take (HT.sIx xs.length xs.length hi-HT.sIx xs.length 0 lo),IsTup.new _ _⟩
noncomputable def Zx(K:PySem.W.Frag):R2:=λx y H Q=>∃a b xs ys,x=.ref a/\y=.ref b/\SqT K H a xs/\SqT K H b ys/\xs≠[]/\xs.length+ys.length<=sizeLine /\
 (ys=[]->Q (.ref a) H)/\(ys≠[]->∀p,H p=none->Q (.ref p) (upd H p (.tup (xs++ys))))
theorem Vals.nil_iff(r:Vals xs us):us=[]↔xs=[]:=by
 cases r with
 |nil=>simp
 |cons _ _=>simp
theorem U1:OpR X (binaryOp .Add) (Zx X.K):=by
 intro w6 s O H x y v u Q I rx ry h;obtain⟨a,b,xs,ys,rfl,rfl,ha,hb,hx,hz,q1,q2⟩:=h;cases rx;cases ry;obtain⟨its,r1,p1,_⟩:=I.tuple ha;obtain⟨its2,r2,p2,_⟩:=I.tuple hb;refine HT.Vv p1 p2 (λz=>hx (r1.nil_iff.mp z)) (λz=>⟨.ref a,H,I,rfl,q1 (r2.nil_iff.mp z)⟩) (λz=>?_) (by rw[←r1.length,←r2.length];exact hz);refine⟨.ref s.heap.objs.size,_,I.laid (t':=s.toks) (o:=.tup (xs++ys)) (λb ob q=>AAC _ q) (AAF _) ?_,rfl,q2 (λw=>z (r2.nil_iff.mpr w)) _ (I.hok.fresh (AAF _))⟩;exact⟨by rw[AAH];exact hz,_,r1.append r2,IsTup.new _ _⟩
theorem MZ:Bo X (.type "tuple") (λxs H Q=>∃a ys,xs=[.ref a]/\SqT X.K H a ys/\Q (.ref a) H):=by
 intro w6 s O H xs us Q I r h;obtain⟨a,ys,rfl,ha,q⟩:=h;obtain⟨u,rfl,ru⟩:=ET r;cases ru;obtain⟨its,_,p1,_⟩:=I.tuple ha;exact call_tuple_same (items:=its.toArray) p1 ⟨.ref a,H,I,rfl,q⟩
end
noncomputable def ixN(n:Nat)(i:Int):Option Nat:=if 0<=i then (if i<n then some i.toNat else none) else if -(n:Int)<=i then some (i+n).toNat else none
noncomputable def atI{α:Type}(xs:List α)(i:Int):Option α:=(ixN xs.length i).bind λj=>xs[j]?
theorem Ot(h:ixN n i=some j):seqIndex? i n=some j/\j<n/\-(n:Int)<=i/\i<n:=by
 unfold ixN at h;by_cases h0:0<=i
 ·rw[if_pos h0] at h;by_cases h1:i<n
  ·rw[if_pos h1] at h;have e:i.toNat=j:=Option.some.inj h;exact⟨by rw[seqIndex_of h0 h1,e],by omega,by omega,h1⟩
  ·rw[if_neg h1] at h;cases h
 ·rw[if_neg h0] at h;by_cases h1:-(n:Int)<=i
  ·rw[if_pos h1] at h;have e:(i+n).toNat=j:=Option.some.inj h;exact⟨by rw[seqIndex_neg (by omega) h1,e],by omega,h1,by omega⟩
  ·rw[if_neg h1] at h;cases h
theorem LN(h:atI xs i=some v):∃j,seqIndex? i xs.length=some j/\xs[j]?=some v/\j<xs.length/\-(xs.length:Int)<=i/\i<xs.length:=by
 unfold atI at h;cases e:ixN xs.length i with
 |none=>rw[e] at h;cases h
 |some j=>
  rw[e] at h;obtain⟨h1,h2,h3,h4⟩:=Ot e;exact⟨j,h1,h,h2,h3,h4⟩
theorem V1{α:Type}{xs:List α}{j:Nat}{v:α}(h:xs[j]?=some v):atI xs (j:Int)=some v:=by
 have hj:j<xs.length:=(AAT.mp h).1;have e:ixN xs.length (j:Int)=some j:=by
  unfold ixN;rw[if_pos (by omega),if_pos (by omega)];simp
 unfold atI;rw[e];exact h
def O6(b:Expr):Prop:=∀o i,subscripted b false o i=operate [o,i] (getItem o i)
def IxR(X:Cx)(r:R2):Prop:=
 ∀(value slice:Expr) (w6:List (Addr×Obj)) (s:Shared) (O:St) (H:Hp) (x y:V) (v u:Value) (Q:VK),Inv X w6 O H s->RelV x v->RelV y u->r x y H Q->
  subscripted slice false v u=operate [v,u] (getItem v u)->wpAny (model X.prog X.w) X.A (subscriptTail value slice v u) (EP X w6 O Q) X.xe s
def MtR(X:Cx)(id:String)(r:V->List V->Hp->VK->Prop):Prop:=
 ∀(w6:List (Addr×Obj)) (s:Shared) (O:St) (H:Hp) (x:V) (xs:List V) (v:Value) (us:List Value) (Q:VK),Inv X w6 O H s->RelV x v->Vals xs us->r x xs H Q->
  wpAny (model X.prog X.w) X.A (call (.builtin id) (v::us)) (EP X w6 O Q) X.xe s
section
variable{X:Cx}{a b:Expr}{ta tb:TE}{pos:Pos}
theorem IxR.or(h:IxR X r)(h':IxR X r'):IxR X (λx y H Q=>r x y H Q∨r' x y H Q):=by
 intro value slice w6 s O H x y v u Q I rx ry q hs;rcases q with q|q
 ·exact h value slice w6 s O H x y v u Q I rx ry q hs
 ·exact h' value slice w6 s O H x y v u Q I rx ry q hs
theorem Z6(hr:IxR X r)(ha:PE X a ta)(hb:PE X b tb)(hs:O6 b):PE X (.Subscript a b pos) (tOp r ta tb):=by
 intro w6 s O H Q I h;exact Subscript_ (Y4 ha hb I h λv u s2 x y H2 I2 rx ry q=>hr a b w6 s2 O H2 x y v u Q I2 rx ry q (hs _ _))
noncomputable def Zv(K:PySem.W.Frag):R2:=λx y H Q=>∃p xs i v,x=.ref p/\y=.int i/\SqL K H p xs/\atI xs i=some v/\Q v H
noncomputable def Zt(K:PySem.W.Frag):R2:=λx y H Q=>∃p xs i v,x=.ref p/\y=.int i/\SqT K H p xs/\atI xs i=some v/\Q v H
noncomputable def Zu:R2:=λx y H Q=>∃z i c,x=.str z/\y=.int i/\z.length<=sizeLine/\atI z.cps.toList i=some c/\Q (.str ⟨#[c]⟩) H
theorem ix_list:IxR X (Zv X.K):=by
 intro value slice w6 s O H x y v u Q I rx ry h hs;obtain⟨p,xs,i,z,rfl,rfl,hq,he,q⟩:=h;cases rx;obtain⟨t,rfl⟩:=ry;obtain⟨its,r,pl,hz⟩:=I.list hq;obtain⟨j,h1,h2,h3,h4,h5⟩:=LN he;obtain⟨w,ew,rw'⟩:=r.get h2;have hl:=r.length;have hn:=HQ;have fin:EP X w6 O Q w s:=⟨z,H,I,rw',q⟩;by_cases h0:0<=i
 ·have hj:i.toNat=j:=by
   rw[seqIndex_of h0 h5] at h1;exact Option.some.inj h1
  exact item_listR pl.isList h0 (by omega) (by rw[hj];simpa using ew) fin hs
 ·have hj:(i+(its.toArray.size:Int)).toNat=j:=by
   rw[seqIndex_neg (by omega) h4] at h1;rw[List.size_toArray,←hl];exact Option.some.inj h1
  exact subscriptTail_builtinR (x:=w) pl.isList.typeIs slot_list_getitem.lookup
   (wpAny_getItem_list_neg (Q:=λr s'=>r=w/\EP X w6 O Q r s') pl.isList (by omega) (by rw[List.size_toArray]<;>omega) (by omega) (by rw[hj];simpa using ew) ⟨rfl,fin⟩) hs
theorem ix_tup:IxR X (Zt X.K):=by
 intro value slice w6 s O H x y v u Q I rx ry h hs;obtain⟨p,xs,i,z,rfl,rfl,hq,he,q⟩:=h;cases rx;obtain⟨t,rfl⟩:=ry;obtain⟨its,r,pl,hz⟩:=I.tuple hq;obtain⟨j,h1,h2,h3,h4,h5⟩:=LN he;obtain⟨w,ew,rw'⟩:=r.get h2;have hl:=r.length;have hn:=HQ;have fin:EP X w6 O Q w s:=⟨z,H,I,rw',q⟩;exact subscriptTail_builtinR (x:=w) pl.typeIs slot_tuple_getitem.lookup
  (getItem_tuple (j:=j) (Q:=λr s'=>r=w/\EP X w6 O Q r s') pl (by omega) (by omega) (by rw[List.size_toArray,←hl];exact h1) (by simpa using ew) ⟨rfl,fin⟩) hs
theorem YW:IxR X Zu:=by
 intro value slice w6 s O H x y v u Q I rx ry h hs;obtain⟨z,i,c,rfl,rfl,hz,he,q⟩:=h;obtain⟨t,rfl⟩:=rx;obtain⟨t',rfl⟩:=ry;obtain⟨j,h1,h2,h3,h4,h5⟩:=LN he;have hl:z.cps.toList.length=z.length:=by simp[Str.length]
 rw[hl] at h1 h4 h5;have hn:=HQ;exact tail_any (typeIs_str s z t) slot_str_getitem.lookup (getItem_str (c:=c) (by
  have e1:decide (i < -(2 ^ 63:Int))=false:=AAN (by omega);have e2:decide (i ≥ 2 ^ 63)=false:=AAN (by omega);rw[e1,e2,Bool.or_false]) (by rw[h1];simpa using h2) ⟨.str ⟨#[c]⟩,H,I.tok _,⟨_,rfl⟩,q⟩) hs
noncomputable def rIx(K:PySem.W.Frag):R2:=λx y H Q=>Zv K x y H Q∨Zt K x y H Q∨Zu x y H Q
theorem NW:IxR X (rIx X.K):=ix_list.or (ix_tup.or YW)
theorem NO(its:List Value)(n j:Nat)(u:Value):Obj.mapSeq (·.setIfInBounds j u) { cls:=.type "list",data:=.seq its.toArray n }={ cls:=.type "list",data:=.seq (its.set j u).toArray n }:=by
 simp[Obj.mapSeq]
theorem Inv.lst(I:Inv X w6 O H s)(h:H p=some (.lst xs)):
  ∃(its:List Value) (n:Nat),Vals xs its/\s.heap.get? p=some { cls:=.type "list",data:=.seq its.toArray n }/\xs.length<=sizeLine:=by
 obtain⟨z,its,n,r,e⟩:=I.hok p _ h;exact⟨its,n,r,e,z⟩
theorem Inv.lstUpd{w6:List (Addr×Obj)}{O:St}{H:Hp}{s:Shared}{p:Addr}{xs ys:List V}{its its':List Value}{n n':Nat}{f:Obj->Obj}(I:Inv X w6 O H s)(h:H p=some (.lst xs))
  (ho:s.heap.get? p=some { cls:=.type "list",data:=.seq its.toArray n }) (hf:f { cls:=.type "list",data:=.seq its.toArray n }={ cls:=.type "list",data:=.seq its'.toArray n' }) (r:Vals ys its') (hz:ys.length<=sizeLine) (t:Nat) :
  Inv X w6 O (upd H p (.lst ys)) { s with heap:=s.heap.update p f,toks:=t }:=by
 have e:(s.heap.update p f).get? p=some { cls:=.type "list",data:=.seq its'.toArray n' }:=by
  rw[Heap.get?_update_self f ho (by rw[hf]<;>rfl),hf]
 refine I.write (x:=p) (e:=p) (by rw[h];trivial) (.inl rfl) (λb u hb q=>(Heap.get?_update_other _ _ (Ne.symm hb)).trans q) ⟨_,e⟩ ?_;exact⟨hz,its',n',r,e⟩
noncomputable def Zs:V->V->V->Hp->(Hp->Prop)->Prop:=λo i v H Q=>∃p xs k j,o=.ref p/\i=.int k/\H p=some (.lst xs)/\ixN xs.length k=some j/\Q (upd H p (.lst (xs.set j v)))
theorem RC:bE X Zs:=by
 intro w6 s O H o i v ov iv u Q I ro ri rv h;obtain⟨p,xs,k,j,rfl,rfl,hp,hj,q⟩:=h;cases ro;obtain⟨t,rfl⟩:=ri;obtain⟨its,n,r,ho,hz⟩:=I.lst hp;obtain⟨h1,h2,h3,h4⟩:=Ot hj;have hl:=r.length;have hn:=HQ;have I':Inv X w6 O (upd H p (.lst (xs.set j v))) { s with heap:=s.heap.update p (Obj.mapSeq (·.setIfInBounds j u)) }:=
  I.lstUpd hp ho (NO its n j u) (r.set rv j) (by rw[List.length_set];exact hz) s.toks
 by_cases h0:0<=k
 ·have hk:k.toNat=j:=by
   rw[seqIndex_of h0 h4] at h1;exact Option.some.inj h1
  exact PySem.W.ki_setAt ho h0 (by omega) (by rw[List.size_toArray,←hl];exact h4) (by rw[hk];exact⟨_,I',q⟩)
 ·have hk:(k+(its.toArray.size:Int)).toNat=j:=by
   rw[seqIndex_neg (by omega) h3] at h1;rw[List.size_toArray,←hl];exact Option.some.inj h1
  exact PySem.W.ki_setBack ho (by omega) (by rw[List.size_toArray,←hl];exact h3) (by omega) (by rw[hk];exact⟨_,I',q⟩)
theorem Ko(lo hi:Option Int)(n:Nat):(sliceBounds lo hi none n).1=((HT.sIx n 0 lo:Nat):Int)/\(sliceBounds lo hi none n).2.1=((HT.sIx n n hi:Nat):Int)/\(sliceBounds lo hi none n).2.2=1:=by
 refine⟨?_,?_,rfl⟩
 ·cases lo with
  |none=>simp[sliceBounds,HT.sIx]
  |some i=>
   simp only[sliceBounds,HT.sIx,Option.getD_none,show (1:Int) > 0 by decide,if_true];by_cases h:i<0
   ·simp only[h,if_true]<;>omega
   ·simp only[h,if_false]<;>omega
 ·cases hi with
  |none=>simp[sliceBounds,HT.sIx]
  |some i=>
   simp only[sliceBounds,HT.sIx,Option.getD_none,show (1:Int) > 0 by decide,if_true];by_cases h:i<0
   ·simp only[h,if_true]<;>omega
   ·simp only[h,if_false]<;>omega
theorem Je(its:List Value)(lo hi:Option Int):slicePick its.toArray lo hi none=((its.drop (HT.sIx its.length 0 lo)).take (HT.sIx its.length its.length hi-HT.sIx its.length 0 lo)).toArray:=by
 obtain⟨h1,h2,h3⟩:=Ko lo hi its.toArray.size;unfold slicePick;rw[h1,h2,h3];simp only[sliceRange_one,pick_run,List.size_toArray]<;>rfl
noncomputable def bt(K:PySem.W.Frag):V->Option Int->Option Int->Hp->VK->Prop:=λx lo hi H Q=>∃a xs,x=.ref a/\SqL K H a xs/\∀p,H p=none->Q (.ref p) (upd H p (.lst (MV xs lo hi)))
theorem UE:SlR X (bt X.K):=by
 intro w6 s O H x v vl vu lo hi sl Q I rx hs pl pu h;obtain⟨a,xs,rfl,hx,q⟩:=h;cases rx;obtain⟨its,r,ht,hz⟩:=I.list hx;have hlen:=r.length;refine⟨"list",_,slot_list_getitem.lookup,ht.isList.typeIs,?_⟩;refine wpAny_getItem_list_slice ht.isList hs pl pu .none (by simp) ?_ (by rw[List.size_toArray]<;>omega);rw[Je,←hlen];refine⟨.ref s.heap.objs.size,_,I.laid (t':=s.toks) (o:=.lst (MV xs lo hi)) (λb ob q=>AAC _ q) (AAF _) ?_,rfl,q _ (I.hok.fresh (AAF _))⟩;exact⟨AAp (Hu xs lo hi) hz,_,0,(r.drop (HT.sIx xs.length 0 lo)).take (HT.sIx xs.length xs.length hi-HT.sIx xs.length 0 lo),AAD _ rfl⟩
noncomputable def DY:V->Bool
 | .non=>true
 | .bl _=>true
 | .int _=>true
 | .str _=>true
 |_=>false
noncomputable def eqV:V->V->Bool
 | .non,.non=>true
 | .bl a,.bl b=>a==b
 | .bl a,.int b=>(if a then 1 else 0)==b
 | .int a,.bl b=>a==(if b then 1 else 0)
 | .int a,.int b=>a==b
 | .str a,.str b=>a==b
 |_,_=>false
theorem Yv(ry:RelV y u)(rx:RelV x v)(fy:DY y=true)(fx:DY x=true):SeqAt.EqAt A s u v (eqV y x):=by
 cases y with
 |non=>
  cases ry;cases x with
  |non=>cases rx;exact SeqAt.EqAt.same _
  |bl b=>cases rx;exact SeqAt.EqAt.none_bool b
  |int b=>obtain⟨t,rfl⟩:=rx;exact SeqAt.EqAt.none_int b t
  |str b=>obtain⟨t,rfl⟩:=rx;exact SeqAt.EqAt.none_str b t
  |_=>exact absurd (show false=true from fx) AAd
 |bl a=>
  cases ry;cases x with
  |non=>cases rx;exact SeqAt.EqAt.bool_none a
  |bl b=>cases rx;exact SeqAt.EqAt.bool_bool a b
  |int b=>obtain⟨t,rfl⟩:=rx;exact SeqAt.EqAt.bool_int a b t
  |str b=>obtain⟨t,rfl⟩:=rx;exact SeqAt.EqAt.bool_str a b t
  |_=>exact absurd (show false=true from fx) AAd
 |int a=>
  obtain⟨t',rfl⟩:=ry;cases x with
  |non=>cases rx;exact SeqAt.EqAt.int_none a t'
  |bl b=>cases rx;exact SeqAt.EqAt.int_bool a t' b
  |int b=>obtain⟨t,rfl⟩:=rx;exact SeqAt.EqAt.int_int a t' b t
  |str b=>obtain⟨t,rfl⟩:=rx;exact SeqAt.EqAt.int_str a t' b t
  |_=>exact absurd (show false=true from fx) AAd
 |str a=>
  obtain⟨t',rfl⟩:=ry;cases x with
  |non=>cases rx;exact SeqAt.EqAt.str_none a t'
  |bl b=>cases rx;exact SeqAt.EqAt.str_bool a t' b
  |int b=>obtain⟨t,rfl⟩:=rx;exact SeqAt.EqAt.str_int a t' b t
  |str b=>obtain⟨t,rfl⟩:=rx;exact SeqAt.EqAt.str_str a t' b t
  |_=>exact absurd (show false=true from fx) AAd
 |_=>exact absurd (show false=true from fy) AAd
noncomputable def eqU(x:V)(u:Value):Bool:=match u with
 | .none=>eqV .non x
 | .bool b=>eqV (.bl b) x
 | .int i _=>eqV (.int i) x
 | .str z _=>eqV (.str z) x
 |_=>false
theorem LF(r:RelV y u)(f:DY y=true):eqU x u=eqV y x:=by
 cases y with
 |non=>cases r;rfl
 |bl b=>cases r;rfl
 |int i=>obtain⟨t,rfl⟩:=r;rfl
 |str z=>obtain⟨t,rfl⟩:=r;rfl
 |_=>exact absurd (show false=true from f) AAd
theorem G9:∀{xs:List V} {us:List Value},Vals xs us->xs.all DY=true->us.any (eqU x)=xs.any λy=>eqV y x
 |_,_,.nil,_=>rfl
 |y::xs,u::us,.cons r t,f=>by
  rw[List.all_cons,Bool.and_eq_true] at f;rw[List.any_cons,List.any_cons,LF r f.1,G9 t f.2]
theorem Dt(rx:RelV x v)(fx:DY x=true):∀{xs:List V} {us:List Value},Vals xs us->xs.all DY=true->∀u∈us,SeqAt.EqAt A s u v (eqU x u)
 |_,_,.nil,_=>λu hu=>by cases hu
 |y::xs,u::us,.cons r t,f=>λu' hu=>by
  rw[List.all_cons,Bool.and_eq_true] at f;rcases AAJ.mp hu with rfl|hu
  ·rw[LF r f.1];exact Yv r rx f.1 fx
  ·exact Dt rx fx t f.2 u' hu
noncomputable def inV(x:V)(xs:List V):Bool:=xs.any λy=>eqV y x
noncomputable def rIn(K:PySem.W.Frag)(neg:Bool):R2:=λx y H Q=>∃p xs,y=.ref p/\(SqL K H p xs∨SqT K H p xs)/\DY x=true/\xs.all DY=true/\Q (.bl (if neg then !inV x xs else inV x xs)) H
theorem Pn:OpR X (compareOp .In) (rIn X.K false):=by
 intro w6 s O H x y v u Q I rx ry h;obtain⟨p,xs,rfl,hq,fx,fs,q⟩:=h;cases ry;rcases hq with hq|hq
 ·obtain⟨its,r,pl,hz⟩:=I.list hq;refine SeqAt.in_listAt (eqU x) pl.isList (λw hw=>Dt rx fx r fs w (by simpa using hw)) ⟨.bl _,H,I,rfl,?_⟩;rw[show its.toArray.any (eqU x)=its.any (eqU x) by simp,G9 r fs];exact q
 ·obtain⟨its,r,pl,hz⟩:=I.tuple hq;refine SeqAt.in_tupleAt (eqU x) pl (λw hw=>Dt rx fx r fs w (by simpa using hw)) ⟨.bl _,H,I,rfl,?_⟩;rw[show its.toArray.any (eqU x)=its.any (eqU x) by simp,G9 r fs];exact q
theorem Kw:OpR X (compareOp .NotIn) (rIn X.K true):=by
 intro w6 s O H x y v u Q I rx ry h;obtain⟨p,xs,rfl,hq,fx,fs,q⟩:=h;cases ry;rcases hq with hq|hq
 ·obtain⟨its,r,pl,hz⟩:=I.list hq;refine SeqAt.notIn_listAt (eqU x) pl.isList (λw hw=>Dt rx fx r fs w (by simpa using hw)) ⟨.bl _,H,I,rfl,?_⟩;rw[show its.toArray.any (eqU x)=its.any (eqU x) by simp,G9 r fs];exact q
 ·obtain⟨its,r,pl,hz⟩:=I.tuple hq;refine SeqAt.notIn_tupleAt (eqU x) pl (λw hw=>Dt rx fx r fs w (by simpa using hw)) ⟨.bl _,H,I,rfl,?_⟩;rw[show its.toArray.any (eqU x)=its.any (eqU x) by simp,G9 r fs];exact q
def tyV(K:PySem.W.Frag)(T:String)(x:V)(H:Hp):Prop:=match x with
 | .str _=>T = "str"
 | .int _=>T = "int"
 | .ref p=>(T = "list" /\ ∃xs,SqL K H p xs)∨(T = "tuple" /\ ∃o,K.lookup p=some o/\o.cls=.type "tuple" /\ o.dict=none) ∨
   (T = "dict" /\ ((∃kvs,H p=some (.dK kvs))∨∃kvs,H p=some (.dT kvs)))∨(T = "set" /\ ∃S n,H p=some (.set S n))
 |_=>False
theorem W3(I:Inv X w6 O H s)(r:RelV x v)(ty:tyV X.K T x H):
  s.TypeIs v T/\∀a,v=.ref a->∃ob,s.heap.get? a=some ob/\ob.dict=none:=by
 cases x with
 |str z=>
  obtain⟨t,rfl⟩:=r;cases (show T = "str" from ty);exact⟨typeIs_str s z t,λ_ e=>nomatch e⟩
 |int i=>
  obtain⟨t,rfl⟩:=r;cases (show T = "int" from ty);exact⟨typeIs_int s i t,λ_ e=>nomatch e⟩
 |ref p=>
  cases r;rcases ty with ⟨rfl,xs,hq⟩|⟨rfl,o,hk,hc,hd⟩|⟨rfl,hk⟩|⟨rfl,S,n,hk⟩
  ·obtain⟨its,_,pl,_⟩:=I.list hq;refine⟨pl.isList.typeIs,λa e=>?_⟩;cases e;obtain⟨o,n,e,c,hd,_⟩:=pl;exact⟨o,e,hd⟩
  ·refine⟨⟨o,I.kIn p o hk,hc⟩,λa e=>?_⟩;cases e;exact⟨o,I.kIn _ o hk,hd⟩
  ·have z:∃o,s.heap.get? p=some o/\o.ExactDict:=by
    rcases hk with ⟨kvs,hk⟩|⟨kvs,hk⟩
    ·obtain⟨_,_,_,_,o,_,_,e,ex,_⟩:=I.hok p _ hk;exact⟨o,e,ex⟩
    ·obtain⟨_,_,_,_,o,_,_,e,ex,_⟩:=I.hok p _ hk;exact⟨o,e,ex⟩
   obtain⟨o,e,ex⟩:=z;refine⟨⟨o,e,ex.1⟩,λa e2=>?_⟩;cases e2;exact⟨o,e,ex.2.1⟩
  ·obtain⟨o,_,_,_,e,ex,_⟩:=I.hok p _ hk;refine⟨⟨o,e,ex.1⟩,λa e2=>?_⟩;cases e2;exact⟨o,e,ex.2.1⟩
 |_=>exact False.elim ty
noncomputable def tBM(K:PySem.W.Frag)(T:String)(r:V->List V->Hp->VK->Prop)(to:TE)(t:TA):TE:=λO H Q=>to O H λx H1=>tyV K T x H1/\t O H1 λxs H2=>r x xs H2 Q
variable{o e:Expr}{es:List Expr}{to:TE}{t:TA}{name:Str}{apos cpos:Pos}{T id:String}{r:V->List V->Hp->VK->Prop}
theorem WO(pa:PlainAttrs T)(slot:Slot T name id)(hty:typeOf (.builtin id)=pure (.type "method_descriptor"))(hm:MtR X id r)(ho:PE X o to)(ha:PA X (e::es) t)
  (hbase:attributeBase o name X.env (eval o X.env)=eval o X.env:=by rfl)
  (hfew:((backTo cpos (starEach (e::es) X.env)).all (λx=>!x.1)&&(backToKw cpos (keywordEach [] X.env)).all (λx=>x.1.isSome)
   && decide ((e::es).length+([]:List Keyword).length+(if ([]:List Keyword).isEmpty then 0 else 1)<30))=true:=by rfl)
  (hline:(apos.endLine==cpos.line)=true:=by rfl) (hs:starEach (e::es) X.env=(false,eval e X.env)::starEach es X.env:=by rfl) (hplain:(backTo cpos (starEach es X.env)).any (·.1)=false:=by rfl) :
  PE X (.Call (.Attribute o name apos) (e::es) [] cpos) (tBM X.K T r to t):=by
 intro w6 s O H Q I h;refine wpAny_Call_method_late hbase hfew hline rfl (thn (ho w6 s O H _ I h) λv s1 ⟨x,H1,I1,r1,ty,q1⟩=>?_);obtain⟨h1,h2⟩:=W3 I1 r1 ty;refine⟨T,id,pa,slot,hty,h1,h2,?_⟩;have hA:=ha cpos w6 s1 O H1 _ I1 q1;rw[hs] at hA ⊢;refine Calls.callWith_builtin (by show (false||(backTo cpos (starEach es X.env)).any (·.1))=false;rw[hplain]<;>rfl) (Calls.evalArgs_plain ?_);exact thn hA λus s2 ⟨vs,H2,I2,r2,q2⟩=>hm w6 s2 O H2 x vs v us Q I2 r1 r2 q2
end
def MtM(X:Cx)(id:String)(r:V->List V->Hp->VK->Prop):Prop:=
 ∀(w6:List (Addr×Obj)) (s:Shared) (O:St) (H:Hp) (x:V) (xs:List V) (v:Value) (us:List Value) (Q:VK),Inv X w6 O H s->RelV x v->Vals xs us->r x xs H Q->
  wpAny (model X.prog X.w) X.A (call (.builtin id) (v::us)) (EP X w6 O Q) X.xe s
theorem Vals.one:∀{x:V} {us:List Value},Vals [x] us->∃u,us=[u]/\RelV x u
 |_,_,.cons r .nil=>⟨_,rfl,r⟩
theorem Vals.two:∀{x y:V} {us:List Value},Vals [x,y] us->∃u v,us=[u,v]/\RelV x u/\RelV y v
 |_,_,_,.cons r (.cons q .nil)=>⟨_,_,rfl,r,q⟩
theorem Vals.rep(h:Vals xs us):∀k:Nat,Vals (List.replicate k xs).flatten (List.replicate k us).flatten
 |0=>.nil
 |k+1=>by
  rw[AAi,AAi,List.flatten_cons,List.flatten_cons];exact Vals.append h (Vals.rep h k)
theorem KM(its:List Value):∀(k:Nat) (acc:List Value),
  List.foldl (λx1 x2=>x1++x2) acc.toArray (List.replicate k its.toArray)=(acc++(List.replicate k its).flatten).toArray
 |0,acc=>by simp
 |k+1,acc=>by
  have e:acc.toArray++its.toArray=(acc++its).toArray:=by simp
  have e2:(acc++its)++(List.replicate k its).flatten=acc++(List.replicate (k+1) its).flatten:=by
   rw[AAi,List.flatten_cons,List.append_assoc]
  rw[←e2,←KM its k (acc++its),←e,AAi,List.foldl_cons]
section
variable{X:Cx}{w6:List (Addr×Obj)}{O:St}{H:Hp}{s:Shared}{l:Addr}{xs ys:List V}
theorem Inv.lset{its its':List Value}{n:Nat}{f:Array Value->Array Value}{t':Nat}(I:Inv X w6 O H s)(hH:H l=some (.lst xs))
  (e:s.heap.get? l=some { cls:=.type "list",data:=.seq its.toArray n }) (hf:f its.toArray=its'.toArray) (hv:Vals ys its') (hz:ys.length<=sizeLine) :
  Inv X w6 O (upd H l (.lst ys)) { s with heap:=s.heap.update l (Obj.mapSeq f),toks:=t' }:=by
 have q:=PySem.IsL.update e f;rw[hf] at q;refine I.write (x:=l) (e:=l) (by rw[hH];exact trivial) (.inl rfl) (λb' u hb hu=>(Heap.get?_update_other s.heap (Obj.mapSeq f) (Ne.symm hb)).trans hu) ⟨_,q⟩ ?_;exact⟨hz,its',_,hv,q⟩
theorem Inv.lnew(I:Inv X w6 O H s)(hv:Vals ys its)(hz:ys.length<=sizeLine):
  Inv X w6 O (upd H s.heap.objs.size (.lst ys)) { s with heap:=s.heap.push { cls:=.type "list",data:=.seq its.toArray },toks:=t' }:=
 I.laid (λ_ _ q=>AAC _ q) (AAF _) ⟨hz,its,0,hv,AAD _ rfl⟩
theorem Inv.fresh(I:Inv X w6 O H s):H s.heap.objs.size=none:=I.hok.fresh (AAF _)
theorem Inv.lstM(I:Inv X w6 O H s)(hH:H l=some (.lst xs)):xs.length<=sizeLine/\∃(its:List Value) (n:Nat),Vals xs its/\xs.length=its.length/\s.heap.get? l=some { cls:=.type "list",data:=.seq its.toArray n }:=by
 obtain⟨z,its,n,r,e⟩:=I.hok l _ hH;exact⟨z,its,n,r,r.length,e⟩
theorem L3(h:n<=sizeLine):Builtin.List.listTooLong n=false:=by
 unfold Builtin.List.listTooLong;exact AAN (by omega)
end
section
variable{X:Cx}
noncomputable def UY:V->List V->Hp->VK->Prop:=λx vs H Q=>∃l xs y,x=.ref l/\vs=[y]/\H l=some (.lst xs)/\xs.length<sizeLine/\Q .non (upd H l (.lst (xs++[y])))
theorem Pr:MtM X "list.append" UY:=by
 intro w6 s O H x vs v us Q I rx rv h;obtain⟨l,xs,y,rfl,rfl,hH,hz,q⟩:=h;cases rx;obtain⟨u,rfl,ru⟩:=rv.one;obtain⟨z,its,n,r,hl,e⟩:=I.lstM hH;refine call_meets F.slot_list_append ⟨_,e,rfl⟩ F.entry_list_append (F.args_list_append_2 _ _) (PySem.list_append l its.toArray n u (by rw[List.size_toArray];omega)) ⟨e,?_⟩;refine⟨.non,_,I.lset (its':=its++[u]) hH e (by simp) (r.append (.cons ru .nil)) ?_,rfl,q⟩;rw[AAH,List.length_singleton];omega
noncomputable def UX:V->List V->Hp->VK->Prop:=λx vs H Q=>∃l b xs zs,x=.ref l/\vs=[.ref b]/\H l=some (.lst xs)/\H b=some (.lst zs)/\xs.length+zs.length<=sizeLine/\Q .non (upd H l (.lst (xs++zs)))
theorem Pq:MtM X "list.extend" UX:=by
 intro w6 s O H x vs v us Q I rx rv h;obtain⟨l,b,xs,zs,rfl,rfl,hH,hB,hz,q⟩:=h;cases rx;obtain⟨u,rfl,ru⟩:=rv.one;cases ru;obtain⟨z,its,n,r,hl,e⟩:=I.lstM hH;obtain⟨z2,its2,n2,r2,hl2,e2⟩:=I.lstM hB;have hsz:its.toArray.size+its2.toArray.size<=sizeLine:=by rw[List.size_toArray,List.size_toArray];omega
 have hlong:¬(!its.toArray.isEmpty&&Builtin.List.listTooLong (its.toArray.size+its2.toArray.size))=true:=by
  rw[L3 hsz,Bool.and_false];exact AAd
 refine call_meets F.slot_list_extend ⟨_,e,rfl⟩ F.entry_list_extend (F.args_list_extend_2 _ _)
  (AutoSeq1.list_extend_list_list_0 l its.toArray n b its2.toArray n2 hlong (by rw[List.size_toArray];omega) (by omega)) ⟨e,e2,?_⟩
 refine⟨.non,_,I.lset (its':=its++its2) hH e (by simp) (r.append r2) ?_,rfl,q⟩;rw[AAH];omega
noncomputable def bw:R2:=λx y H Q=>∃l b xs zs,x=.ref l/\y=.ref b/\H l=some (.lst xs)/\H b=some (.lst zs)/\xs.length+zs.length<=sizeLine/\∀p,H p=none->Q (.ref p) (upd H p (.lst (xs++zs)))
theorem X7:OpR X (binaryOp .Add) bw:=by
 intro w6 s O H x y v u Q I rx ry h;obtain⟨l,b,xs,zs,rfl,rfl,hH,hB,hz,q⟩:=h;cases rx;cases ry;obtain⟨z,its,n,r,hl,e⟩:=I.lstM hH;obtain⟨z2,its2,n2,r2,hl2,e2⟩:=I.lstM hB;refine PySem.P.add_list e e2 ?_ (by rw[List.size_toArray,List.size_toArray];omega);have ea:its.toArray++its2.toArray=(its++its2).toArray:=by simp
 rw[ea];exact⟨.ref _,_,I.lnew (t':=s.toks) (r.append r2) (by rw[AAH];omega),rfl,q _ I.fresh⟩
noncomputable def bu:R2:=λx y H Q=>∃l k xs,x=.ref l/\y=.int k/\H l=some (.lst xs)/\-(2 ^ 63)<=k/\k<2 ^ 63/\xs.length * k.toNat<=sizeLine /\
 ∀p,H p=none->Q (.ref p) (upd H p (.lst (List.replicate k.toNat xs).flatten))
theorem Oj(xs:List α)(k:Nat):(List.replicate k xs).flatten.length=k * xs.length:=by
 induction k with
 |zero=>simp
 |succ k ih=>rw[AAi,List.flatten_cons,AAH,ih,Nat.succ_mul,Nat.add_comm]
theorem X0:OpR X (binaryOp .Mult) bu:=by
 intro w6 s O H x y v u Q I rx ry h;obtain⟨l,k,xs,rfl,rfl,hH,h1,h2,hz,q⟩:=h;cases rx;obtain⟨t,rfl⟩:=ry;obtain⟨z,its,n,r,hl,e⟩:=I.lstM hH;have hlen:its.toArray.size * k.toNat<=sizeLine:=by rw[List.size_toArray,←hl];exact hz
 have hcap:¬its.toArray.size * k.toNat > (2 ^ 63-1) / 8:=by
  have:(sizeLine:Nat)<=(2 ^ 63-1) / 8:=by decide
  omega
 have hfit:¬(!Builtin.List.listFitsIndex k)=true:=by
  rw[fitsIndex_both h1 h2];exact AAd
 have hlong:¬Builtin.List.listTooLong (its.toArray.size * k.toNat)=true:=by
  rw[L3 hlen];exact AAd
 have hnew:List.foldl (λx1 x2=>x1++x2) #[] (List.replicate (if its.toArray.isEmpty=true then 0 else k.toNat) its.toArray)=(List.replicate k.toNat its).flatten.toArray:=by
  have f0:∀m:Nat,List.foldl (λx1 x2=>x1++x2) #[] (List.replicate m its.toArray)=(List.replicate m its).flatten.toArray:=λm=>by
   have:=KM its m [];rw[List.nil_append] at this;exact this
  rw[f0];cases its with
  |nil=>simp
  |cons a r'=>rw[if_neg (by simp)]
 refine wpAny_binaryOp_repeat_ref (T := "list") (U := "int") (by decide) ⟨_,e,rfl⟩ (λs'=>typeIs_int s' k t) noFill_list_mul F.fills_int_mul F.slot_int_rmul repeat_list F.slot_int_index.lookup
  (call_meets F.slot_int_rmul (typeIs_int s k t) F.entry_int_rmul (F.args_int_rmul_2 _ _) (int___rmul___int_list k t l its.toArray n)
   ⟨e,rfl,⟨_,e,rfl⟩,call_meets F.slot_list_mul ⟨_,e,rfl⟩ F.entry_list_mul (F.args_list_mul_2 _ _) (AutoListH.list___mul___list_int_3 l its.toArray n k t hfit hcap hlong) ⟨e,?_⟩⟩)
 rw[hnew];exact⟨.ref _,_,I.lnew (t':=s.toks) (r.rep k.toNat) (by rw[Oj,Nat.mul_comm];exact hz),rfl,q _ I.fresh⟩
end
section
variable{κ:Type}[DecidableEq κ]
noncomputable def FQ(kvs:List (κ×V))(k:κ):Option V:=(kvs.find? λkv=>decide (kv.1=k)).map (·.2)
noncomputable def EM(kvs:List (κ×V))(k:κ)(v:V):List (κ×V):=
 if (kvs.any λkv=>decide (kv.1=k))=true then kvs.map (λkv=>if kv.1=k then (kv.1,v) else kv) else kvs++[(k,v)]
theorem IP{p:κ×V}{r:List (κ×V)}{k:κ}(e:p.1=k):FQ (p::r) k=some p.2:=by simp[FQ,List.find?_cons,e]
theorem IQ{p:κ×V}{r:List (κ×V)}{k:κ}(e:¬p.1=k):FQ (p::r) k=FQ r k:=by simp[FQ,List.find?_cons,e]
theorem LW(k:κ):∀kvs:List (κ×V),(kvs.any λkv=>decide (kv.1=k))=(FQ kvs k).isSome
 |[]=>rfl
 |p::r=>by
  rw[List.any_cons];by_cases e:p.1=k
  ·simp only[IP e,AAO e,Bool.true_or,Option.isSome_some]
  ·rw[IQ e,AAN e,Bool.false_or];exact LW k r
theorem Fo(kvs:List (κ×V))(k:κ)(v:V):(EM kvs k v).length<=kvs.length+1:=by
 unfold EM;split
 ·rw[AAG];omega
 ·rw[AAH,AAI,List.length_nil];omega
theorem RelO.isSome_eq(r:RelO o u):o.isSome=u.isSome:=by
 cases o with
 |none=>cases u with
  |none=>rfl
  |some _=>exact(show False from r).elim
 |some _=>cases u with
  |none=>exact(show False from r).elim
  |some _=>rfl
theorem RelO.getD(r:RelO o u)(rd:RelV d d'):RelV (o.getD d) (u.getD d'):=by
 cases o with
 |none=>cases u with
  |none=>exact rd
  |some _=>exact(show False from r).elim
 |some _=>cases u with
  |none=>exact(show False from r).elim
  |some _=>exact r
theorem KV.val{kvs:List (κ×V)}{vs:List (κ×Value)}(r:KV kvs vs)(k:κ):RelO (FQ kvs k) (valueAt vs k):=by
 unfold KV at r
 induction r with
 |nil=>exact True.intro
 |@cons p q ps qs h t ih=>
  obtain⟨h1,h2⟩:=h;by_cases e:p.1=k
  ·have e':q.1=k:=h1.symm.trans e;have b:valueAt (q::qs) k=some q.2:=by simp[valueAt,List.find?_cons,e']
   rw[IP e,b];exact h2
  ·have e':¬q.1=k:=λz=>e (h1.trans z);have b:valueAt (q::qs) k=valueAt qs k:=by simp[valueAt,List.find?_cons,e']
   rw[IQ e,b];exact ih
theorem KV.any(r:KV kvs vs)(k:κ):(kvs.any λkv=>decide (kv.1=k))=vs.any λkv=>decide (kv.1=k):=by
 unfold KV at r
 induction r with
 |nil=>rfl
 |cons h t ih=>rw[List.any_cons,List.any_cons,ih,h.1]
theorem KV.repl(r:KV kvs vs)(k:κ)(ry:RelV y u):
  KV (kvs.map λkv=>if kv.1=k then (kv.1,y) else kv) (vs.map λkv=>if kv.1=k then (kv.1,u) else kv):=by
 unfold KV at r ⊢
 induction r with
 |nil=>exact .nil
 |@cons p q ps qs h t ih=>
  rw[AAW,AAW];refine .cons ?_ ih;obtain⟨h1,h2⟩:=h;by_cases e:p.1=k
  ·rw[if_pos e,if_pos (h1.symm.trans e)];exact⟨h1,ry⟩
  ·rw[if_neg e,if_neg (λz=>e (h1.trans z))];exact⟨h1,h2⟩
theorem KV.put(r:KV kvs vs)(k:κ)(ry:RelV y u):KV (EM kvs k y) (stored vs k u):=by
 unfold EM stored;rw[r.any k];by_cases e:(vs.any λkv=>decide (kv.1=k))=true
 ·rw[if_pos e,if_pos e];exact r.repl k ry
 ·rw[if_neg e,if_neg e];exact Paired.snoc r ⟨rfl,ry⟩
theorem KV.length(r:KV kvs vs):kvs.length=vs.length:=Paired.length r
end
theorem JA(r:RelV (kV k) u):(Bf P w).is k u=true:=by
 cases k with
 |inl i=>obtain⟨t,e⟩:=(show ∃t,u=Value.int i t from r);subst e;exact L6 P w i t
 |inr x=>obtain⟨t,e⟩:=(show ∃t,u=Value.str x t from r);subst e;exact L5 P w x t
theorem KD:∀{ks:List Key} {us:List Value},Vals (ks.map kV) us->ItemsAre (Bf P w) ks us
 |[],_,r=>by rw[List.map_nil] at r;cases r;exact .nil
 |k::ks,_,r=>by
  rw[AAW] at r;cases r with
  |cons h t=>exact .cons (JA h) (KD t)
noncomputable abbrev KT(H:Hp):List (List Key×V)->List (List Key×Addr×Value)->Prop:=Paired λp q=>p.1=q.1/\H q.2.1=some (.tup (p.1.map kV))/\RelV p.2 q.2.2
theorem KT.val{H:Hp}{kvs:List (List Key×V)}{xs:List (List Key×Addr×Value)}(r:KT H kvs xs)(k:List Key):RelO (FQ kvs k) ((atKey xs k).map (·.2)):=by
 induction r with
 |nil=>exact True.intro
 |@cons p q ps qs h t ih=>
  obtain⟨h1,_,h2⟩:=h;by_cases e:p.1=k
  ·have e':q.1=k:=h1.symm.trans e;have b:atKey (q::qs) k=some q.2:=by simp[atKey,List.find?_cons,e']
   rw[IP e,b];exact h2
  ·have e':¬q.1=k:=λz=>e (h1.trans z);have b:atKey (q::qs) k=atKey qs k:=by simp[atKey,List.find?_cons,e']
   rw[IQ e,b];exact ih
theorem KT.repl(r:KT H kvs xs)(k:List Key)(ry:RelV y u):
  KT H (kvs.map λkv=>if kv.1=k then (kv.1,y) else kv) (xs.map (putAt k u)):=by
 induction r with
 |nil=>exact .nil
 |@cons p q ps qs h t ih=>
  rw[AAW,AAW];refine .cons ?_ ih;obtain⟨h1,h2,h3⟩:=h;unfold putAt;by_cases e:p.1=k
  ·rw[if_pos e,if_pos (h1.symm.trans e)];exact⟨h1,h2,ry⟩
  ·rw[if_neg e,if_neg (λz=>e (h1.trans z))];exact⟨h1,h2,h3⟩
theorem KT.put(r:KT H kvs xs)(k:List Key)(hb:H b=some (.tup (k.map kV)))(ry:RelV y u):
  KT H (EM kvs k y) (storedH xs k b u):=by
 have e:(kvs.any λkv=>decide (kv.1=k))=(atKey xs k).isSome:=by
  rw[LW,(r.val k).isSome_eq,Option.isSome_map]
 unfold EM storedH;rw[e];by_cases q:(atKey xs k).isSome=true
 ·rw[if_pos q,if_pos q];exact r.repl k ry
 ·rw[if_neg q,if_neg q];exact Paired.snoc r ⟨rfl,hb,ry⟩
theorem KT.keeps(r:KT H kvs xs)(ht:∀b ys,H b=some (.tup ys)->H' b=some (.tup ys)):KT H' kvs xs:=
 Paired.mapP r λ_ _ z=>⟨z.1,ht _ _ z.2.1,z.2.2⟩
section
variable{P:Program}{w:World}{H:Hp}{h:Heap}{a:Addr}
theorem WK(ok:HOk P w H h)(e:Rd H a u):ObjOk P w H h a u:=e.ok ok
theorem Hr(ok:HOk P w H h)(e:Rd H a (.dK kvs)):kvs.length<=sizeLine/\(a==sysModules)=false/\∃vs,KV kvs vs/\h.DictOf (Bf P w) a vs:=
 show ObjOk P w H h a (.dK kvs) from WK ok e
theorem Wf(ok:HOk P w H h)(e:H a=some (.dK kvs)):kvs.length<=sizeLine/\(a==sysModules)=false/\∃vs,KV kvs vs/\h.DictOf (Bf P w) a vs:=Hr ok (.inl e)
theorem HS(ok:HOk P w H h)(e:H a=some (.tup (ks.map kV))):(tupleKind (Bf P w)).is h ks a:=by
 obtain⟨_,its,r,o,h1,h2,n,h3⟩:=(show ObjOk P w H h a (.tup (ks.map kV)) from ok a _ e);exact⟨o,its.toArray,n,h1,h2,h3,by simpa using KD r⟩
theorem JL(ok:HOk P w H h)(e:Rd H a (.dT kvs)):kvs.length<=sizeLine/\(a==sysModules)=false /\
  ∃xs,KT H kvs xs/\h.DictOfH (tupleKind (Bf P w)) a xs:=by
 obtain⟨z,y,xs,r,o,es,ep,h1,h2,h3,h4,h5⟩:=(show ObjOk P w H h a (.dT kvs) from WK ok e);refine⟨z,y,xs,r,o,es,ep,h1,h2,h3,h4,λx hx=>?_,h5⟩;have all:∀{l:List (List Key×V)} {m:List (List Key×Addr×Value)},KT H l m->∀x∈m,(tupleKind (Bf P w)).is h x.1 x.2.1:=by
  intro l m q
  induction q with
  |nil=>intro x hx;exact nomatch hx
  |@cons p q ps qs hq t ih=>
   intro x hx;rcases AAJ.mp hx with e|hx
   ·subst e;exact HS ok (by rw[←hq.1];exact hq.2.1)
   ·exact ih x hx
 exact all r x hx
theorem ah(ok:HOk P w H h)(e:H a=some (.dT kvs)):kvs.length<=sizeLine/\(a==sysModules)=false /\
  ∃xs,KT H kvs xs/\h.DictOfH (tupleKind (Bf P w)) a xs:=JL ok (.inl e)
end
def DGet(H:Hp)(a:Addr)(y:V)(r:Option V):Prop:=
 (∃kvs k,Rd H a (.dK kvs)/\y=kV k/\r=FQ kvs k)∨∃kvs k b,Rd H a (.dT kvs)/\y=.ref b/\H b=some (.tup (k.map kV))/\r=FQ kvs k
def DPut(H:Hp)(a:Addr)(y v:V)(H':Hp):Prop:=
 (∃kvs k,H a=some (.dK kvs)/\y=kV k/\kvs.length<sizeLine/\H'=upd H a (.dK (EM kvs k v))) ∨
 ∃kvs k b,H a=some (.dT kvs)/\y=.ref b/\H b=some (.tup (k.map kV))/\kvs.length<sizeLine/\H'=upd H a (.dT (EM kvs k v))
theorem DGet.k{H:Hp}{a:Addr}{kvs:List (Key×V)}{k:Key}(e:H a=some (.dK kvs)):DGet H a (kV k) (FQ kvs k):=.inl ⟨kvs,k,.inl e,rfl,rfl⟩
theorem DPut.k{H:Hp}{a:Addr}{kvs:List (Key×V)}{k:Key}{v:V}(e:H a=some (.dK kvs))(hl:kvs.length<sizeLine):DPut H a (kV k) v (upd H a (.dK (EM kvs k v))):=.inl ⟨kvs,k,e,rfl,hl,rfl⟩
section
variable{X:Cx}{w6:List (Addr×Obj)}{O:St}{H:Hp}{s:Shared}{a:Addr}{y v:V}{u r:Value}{o:Option V}{A:Around}{E:Value->Shared->Prop}
theorem Inv.big(I:Inv X w6 O H s):sysModules<s.heap.objs.size:=by
 have h:mainGlobals<s.heap.objs.size:=(I.mod.glob.keeps I.bk).lt;exact Nat.lt_trans (by decide) h
theorem QM(hu:A.units+1<cLine)(I:Inv X w6 O H s)(g:DGet H a y (some v))(ry:RelV y u)(h:∀w' s',Inv X w6 O H s'->RelV v w'->Q w' s'):
  wpAny (model X.prog X.w) A (getItem (.ref a) u) Q E s:=by
 rcases g with ⟨kvs,k,e,ey,l⟩|⟨kvs,k,b,e,ey,eb,l⟩
 ·subst ey;obtain⟨z,hd,vs,rel,dd⟩:=Hr I.hok e;obtain⟨w',hw,rw'⟩:=RelO.some_of (v:=v) (o:=valueAt vs k) (by rw[l];exact rel.val k);exact wpAny_getItem_of (JA ry) dd.mapOf hw (h w' _ (I.tok _) rw')
 ·subst ey;cases (show u=Value.ref b from ry);obtain⟨z,hd,xs,rel,dd⟩:=JL I.hok e;obtain⟨w',hw,rw'⟩:=RelO.some_of (v:=v) (o:=(atKey xs k).map (·.2)) (by rw[l];exact rel.val k);obtain⟨p,hp,hp2⟩:=Option.map_eq_some_iff.mp hw;refine wpAny_getItem_heap (tupleKind_room_in1 hu) (HS I.hok eb) dd hp ?_;rw[hp2];exact h w' _ (I.tok _) rw'
theorem cQ(hu:A.units+1<cLine)(I:Inv X w6 O H s)(g:DGet H a y o)(ry:RelV y u)(h:∀s',Inv X w6 O H s'->Q (.bool o.isSome) s'):
  wpAny (model X.prog X.w) A (compareOp .In u (.ref a)) Q E s:=by
 rcases g with ⟨kvs,k,e,ey,l⟩|⟨kvs,k,b,e,ey,eb,l⟩
 ·subst ey;obtain⟨z,hd,vs,rel,dd⟩:=Hr I.hok e;refine wpAny_in_of (JA ry) hd dd.mapOf ?_;rw[←(rel.val k).isSome_eq,←l];exact h _ (I.tok _)
 ·subst ey;cases (show u=Value.ref b from ry);obtain⟨z,hd,xs,rel,dd⟩:=JL I.hok e;refine wpAny_in_heap (tupleKind_room_in1 hu) (HS I.hok eb) hd dd ?_;have q:=(rel.val k).isSome_eq;rw[Option.isSome_map] at q;rw[←q,←l];exact h _ (I.tok _)
theorem LI(I:Inv X w6 O H s)(mu:Mut (H a))(hs:Heap.SameBut a s.heap h')(he:∃q,h'.get? a=some q)(new:ObjOk X.prog X.w (upd H a ob) h' a ob):
  Inv X w6 O (upd H a ob) { s with heap:=h',toks:=t' }:=
 I.write (x:=a) (e:=a) mu (.inl rfl) (λb q hb z=>(hs.2 b hb).trans z) he new
theorem TM(z:kvs.length<=sizeLine)(hd:(a==sysModules)=false)(rel:KV kvs vs)(dd:h'.DictOf (Bf P w) a vs):
  ObjOk P w H' h' a (.dK kvs):=⟨z,hd,vs,rel,dd⟩
theorem QK(hu:A.units+1<cLine)(I:Inv X w6 O H s)(g:DPut H a y v H')(ry:RelV y u)(rv:RelV v r)(h:∀s',Inv X w6 O H' s'->Q () s'):
  wpAny (model X.prog X.w) A (setItem (.ref a) u r) Q E s:=by
 rcases g with ⟨kvs,k,e,ey,l,eH⟩|⟨kvs,k,b,e,ey,eb,l,eH⟩
 ·subst ey eH;obtain⟨z,hd,vs,rel,dd⟩:=Wf I.hok e;have hz:vs.length<=sizeLine:=by rw[←rel.length];exact z
  have hl:(EM kvs k v).length<=sizeLine:=by have:=Fo kvs k v;omega
  refine wpAny_setItem_pairs (hsz:=hz) (JA ry) dd λh' dd' hs=>h _ ?_;have he:∃q,h'.get? a=some q:=let ⟨q,_,_,hq,_⟩:=dd';⟨q,hq⟩
  exact LI I (by rw[e];exact True.intro) hs he (TM hl hd (rel.put k rv) dd')
 ·subst ey eH;cases (show u=Value.ref b from ry);obtain⟨z,hd,xs,rel,dd⟩:=ah I.hok e;have hz:xs.length<=sizeLine:=by rw[←Paired.length rel];exact z
  have hl:(EM kvs k v).length<=sizeLine:=by have:=Fo kvs k v;omega
  refine wpAny_setItem_heap (hsz:=hz) (tupleKind_room_in1 hu) (HS I.hok eb) dd λh' dd' hs=>h _ ?_;obtain⟨q,es,ep,hq,h2,h3,h4,_,h5⟩:=dd';refine LI I (by rw[e];exact True.intro) hs ⟨q,hq⟩ ⟨hl,hd,_,(rel.put k eb rv).keeps λc ys ec=>?_,q,es,ep,hq,h2,h3,h4,h5⟩;rw[Aw (aL ec e (λz=>nomatch z))];exact ec
end
section
variable{X:Cx}{w6:List (Addr×Obj)}{O:St}{H:Hp}{s:Shared}{a:Addr}{kvs:List (Key×V)}{A:Around}{E:Value->Shared->Prop}
theorem ar(I:Inv X w6 O H s)(e:Rd H a (.dK kvs))(h:∀t s',Inv X w6 O H s'->Q (.int kvs.length t) s'):wpAny (model X.prog X.w) A (call (.builtin "len") [.ref a]) Q E s:=by
 obtain⟨z,hd,vs,rel,dd⟩:=Hr I.hok e;refine call_len_dict hd dd (by rw[←rel.length];rw[sizeLine_eq] at z;omega) ?_;rw[←rel.length];exact h _ _ (I.tok _)
end
def Tk(i:Expr):Prop:=∀ov iv,subscripted i false ov iv=operate [ov,iv] (getItem ov iv)
theorem OF{prog:Program}{w:World}{A:Around}{E:Value->Shared->Prop}{s:Shared}{env:Env}{value slice:Expr}{pos:Pos}{T id:String}{Q:Value->Shared->Prop}
  (hl:typeLookup (.type T) "__getitem__" = pure (some (.builtin id))) (hs:Tk slice)
  (h:wpAny (model prog w) A (eval value env) (λo s₁=>wpAny (model prog w) A (eval slice env) (λi s₂=>s₂.TypeIs o T/\wpAny (model prog w) A (getItem o i) Q E s₂) E s₁) E s) :
  wpAny (model prog w) A (eval (.Subscript value slice pos) env) Q E s:=by
 refine Subscript_ (AAg h (λo s₁ h₁=>AAg h₁ (λi s₂ h₂=>?_) λ_ _ x=>x) λ_ _ x=>x);obtain⟨hT,h₂⟩:=h₂;unfold subscriptTail;refine AAA ?_;rw[getitemInPython_of_ne hT.not_modules];refine AAA (wpAny_specialOf hT hl ?_);have fin:wpAny (model prog w) A (subscripted slice false o i) (λr s₃=>wpAny (model prog w) A (letTemporaryGo value o r >>= λ_=>pure r) Q E s₃) E s₂:=by
  rw[hs o i];exact wpAny_operating (AAg h₂ (λr s₃ h₃=>AAA (wpAny_letTemporaryGo (AAB h₃))) λ_ _ x=>x)
 first
  |exact AAB (AAA fin)
  |exact AAA (AAB (AAA fin))
  |exact AAA fin
theorem MU(I:Inv X w6 O H s)(g:DGet H a y o):s.TypeIs (.ref a) "dict" := by
 rcases g with ⟨kvs,k,e,_,_⟩|⟨kvs,k,b,e,_,_,_⟩
 ·obtain⟨_,_,vs,_,dd⟩:=Hr I.hok e;exact dd.typeIs
 ·obtain⟨_,_,xs,_,dd⟩:=JL I.hok e;exact dd.typeIs
noncomputable def Za(td ty:TE):TE:=λO H Q=>td O H λx H1=>ty O H1 λy H2=>∃a v,x=.ref a/\DGet H2 a y (some v)/\Q v H2
noncomputable def ZZ(ty td:TE):TE:=λO H Q=>ty O H λy H1=>td O H1 λx H2=>∃a o,x=.ref a/\DGet H2 a y o/\Q (.bl o.isSome) H2
noncomputable def Zf(td ty tv:TE):TS:=λD O H=>tv O H λv H1=>td O H1 λx H2=>ty O H2 λy H3=>∃a H4,x=.ref a/\DPut H3 a y v H4/\D.nx O H4
section
variable{X:Cx}{o i value:Expr}{pos pos':Pos}{td ty tv:TE}
theorem Ut(hu:X.A.units+1<cLine)(ho:PE X o td)(hi:PE X i ty)(hs:Tk i):PE X (.Subscript o i pos) (Za td ty):=by
 intro w6 s O H Q I h;refine OF PySem.F.slot_dict_getitem.lookup hs (thn (ho w6 s O H _ I h) λu s1 ⟨x,H1,I1,rx,q1⟩=>thn (hi w6 s1 O H1 _ I1 q1) λiv s2 ⟨y,H2,I2,ry,a,v,ex,g,q2⟩=>?_);subst ex;obtain rfl:u=Value.ref a:=rx;exact⟨MU I2 g,QM hu I2 g ry λw' s3 I3 rw'=>⟨v,H2,I3,rw',q2⟩⟩
theorem SJ(hu:X.A.units+1<cLine)(hi:PE X i ty)(ho:PE X o td):PC X .In i o (ZZ ty td):=by
 intro w6 s O H Q I h;refine thn (hi w6 s O H _ I h) λiv s1 ⟨y,H1,I1,ry,q1⟩=>thn (ho w6 s1 O H1 _ I1 q1) λu s2 ⟨x,H2,I2,rx,a,ov,ex,g,q2⟩=>?_;subst ex;obtain rfl:u=Value.ref a:=rx;exact cQ hu I2 g ry λs3 I3=>⟨.bl ov.isSome,H2,I3,rfl,q2⟩
theorem Ui(hu:X.A.units+1<cLine)(ho:PE X o td)(hi:PE X i ty)(hv:PE X value tv)(hs:swapsWith value (some (.Subscript o i pos')) pos.line X.env=pure false):
  PS X (.Assign [.Subscript o i pos'] value pos) (Zf td ty tv):=by
 intro w6 s O H D I h;refine wpAny_Assign_Subscript (thn (hv w6 s O H _ I h) λr s1 ⟨v,H1,I1,rv,q1⟩=>thn (ho w6 s1 O H1 _ I1 q1) λu s2 ⟨x,H2,I2,rx,q2⟩=>thn (hi w6 s2 O H2 _ I2 q2) λiv s3 ⟨y,H3,I3,ry,a,H4,ex,g,q3⟩=>?_) hs;subst ex;obtain rfl:u=Value.ref a:=rx;exact QK hu I3 g ry rv λs4 I4=>⟨O,H4,I4,q3⟩
end
theorem MT(h:Heap)(hb:sysModules<h.objs.size):ObjOk P w H (h.push { cls:=.type "dict",data:=.dict #[] }) h.objs.size (.dK []):=
 ⟨AAh _,AAc.mpr (Ne.symm (AAb hb)),[],.nil,Heap.DictOf.new h⟩
noncomputable def XA:TE:=λ_ H Q=>∀p,H p=none->Q (.ref p) (upd H p (.dK []))
section
variable{X:Cx}{pos:Pos}
theorem SD:PE X (.Dict [] [] pos) XA:=λw6 s O H Q I h=>
 wpAny_Dict_empty ⟨.ref s.heap.objs.size,_,I.laid (a:=s.heap.objs.size) (o:=.dK []) (t':=s.toks) (λ_ _ q=>AAC _ q) (AAF _) (MT s.heap I.big),rfl,h _ (I.hok.fresh (AAF _))⟩
end
noncomputable def Kk:List (TE×TE)->St->Hp->(List (V×V)->Hp->Prop)->Prop
 |[],_,H,Q=>Q [] H
 |(tk,tv)::r,O,H,Q=>tk O H λx H1=>tv O H1 λy H2=>Kk r O H2 λps H3=>Q ((x,y)::ps) H3
noncomputable abbrev VV:List (V×V)->List (Value×Value)->Prop:=Paired λp q=>RelV p.1 q.1/\RelV p.2 q.2
def PPs(X:Cx)(pos:Pos)(keys:List (Option Expr))(values:List Expr)(trs:List (TE×TE)):Prop:=
 ∀(w6:List (Addr×Obj)) (s:Shared) (O:St) (H:Hp) (Q:List (V×V)->Hp->Prop),Inv X w6 O H s->Kk trs O H Q->
  wpAny (model X.prog X.w) X.A (evalPairs (pairTrees keys values X.env pos)) (λvs s'=>∃ps H',Inv X w6 O H' s'/\VV ps vs/\Q ps H') X.xe s
theorem Uj:PPs X pos [] [] []:=λw6 s O H Q I h=>pairTrees_nil_walk ⟨[],H,I,.nil,h⟩
theorem Rv(hk:PE X k tk)(hv:PE X v tv)(hr:PPs X pos ks vs trs):
  PPs X pos (some k::ks) (v::vs) ((tk,tv)::trs):=λw6 s O H Q I h=>
 pairTrees_cons_walk (thn (hk w6 s O H _ I h) λu s1 ⟨x,H1,I1,rx,q1⟩=>thn (hv w6 s1 O H1 _ I1 q1) λw2 s2 ⟨y,H2,I2,ry,q2⟩=>
  thn (hr w6 s2 O H2 _ I2 q2) λws s3 ⟨ps,H3,I3,rel,q3⟩=>⟨(x,y)::ps,H3,I3,.cons ⟨rx,ry⟩ rel,q3⟩)
noncomputable def Fg(kvs more:List (Key×V)):List (Key×V):=more.foldl (λacc kv=>EM acc kv.1 kv.2) kvs
theorem KV.merge:∀{more:List (Key×V)} {rs:List (Key×Value)} {kvs:List (Key×V)} {vs:List (Key×Value)},KV more rs->KV kvs vs->KV (Fg kvs more) (merged vs rs):=by
 intro more rs kvs vs r;unfold KV at r
 induction r generalizing kvs vs with
 |nil=>intro q;exact q
 |@cons p q ps qs h t ih=>
  intro r0;have e:KV (EM kvs p.1 p.2) (stored vs q.1 q.2):=by
   have:=r0.put p.1 h.2;rw[←h.1];exact this
  exact ih e
theorem GM:∀(more kvs:List (Key×V)),(Fg kvs more).length<=kvs.length+more.length
 |[],kvs=>by show kvs.length<=kvs.length+0;omega
 |p::r,kvs=>by
  have h1:=GM r (EM kvs p.1 p.2);have h2:=Fo kvs p.1 p.2;show (Fg (EM kvs p.1 p.2) r).length<=_;rw[AAI];omega
theorem JO:∀{kvs:List (Key×V)} {ws:List (Value×Value)},VV (kvs.map λkv=>(kV kv.1,kv.2)) ws->∃rs,Carries (Bf P w) ws rs/\KV kvs rs
 |[],_,r=>by rw[List.map_nil] at r;cases r;exact⟨[],True.intro,.nil⟩
 |p::kvs,_,r=>by
  rw[AAW] at r;cases r with
  |@cons a b as bs h t=>
   obtain⟨rs,c,q⟩:=JO (P:=P) (w:=w) t;obtain⟨b1,b2⟩:=b;exact⟨(p.1,b2)::rs,⟨JA h.1,rfl,c⟩,.cons ⟨rfl,h.2⟩ q⟩
noncomputable def ZY(trs:List (TE×TE)):TE:=λO H Q=>∀p,H p=none->Kk trs O (upd H p (.dK [])) λps H2=>H2 p=some (.dK [])/\∃kvs:List (Key×V),ps=kvs.map (λkv=>(kV kv.1,kv.2))/\kvs.length<=15/\Q (.ref p) (upd H2 p (.dK (Fg [] kvs)))
theorem Us(h:PPs X pos keys values trs)(hall:keys.all (·.isSome)=true)(hl:keys.length=values.length)(h0:keys≠[])
  (h15:keys.length<=15):PE X (.Dict keys values pos) (ZY trs):=by
 intro w6 s O H Q I q;have hn:=I.hok.fresh (AAF s.heap.objs.size);have I1:=I.laid (a:=s.heap.objs.size) (o:=.dK []) (h':=s.heap.push { cls:=.type "dict",data:=.dict #[] }) (t':=s.toks) (λ_ _ q=>AAC _ q) (AAF _) (MT s.heap I.big);refine wpAny_Dict_walk (knd:=Bf X.prog X.w) hall hl h0 h15 (thn (h w6 _ O _ _ I1 (q _ hn)) λws s2 ⟨ps,H2,I2,rel,e,kvs,ep,lk,q2⟩=>?_);subst ep;obtain⟨rs,c,rk⟩:=JO (P:=X.prog) (w:=X.w) rel;obtain⟨z,hd,vs0,r0,dd⟩:=Wf I2.hok e;cases r0;refine⟨rs,c,dd,λh' dd' hs=>⟨.ref s.heap.objs.size,_,?_,rfl,q2⟩⟩;have hz:(Fg [] kvs).length<=sizeLine:=by
  have h1:=GM kvs [];rw[List.length_nil] at h1;rw[sizeLine_eq];omega
 have he:∃q,h'.get? s.heap.objs.size=some q:=let ⟨q,_,_,hq,_⟩:=dd';⟨q,hq⟩
 exact LI I2 (by rw[e];exact True.intro) hs he (TM hz hd (rk.merge .nil) dd')
structure M1(X:Cx)(o:Expr)(m:Str)(apos:Pos)(e:Expr)(cpos:Pos):Prop where
 base:attributeBase o m X.env (eval o X.env)=eval o X.env
 few:((backTo cpos (starEach [e] X.env)).all (λx=>!x.1)&&(backToKw cpos (keywordEach [] X.env)).all (λx=>x.1.isSome)
  && decide (([e]:List Expr).length+([]:List Keyword).length+(if ([]:List Keyword).isEmpty then 0 else 1)<30))=true
 line:(apos.endLine==cpos.line)=true
 trees:backTo cpos (starEach [e] X.env)=[(false,eval e X.env)]
structure M2(X:Cx)(o:Expr)(m:Str)(apos:Pos)(e f:Expr)(cpos:Pos):Prop where
 base:attributeBase o m X.env (eval o X.env)=eval o X.env
 few:((backTo cpos (starEach [e,f] X.env)).all (λx=>!x.1)&&(backToKw cpos (keywordEach [] X.env)).all (λx=>x.1.isSome)
  && decide (([e,f]:List Expr).length+([]:List Keyword).length+(if ([]:List Keyword).isEmpty then 0 else 1)<30))=true
 line:(apos.endLine==cpos.line)=true
 trees:backTo cpos (starEach [e,f] X.env)=[(false,eval e X.env),(false,eval f X.env)]
def IsD(H:Hp)(a:Addr):Prop:=(∃kvs,Rd H a (.dK kvs))∨∃kvs,Rd H a (.dT kvs)
theorem Sn(I:Inv X w6 O H s)(d:IsD H a):
  s.TypeIs (.ref a) "dict" /\ (∀b,Value.ref a=.ref b->∃ob,s.heap.get? b=some ob/\ob.dict=none)/\(a==sysModules)=false:=by
 rcases d with ⟨kvs,e⟩|⟨kvs,e⟩
 ·obtain⟨_,hd,vs,_,dd⟩:=Hr I.hok e;refine⟨dd.typeIs,λb q=>?_,hd⟩;cases q;obtain⟨ob,_,_,h1,h2,_⟩:=dd;exact⟨ob,h1,h2.2.1⟩
 ·obtain⟨_,hd,xs,_,dd⟩:=JL I.hok e;refine⟨dd.typeIs,λb q=>?_,hd⟩;cases q;obtain⟨ob,_,_,h1,h2,_⟩:=dd;exact⟨ob,h1,h2.2.1⟩
section
variable{X:Cx}{w6:List (Addr×Obj)}{O:St}{H:Hp}{s:Shared}{a:Addr}{y d:V}{u r:Value}{o:Option V}{A:Around}{E:Value->Shared->Prop}
theorem Yz(hu:A.units+1<cLine)(I:Inv X w6 O H s)(g:DGet H a y o)(ry:RelV y u)(h:∀w' s',Inv X w6 O H s'->RelV (o.getD .non) w'->Q w' s'):
  wpAny (model X.prog X.w) A (call (.builtin "dict.get") [.ref a,u]) Q E s:=by
 rcases g with ⟨kvs,k,e,ey,l⟩|⟨kvs,k,b,e,ey,eb,l⟩
 ·subst ey;obtain⟨z,hd,vs,rel,dd⟩:=Hr I.hok e;refine call_meetsIn PySem.F.slot_dict_get dd.typeIs PySem.F.entry_dict_get (PySem.F.args_dict_get_2 _ _) (meets_dict_get (Bf X.prog X.w) a (JA ry) hd) ⟨_,dd.mapOf,h _ _ (I.tok _) ?_⟩;rw[l];exact(rel.val k).getD rfl
 ·subst ey;cases (show u=Value.ref b from ry);obtain⟨z,hd,xs,rel,dd⟩:=JL I.hok e;refine call_meetsIn PySem.F.slot_dict_get dd.typeIs PySem.F.entry_dict_get (PySem.F.args_dict_get_2 _ _) (meetsH_dict_get (tupleKind (Bf X.prog X.w)) a b hd) ⟨tupleKind_room_in1 hu,k,xs,HS I.hok eb,dd,h _ _ (I.tok _) ?_⟩;rw[l];exact(rel.val k).getD rfl
theorem Yy(hu:A.units+1<cLine)(I:Inv X w6 O H s)(g:DGet H a y o)(ry:RelV y u)(rd:RelV d r)(h:∀w' s',Inv X w6 O H s'->RelV (o.getD d) w'->Q w' s'):
  wpAny (model X.prog X.w) A (call (.builtin "dict.get") [.ref a,u,r]) Q E s:=by
 rcases g with ⟨kvs,k,e,ey,l⟩|⟨kvs,k,b,e,ey,eb,l⟩
 ·subst ey;obtain⟨z,hd,vs,rel,dd⟩:=Hr I.hok e;refine call_meetsIn PySem.F.slot_dict_get dd.typeIs PySem.F.entry_dict_get (PySem.F.args_dict_get_3 _ _ _) (meets_dict_get_default (Bf X.prog X.w) a (JA ry) hd r) ⟨_,dd.mapOf,h _ _ (I.tok _) ?_⟩;rw[l];exact(rel.val k).getD rd
 ·subst ey;cases (show u=Value.ref b from ry);obtain⟨z,hd,xs,rel,dd⟩:=JL I.hok e;refine call_meetsIn PySem.F.slot_dict_get dd.typeIs PySem.F.entry_dict_get (PySem.F.args_dict_get_3 _ _ _) (meetsH_dict_get_default (tupleKind (Bf X.prog X.w)) a b hd r) ⟨tupleKind_room_in1 hu,k,xs,HS I.hok eb,dd,h _ _ (I.tok _) ?_⟩;rw[l];exact(rel.val k).getD rd
end
noncomputable def XC(td ty:TE):TE:=λO H Q=>td O H λx H1=>∃a,x=.ref a/\IsD H1 a/\ty O H1 λy H2=>∃o,DGet H2 a y o/\Q (o.getD .non) H2
noncomputable def XB(td ty tx:TE):TE:=λO H Q=>td O H λx H1=>∃a,x=.ref a/\IsD H1 a/\ty O H1 λy H2=>tx O H2 λz H3=>∃o,DGet H3 a y o/\Q (o.getD z) H3
section
variable{X:Cx}{o e f:Expr}{apos cpos:Pos}{td ty tx:TE}
theorem SF(hu:X.A.units+1<cLine)(ho:PE X o td)(he:PE X e ty)(m:M1 X o "get" apos e cpos):PE X (.Call (.Attribute o "get" apos) [e] [] cpos) (XC td ty):=by
 intro w6 s O H Q I h;refine wpAny_Call_method m.base m.few m.line PySem.F.plainAttrs_dict PySem.F.slot_dict_get PySem.F.type_dict_get (thn (ho w6 s O H _ I h) λu s1 ⟨x,H1,I1,rx,a,ex,d,q1⟩=>?_);subst ex;obtain rfl:u=Value.ref a:=rx;obtain⟨t1,t2,_⟩:=Sn I1 d;refine⟨t1,t2,?_⟩;rw[m.trees];refine Calls.callWith_builtin rfl (Calls.evalArgs_plain (Calls.spliced_cons (thn (he w6 s1 O H1 _ I1 q1) λiv s2 ⟨y,H2,I2,ry,ov,g,q2⟩=>Calls.spliced_nil ?_)));exact Yz hu I2 g ry λw' s3 I3 rw'=>⟨_,H2,I3,rw',q2⟩
theorem SE(hu:X.A.units+1<cLine)(ho:PE X o td)(he:PE X e ty)(hf:PE X f tx)(m:M2 X o "get" apos e f cpos):PE X (.Call (.Attribute o "get" apos) [e,f] [] cpos) (XB td ty tx):=by
 intro w6 s O H Q I h;refine wpAny_Call_method m.base m.few m.line PySem.F.plainAttrs_dict PySem.F.slot_dict_get PySem.F.type_dict_get (thn (ho w6 s O H _ I h) λu s1 ⟨x,H1,I1,rx,a,ex,d,q1⟩=>?_);subst ex;obtain rfl:u=Value.ref a:=rx;obtain⟨t1,t2,_⟩:=Sn I1 d;refine⟨t1,t2,?_⟩;rw[m.trees];refine Calls.callWith_builtin rfl (Calls.evalArgs_plain (Calls.spliced_cons (thn (he w6 s1 O H1 _ I1 q1) λiv s2 ⟨y,H2,I2,ry,q2⟩=>
  Calls.spliced_cons (thn (hf w6 s2 O H2 _ I2 q2) λfv s3 ⟨z,H3,I3,rz,ov,g,q3⟩=>Calls.spliced_nil ?_))))
 exact Yy hu I3 g ry rz λw' s4 I4 rw'=>⟨_,H3,I4,rw',q3⟩
end
end L2
namespace Att
open PySem PySem.W PySem.Calls PyProof.Rows
theorem IB:∀(ns:List Int) (vs:List Value),WellAll P h vs (ns.map WData.int)->IntsAre vs ns:=by
 intro ns
 induction ns with
 |nil=>
  intro vs w;rw[List.map_nil] at w;cases w;exact .nil
 |cons n ns ih=>
  intro vs w;rw[AAW] at w;cases w with
  |cons a b=>
   cases a;exact .cons _ _ (ih _ b)
theorem PV{l:OpenLaw}{n:Nat}(hn:l.most=some n){P:Params}{h:Heap}{args:List WData}{vals:List Value}
  (hpre:l.row.toRowW.claim.pre args=true) (hwl:WellAll P h vals args) :
  ∃a vs ns,vals=[Value.ref a]/\args=[WData.list (ns.map WData.int)]/\h.get? a=some { cls:=.type "list",data:=.seq vs.toArray }/\IntsAre vs ns/\ns.length<=n:=by
 have hsh:WShape.hasAll [] args [.list .int]=true:=(pre_splitW hpre).1;have hc:l.pre.holds [] { args:=args }=true:=(pre_splitW hpre).2;obtain⟨d,r,rfl,h1,h2⟩:=hasAllW_cons hsh;obtain rfl:=hasAllW_nil h2;obtain⟨xs,rfl,h3⟩:=hasW_list h1;obtain⟨ns,rfl⟩:=items_int h3;have hlen:ns.length<=n:=by
  unfold OpenLaw.pre at hc;have h4:(WTm.not (.lt (.lit (.int (n:Int))) (.len (.arg 0)))).holds [] { args:=[.list (ns.map .int)] }=true:=by
   have h4:=(holds_andW hc).1;rw[hn] at h4;exact h4
  have h5:=condW_of h4 (w_not (w_lt w_lit (w_len_list (w_arg rfl))));rw[AAG] at h5;refine Nat.le_of_not_lt λq=>?_;have q':(n:Int)<((ns.length:Nat):Int):=by omega
  first
   |(rw[AAO q'] at h5;exact absurd h5 (by decide))
   |(simp at h5;omega)
 cases hwl with
 |cons w1 w2=>
  cases w2;cases w1 with
  |list ho hall=>exact⟨_,_,ns,rfl,rfl,ho,IB ns _ hall,hlen⟩
theorem Ph(l:OpenLaw)(args:List WData):l.row.toRowW.claim.post args (.bool true) args=true:=
 postW_of (r:=l.row.toRowW) (X:=(true==true))
  (show WShape.has [] (.bool true) .bool=true by first|rfl|decide|simp[WShape.has,WShape.arms,WShape.armsAll])
  (show (WTm.eq .res (.lit (.bool true))).value [] { args:=args,res:=some (.bool true),after:=args }=some (.bool (true==true)) from w_eq_bool (w_res rfl) w_lit) rfl
theorem Mg{l:OpenLaw}{n:Nat}{q:Program}{loose:List Str}{XP:(Str->Option Value)->Heap->Prop}{YP:World->Heap->Prop}{d:DefRec}
  (hn:l.most=some n) (hdf:d.params.defaults=[])
  (call:∀(w:World) (s₀ s₁:Shared) (mg mb:Str->Option Value) (fa:Addr) (o:Obj) (pm cd doc:Value) (a:Addr) (vs:List Value) (ns:List Int),
   Ground q loose [] XP w s₀ mg mb s₁.heap->YP w s₁.heap->
   s₁.heap.get? fa=some o->o.data=.func (docDef d.name d.params d.body d.scope pm cd doc)->s₁.heap.CodeRec cd d.name->mg d.name=some (.ref fa)->
   s₁.heap.get? a=some { cls:=.type "list",data:=.seq vs.toArray }->IntsAre vs ns->ns.length<=n->s₁.gens=#[]->
   codeAny (model l.prog w) callerA (.call (.ref fa) ⟨[.ref a],[]⟩) (λr s'=>r=.ok (.ret (.bool true))/\OldK s₁.heap s'.heap/\s'.os=s₁.os/\AllBare s'.gens) s₁) :
  WalkO q loose XP YP l.row.toRowW d [] (λf vs=>PySem.call f vs):=by
 intro w s₀ s₁ mg mb G Y_ fa o pm cd doc dV kV ho hd hcd hD hmg hg args vals as hpre hlay hrd hwl hlo;obtain rfl:dV=.none:=Dflts.none hD hdf;obtain rfl:kV=.none:=Dflts.noKw hD;obtain⟨a,vs,ns,rfl,rfl,hobj,hints,hlen⟩:=PV hn hpre hwl;refine enter_call (codeAny_mono (call w s₀ s₁ mg mb fa o pm cd doc a vs ns G Y_ ho (fd_plain hd) hcd hmg hobj hints hlen hg) λr s' hq=>?_);obtain⟨rfl,h2,h3,h4⟩:=hq;exact⟨.inl ⟨.bool true,.bool true,[],rfl,λ_=>rfl,.bool true,Ph l _,λ_=>⟨List.Pairwise.nil,λ_ hm=>(nomatch hm)⟩⟩,h2,h3,h4⟩
end Att
namespace L2
open PySem PySem.Spec PyProof.Rows
theorem HF:∀{vs:List Value} {ns:List Int},IntsAre vs ns->Vals (ns.map V.int) vs
 |_,_,.nil=>.nil
 |_,_,.cons n t h=>.cons ⟨t,rfl⟩ (HF h)
def V3(H:Hp):Prop:=∀b,H b=none∨∃o xs,H b=some (.frz o (.lst xs))
theorem Sc{P:Program}{w:World}{K:PySem.W.Frag}{mg mb:Str->Option Value}{CX:CXT}{k:Nat}{fa a:Addr}{fd:FuncData}{x:Str}{sp:Sp}{s₁:Shared}{vs:List Value}{ns:List Int}
  (KX:K.In s₁.heap) (hns:s₁.heap.Ns mainGlobals mg) (hb:s₁.heap.Ns builtinsNs mb) (hbb:∀x:Str,x ≠ "__name__" -> mb x=bootBuiltins x) (hlim:s₁.heap.NoLimit) (hg:s₁.gens=#[])
  (ha:s₁.heap.get? a=some { cls:=.type "list",data:=.seq vs.toArray }) (hi:IntsAre vs ns) (hl:ns.length<=sizeLine) (hr:Room k callerA)
  (F:∀base:Heap,K.In base->base.Ns mainGlobals mg->FnOk P w K mg base CX k fa fd [x] sp) (hbind:∀(s:Shared) (u:Value),BindsTo s fd ⟨[u],[]⟩ [(x,u)])
  (hsp:∀H:Hp,V3 H->SqL K H a (ns.map V.int)->sp [.ref a] H (λv _=>v=.bl true) λ_ _ _=>False)
  (hCX:∀H e s',CX [] H s₁ (λ_ _ _=>False) e s'->False) :
  codeAny (model P w) callerA (.call (.ref fa) ⟨[.ref a],[]⟩) (λr s'=>r=.ok (.ret (.bool true))/\OldK s₁.heap s'.heap/\s'.os=s₁.os/\AllBare s'.gens) s₁:=by
 have rv:=HF hi;have lenV:=hi.length;have core:∀H:Hp,V3 H->SqL K H a (ns.map V.int)->HOk P w H s₁.heap->(∀b,H b≠none->b=a)->(H a≠none->K.lookup a=none)->
   codeAny (model P w) callerA (.call (.ref fa) ⟨[.ref a],[]⟩) (λr s'=>r=.ok (.ret (.bool true))/\OldK s₁.heap s'.heap/\s'.os=s₁.os/\AllBare s'.gens) s₁:=by
  intro H hO hS hok hA hK;have base_of:∀{b:Addr} {o:Obj},s₁.heap.get? b=some o->H b=none->(LA s₁.heap H).get? b=some o:=λe n=>Sv e n;have noA:∀{b:Addr} {o:Obj} {es:Array DictEntry} {ep:Nat},s₁.heap.get? b=some o->o.data=.dict es ep->H b=none:=λ{b o es ep} e d=>by
   cases q:H b with
   |none=>rfl
   |some u=>
    have e':b=a:=hA b (by rw[q];simp);subst e';rw[ha] at e;cases e;have d':Data.seq vs.toArray _=Data.dict es ep:=d;cases d'
  have nsK:∀{b:Addr} {m:Str->Option Value},s₁.heap.Ns b m->(LA s₁.heap H).Ns b m:=λ{b m} ⟨o,es,ep,e,d,r⟩=>⟨o,es,ep,base_of e (noA e d),d,r⟩;have hKb:K.In (LA s₁.heap H):=λb o e=>base_of (KX b o e) (by
   cases q:H b with
   |none=>rfl
   |some u=>
    have e':b=a:=hA b (by rw[q];simp);subst e';rw[hK (by rw[q];simp)] at e;cases e)
  have hM:Mod K mg (LA s₁.heap H):=⟨hKb,nsK hns,⟨mb,nsK hb,hbb⟩,let ⟨mc,h1,h2⟩:=hlim;⟨mc,nsK h1,h2⟩⟩;have e0:Env0 P w K mg (LA s₁.heap H) callerA [] s₁ H:=⟨rfl,hM,λb o e=>U6 e,Nat.le_of_eq (QA _ _),trivial,λb hb=>absurd (show b∈([]:List Addr) from hb) (by simp),hok,.of_eq hg⟩;refine codeAny_mono ((F _ hKb (nsK hns)).run callerA [] s₁ H ⟨[.ref a],[]⟩ [.ref a] [.ref a] _ _ hr e0 (hbind s₁ (.ref a)) (.cons rfl .nil) (hsp H hO hS)) λr s' h=>?_;cases r with
  |error e=>exact(hCX H e s' h).elim
  |ok fl=>
   cases fl with
   |next=>exact False.elim h
   |brk=>exact False.elim h
   |cont=>exact False.elim h
   |ret u=>
    obtain⟨v,H',os,bare,un,hok',r',q⟩:=h;have q':v=.bl true:=q;subst q';obtain rfl:u=Value.bool true:=r';refine⟨rfl,OldK.of_keep λb o e=>?_,os,bare⟩;cases q:H b with
    |none=>exact un.keep b o e q (by intro z;exact absurd (show b∈([]:List Addr) from z) (by simp)) (by simp)
    |some u=>
     rcases hO b with z|⟨ob,xs,z⟩
     ·rw[q] at z;cases z
     ·have z2:=un.frzs b ob _ z;obtain⟨e1,_⟩:=hok b _ z;obtain⟨e2,_⟩:=hok' b _ z2;rw[e] at e1;cases e1;exact e2
 cases hk:K.lookup a with
 |some o=>
  have e:=KX a o hk;rw[ha] at e;cases e;refine core (λ_=>none) (λ_=>.inl rfl) (.inr ⟨_,vs.toArray,_,hk,rfl,rfl,rfl,by rw[List.size_toArray,lenV];exact hl,by simpa using rv⟩) (λb u z=>by have z':(none:Option HO)=some u:=z;cases z') (λb z=>absurd rfl z) λz=>absurd rfl z
 |none=>
  refine core (λb=>if b=a then some (.frz { cls:=.type "list",data:=.seq vs.toArray } (.lst (ns.map V.int))) else none) (λb=>?_) (.inl (.inr ⟨{ cls:=.type "list",data:=.seq vs.toArray },if_pos rfl⟩)) (λb u z=>?_) (λb z=>?_) λ_=>hk
  ·by_cases hb:b=a
   ·exact .inr ⟨_,_,if_pos hb⟩
   ·exact .inl (if_neg hb)
  ·by_cases hb:b=a
   ·have z':=(if_pos hb).symm.trans z;cases z';subst hb;exact⟨ha,by rw[AAG];exact hl,vs,_,rv,ha⟩
   ·have z':=(if_neg hb).symm.trans z;cases z'
  ·by_cases hb:b=a
   ·exact hb
   ·exact absurd (if_neg hb) z
theorem T0{l:PySem.W.OpenLaw}{n k:Nat}{q:Program}{loose:List Str}{XP:(Str->Option Value)->Heap->Prop}{YP:World->Heap->Prop}{d:DefRec}{K:Params->PySem.W.Frag}{CX:World->CXT}{sp:World->Sp}{x:Str}
  (hn:l.most=some n) (hn2:n<=sizeLine) (hdf:d.params.defaults=[]) (hr:Room k callerA)
  (hY:∀(w:World) (h:Heap),YP w h->(K w.params).In h)
  (F:∀(w:World) (mg:Str->Option Value) (fa:Addr) (h:Heap),(K w.params).In h->h.Ns mainGlobals mg->mg d.name=some (.ref fa)->
   ∃fd:FuncData,(∀(s:Shared) (u:Value),BindsTo s fd ⟨[u],[]⟩ [(x,u)]) /\
    ∀base:Heap,(K w.params).In base->base.Ns mainGlobals mg->FnOk l.prog w (K w.params) mg base (CX w) k fa fd [x] (sp w))
  (hsp:∀(w:World) (H:Hp) (a:Addr) (ns:List Int),ns.length<=n->V3 H->SqL (K w.params) H a (ns.map V.int)->sp w [.ref a] H (λv _=>v=.bl true) λ_ _ _=>False)
  (hCX:∀(w:World) (H:Hp) (s:Shared) (e:Value) (s':Shared),CX w [] H s (λ_ _ _=>False) e s'->False) :
  PySem.W.WalkO q loose XP YP l.row.toRowW d [] (λf vs=>PySem.call f vs):=by
 refine Att.Mg hn hdf λw s₀ s₁ mg mb fa o pm cd doc a vs ns G Y_ ho hd hcd hmg hobj hints hlen hg=>?_;have KX:=hY w _ Y_;obtain⟨fd,hb,hF⟩:=F w mg fa _ KX G.T.g hmg;exact Sc KX G.T.g G.T.b G.T.builtins G.T.nolimit hg hobj hints (AAp hlen hn2) hr hF hb (λH hO hS=>hsp w H a ns hlen hO hS) λH e s'=>hCX w H s₁ e s'
noncomputable def Ey(s:Stmt):Arguments:=match s with
 | .FunctionDef _ a _ _ _ _ _ _ _ _=>a
 |_=>{ posonlyargs:=[],args:=[],vararg:=none,kwonlyargs:=[],kw_defaults:=[],kwarg:=none,defaults:=[] }
noncomputable def Ch(s:Stmt):List Stmt:=match s with
 | .FunctionDef _ _ b _ _ _ _ _ _ _=>b
 |_=>[]
noncomputable def AR(s:Stmt):Scope:=match s with
 | .FunctionDef _ _ _ _ _ _ sc _ _ _=>sc
 |_=>{ kind:=.function,names:=[],isGenerator:=false,isCoroutine:=false }
noncomputable abbrev CX0:CXT:=λ_ _ _ _ _ _=>False
noncomputable abbrev E0:XK:=λ_ _ _=>False
theorem OX:GZ CX0 X E0:=λ_ _ _ _ _ _ _ h=>h.elim
structure Fun(K:PySem.W.Frag)(x qual:Str)(st:Stmt)(f:Addr)(fd:FuncData):Prop where
 ex:∃(oc:Value) (od:Option Addr) (kV doc pm:Value) (an:Option Addr) (cdv ct:Value) (osl:Array (Option Value)),
  fd=PySem.W.fnOf x qual (Ey st) (Ch st) (AR st) .none kV doc pm an cdv ct/\K.lookup f=some ⟨oc,od,.func fd,osl⟩/\PySem.W.codeIn K cdv qual=true
 kp:PySem.W.keepIn K (.ref f)=true
section
variable{P:Program}{w:World}{K:PySem.W.Frag}{mg:Str->Option Value}{base:Heap}
theorem Fun.ok{x qual:Str}{st:Stmt}{f:Addr}{fd:FuncData}{N ps:List Str}{k:Nat}{sp:Sp}(F:Fun K x qual st f fd)(S:Ab N ps (AR st))(len:∀vs H Q E,sp vs H Q E->vs.length=ps.length)
  (hbody:∀(cdv:Value) (A:Around) (outer:List Env) (s:Shared) (H:Hp) (vs:List V) (Q:VK) (E:XK),Room k (A.deeper (envOfC qual (AR st) s.heap.objs.size f cdv))->sp vs H Q E->
   ∃t,PSs (Fu CX0 P w K mg base N qual (AR st) f cdv A outer s H E).nox (Ch st) t/\t { nx:=λ_ H'=>Q .non H',rt:=Q } (start N vs) H):FnOk P w K mg base CX0 (k+1) f fd ps sp:=by
 obtain⟨oc,od,kV,doc,pm,an,cdv,ct,osl,rfl,lk,hcd⟩:=F.ex;refine We lk hcd S len λA outer s H vs Q E hr hsp=>?_;obtain⟨t,h,q⟩:=hbody cdv A outer s H vs Q E hr hsp;exact⟨t,h.nox,q⟩
theorem Fun.binds{x qual:Str}{st:Stmt}{f:Addr}{fd:FuncData}{ps:List Str}(F:Fun K x qual st f fd)
  (h:∀(kV doc pm:Value) (an:Option Addr) (cdv ct:Value) (us:List Value),us.length=ps.length->bindArgs (PySem.W.fnOf x qual (Ey st) (Ch st) (AR st) .none kV doc pm an cdv ct) ⟨us,[]⟩=pure (ps.zip us)):Binds K fd ps []:=by
 obtain⟨oc,od,kV,doc,pm,an,cdv,ct,osl,rfl,lk,hcd⟩:=F.ex;exact .all (h kV doc pm an cdv ct)
theorem Ng{x qual:Str}{st:Stmt}{f:Addr}{oc:Value}{od an:Option Addr}{osl:Array (Option Value)}{kV doc pm cdv ct:Value}(l:K.lookup f=some ⟨oc,od,.func (PySem.W.fnOf x qual (Ey st) (Ch st) (AR st) .none kV doc pm an cdv ct),osl⟩)
  (c:PySem.W.codeIn K cdv qual=true) (k:PySem.W.keepIn K (.ref f)=true):Fun K x qual st f (PySem.W.fnOf x qual (Ey st) (Ch st) (AR st) .none kV doc pm an cdv ct):=⟨⟨oc,od,kV,doc,pm,an,cdv,ct,osl,rfl,l,c⟩,k⟩
end
theorem KG(hr:Room k A):A.units+1<cLine:=AAo (Nat.add_le_add_left (by decide:1<=64) _) hr.units
theorem Jt(h:n<=1000):n<sizeLine:=AAo h (by decide)
section
variable{X:Cx}
theorem QY:Bo X (.builtin "len") (λxs H Q=>∃a kvs,xs=[V.ref a]/\H a=some (.dK kvs)/\Q (.int kvs.length) H):=by
 intro w6 s O H xs us Q I r h;obtain⟨a,kvs,rfl,ha,q⟩:=h;obtain⟨u,rfl,ru⟩:=ET r;cases ru;exact ar I (.inl ha) λt s' I'=>⟨.int kvs.length,H,I',⟨t,rfl⟩,q⟩
end
noncomputable def Fw(env:Env):List (Str×NameKind)->List (Str×Addr)->List (Str×Addr)
 |[],cs=>cs
 |(n,k)::r,cs=>Fw env r (if k==.free then (match env.cells.lookup n with|some c=>(n,c)::cs|none=>cs) else cs)
theorem DV:∀(l:List (Str×NameKind)) (cs:List (Str×Addr)),(∀x∈l,x.2=.free->∃c,env.cells.lookup x.1=some c)->
  (forIn l cs λ(x:Str×NameKind) (r:List (Str×Addr))=>(if (x.2==NameKind.free)=true then (do let a ←cellOf env x.1;pure (ForInStep.yield ((x.1,a)::r))) else pure (ForInStep.yield r):Sem (ForInStep (List (Str×Addr)))))=pure (Fw env l cs)
 |[],cs,_=>by rw[List.forIn_nil];rfl
 |(n,k)::r,cs,h=>by
  have hr:∀x∈r,x.2=.free->∃c,env.cells.lookup x.1=some c:=λx hx=>h x (AAQ _ hx);rw[List.forIn_cons];by_cases hk:k=.free
  ·subst hk;obtain⟨c,hc⟩:=h (n,.free) AAP rfl;have e:cellOf env n=pure c:=by unfold cellOf;rw[hc]
   dsimp only;rw[if_pos (by decide),e,pure_bind,pure_bind];dsimp only;rw[DV r _ hr];show _=pure (Fw env r (if (NameKind.free==NameKind.free)=true then (match env.cells.lookup n with|some c=>(n,c)::cs|none=>cs) else cs));rw[if_pos (by decide),hc]
  ·have hb:¬(k==NameKind.free)=true:=by simpa using hk
   dsimp only;rw[if_neg hb,pure_bind];dsimp only;rw[DV r _ hr];show _=pure (Fw env r (if (k==NameKind.free)=true then (match env.cells.lookup n with|some c=>(n,c)::cs|none=>cs) else cs));rw[if_neg hb]
theorem Ej(h:∀x∈scope.names,x.2=.free->∃c,env.cells.lookup x.1=some c):closureFor scope env=pure (Fw env scope.names []):=by
 have e:=DV (env:=env) scope.names [] h;unfold closureFor;dsimp only;rw[←bind_pure (pure (Fw env scope.names [])),←e]
theorem Fv:∀(l:List (Str×NameKind)) (cs:List (Str×Addr)),(∀x c,cs.lookup x=some c->env.cells.lookup x=some c)->∀x c,(Fw env l cs).lookup x=some c->env.cells.lookup x=some c
 |[],cs,h=>h
 |(n,k)::r,cs,h=>by
  refine Fv r _ ?_;intro x c;by_cases hk:(k==NameKind.free)=true
  ·rw[if_pos hk];cases hl:env.cells.lookup n with
   |none=>exact h x c
   |some d=>
    intro q;by_cases hx:x=n
    ·subst hx;rw[List.lookup_cons_self] at q;rw[hl];exact q
    ·have hb:(x==n)=false:=AAc.mpr hx;simp only[List.lookup_cons,hb] at q;exact h x c q
  ·rw[if_neg hk];exact h x c
theorem JN:∀(l:List (Str×NameKind)) (cs:List (Str×Addr)) (x:Str),(cs.lookup x).isSome=true->((Fw env l cs).lookup x).isSome=true
 |[],cs,x,h=>h
 |(n,k)::r,cs,x,h=>by
  refine JN r _ x ?_;by_cases hk:(k==NameKind.free)=true
  ·rw[if_pos hk];cases hl:env.cells.lookup n with
   |none=>exact h
   |some d=>
    by_cases hx:(x==n)=true
    ·simp only[List.lookup_cons,hx,Option.isSome_some]
    ·have hb:(x==n)=false:=by simpa using hx
     simp only[List.lookup_cons,hb];exact h
  ·rw[if_neg hk];exact h
theorem MX:∀(l:List (Str×NameKind)) (cs:List (Str×Addr)) (x:Str) (c:Addr),(x,NameKind.free)∈l->env.cells.lookup x=some c->((Fw env l cs).lookup x).isSome=true
 |[],cs,x,c,h,_=>by simp at h
 |(n,k)::r,cs,x,c,h,hc=>by
  rcases AAJ.mp h with e|e
  ·obtain⟨rfl,rfl⟩:=Prod.mk.inj e;refine JN r _ _ ?_;rw[if_pos (by decide),hc];simp only[List.lookup_cons_self,Option.isSome_some]
  ·exact MX r _ x c e hc
theorem KS(h:(x,NameKind.free)∈l)(hc:env.cells.lookup x=some c):(Fw env l []).lookup x=some c:=by
 obtain⟨d,hd⟩:=Option.isSome_iff_exists.mp (MX l [] x c h hc);have:=Fv l [] (λ_ _ z=>by simp at z) x d hd;rw[hc] at this;cases this;exact hd
noncomputable def Cz:List (Str×NameKind)->List Str
 |[]=>[]
 |(n,.free)::r=>n::Cz r
 |_::r=>Cz r
theorem GT:∀{l:List (Str×NameKind)},x∈Cz l->(x,NameKind.free)∈l
 |[],h=>by simp[Cz] at h
 |(n,k)::r,h=>by
  cases k<;>first
   |(rcases AAJ.mp (show x∈n::Cz r from h) with e|e;{subst e;exact AAP};{exact AAQ _ (GT e)})
   |exact AAQ _ (GT (show x∈Cz r from h))
theorem KL:∀{l:List (Str×NameKind)},(x,NameKind.free)∈l->x∈Cz l
 |[],h=>by simp at h
 |(n,k)::r,h=>by
  rcases AAJ.mp h with e|e
  ·cases e;exact AAP
  ·have ih:=KL e;cases k<;>first
    |exact AAQ _ ih
    |exact ih
theorem Fm(f:Str×NameKind->Str×NameKind)(hf:∀p,f p=p∨p.2=.free/\f p=(p.1,.cell)):∀(l:List (Str×NameKind)) (k:NameKind),(l.map f).lookup x=some k->l.lookup x=some k∨l.lookup x=some .free/\k=.cell
 |[],_,h=>nomatch h
 |(y,j)::l,k,h=>by
  have rest:=Fm (x:=x) f hf l k;rw[AAW] at h;rcases hf (y,j) with e|⟨ej,e⟩<;>rw[e] at h<;>cases he:x==y<;>simp only[List.lookup_cons,he] at h ⊢
  ·exact rest h
  ·exact .inl h
  ·exact rest h
  ·cases h;cases (show j=NameKind.free from ej);exact .inr ⟨rfl,rfl⟩
theorem Dq(h:(relabel scope env).names.lookup x=some k):scope.names.lookup x=some k∨scope.names.lookup x=some .free/\k=.cell:=by
 unfold relabel at h;refine Fm _ (λp=>?_) _ _ h;obtain⟨n,j⟩:=p;dsimp only;split
 ·rename_i hc;refine .inr ⟨?_,rfl⟩;simp only[Bool.and_eq_true,beq_iff_eq] at hc;exact hc.1.1
 ·exact .inl rfl
noncomputable def J6(ix:List Nat)(O:St):St:=ix.map λj=>(O[j]?).getD none
noncomputable def cxB(X:Cx)(scope:Scope)(tgs:List Str)(fp:List Addr)(C:Addr)(s:Shared)(H:Hp):Cx:=
 { X with N:=tgs++Cz scope.names,s₀:=s,H₀:=H,env:=compEnvC scope (Fw X.env scope.names []) C X.env,outer:=X.stack,ex:=fp,fn:=λ_=>false,pn:=[],xe:=λ_ _=>False }
noncomputable def ZB{α:Type}(P:α->Prop):List α->Prop
 |[]=>True
 |x::r=>P x/\ZB P r
theorem JW:∀{l:List α},ZB P l->∀x∈l,P x
 |[],_,_,h=>by simp at h
 |_::_,h,x,hx=>by
  rcases AAJ.mp hx with e|e
  ·subst e;exact h.1
  ·exact JW h.2 x e
structure BScope(X:Cx)(scope:Scope)(tgs:List Str)(ix:List Nat):Prop where
 kind:scope.kind=.function
 nocell:∀y∈scope.names,y.2≠.cell
 loc:∀y∈scope.names,y.2=.local->scope.names.lookup y.1=some .local
 fre:ZB (λx=>X.env.kindOf x=some .cell∨X.env.kindOf x=some .free) (Cz scope.names)
 ixs:(Cz scope.names).map some=ix.map λj=>X.N[j]?
 ndl:∀x∈Cz scope.names,scope.names.lookup x=some .free
section
variable{X:Cx}{scope:Scope}{tgs:List Str}{ix:List Nat}
theorem BScope.cells(S:BScope X scope tgs ix)(ok:X.Ok):∀x∈scope.names,x.2=.free->∃c,X.env.cells.lookup x.1=some c:=λx hx hk=>by
 obtain⟨n,k⟩:=x;subst hk;exact ok.has n (JW S.fre n (KL hx))
theorem Inv.cellLt(I:Inv X w6 O H s)(e:X.env.cells.lookup x=some c):c<s.heap.objs.size:=by
 obtain⟨v,q⟩:=I.cell x c e;exact q.lt
theorem Inv.track(I:Inv X w6 O H s)(f:Fy X w6 H D)(new:ObjOk X.prog X.w (upd H D o) s.heap D o):Inv X w6 O (upd H D o) s:=by
 obtain⟨f0,f1,f2,f3,f4,f5⟩:=f;have nD:∀b u,H b=some u->b≠D:=λb u e z=>by rw[z,f0] at e;cases e
 have:=I.step (h':=s.heap) (H':=upd H D o) (g':=s.gens) (t':=s.toks) (d':=s.drawn) (ch:=[D]) (λb hb=>?_) (λb u _ _ _ e _=>e) (λb u _ _ _ e _=>⟨u.slots,e⟩) (λb u hb e n=>?_) (λb u _ e=>⟨u,e⟩)
  (λb xs e=>?_) (λb u v e=>?_) (λb ps e=>?_) (λm hm=>hm) (λb u e=>?_) I.bare
 ·exact this
 ·have e:b=D:=by simpa using hb
  subst e;exact⟨f3,f1,f4,f5⟩
 ·rw[Aw (λz=>hb (by simp[z]))];exact n
 ·rw[Aw (nD b _ e)];exact e
 ·rw[Aw (nD b _ e)];exact e
 ·exact⟨#[],by rw[Aw (nD b _ e),e];simp⟩
 ·by_cases hb:b=D
  ·subst hb;rw[BK] at e;cases e;exact new
  ·rw[Aw hb] at e;exact(I.hok b u e).stay (λ_ _ _ q=>q) (λc q=>by rw[Aw (nD c _ q)];exact q) λc xs q=>by rw[Aw (nD c _ q)];exact q
theorem TN(S:BScope X scope tgs ix)(I:Inv X w6 O H s)(hf:∀b∈fp,Fy X w6 H b)(hfo:∀b∈fp,b<s.heap.objs.size)(hC:s.heap.objs.size<=C):
  (cxB X scope tgs fp C s H).Ok:=by
 have sub:∀x c,(Fw X.env scope.names []).lookup x=some c->X.env.cells.lookup x=some c:=Fv scope.names [] (λ_ _ z=>by simp at z);refine⟨I.ok.mod,S.kind,I.ok.glob,I.ok.blt,hC,λx y c h1 h2=>I.ok.inj x y c (sub x c h1) (sub y c h2),λx hx=>?_,λx c h=>absurd h (by simp[cxB]),I.ok.hd,I.ok.frames,.inl rfl,λb hb=>⟨?_,λx c e=>?_⟩,λb o e=>I.bs b o e,
  AAp I.ok.bsz I.sz,λb o e hb=>?_,λb hb hz=>?_,I.stack,I.stkFree⟩
 ·have hx':(relabel scope X.env).names.lookup x=some .cell∨(relabel scope X.env).names.lookup x=some .free:=hx;have hm:(x,NameKind.free)∈scope.names:=by
   rcases hx' with h|h
   ·rcases Dq h with q|q
    ·exact absurd rfl (S.nocell _ (PySem.mem_of_lookup q))
    ·exact PySem.mem_of_lookup q.1
   ·rcases Dq h with q|q
    ·exact PySem.mem_of_lookup q
    ·exact absurd q.2 (by decide)
  obtain⟨c,hc⟩:=S.cells I.ok _ hm rfl;exact⟨c,KS hm hc⟩
 ·exact λz=>absurd (hfo b hb) (by rw[z];exact Nat.not_lt.mpr hC)
 ·exact(hf b hb).2.2.2.2.1 x c (sub x c e)
 ·obtain⟨f0,f1,f2,f3,f4,f5⟩:=hf b hb;rcases f3 with z|z
  ·exact I.ok.noex b o e z
  ·exact absurd (Heap.lt_size (I.ok.bs b o e).1) (Nat.not_lt.mpr z)
 ·obtain⟨f0,f1,f2,f3,f4,f5⟩:=hf b hb;rcases AAJ.mp (I.stkSub b hz) with z|z
  ·exact f1 z
  ·exact f2 z
end
section
variable{X:Cx}{scope:Scope}{tgs:List Str}{ix:List Nat}
noncomputable abbrev DI(tgs:List Str)(ix:List Nat)(O:St):St:=List.replicate tgs.length none++J6 ix O
theorem IU(h:(DI tgs ix O)[k]?=some (some v)):tgs.length<=k/\∃j,ix[k-tgs.length]?=some j/\O[j]?=some (some v):=by
 have hk:tgs.length<=k:=by
  rcases Nat.lt_or_ge k tgs.length with z|z
  ·rw[AAS (by simpa using z),List.getElem?_replicate,if_pos z] at h;cases h
  ·exact z
 refine⟨hk,?_⟩;rw[AAR (by simpa using hk),AAj] at h;unfold J6 at h;rw[AAV] at h;cases e:ix[k-tgs.length]? with
 |none=>rw[e] at h;cases h
 |some j=>
  rw[e] at h;refine⟨j,rfl,?_⟩;have h':(O[j]?).getD none=some v:=Option.some.inj h;cases q:O[j]? with
  |none=>rw[q] at h';cases h'
  |some o=>
   rw[q] at h';have h'':o=some v:=h';rw[h'']
theorem NZ(S:BScope X scope tgs ix)(I:Inv X w6 O H s)(hf:∀b∈fp,Fy X w6 H b)(hfo:∀b∈fp,b<s.heap.objs.size)
  (hC:s.heap.objs.size<=C) (hD:s.heap.objs.size<=D) (hDC:D≠C) {m:Str->Option Value} (hn:s4.heap.Ns C m) (hk:∀b u,s.heap.get? b=some u->s4.heap.get? b=some u) (hos:s4.os=s.os) (hg:s4.gens=s.gens)
  (hDo:s4.heap.get? D=some o) (hcell:∀v,o.data≠.cell v):Inv (cxB X scope tgs fp C s H) [(D,o)] (DI tgs ix O) H s4:=by
 have ok:=TN (tgs:=tgs) (ix:=ix) (C:=C) S I hf hfo hC;have sub:∀x c,(Fw X.env scope.names []).lookup x=some c->X.env.cells.lookup x=some c:=Fv scope.names [] (λ_ _ z=>by simp at z);refine⟨ok,hos,by rw[hg];exact I.bare,Un.kept hk,⟨m,hn,λk x v h1 h2 h3=>?_⟩,λx c e=>?_,I.hok.fresh hC,λx c e=>I.freeC x c (sub x c e),λp hp=>?_,I.hok.kept hk,?_⟩
 ·obtain⟨hkl,j,hj,hσ⟩:=IU h2;have h1':(Cz scope.names)[k-tgs.length]?=some x:=by
   have:(tgs++Cz scope.names)[k]?=some x:=h1
   rwa [AAR hkl] at this
  have hx:x∈Cz scope.names:=AAU h1';have hXN:X.N[j]?=some x:=by
   have e:=congrArg (λl=>l[k-tgs.length]?) S.ixs;simp only[AAV,h1',hj,Option.map_some] at e;exact(Option.some.inj e).symm
  have kx:=JW S.fre x hx;obtain⟨m0,hn0,hl⟩:=I.loc;obtain⟨u,r,l⟩:=hl j x v hXN hσ (by rcases kx with z|z;exact .inr (.inl z);exact .inr (.inr z));refine⟨u,r,?_⟩;rcases l with ⟨z,_⟩|⟨_,c,hc,q⟩
  ·rcases kx with y|y<;>rw[z] at y<;>cases y
  ·refine .inr ⟨?_,c,KS (GT hx) hc,?_⟩
   ·have h3':(relabel scope X.env).names.lookup x=some .local∨(relabel scope X.env).names.lookup x=some .cell∨(relabel scope X.env).names.lookup x=some .free:=h3;rcases h3' with z|z|z
    ·exfalso;rcases Dq z with w|w
     ·have lk:scope.names.lookup x=some .local:=w;have:=S.ndl x hx;rw[lk] at this;cases this
     ·exact absurd w.2 (by decide)
    ·exact .inl z
    ·exact .inr z
   ·obtain⟨oc,hoc,hd⟩:=q;exact⟨oc,hk c oc hoc,hd⟩
 ·obtain⟨v,oc,hoc,hd⟩:=I.cell x c (sub x c e);exact⟨v,oc,hk c oc hoc,hd⟩
 ·have e:p=(D,o):=by simpa[cxB] using hp
  subst e;refine⟨hDo,I.hok.fresh hD,hDC,λhz=>?_,hcell⟩;have hz':D∈frs X.stack:=hz;rcases AAJ.mp (I.stkSub D hz') with z|z
  ·exact absurd I.lt (by rw[←z];exact Nat.not_lt.mpr hD)
  ·exact I.nofs hD z
 ·show (List.replicate tgs.length none++J6 ix O).length=(tgs++Cz scope.names).length;have e:=congrArg List.length S.ixs;simp only[AAG] at e;rw[AAH,AAH,AAj,e];unfold J6;rw[AAG]
def GK(n:Nat)(g:TG):Prop:=∀x O H Q,g x O H Q->g x O H λk9 H2=>Q k9 H2/\k9.length=O.length/\k9.drop n=O.drop n
theorem Vc(h:i<n):GK n (Ho i):=λx O H Q q=>⟨q,by simp,by rw[List.drop_set_of_lt h]⟩
def bG(tgs:List Str)(ix:List Nat)(g:TG)(tc:TT)(te:TE)(O:St)(Q:VK)(J:It)(H1:Hp):Prop:=∃W:Nat->Nat->List V->Hp->Prop,(∃m,W 0 m [] H1)/\∀i m ys H,W i m ys H->
 (J.stop i H/\ys.length<=sizeLine/\∀p,H p=none->Q (.ref p) (upd H p (.lst ys))) ∨
 (J.go i H/\ys.length<sizeLine/\∃N:List V->Hp->Prop,(∀ys' H',N ys' H'->∃m',m'<m/\W (i+1) m' ys' H')/\∀x H',J.yld i H x H'->g x (DI tgs ix O) H' λk9 H2=>tc k9 H2 λb H3=>
  if b=true then te k9 H3 λv H4=>N (ys++[v]) H4 else N ys H3)
noncomputable def Q1(tgs:List Str)(ix:List Nat)(wi:TI)(g:TG)(tc:TT)(te:TE):TE:=λO H Q=>wi O H λJ H1=>bG tgs ix g tc te O Q J H1
theorem Nn(h:wpAny M A t Q (λ_ _=>False) s)(hQ:∀a s,Q a s->Q' a s):wpAny M A t Q' E s:=AAg h hQ λ_ _ x=>x.elim
end
section
variable{X:Cx}{scope:Scope}{tgs:List Str}{ix:List Nat}
noncomputable abbrev K6(its:List Value)(k:Nat):Obj:={ cls:=.type "list",data:=.seq its.toArray k }
theorem V7{fp:List Addr}{C:Addr}{s0:Shared}{H0:Hp}{w6:List (Addr×Obj)}{O m6:St}{H:Hp}{s:Shared}(I:Inv (cxB X scope tgs fp C s0 H0) w6 m6 H s)(l6:m6.length=(DI tgs ix O).length)
  (d6:m6.drop tgs.length=(DI tgs ix O).drop tgs.length):Inv (cxB X scope tgs fp C s0 H0) w6 (DI tgs ix O) H s:=by
 refine I.weak l6.symm λk v e=>?_;obtain⟨hk,_⟩:=IU e;have e1:m6[k]?=(m6.drop tgs.length)[k-tgs.length]?:=by rw[List.getElem?_drop];congr 1;omega
 have e2:(DI tgs ix O)[k]?=((DI tgs ix O).drop tgs.length)[k-tgs.length]?:=by rw[List.getElem?_drop];congr 1;omega
 rw[e1,d6,←e2];exact e
end
section
variable{X:Cx}
theorem Mb:Bo X (.builtin "isinstance") (λxs H Q=>∃x T t b,xs=[x,.ty T]/\HA X.K H x t/\PySem.W.kitOne X.K t (.type T)=some b/\Q (.bl b) H):=by
 intro w6 s O H xs us Q I r h;obtain⟨x,T,t,b,rfl,ty,e,q⟩:=h;obtain⟨u,w',rfl,rx,ry⟩:=N5 r;cases ry;exact P4 I rx ty e λtk=>⟨.bl b,H,I.tok tk,rfl,q⟩
end
noncomputable def Its(x:Str):It:=⟨λi _=>i<x.cps.size,λi H v H'=>H'=H/\∃c,x.cps[i]?=some c/\v=.str ⟨#[c]⟩,λi _=>i=x.cps.size⟩
theorem Z8:letOwnedTupleGo tg (.ref it) (.str x u)=pure ():=by
 unfold letOwnedTupleGo;cases tg<;>rfl
theorem LX{P:Program}{w:World}{K:PySem.W.Frag}{tg:Expr}(it:Addr)(ty:String)(x:Str)(t:Tok)
  (W:∀A:Around,A.handled=none->Walks P w A it [it] [it] x.cps.size (SignAt x) (λi h=>h.IsStrIter it ty x t i)) (sf:∀(A:Around) (i:Nat) (s:Shared) (Q:Value->Shared->Prop) (E:Value->Shared->Prop),s.heap.IsStrIter it ty x t i->Q (.ref it) s->wpAny (model P w) A (pyIter (.ref it)) Q E s) :
  Jl P w K tg (Its x) [it] it (λi h=>h.IsStrIter it ty x t i) where
 mem:=by simp
 obj:=λi h st b hb=>by
  have e:b=it:=by simpa using hb
  subst e;obtain⟨o,e,c,d⟩:=st;exact⟨o,e,λv z=>by rw[d] at z;cases z⟩
 keep:=λi h h' st k=>by
  obtain⟨o,e,r⟩:=st;exact⟨o,k it (by simp) o e,r⟩
 item:=by
  intro X hP hw hK hc i w6 s O H E I hf st hg;subst hP hw hK;obtain⟨f0,f1,f2,f3,f4,f5⟩:=hf it (by simp);refine(W X.A (I.ok.hd hc)).item i s _ _ hg st λv h' tk hv st' kk=>?_;obtain⟨c,u,hcu,rfl⟩:=hv;have I1:Inv X w6 O H { s with heap:=h',toks:=tk }:=I.turned (λb o hb e=>kk b o (by simpa using hb) e) f0 f1 f3 f4 f5;exact⟨_,rfl,AAr Z8 ⟨.str ⟨#[c]⟩,H,I1,⟨u,rfl⟩,⟨rfl,c,hcu,rfl⟩,st',λb hb=>(hf b hb).1⟩⟩
 done:=by
  intro X hP hw hK hc i w6 s O H E I hf st hg;subst hP hw hK;obtain⟨f0,f1,f2,f3,f4,f5⟩:=hf it (by simp);have hi:i=x.cps.size:=hg;subst hi;exact(W X.A (I.ok.hd hc)).done s _ _ st λh' tk kk=>⟨rfl,I.turned (λb o hb e=>kk b o (by simpa using hb) e) f0 f1 f3 f4 f5⟩
 self:=λA i s Q E st h=>sf A i s Q E st h
noncomputable def cI(tl:TE):TI:=λO H R=>tl O H λv H1=>∃x,v=.str x/\R (Its x) H1
theorem Xn{X:Cx}{tg l:Expr}{tl:TE}(hl:PE X l tl):PI X tg l (cI tl):=by
 intro w6 s O H R I h;refine thn (hl w6 s O H _ I h) λv s1 ⟨y,H1,I1,r1,q1⟩=>?_;obtain⟨x,e,q⟩:=q1;subst e;obtain⟨t,rfl⟩:=r1;have fp:∀b∈[s1.heap.objs.size],Fy X w6 H1 b:=λb hb=>by
  have e:b=s1.heap.objs.size:=by simpa using hb
  subst e;exact I1.fpOk (AAF _) (I1.hok.fresh (AAF _))
 cases ha:x.cps.all (·<128) with
 |false=>
  refine wpAny_pyIter_wide ha ?_;exact⟨s1.heap.objs.size,[s1.heap.objs.size],_,Its x,H1,rfl,I1.kept (t':=s1.toks) λb o e=>AAC _ e,LX _ "str_iterator" x t (λA hA=>Walks.strWide hA _ x t) (λ_ _ _ _ _ st h=>wpAny_pyIter_striter_wide st h),⟨_,AAD _ rfl,rfl,rfl⟩,fp,q⟩
 |true=>
  refine wpAny_pyIter_ascii ha ?_;exact⟨s1.heap.objs.size,[s1.heap.objs.size],_,Its x,H1,rfl,I1.kept (t':=s1.toks) λb o e=>AAC _ e,LX _ "str_ascii_iterator" x t (λA hA=>Walks.strAscii hA _ x t) (λ_ _ _ _ _ st h=>wpAny_pyIter_striter_ascii st h),⟨_,AAD _ rfl,rfl,rfl⟩,fp,q⟩
theorem Ik(d:α)(bs:List α):(List.range bs.length).map (λi=>bs.getD i d)=bs:=by
 apply List.ext_getElem
 ·simp
 ·intro i h1 h2;simp[List.getD,h2]
theorem Pe(bs:List Bool):((List.range bs.length).all λi=>bs.getD i true)=bs.all id:=by
 conv=>rhs;rw[←Ik true bs]
 rw[List.all_map];rfl
theorem Pd(bs:List Bool):((List.range bs.length).any λi=>bs.getD i true)=bs.any id:=by
 conv=>rhs;rw[←Ik true bs]
 rw[List.any_map];rfl
section
variable{X:Cx}
theorem La{P:Program}{w:World}{bs:List Bool}{its:List Value}(r:Vals (bs.map V.bl) its):TruthOf P w A (λi v=>its.toArray[i]?=some v) (λi=>bs.getD i true):=by
 intro i v s Q E hP hQ;have hi:its[i]?=some v:=by simpa using hP
 have hlt:i<its.length:=(AAT.mp hi).1;have hl:=r.length;rw[AAG] at hl;have hb:(bs.map V.bl)[i]?=some (V.bl (bs.getD i true)):=by
  rw[AAV,AAq (show i<bs.length by omega)];simp[List.getD,show i<bs.length by omega]
 obtain⟨u,hu,ru⟩:=r.get hb;rw[hi] at hu;cases hu;cases ru;exact wpAny_truthy_bool hQ
theorem JT(hc:X.calm=true){w6:List (Addr×Obj)}{s:Shared}{O:St}{H:Hp}{a:Addr}{bs:List Bool}{Q:VK}{c:Bool}{f:(Nat->Bool)->List Nat->Bool}(I:Inv X w6 O H s)(ha:SqL X.K H a (bs.map V.bl))(hf:f (λi=>bs.getD i true) (List.range bs.length)=c)(q:Q (.bl c) H):
  wpAny (model X.prog X.w) X.A.in1 (pyIter (.ref a)) (λit s₂=>∃I fp wr n P St tr,it=.ref I/\Walks X.prog X.w X.A.in1 I fp wr n P St/\St 0 s₂.heap/\TruthOf X.prog X.w X.A.in1 P tr /\
   ∀h' tk,(∀b o,b∉wr->s₂.heap.get? b=some o->h'.get? b=some o)->EP X w6 O Q (.bool (f tr (List.range n))) { s₂ with heap:=h',toks:=tk }) X.xe s:=by
 obtain⟨its,r,p,hz⟩:=I.list ha;refine wpAny_pyIter_list p.isList ?_;have hlt:a<s.heap.objs.size:=by
  obtain⟨o,n,e,_⟩:=p;exact Heap.lt_size e
 have I1:Inv X w6 O H { s with heap:=s.heap.push { cls:=.type "list_iterator",data:=.fields #[.ref a,.int 0 0] } }:=I.kept (t':=s.toks) λb o e=>AAC _ e;obtain⟨f0,f1,f2,f3,f4,f5⟩:=I.fpOk (H':=H) (AAF _) (I.hok.fresh (AAF _));refine⟨s.heap.objs.size,_,_,_,_,_,_,rfl,Walks.list (prog:=X.prog) (w:=X.w) (A:=X.A.in1) (show X.A.handled=none from I.ok.hd hc) s.heap.objs.size a (AAb hlt) its.toArray,⟨⟨_,AAD _ rfl,rfl,rfl⟩,p.isList.push _⟩,La r,λh' tk kk=>?_⟩;have hl:=r.length;rw[AAG] at hl;rw[List.size_toArray,←hl,hf];exact⟨.bl c,H,I1.turned (t':=tk) (λb o hb e=>kk b o (by simpa using hb) e) f0 f1 f3 f4 f5,rfl,q⟩
theorem Qb(hc:X.calm=true):Bo X (.builtin "all") (λxs H Q=>∃(a:Addr) (bs:List Bool),xs=[.ref a]/\SqL X.K H a (bs.map V.bl)/\Q (.bl (bs.all id)) H):=by
 intro w6 s O H xs us Q I r h;obtain⟨a,bs,rfl,ha,q⟩:=h;obtain⟨u,rfl,ru⟩:=ET r;cases ru;exact call_all_walk (JT (f:=λtr l=>l.all tr) hc I ha (Pe bs) q)
theorem Qa(hc:X.calm=true):Bo X (.builtin "any") (λxs H Q=>∃(a:Addr) (bs:List Bool),xs=[.ref a]/\SqL X.K H a (bs.map V.bl)/\Q (.bl (bs.any id)) H):=by
 intro w6 s O H xs us Q I r h;obtain⟨a,bs,rfl,ha,q⟩:=h;obtain⟨u,rfl,ru⟩:=ET r;cases ru;exact call_any_walk (JT (f:=λtr l=>l.any tr) hc I ha (Pd bs) q)
end
mutual
inductive DatV (K:PySem.W.Frag) (H:Hp):V->PyData->Prop
 |non:DatV K H .non .none
 |bl (b:Bool):DatV K H (.bl b) (.bool b)
 |int (i:Int):DatV K H (.int i) (.int i)
 |str (x:Str):DatV K H (.str x) (.str x)
 |tup {a:Addr} {xs:List V} {ds:List PyData}:SqT K H a xs->DatVs K H xs ds->DatV K H (.ref a) (.tuple ds)
 |lst {a:Addr} {xs:List V} {ds:List PyData}:SqL K H a xs->DatVs K H xs ds->DatV K H (.ref a) (.list ds)
inductive DatVs (K:PySem.W.Frag) (H:Hp):List V->List PyData->Prop
 |nil:DatVs K H [] []
 |cons {v:V} {d:PyData} {vs:List V} {ds:List PyData}:DatV K H v d->DatVs K H vs ds->DatVs K H (v::vs) (d::ds)
end
section
variable{X:Cx}{w6:List (Addr×Obj)}{O:St}{H:Hp}{s:Shared}
mutual
theorem DatV.reads(I:Inv X w6 O H s):∀{v:V} {d:PyData},DatV X.K H v d->∀{u:Value},RelV v u->∃as,Reads s.heap u d as
 |_,_,.non,_,r=>by cases r;exact⟨[],.none⟩
 |_,_,.bl b,_,r=>by cases r;exact⟨[],.bool b⟩
 |_,_,.int i,_,r=>by obtain⟨t,rfl⟩:=r;exact⟨[],.int i t⟩
 |_,_,.str x,_,r=>by obtain⟨t,rfl⟩:=r;exact⟨[],.str x t⟩
 |_,_,.tup hq hs,_,r=>by
  cases r;obtain⟨its,rv,⟨o,e,c,n,d⟩,_⟩:=I.tuple hq;obtain⟨as,ra⟩:=DatVs.reads I hs rv;exact⟨_,.tuple e c d (by simpa using ra)⟩
 |_,_,.lst hq hs,_,r=>by
  cases r;obtain⟨its,rv,⟨o,n,e,c,_,d⟩,_⟩:=I.list hq;obtain⟨as,ra⟩:=DatVs.reads I hs rv;exact⟨_,.list e c d (by simpa using ra)⟩
theorem DatVs.reads(I:Inv X w6 O H s):∀{vs:List V} {ds:List PyData},DatVs X.K H vs ds->∀{us:List Value},Vals vs us->∃as,ReadsAll s.heap us ds as
 |_,_,.nil,_,.nil=>⟨[],.nil⟩
 |_,_,.cons h t,_,.cons r rr=>by
  obtain⟨a,ra⟩:=DatV.reads I h r;obtain⟨b,rb⟩:=DatVs.reads I t rr;exact⟨_,.cons ra rb⟩
end
end
section
variable{X:Cx}
theorem X6(hu:X.A.units+64<cLine):OpR X (compareOp .Eq) (λx y H Q=>∃d d',DatV X.K H x d/\DatV X.K H y d'/\SeqAt.shaped d=true/\SeqAt.shaped d'=true/\Q (.bl (PyData.eqv d d')) H):=by
 intro w6 s O H x y v u Q I rx ry h;obtain⟨d,d',h1,h2,s1,s2,q⟩:=h;obtain⟨as,ra⟩:=h1.reads I rx;obtain⟨bs,rb⟩:=h2.reads I ry;exact SeqAt.compareEq_shaped ra rb s1 s2 hu ⟨.bl _,H,I,rfl,q⟩
theorem X2(hu:X.A.units+64<cLine):OpR X (compareOp .NotEq) (λx y H Q=>∃d d',DatV X.K H x d/\DatV X.K H y d'/\SeqAt.shaped d=true/\SeqAt.shaped d'=true/\Q (.bl (!PyData.eqv d d')) H):=by
 intro w6 s O H x y v u Q I rx ry h;obtain⟨d,d',h1,h2,s1,s2,q⟩:=h;obtain⟨as,ra⟩:=h1.reads I rx;obtain⟨bs,rb⟩:=h2.reads I ry;exact SeqAt.compareNe_shaped ra rb s1 s2 hu ⟨.bl _,H,I,rfl,q⟩
theorem RZ(hr:Room k A):A.units+64<cLine:=hr.units
end
theorem Inv.turnedL{X:Cx}{w6:List (Addr×Obj)}{O:St}{H:Hp}{t':Nat}{ch:List Addr}(I:Inv X w6 O H s)(k:∀b o,b∉ch->s.heap.get? b=some o->h'.get? b=some o)(hf:∀b∈ch,Fy X w6 H b):Inv X w6 O H { s with heap:=h',toks:=t' }:=by
 have nit:∀b u,H b=some u->b∉ch:=λb u e z=>by rw[(hf b z).1] at e;cases e
 refine I.step (g':=s.gens) (d':=s.drawn) (ch:=ch) (λb hb=>⟨(hf b hb).2.2.2.1,(hf b hb).2.1,(hf b hb).2.2.2.2.1,(hf b hb).2.2.2.2.2⟩) (λb o _ _ hc e _=>k b o hc e) (λb o _ _ hc e _=>⟨o.slots,k b o hc e⟩) (λ_ _ _ _ n=>n)
  (λb o hc e=>⟨o,k b o hc e⟩) (λ_ _ e=>e) (λ_ _ _ e=>e) (λb ps e=>⟨#[],by rw[e];simp⟩) (λm hm=>?_) (λb u e=>?_) I.bare
 ·obtain⟨o,es,ep,ho,r⟩:=hm;exact⟨o,es,ep,k _ o (λz=>(hf _ z).2.1 rfl) ho,r⟩
 ·refine(I.hok b u e).stay (λc v hc q=>k c v ?_ q) (λ_ q=>q) λ_ _ q=>q;rcases hc with z|z
  ·rw[z];exact nit b u e
  ·exact nit c _ z
noncomputable def ItP(K:PySem.W.Frag)(n:Nat)(src:Nat->List V)(Cond:PySem.W.Frag->Hp->Prop):It:=
 ⟨λi H=>i<n/\Cond K H,λi H v H'=>∃T,H T=none/\v=.ref T/\H'=upd H T (.tup (src i)),λi H=>i=n/\Cond K H⟩
theorem IR{P:Program}{w:World}{K:PySem.W.Frag}{es:List Expr}{k0:Nat}{pos:Pos}{I0:Addr}{Y:Type}{fp wr:List Addr}{n:Nat}{src:Nat->List V}{good:Y->Prop}{Pt:Y->Nat->Array Value->Prop}{Sw:Y->Nat->Heap->Prop}{Mid:Y->Nat->Addr->Heap->Prop}{tn:Nat->Heap->Prop}{Cond:PySem.W.Frag->Hp->Prop}
  (W:∀A:Around,A.handled=none->∀z,good z->WalksT P w A I0 fp wr n (Pt z) (Sw z) (Mid z)) (hmem:I0∈wr) (hPt:∀z i vals,good z->Pt z i vals->Vals (src i) vals.toList) (hlen:∀i,(src i).length<=sizeLine)
  (obj:∀i h,tn i h->∀b∈wr,∃o,h.get? b=some o/\∀v,o.data≠.cell v)
  (keep:∀i h h',tn i h->(∀b∈wr,∀o,h.get? b=some o->h'.get? b=some o)->tn i h')
  (into:∀(X:Cx) (w6:List (Addr×Obj)) (O:St) (H:Hp) (s:Shared) (i:Nat),X.prog=P->X.w=w->X.K=K->Inv X w6 O H s->Cond K H->tn i s.heap->∃z,good z/\Sw z i s.heap) (out:∀z i h,Sw z i h->tn i h)
  (self:∀(A:Around) (i:Nat) (s:Shared) (Q:Value->Shared->Prop) (E:Value->Shared->Prop),tn i s.heap->Q (.ref I0) s->wpAny (model P w) A (pyIter (.ref I0)) Q E s) :
  Jl P w K (.Tuple es k0 pos) (ItP K n src Cond) wr I0 tn where
 mem:=hmem
 obj:=obj
 keep:=keep
 item:=by
  intro X hP hw hK hc i w6 s O H E I hf st hg;obtain⟨hi,hcond⟩:=hg;obtain⟨z,gz,sz⟩:=into X w6 O H s i hP hw hK I hcond st;have W':=W X.A (I.ok.hd hc) z gz;refine W'.item i s _ _ hi sz λT vals h' tk hp hT ht hm kk=>⟨_,rfl,?_⟩;have I1:Inv X w6 O H { s with heap:=h',toks:=tk }:=I.turnedL kk hf;refine W'.go es k0 pos i T _ _ _ hm λh2 st2 kk2=>?_;have I2:Inv X w6 O H { s with heap:=h2,toks:=tk }:=I1.turnedL (t':=tk) kk2 hf;have hn:H T=none:=I.hok.fresh hT;have ht2:IsTup h2 T vals:=by
   obtain⟨o,e,r⟩:=ht;exact⟨o,kk2 T o (W'.apart i T _ hm) e,r⟩
  refine⟨.ref T,upd H T (.tup (src i)),I2.track (I.fpOk hT hn) ⟨hlen i,vals.toList,hPt z i vals gz hp,by simpa using ht2⟩,rfl,⟨T,hn,rfl,rfl⟩,out z _ _ st2,λb hb=>?_⟩;have hbT:b≠T:=λz=>W'.apart i T _ hm (by rw[←z];exact hb);rw[Aw hbT];exact(hf b hb).1
 done:=by
  intro X hP hw hK hc i w6 s O H E I hf st hg;obtain⟨hi,hcond⟩:=hg;subst hi;obtain⟨z,gz,sz⟩:=into X w6 O H s i hP hw hK I hcond st;exact(W X.A (I.ok.hd hc) z gz).done s _ _ sz λh' tk kk=>⟨rfl,I.turnedL kk hf⟩
 self:=self
noncomputable def Ft(xs:List V)(i:Nat):List V:=[.int i,xs.getD i .non]
theorem JK(r:Vals xs its)(h:∃t x,its.toArray[i]?=some x/\vals=#[.int i t,x]):Vals (Ft xs i) vals.toList:=by
 obtain⟨t,x,hx,rfl⟩:=h;have hx':its[i]?=some x:=by simpa using hx
 have hlt:i<its.length:=(AAT.mp hx').1;have hl:=r.length;have hv:xs[i]?=some (xs.getD i .non):=by
  rw[AAq (by omega)];simp[List.getD,show i<xs.length by omega]
 obtain⟨u,hu,ru⟩:=r.get hv;rw[hx'] at hu;cases hu;exact .cons ⟨t,rfl⟩ (.cons ru .nil)
theorem O1{P:Program}{w:World}{f:Nat->Heap->Prop}(A:Around)(i:Nat)(s:Shared)(Q:Value->Shared->Prop)(E:Value->Shared->Prop)(st:(∃old,IsEnum s.heap e it i old)/\f i s.heap)(h:Q (.ref e) s):wpAny (model P w) A (pyIter (.ref e)) Q E s:=by
 obtain⟨⟨old,he⟩,_⟩:=st;exact wpAny_pyIter_enum he h
theorem TL(he:∃old,IsEnum h e it i old)(ho:h.get? it=some o)(hd:∃vs,o.data=.fields vs):∀b∈[e,it],∃o,h.get? b=some o/\∀v,o.data≠.cell v:=λb hb=>by
 rcases AAJ.mp hb with z|z
 ·subst z;obtain⟨old,he⟩:=he;exact⟨_,he,λv q=>by cases q⟩
 ·rw[AAK.mp z];obtain⟨vs,hd⟩:=hd;exact⟨o,ho,λv q=>by rw[hd] at q;cases q⟩
theorem M0{P:Program}{w:World}{K:PySem.W.Frag}{k0:Nat}{pos:Pos}(a e it:Addr)(xs:List V)(hei:e≠it)(hea:e≠a)(hai:a≠it):
  Jl P w K (.Tuple es k0 pos) (ItP K xs.length (Ft xs) λK H=>SqL K H a xs) [e,it] e (λi h=>(∃old,IsEnum h e it i old)/\h.IsListIter it a i):=
 IR (Y:=List Value) (good:=λits=>Vals xs its) (Pt:=λits i vals=>∃t x,its.toArray[i]?=some x/\vals=#[.int i t,x]) (Sw:=λits i h=>(∃old,IsEnum h e it i old)/\h.IsListIter it a i/\h.IsList a its.toArray)
  (λA hA its r=>by
   have hl:xs.length=its.toArray.size:=by rw[List.size_toArray];exact r.length
   rw[hl];exact WalksT.enumerateD (Draws.list (show A.in1.handled=none from hA) it a hai its.toArray) e hei (by simp[hei,hea]) (by simp))
  (by simp) (λits i vals r h=>JK r h) (λi=>(by show 2<=sizeLine;decide))
  (λi h st=>by obtain⟨o,ho,_,hd⟩:=st.2;exact TL st.1 ho ⟨_,hd⟩)
  (λi h h' st k=>⟨by obtain⟨old,q⟩:=st.1;exact⟨old,k e (by simp) _ q⟩,st.2.at λo q=>k it (by simp) o q⟩)
  (λX w6 O H s i hP hw hK I hc st=>by
   subst hK;obtain⟨its,r,p,_⟩:=I.list hc;exact⟨its,r,st.1,st.2,p.isList⟩)
  (λz i h st=>⟨st.1,st.2.1⟩) (λA i s Q E st h=>O1 (f:=λi h=>h.IsListIter it a i) A i s Q E st h)
end L2
namespace L2
open PySem PySem.Spec PyProof.Rows
open AutoSeq1 (wpAny_loadPart')
section
variable{X:Cx}{es:List Expr}{k0:Nat}{tpos:Pos}
noncomputable def Yd(K:PySem.W.Frag)(ta:TA):TI:=λO H R=>ta O H λvs H1=>∃a xs,vs=[.ref a]/\SqL K H1 a xs/\R (ItP K xs.length (Ft xs) λK H=>SqL K H a xs) H1
theorem KU:bootBuiltins "enumerate" = some (.type "enumerate"):=by decide +kernel
theorem Qr{w6:List (Addr×Obj)}{O:St}{H:Hp}{s:Shared}(I:Inv X w6 O H s):∀b∈[s.heap.objs.size+1,s.heap.objs.size],Fy X w6 H b:=λb hb=>by
 have hb':b=s.heap.objs.size+1∨b=s.heap.objs.size:=by simpa using hb
 rcases hb' with e|e<;>subst e
 ·exact I.fpOk (Nat.le_succ _) (I.hok.fresh (Nat.le_succ _))
 ·exact I.fpOk (AAF _) (I.hok.fresh (AAF _))
theorem Rz{a:Expr}{ta:TA}{p pos:Pos}(hg:Gl X "enumerate")(hm:X.mg "enumerate" = none)(ha:PA X [a] ta)(hs:starEach [a] X.env=[(false,eval a X.env)]:=by rfl):PI X (.Tuple es k0 tpos) (.Call (.Name "enumerate" p) [a] [] pos) (Yd X.K ta):=by
 intro w6 s O H R I h;refine Call_ (GU I hg hm KU (PyProof.Rows.callWith_type1 (thn (ha pos w6 s O H _ I h) λus s1 ⟨vs,H1,I1,r1,q1⟩=>?_) hs rfl));obtain⟨l,xs,e,hq,q⟩:=q1;subst e;obtain⟨u,rfl,ru⟩:=ET r1;cases ru;obtain⟨its,rv,pl,hz⟩:=I1.list hq;have hlt:l<s1.heap.objs.size:=by obtain⟨o,n,e,_⟩:=pl;exact Heap.lt_size e
 refine call_enumerate_list pl.isList λh' he hit hsz kk=>wpAny_pyIter_enum he ?_;exact⟨s1.heap.objs.size+1,[s1.heap.objs.size+1,s1.heap.objs.size],_,_,H1,rfl,I1.kept (t':=s1.toks) kk,M0 l _ _ xs (Nat.succ_ne_self _) (Nat.ne_of_gt (AAe hlt)) (AAb hlt),⟨⟨_,he⟩,hit⟩,Qr I1,q⟩
end
end L2
namespace L2
open PySem PySem.Spec PyProof.Rows
def KGet(P:Params)(K:PySem.W.Frag)(a:Addr)(y:V)(r:Option V):Prop:=
 ∃x es n r',y=.str x/\K.lookup a=some ⟨.type "dict",none,.dict es n,#[]⟩/\PySem.W.KeysLit P es.toList/\PySem.W.nsIn K a x=some r'/\RelO r r'/\(a==sysModules)=false
section
variable{X:Cx}{w6:List (Addr×Obj)}{O:St}{H:Hp}{s:Shared}{a:Addr}{y v:V}{u:Value}{o:Option V}{A:Around}{E:Value->Shared->Prop}
theorem KGet.typeIs(I:Inv X w6 O H s)(g:KGet X.w.params X.K a y o):s.TypeIs (.ref a) "dict" := by
 obtain⟨x,es,n,r',_,hl,_⟩:=g;exact⟨_,I.kIn a _ hl,rfl⟩
theorem P3{Q:Value->Shared->Prop}(I:Inv X w6 O H s)(g:KGet X.w.params X.K a y (some v))(ry:RelV y u)(h:∀w' s',Inv X w6 O H s'->RelV v w'->Q w' s'):
  wpAny (model X.prog X.w) A (getItem (.ref a) u) Q E s:=by
 obtain⟨x,es,n,r',e,hl,hk,hn,ro,_⟩:=g;subst e;obtain⟨t,rfl⟩:=ry;obtain⟨w',rfl,rw'⟩:=RelO.some_of ro;exact wpAny_getItem_of (strKind_is X.prog X.w x t) (PySem.W.mapOf_K (prog:=X.prog) (λa o q=>I.kIn a o q) hl hk) (PySem.W.find_K hl hn) (h w' _ (I.tok _) rw')
theorem cF{Q:Value->Shared->Prop}(I:Inv X w6 O H s)(g:KGet X.w.params X.K a y o)(ry:RelV y u)(h:∀s',Inv X w6 O H s'->Q (.bool o.isSome) s'):
  wpAny (model X.prog X.w) A (compareOp .In u (.ref a)) Q E s:=by
 obtain⟨x,es,n,r',e,hl,hk,hn,ro,lo⟩:=g;subst e;obtain⟨t,rfl⟩:=ry;refine wpAny_in_of (strKind_is X.prog X.w x t) lo (PySem.W.mapOf_K (prog:=X.prog) (λa o q=>I.kIn a o q) hl hk) ?_;rw[PySem.W.find_K hl hn,←ro.isSome_eq];exact h _ (I.tok _)
end
noncomputable def ZU(P:Params)(K:PySem.W.Frag)(td ty:TE):TE:=λO H Q=>td O H λx H1=>ty O H1 λy H2=>∃a v,x=.ref a/\KGet P K a y (some v)/\Q v H2
noncomputable def ZT(P:Params)(K:PySem.W.Frag)(ty td:TE):TE:=λO H Q=>ty O H λy H1=>td O H1 λx H2=>∃a o,x=.ref a/\KGet P K a y o/\Q (.bl o.isSome) H2
section
variable{X:Cx}{o i:Expr}{pos:Pos}{td ty:TE}
theorem Ur(ho:PE X o td)(hi:PE X i ty)(hs:Tk i):PE X (.Subscript o i pos) (ZU X.w.params X.K td ty):=by
 intro w6 s O H Q I h;refine OF PySem.F.slot_dict_getitem.lookup hs (thn (ho w6 s O H _ I h) λu s1 ⟨x,H1,I1,rx,q1⟩=>thn (hi w6 s1 O H1 _ I1 q1) λiv s2 ⟨y,H2,I2,ry,a,v,ex,g,q2⟩=>?_);subst ex;obtain rfl:u=Value.ref a:=rx;exact⟨g.typeIs I2,P3 I2 g ry λw' s3 I3 rw'=>⟨v,H2,I3,rw',q2⟩⟩
theorem Xx(hi:PE X i ty)(ho:PE X o td):PC X .In i o (ZT X.w.params X.K ty td):=by
 intro w6 s O H Q I h;refine thn (hi w6 s O H _ I h) λiv s1 ⟨y,H1,I1,ry,q1⟩=>thn (ho w6 s1 O H1 _ I1 q1) λu s2 ⟨x,H2,I2,rx,a,ov,ex,g,q2⟩=>?_;subst ex;obtain rfl:u=Value.ref a:=rx;exact cF I2 g ry λs3 I3=>⟨.bl ov.isSome,H2,I3,rfl,q2⟩
end
noncomputable def bR(tv:TE):TE:=λO H Q=>tv O H λv H1=>(∃x,v=.str x/\x.length<=sizeLine/\Q (.str x) H1)∨∃a:Int,v=.int a/\a.natAbs.log2<1920/\Q (.str (toString a)) H1
noncomputable def OC:List TE->Str->TE
 |[],out=>λ_ H Q=>out.length<=sizeLine/\Q (.str out) H
 |t::r,out=>λO H Q=>t O H λv H1=>∃y,v=.str y/\(out++y).length<=sizeLine/\OC r (out++y) O H1 Q
def PJ(X:Cx)(es:List Expr)(ts:List TE):Prop:=
 ∀(out:Str) (w6:List (Addr×Obj)) (s:Shared) (O:St) (H:Hp) (Q:VK),Inv X w6 O H s->OC ts out O H Q->wpAny (model X.prog X.w) X.A (joinParts out (evalEach es X.env)) (EP X w6 O Q) X.xe s
section
variable{X:Cx}{value e e2:Expr}{es:List Expr}{pos:Pos}{tv t t2:TE}{ts:List TE}
theorem Xu(hv:PE X value tv):PE X (.FormattedValue value (-1) none pos) (bR tv):=by
 intro w6 s O H Q I h;refine FormattedValue_plain (thn (hv w6 s O H _ I h) λu s1 ⟨v,H1,I1,r,q⟩=>?_);rcases q with ⟨x,e,hz,q⟩|⟨a,e,hz,q⟩
 ·subst e;obtain⟨t,rfl⟩:=r;exact formatField_str (λt' tk=>⟨.str x,H1,I1.tok _,⟨t',rfl⟩,q⟩) hz
 ·subst e;obtain⟨t,rfl⟩:=r;exact formatField_int_small hz ⟨.str (toString a),H1,I1.tok _,⟨_,rfl⟩,q⟩
theorem Xl:PJ X [] []:=λout w6 s O H Q I h=>joinParts_nil ⟨.str out,H,I.tok _,⟨_,rfl⟩,h.2⟩ h.1
theorem Um(he:PE X e t)(hr:PJ X es ts):PJ X (e::es) (t::ts):=λout w6 s O H Q I h=>by
 show wpAny _ _ (joinParts out (eval e X.env::evalEach es X.env)) _ _ _;refine joinParts_cons (thn (he w6 s O H _ I h) λu s1 ⟨v,H1,I1,r,y,e,hz,q⟩=>?_);subst e;obtain⟨tk,rfl⟩:=r;exact⟨hz,hr _ w6 s1 O H1 Q I1 q⟩
theorem Pl(h:PJ X (e::e2::es) (t::t2::ts)):PE X (.JoinedStr (e::e2::es) pos) (OC (t::t2::ts) Str.empty):=λw6 s O H Q I q=>JoinedStr_many (h Str.empty w6 s O H Q I q)
end
end L2
namespace Nk
open PySem PySem.Spec PyProof.Rows
inductive NK where
 |int (i:Int)|tup (ks:List NK)
noncomputable instance:DecidableEq NK:=λ_ _=>Classical.propDecidable _
mutual
def NK.hash:NK->Int
 | .int i=>hashInt i
 | .tup ks=>reduceHash (Builtin.Tuple.tupleHashOf (NK.hashes ks))
def NK.hashes:List NK->List Int
 |[]=>[]
 |k::ks=>NK.hash k::NK.hashes ks
end
section
variable{prog:Program}{w:World}{A:Around}{E:Value->Shared->Prop}{s:Shared}
theorem hash_tup{a:Addr}{o:Obj}{items:Array Value}{n:Nat}{hs:List Int}{d:Nat}{Q:Int->Shared->Prop}(hu:A.units<cLine)(ho:s.heap.get? a=some o)(hc:o.cls=.type "tuple")(hd:o.data=.seq items n)
  (Aj:∀(P:Array Int->Shared->Prop),P hs.toArray { s with toks:=s.toks+d }->wpAny (model prog w) A.in1 (forIn items.toList (#[]:Array Int) λx r=>do let y ←pyHash x;pure (ForInStep.yield (r.push y))) P E s)
  (q:Q (reduceHash (Builtin.Tuple.tupleHashOf hs)) { s with toks:=s.toks+(d+1) }):wpAny (model prog w) A (pyHash (.ref a)) Q E s:=by
 have hT:s.TypeIs (.ref a) "tuple" := ⟨o,ho,hc⟩;show wpAny _ _ (pyHashByItsType (.ref a)) Q E s;unfold pyHashByItsType;refine AAA (wpAny_cRoomFor_or (.inr hu) (AAA (wpAny_specialOf hT PySem.F.slot_tuple_hash.lookup ?_)));rw[if_neg (by rw[beq_builtin_none];exact AAd)];refine AAA (wpAny_specialOf hT PySem.F.slot_tuple_hash.lookup ?_);show wpAny _ _ (callSpecialIfBoundUnlessNone? (.ref a) "__hash__" _ >>= _) Q E s;refine AAA (wpAny_callSpecialIfBoundUnlessNone?_slot hT PySem.F.slot_tuple_hash (AAa PySem.F.slot_tuple_hash hT PySem.F.entry_tuple_hash ?_ (PySem.F.args_tuple_hash_1 _)));show wpAny _ _ (Builtin.Tuple.tupleItemsOf (.ref a) >>= _) _ _ s;refine AAA (wpAny_tupleItemsOf ho hd (AAA ?_));rw[←Array.forIn_toList];refine Aj _ ?_;show wpAny _ _ (retInt (Builtin.Tuple.tupleHashOf hs.toArray.toList)) _ _ _;refine wpAny_ret_mkInt ?_;show wpAny _ _ (pyHashByItsType.reduced _) Q E _;unfold pyHashByItsType.reduced;unfold reduceHash at q;split
 ·rename_i hr;rw[if_pos hr] at q;exact AAB q
 ·rename_i hr;rw[if_neg hr] at q;exact AAA (wpAny_rule (AAB q))
end
end Nk
namespace Nk
open PySem PySem.Spec PyProof.Rows PySem.MeetsSeq PySem.SeqAt
noncomputable abbrev Cs:=Int×Int×List Int
noncomputable def csK(c:Cs):NK:=.tup [.int c.1,.int c.2.1,.tup (c.2.2.map NK.int)]
open L2 in
noncomputable def ak(p:Addr)(l:List (Cs×Addr×V)):HO:=.ext λh=>∃(us:List Value) (o:Obj) (es:Array DictEntry) (ep:Nat),Vals (l.map (·.2.2)) us/\h.get? p=some o/\o.ExactDict/\o.data=.dict es ep /\
 es.toList=(l.zip us).map (λx=>{ key:=.ref x.1.2.1,hash:=(csK x.1.1).hash,val:=x.2 })/\(l.map (·.1)).Nodup/\l.length<=sizeLine/\(p==sysModules)=false/\ep=l.length
end Nk
namespace Mi
open PySem L2 Nk
inductive D where
 |non|bl (b:Bool)|int (i:Int)|str (x:Str)|ty (n:String)|scr (ns:List Int)|tup (xs:List D)|lst (xs:List D)|ref (n:Nat)
mutual
def Ek:D->D->Bool
 | .non,.non=>true
 | .bl a,.bl b=>a==b
 | .int a,.int b=>a==b
 | .str a,.str b=>a==b
 | .ty a,.ty b=>a==b
 | .scr a,.scr b=>a==b
 | .tup a,.tup b=>Nr a b
 | .lst a,.lst b=>Nr a b
 | .ref a,.ref b=>a==b
 |_,_=>false
def Nr:List D->List D->Bool
 |[],[]=>true
 |a::as,b::bs=>Ek a b&&Nr as bs
 |_,_=>false
end
mutual
theorem O5:∀{a b:D},Ek a b=true->a=b
 | .tup a,.tup b,h=>by unfold Ek at h;rw[LK h]
 | .lst a,.lst b,h=>by unfold Ek at h;rw[LK h]
 | .non,b,h=>by cases b<;>first|rfl|cases h
 | .bl a,b,h=>by cases b<;>first|(unfold Ek at h;rw[eq_of_beq h])|cases h
 | .int a,b,h=>by cases b<;>first|(unfold Ek at h;rw[eq_of_beq h])|cases h
 | .str a,b,h=>by cases b<;>first|(unfold Ek at h;rw[eq_of_beq h])|cases h
 | .ty a,b,h=>by cases b<;>first|(unfold Ek at h;rw[eq_of_beq h])|cases h
 | .scr a,b,h=>by cases b<;>first|(unfold Ek at h;rw[eq_of_beq h])|cases h
 | .ref a,b,h=>by cases b<;>first|(unfold Ek at h;rw[eq_of_beq h])|cases h
theorem LK:∀{a b:List D},Nr a b=true->a=b
 |[],[],_=>rfl
 |a::as,b::bs,h=>by
  unfold Nr at h;rw[Bool.and_eq_true] at h;rw[O5 h.1,LK h.2]
end
mutual
theorem Kd:∀a:D,Ek a a=true
 | .tup a=>by unfold Ek;exact Hb a
 | .lst a=>by unfold Ek;exact Hb a
 | .non=>rfl
 | .bl a=>by unfold Ek;exact beq_self_eq_true a
 | .int a=>by unfold Ek;exact beq_self_eq_true a
 | .str a=>by unfold Ek;exact beq_self_eq_true a
 | .ty a=>by unfold Ek;exact beq_self_eq_true a
 | .scr a=>by unfold Ek;exact beq_self_eq_true a
 | .ref a=>by unfold Ek;exact beq_self_eq_true a
theorem Hb:∀a:List D,Nr a a=true
 |[]=>rfl
 |a::as=>by unfold Nr;rw[Kd a,Hb as];rfl
end
instance:DecidableEq D:=λa b=>if h:Ek a b=true then .isTrue (O5 h) else .isFalse λe=>h (by rw[e];exact Kd b)
inductive MO where
 |lst (xs:List D)|dK (kvs:List (Key×D))|dC (kvs:List (Cs×D))|ins (c:Str) (fs:List (Str×D))|dP (kvs:List (D×D))|exc (c:Str) (n:Option Nat)
abbrev Mh:=List MO
set_option genInjectivity false in
structure KW where
 fr:PySem.W.Frag
 w:World
instance:CoeOut KW PySem.W.Frag:=⟨KW.fr⟩
noncomputable abbrev _root_.L2.Cx.kw(X:Cx):KW:=⟨X.K,X.w⟩
noncomputable abbrev M(α:Type):=Mh->Option (α×Mh)
noncomputable abbrev Sl:=List (Option D)
noncomputable def ret{α:Type}(a:α):M α:=λZ=>some (a,Z)
noncomputable def bnd{α β:Type}(m:M α)(f:α->M β):M β:=λZ=>match m Z with
 |some (a,w9)=>f a w9
 |none=>none
noncomputable def BD{α:Type}:M α:=λ_=>none
theorem AH(h:bnd m f Z=some r):∃a w9,m Z=some (a,w9)/\f a w9=some r:=by
 unfold bnd at h;cases e:m Z with
 |none=>rw[e] at h;cases h
 |some p=>obtain⟨a,w9⟩:=p;rw[e] at h;exact⟨a,w9,rfl,h⟩
@[simp] theorem bH(a:α)(f:α->M β):bnd (ret a) f=f a:=rfl
theorem AW(h:m Z=some (a,w9)):bnd m f Z=f a w9:=by unfold bnd;rw[h]
def ScrAt(K:PySem.W.Frag)(H:Hp)(a:Addr)(xs:List V):Prop:=
 (∃o,H a=some (.frz o (.lst xs)))∨∃(o:Obj) (its:Array Value) (n:Nat),K.lookup a=some o/\o.cls=.type "list" /\ o.dict=none/\o.data=.seq its n/\its.size<=sizeLine/\Vals xs its.toList
theorem ScrAt.sq(h:ScrAt K H a xs):SqL K H a xs:=h.elim (λz=>.inl (.inr z)) .inr
mutual
def Is(K:KW)(Y:Nat->Addr)(k:Nat)(H:Hp):D->V->Prop
 | .non,v=>v=.non
 | .bl b,v=>v=.bl b
 | .int i,v=>v=.int i
 | .str x,v=>v=.str x
 | .ty n,v=>v=.ty n
 | .scr ns,v=>∃p,v=.ref p/\ScrAt K H p (ns.map V.int)
 | .tup ds,v=>∃p vs,v=.ref p/\SqT K H p vs/\IsL K Y k H ds vs
 | .lst ds,v=>∃p vs,v=.ref p/\H p=some (.lst vs)/\(∀n,n<k->Y n≠p)/\IsL K Y k H ds vs
 | .ref n,v=>n<k/\v=.ref (Y n)
def IsL(K:KW)(Y:Nat->Addr)(k:Nat)(H:Hp):List D->List V->Prop
 |[],vs=>vs=[]
 |d::ds,vs=>∃v vs',vs=v::vs'/\Is K Y k H d v/\IsL K Y k H ds vs'
end
section
variable{K:KW}{Y Y' v8:Nat->Addr}{k k' k2:Nat}{H H' H2:Hp}
theorem IsL.length:∀{ds:List D} {vs:List V},IsL K Y k H ds vs->vs.length=ds.length
 |[],_,h=>by unfold IsL at h;subst h;rfl
 |_::_,_,h=>by
  unfold IsL at h;obtain⟨v,vs',rfl,_,h⟩:=h;simp only[AAI,IsL.length h]
theorem IsL.get:∀{ds:List D} {vs:List V} {i:Nat} {d:D},IsL K Y k H ds vs->ds[i]?=some d->∃v,vs[i]?=some v/\Is K Y k H d v
 |[],_,_,_,_,e=>by simp at e
 |_::_,_,0,_,h,e=>by
  unfold IsL at h;obtain⟨v,vs',rfl,h1,_⟩:=h;simp at e;subst e;exact⟨v,rfl,h1⟩
 |_::_,_,i+1,d,h,e=>by
  unfold IsL at h;obtain⟨v,vs',rfl,_,h⟩:=h;obtain⟨u,e1,e2⟩:=IsL.get (i:=i) (d:=d) h (by simpa using e);exact⟨u,by simpa using e1,e2⟩
theorem IsL.append:∀{ds es:List D} {vs us:List V},IsL K Y k H ds vs->IsL K Y k H es us->IsL K Y k H (ds++es) (vs++us)
 |[],_,_,_,h,q=>by unfold IsL at h;subst h;exact q
 |_::_,_,_,_,h,q=>by
  unfold IsL at h;obtain⟨v,vs',rfl,h1,h⟩:=h;show IsL K Y k H (_::(_++_)) _;unfold IsL;exact⟨v,_,rfl,h1,IsL.append h q⟩
theorem IsL.take:∀(n:Nat) {ds:List D} {vs:List V},IsL K Y k H ds vs->IsL K Y k H (ds.take n) (vs.take n)
 |0,ds,vs,_=>by rw[List.take_zero,List.take_zero];unfold IsL;rfl
 |n+1,[],_,h=>by unfold IsL at h;subst h;simp only[List.take_nil];unfold IsL;rfl
 |n+1,_::_,_,h=>by
  unfold IsL at h;obtain⟨v,vs',rfl,h1,h⟩:=h;simp only[List.take_succ_cons];unfold IsL;exact⟨v,_,rfl,h1,IsL.take n h⟩
theorem IsL.drop:∀(n:Nat) {ds:List D} {vs:List V},IsL K Y k H ds vs->IsL K Y k H (ds.drop n) (vs.drop n)
 |0,_,_,h=>h
 |n+1,[],_,h=>by unfold IsL at h;subst h;simp only[List.drop_nil];unfold IsL;rfl
 |n+1,_::_,_,h=>by
  unfold IsL at h;obtain⟨v,vs',rfl,h1,h⟩:=h;simp only[List.drop_succ_cons];exact IsL.drop n h
theorem IsL.cons(h:Is K Y k H d v)(t:IsL K Y k H ds vs):IsL K Y k H (d::ds) (v::vs):=by
 unfold IsL;exact⟨v,vs,rfl,h,t⟩
theorem IsL.nil:IsL K Y k H [] []:=by unfold IsL;rfl
theorem IsL.one(h:Is K Y k H d v):IsL K Y k H [d] [v]:=.cons h .nil
theorem IsL.set(h1:Is K Y k H d v):∀{ds:List D} {vs:List V} (i:Nat),IsL K Y k H ds vs->IsL K Y k H (ds.set i d) (vs.set i v)
 |[],_,_,h=>by unfold IsL at h;subst h;exact .nil
 |_::_,_,0,h=>by
  unfold IsL at h;obtain⟨v,vs',rfl,_,h⟩:=h;exact .cons h1 h
 |_::_,_,i+1,h=>by
  unfold IsL at h;obtain⟨v,vs',rfl,h0,h⟩:=h;exact .cons h0 (IsL.set h1 i h)
theorem IsL.ofInts:∀(ns:List Int),IsL K Y k H (ns.map D.int) (ns.map V.int)
 |[]=>.nil
 |n::r=>.cons (by unfold Is;rfl) (IsL.ofInts r)
noncomputable def Sj:HO->Bool
 | .lst _=>true
 | .dK _=>true
 | .ext _=>true
 | .ins _ _ _=>true
 |_=>false
def Muts(Y:Nat->Addr)(k:Nat)(H:Hp):Prop:=∀n,n<k->∃o,H (Y n)=some o/\Sj o=true
structure Ext(Y:Nat->Addr)(k:Nat)(H:Hp)(Y':Nat->Addr)(k':Nat)(H':Hp):Prop where
 le:k<=k'
 agree:∀n,n<k->Y' n=Y n
 fresh:∀n,k<=n->n<k'->H (Y' n)=none
 keep:∀p o,H p=some o->(∀n,n<k->Y n≠p)->H' p=some o
 was:Muts Y k H
 there:Muts Y k H'
theorem Ext.refl(h:Muts Y k H):Ext Y k H Y k H:=⟨AAF _,λ_ _=>rfl,λn h1 h2=>absurd h1 (by omega),λ_ _ e _=>e,h,h⟩
theorem Ext.trans(a:Ext Y k H Y' k' H')(b:Ext Y' k' H' v8 k2 H2):Ext Y k H v8 k2 H2 where
 le:=AAp a.le b.le
 agree:=λn h=>(b.agree n (AAM h a.le)).trans (a.agree n h)
 fresh:=λn h1 h2=>by
  rcases Nat.lt_or_ge n k' with z|z
  ·rw[b.agree n z];exact a.fresh n h1 z
  ·have q:=b.fresh n z h2;cases e:H (v8 n) with
   |none=>rfl
   |some o=>
    by_cases hx:∃m,m<k/\Y m=v8 n
    ·obtain⟨m,hm,e2⟩:=hx;obtain⟨o',q',_⟩:=a.there m hm;rw[e2,q] at q';cases q'
    ·have:=a.keep _ o e (λm hm e2=>hx ⟨m,hm,e2⟩);rw[q] at this;cases this
 keep:=λp o e hn=>b.keep p o (a.keep p o e hn) (λn hlt e2=>by
  rcases Nat.lt_or_ge n k with z|z
  ·rw[a.agree n z] at e2;exact hn n z e2
  ·have:=a.fresh n z hlt;rw[e2,e] at this;cases this)
 was:=a.was
 there:=λn h=>by
  have:=b.there n (AAM h a.le);rw[a.agree n h] at this;exact this
theorem Ext.out(a:Ext Y k H Y' k' H')(e:H p=some o)(hn:∀n,n<k->Y n≠p):∀n,n<k'->Y' n≠p:=λn h e2=>by
 rcases Nat.lt_or_ge n k with z|z
 ·rw[a.agree n z] at e2;exact hn n z e2
 ·have:=a.fresh n z h;rw[e2,e] at this;cases this
theorem Muts.ne(a:Muts Y k H)(e:H p=some o)(hm:Sj o=false):∀n,n<k->Y n≠p:=λn hn e2=>by
 obtain⟨o',q,h⟩:=a n hn;rw[e2,e] at q;cases q;rw[hm] at h;cases h
theorem Gf(a:Ext Y k H Y' k' H')(h:SqT K H p vs):SqT K H' p vs:=by
 rcases h with h|h
 ·rcases h with h|⟨o,h⟩
  ·exact .inl (.inl (a.keep p _ h (a.was.ne h rfl)))
  ·exact .inl (.inr ⟨o,a.keep p _ h (a.was.ne h rfl)⟩)
 ·exact .inr h
theorem Kq(a:Ext Y k H Y' k' H')(h:ScrAt K H p vs):ScrAt K H' p vs:=by
 rcases h with ⟨o,h⟩|h
 ·exact .inl ⟨o,a.keep p _ h (a.was.ne h rfl)⟩
 ·exact .inr h
mutual
theorem Is.ext(a:Ext Y k H Y' k' H'):∀{d:D} {v:V},Is K Y k H d v->Is K Y' k' H' d v
 | .non,_,h=>by unfold Is at h ⊢;exact h
 | .bl _,_,h=>by unfold Is at h ⊢;exact h
 | .int _,_,h=>by unfold Is at h ⊢;exact h
 | .str _,_,h=>by unfold Is at h ⊢;exact h
 | .ty _,_,h=>by unfold Is at h ⊢;exact h
 | .scr ns,_,h=>by
  unfold Is at h ⊢;obtain⟨p,rfl,h⟩:=h;exact⟨p,rfl,Kq a h⟩
 | .tup ds,_,h=>by
  unfold Is at h ⊢;obtain⟨p,vs,rfl,h1,h2⟩:=h;exact⟨p,vs,rfl,Gf a h1,IsL.ext a h2⟩
 | .lst ds,_,h=>by
  unfold Is at h ⊢;obtain⟨p,vs,rfl,h1,hn,h2⟩:=h;exact⟨p,vs,rfl,a.keep p _ h1 hn,a.out h1 hn,IsL.ext a h2⟩
 | .ref n,_,h=>by
  unfold Is at h ⊢;obtain⟨h,rfl⟩:=h;exact⟨AAM h a.le,by rw[a.agree n h]⟩
theorem IsL.ext(a:Ext Y k H Y' k' H'):∀{ds:List D} {vs:List V},IsL K Y k H ds vs->IsL K Y' k' H' ds vs
 |[],_,h=>by unfold IsL at h ⊢;exact h
 |_::_,_,h=>by
  unfold IsL at h ⊢;obtain⟨v,vs',rfl,h1,h2⟩:=h;exact⟨v,vs',rfl,Is.ext a h1,IsL.ext a h2⟩
end
noncomputable def KVs(K:KW)(Y:Nat->Addr)(k:Nat)(H:Hp):List (Key×D)->List (Key×V)->Prop
 |[],r=>r=[]
 |(y,d)::l,r=>∃v r',r=(y,v)::r'/\Is K Y k H d v/\KVs K Y k H l r'
theorem KVs.ext(a:Ext Y k H Y' k' H'):∀{l:List (Key×D)} {r:List (Key×V)},KVs K Y k H l r->KVs K Y' k' H' l r
 |[],_,h=>h
 |(_,_)::_,_,h=>by
  obtain⟨v,r',rfl,h1,h2⟩:=h;exact⟨v,r',rfl,h1.ext a,h2.ext a⟩
noncomputable def csD(c:Cs):D:=.tup [.int c.1,.int c.2.1,.tup (c.2.2.map D.int)]
noncomputable def CVs(K:KW)(Y:Nat->Addr)(k:Nat)(H:Hp):List (Cs×D)->List (Cs×Addr×V)->Prop
 |[],r=>r=[]
 |(y,d)::l,r=>∃a v r',r=(y,a,v)::r'/\Is K Y k H (csD y) (.ref a)/\Is K Y k H d v/\CVs K Y k H l r'
theorem CVs.ext(a:Ext Y k H Y' k' H'):∀{l:List (Cs×D)} {r:List (Cs×Addr×V)},CVs K Y k H l r->CVs K Y' k' H' l r
 |[],_,h=>h
 |(_,_)::_,_,h=>by
  obtain⟨b,v,r',rfl,h1,h2,h3⟩:=h;exact⟨b,v,r',rfl,h1.ext a,h2.ext a,h3.ext a⟩
noncomputable def FVs(K:KW)(Y:Nat->Addr)(k:Nat)(H:Hp):List (Str×D)->List (Str×V)->Prop
 |[],r=>r=[]
 |(y,d)::l,r=>∃v r',r=(y,v)::r'/\Is K Y k H d v/\FVs K Y k H l r'
theorem FVs.ext(a:Ext Y k H Y' k' H'):∀{l:List (Str×D)} {r:List (Str×V)},FVs K Y k H l r->FVs K Y' k' H' l r
 |[],_,h=>h
 |(_,_)::_,_,h=>by
  obtain⟨v,r',rfl,h1,h2⟩:=h;exact⟨v,r',rfl,h1.ext a,h2.ext a⟩
mutual
def hD(w:World):D->Int
 | .int i=>hashInt i
 | .str x=>hashStr w x
 | .tup ks=>reduceHash (Builtin.Tuple.tupleHashOf (hDs w ks))
 |_=>0xFCA86420
def hDs(w:World):List D->List Int
 |[]=>[]
 |k::ks=>hD w k::hDs w ks
end
noncomputable def aj(w:World)(p:Addr)(l:List (D×Addr×V)):HO:=.ext λh=>∃(us:List Value) (o:Obj) (es:Array DictEntry) (ep:Nat),Vals (l.map (·.2.2)) us/\h.get? p=some o/\o.ExactDict/\o.data=.dict es ep /\
 es.toList=(l.zip us).map (λx=>{ key:=.ref x.1.2.1,hash:=hD w x.1.1,val:=x.2 })/\(l.map (·.1)).Nodup/\l.length<=sizeLine/\(p==sysModules)=false
mutual
def Kz:D->Bool
 | .non=>true
 | .int _=>true
 | .str _=>true
 | .tup ds=>KzL ds
 |_=>false
def KzL:List D->Bool
 |[]=>true
 |d::ds=>Kz d&&KzL ds
end
mutual
def LH:D->Nat
 | .tup ks=>EI ks+1
 |_=>0
def EI:List D->Nat
 |[]=>0
 |k::ks=>max (LH k) (EI ks)
end
noncomputable def PVs(K:KW)(Y:Nat->Addr)(k:Nat)(H:Hp):List (D×D)->List (D×Addr×V)->Prop
 |[],r=>r=[]
 |(y,d)::l,r=>∃a v r',r=(y,a,v)::r'/\(Kz y=true/\LH y<=8/\Is K Y k H y (.ref a))/\Is K Y k H d v/\PVs K Y k H l r'
theorem PVs.ext(a:Ext Y k H Y' k' H'):∀{l:List (D×D)} {r:List (D×Addr×V)},PVs K Y k H l r->PVs K Y' k' H' l r
 |[],_,h=>h
 |(_,_)::_,_,h=>by
  obtain⟨b,v,r',rfl,h1,h2,h3⟩:=h;exact⟨b,v,r',rfl,⟨h1.1,h1.2.1,h1.2.2.ext a⟩,h2.ext a,h3.ext a⟩
def ClsAt(K:PySem.W.Frag)(c:Str)(C:Addr):Prop:=PySem.W.nsIn K mainGlobals c=some (some (.ref C))
noncomputable def Yn(p C:Addr)(dx:Option Addr):HO:=.ext λh=>∃oe vs,h.get? p=some oe/\oe.cls=.ref C/\oe.dict=dx/\oe.data=.fields vs
def V2(H:Hp)(n:Option Nat)(dx:Option Addr):Prop:=match n with
 |none=>dx=none
 |some i=>∃d,dx=some d/\H d=some (.xd [("at",.int (i:Int))])
noncomputable def ObjIs(K:KW)(Y:Nat->Addr)(k:Nat)(H:Hp)(p:Addr):MO->HO->Prop
 | .lst ds,o=>∃vs,o=.lst vs/\IsL K Y k H ds vs
 | .dK l,o=>∃r,o=.dK r/\KVs K Y k H l r
 | .dC l,o=>∃r,o=ak p r/\CVs K Y k H l r
 | .ins c l,o=>∃C dx r,o=.ins C dx r/\ClsAt K c C/\H dx=some (.own p)/\FVs K Y k H l r
 | .dP l,o=>∃r,o=aj K.w p r/\PVs K Y k H l r
 | .exc c n,o=>∃C dx,o=Yn p C dx/\ClsAt K c C/\V2 H n dx
structure RelH(K:KW)(Y:Nat->Addr)(Z:Mh)(H:Hp):Prop where
 inj:∀i j,i<Z.length->j<Z.length->Y i=Y j->i=j
 obj:∀n o,Z[n]?=some o->∃u,H (Y n)=some u/\ObjIs K Y Z.length H (Y n) o u
theorem ObjIs.mut(h:ObjIs K Y k H p o u):Sj u=true:=by
 cases o with
 |lst ds=>obtain⟨vs,rfl,_⟩:=h;rfl
 |dK l=>obtain⟨r,rfl,_⟩:=h;rfl
 |dC l=>obtain⟨r,rfl,_⟩:=h;rfl
 |ins c l=>obtain⟨C,dx,r,rfl,_⟩:=h;rfl
 |dP l=>obtain⟨r,rfl,_⟩:=h;rfl
 |exc c n=>obtain⟨C,dx,rfl,_⟩:=h;rfl
theorem ObjIs.ext(a:Ext Y k H Y' k' H')(h:ObjIs K Y k H p o u):ObjIs K Y' k' H' p o u:=by
 cases o with
 |lst ds=>obtain⟨vs,rfl,h⟩:=h;exact⟨vs,rfl,h.ext a⟩
 |dK l=>obtain⟨r,rfl,h⟩:=h;exact⟨r,rfl,h.ext a⟩
 |dC l=>obtain⟨r,rfl,h⟩:=h;exact⟨r,rfl,h.ext a⟩
 |ins c l=>obtain⟨C,dx,r,rfl,h0,h1,h⟩:=h;exact⟨C,dx,r,rfl,h0,a.keep dx _ h1 (a.was.ne h1 rfl),h.ext a⟩
 |dP l=>obtain⟨r,rfl,h⟩:=h;exact⟨r,rfl,h.ext a⟩
 |exc c n=>
  obtain⟨C,dx,rfl,h0,h1⟩:=h;refine⟨C,dx,rfl,h0,?_⟩;cases n with
  |none=>exact h1
  |some i=>
   obtain⟨d,e,q⟩:=h1;exact⟨d,e,a.keep d _ q (a.was.ne q rfl)⟩
theorem RelH.muts(r:RelH K Y Z H):Muts Y Z.length H:=λn hn=>by
 obtain⟨u,e,h⟩:=r.obj n Z[n] (by simp[hn]);exact⟨u,e,h.mut⟩
theorem RelH.ext0(r:RelH K Y Z H):Ext Y Z.length H Y Z.length H:=Ext.refl r.muts
theorem RelH.laid(r:RelH K Y Z H)(o:HO)(hp:H p=none):Ext Y Z.length H Y Z.length (upd H p o)/\RelH K Y Z (upd H p o):=by
 have kp:∀q u,H q=some u->upd H p o q=some u:=λq u e=>by rw[Aw (BZ e hp)];exact e
 have a:Ext Y Z.length H Y Z.length (upd H p o):=⟨AAF _,λ_ _=>rfl,λn h1 h2=>absurd h1 (by omega),λq u e _=>kp q u e,r.muts,λn hn=>by
  obtain⟨u,e,h⟩:=r.muts n hn;exact⟨u,kp _ _ e,h⟩⟩
 refine⟨a,r.inj,λn o' e=>?_⟩;obtain⟨u,e1,h⟩:=r.obj n o' e;exact⟨u,kp _ _ e1,h.ext a⟩
theorem RelH.grown(r:RelH K Y Z H)(hp:H p=none)(h:ObjIs K Y Z.length H p m o):
  ∃Y',Ext Y Z.length H Y' (Z++[m]).length (upd H p o)/\RelH K Y' (Z++[m]) (upd H p o)/\Y' Z.length=p:=by
 have kp:∀q u,H q=some u->upd H p o q=some u:=λq u e=>by rw[Aw (BZ e hp)];exact e
 let Y':Nat->Addr:=λn=>if n=Z.length then p else Y n
 have e0:Y' Z.length=p:=if_pos rfl;have e1:∀n,n<Z.length->Y' n=Y n:=λn hn=>if_neg (by omega);have a:Ext Y Z.length H Y' (Z++[m]).length (upd H p o):=⟨by simp,e1,λn h1 h2=>by
   have:n=Z.length:=by simp at h2;omega
   rw[this,e0];exact hp,λq u e _=>kp q u e,r.muts,λn hn=>by
  obtain⟨u,e,h⟩:=r.muts n hn;exact⟨u,kp _ _ e,h⟩⟩
 refine⟨Y',a,⟨λi j hi hj e=>?_,λn o' e=>?_⟩,e0⟩
 ·simp at hi hj;have old:∀i,i<Z.length->Y' i≠p:=λi hi e=>by
   obtain⟨u,q,_⟩:=r.muts i hi;rw[←e1 i hi,e,hp] at q;cases q
  rcases Nat.lt_or_ge i Z.length with zi|zi<;>rcases Nat.lt_or_ge j Z.length with zj|zj
  ·rw[e1 i zi,e1 j zj] at e;exact r.inj i j zi zj e
  ·have:j=Z.length:=by omega
   subst this;rw[e0] at e;exact absurd e (old i zi)
  ·have:i=Z.length:=by omega
   subst this;rw[e0] at e;exact absurd e.symm (old j zj)
  ·omega
 ·rcases Nat.lt_or_ge n Z.length with z|z
  ·rw[AAS z] at e;obtain⟨u,q,hq⟩:=r.obj n o' e;exact⟨u,by rw[e1 n z];exact kp _ _ q,by rw[e1 n z];exact hq.ext a⟩
  ·have hn:n=Z.length:=by
    have:=(AAT.mp e).1;simp at this;omega
   subst hn;rw[AAR (AAF _),Nat.sub_self] at e;simp at e;subst e;exact⟨o,by rw[e0,BK],by rw[e0];exact h.ext a⟩
theorem RelH.changed(r:RelH K Y Z H)(hn:n<Z.length)(h:ObjIs K Y Z.length H (Y n) m o):
  Ext Y Z.length H Y (Z.set n m).length (upd H (Y n) o)/\RelH K Y (Z.set n m) (upd H (Y n) o):=by
 have ne:∀i,i<Z.length->i≠n->Y i≠Y n:=λi hi hne e=>hne (r.inj i n hi hn e);have a:Ext Y Z.length H Y (Z.set n m).length (upd H (Y n) o):=⟨by simp,λ_ _=>rfl,λi h1 h2=>by simp at h2;omega,λq u e hq=>by rw[Aw (λz=>hq n hn z.symm)];exact e,r.muts,λi hi=>by
  by_cases z:i=n
  ·subst z;exact⟨o,BK,h.mut⟩
  ·obtain⟨u,e,hu⟩:=r.muts i hi;exact⟨u,by rw[Aw (ne i hi z)];exact e,hu⟩⟩
 refine⟨a,λi j hi hj=>r.inj i j (by simpa using hi) (by simpa using hj),λi o' e=>?_⟩;by_cases z:i=n
 ·subst z;rw[List.getElem?_set_self hn] at e;cases e;exact⟨o,BK,h.ext a⟩
 ·rw[AAk (Ne.symm z)] at e;have hi:i<Z.length:=(AAT.mp e).1;obtain⟨u,q,hq⟩:=r.obj i o' e;exact⟨u,by rw[Aw (ne i hi z)];exact q,hq.ext a⟩
structure RelS(K:KW)(Y:Nat->Addr)(k:Nat)(H:Hp)(B:Sl)(O:St):Prop where
 len:O.length=B.length
 get:∀(i:Nat) (d:D),B[i]?=some (some d)->∃v,O[i]?=some (some v)/\Is K Y k H d v
theorem RelS.ext(a:Ext Y k H Y' k' H')(r:RelS K Y k H B O):RelS K Y' k' H' B O:=⟨r.len,λi d e=>by
 obtain⟨v,e1,h⟩:=r.get i d e;exact⟨v,e1,h.ext a⟩⟩
theorem RelS.set(r:RelS K Y k H B O)(i:Nat)(h:Is K Y k H d v):RelS K Y k H (B.set i (some d)) (O.set i (some v)):=⟨by simp[r.len],λj e q=>by
 by_cases z:i=j
 ·subst z;have hi:i<B.length:=by
   have:=(AAT.mp q).1;simpa using this
  rw[List.getElem?_set_self hi] at q;cases q;exact⟨v,List.getElem?_set_self (by rw[r.len];exact hi),h⟩
 ·rw[AAk z] at q;obtain⟨u,e1,hu⟩:=r.get j e q;exact⟨u,by rw[AAk z];exact e1,hu⟩⟩
end
end Mi
namespace Mi
open PySem L2
noncomputable abbrev Exn:=Str×Option Nat
inductive Fl where
 |next|brk|cont|rt (d:D)|xc (x:Exn)
abbrev Aft(K:KW)(Y:Nat->Addr)(Z:Mh)(H:Hp)(Z':Mh)(φ:(Nat->Addr)->Hp->Prop):Prop:=
 ∀Y' H',Ext Y Z.length H Y' Z'.length H'->RelH K Y' Z' H'->φ Y' H'
noncomputable def tE(K:KW)(m:Sl->M D):TE:=λO H Q=>∃Y Z B d Z',RelH K Y Z H/\RelS K Y Z.length H B O/\m B Z=some (d,Z') /\
 Aft K Y Z H Z' λY' H'=>∀v,Is K Y' Z'.length H' d v->Q v H'
noncomputable def tT(K:KW)(m:Sl->M Bool):TT:=λO H Q=>∃Y Z B b Z',RelH K Y Z H/\RelS K Y Z.length H B O/\m B Z=some (b,Z') /\
 Aft K Y Z H Z' λ_ H'=>Q b H'
noncomputable def tL(K:KW)(m:Sl->M (List D)):TA:=λO H Q=>∃Y Z B ds Z',RelH K Y Z H/\RelS K Y Z.length H B O/\m B Z=some (ds,Z') /\
 Aft K Y Z H Z' λY' H'=>∀vs,IsL K Y' Z'.length H' ds vs->Q vs H'
noncomputable def FlP(K:KW)(Dn:LQ)(Y':Nat->Addr)(k:Nat)(H':Hp)(B':Sl)(v7:St):Fl->Prop
 | .next=>Dn.nx v7 H'
 | .brk=>Dn.bk v7 H'
 | .cont=>Dn.ct v7 H'
 | .rt d=>∀v,Is K Y' k H' d v->Dn.rt v H'
 | .xc _=>False
noncomputable def tSt(K:KW)(m:Sl->M (Fl×Sl)):TS:=λDn O H=>∃Y Z B f B' Z',RelH K Y Z H/\RelS K Y Z.length H B O/\m B Z=some ((f,B'),Z') /\
 Aft K Y Z H Z' λY' H'=>∀v7,RelS K Y' Z'.length H' B' v7->FlP K Dn Y' Z'.length H' B' v7 f
structure RE(X:Cx)(e:Expr)(m:Sl->M D):Prop where
 pe:PE X e (tE X.kw m)
structure RT(X:Cx)(e:Expr)(m:Sl->M Bool):Prop where
 pe:PT X e (tT X.kw m)
structure RW(X:Cx)(e:Expr)(m:Sl->M Bool):Prop where
 pe:PW X e (tT X.kw m)
structure RA(X:Cx)(es:List Expr)(m:Sl->M (List D)):Prop where
 pe:PA X es (tL X.kw m)
structure RS(X:Cx)(st:Stmt)(m:Sl->M (Fl×Sl)):Prop where
 pe:PS X st (tSt X.kw m)
structure RSs(X:Cx)(st:List Stmt)(m:Sl->M (Fl×Sl)):Prop where
 pe:PSs X st (tSt X.kw m)
section
variable{X:Cx}{e a b c:Expr}{es:List Expr}{pos:Pos}
theorem PE.wk{t t':TE}(h:PE X e t)(w:∀O H Q,t' O H Q->t O H Q):PE X e t':=λw6 s O H Q I q=>h w6 s O H Q I (w O H Q q)
theorem RE.wk{m:Sl->M D}{t:TE}(h:PE X e t)(w:∀O H Q,tE X.kw m O H Q->t O H Q):RE X e m:=⟨PE.wk h w⟩
theorem PT.wk{t t':TT}(h:PT X e t)(w:∀O H Q,t' O H Q->t O H Q):PT X e t':=λw6 s O H Q I q=>h w6 s O H Q I (w O H Q q)
theorem RT.wk{m:Sl->M Bool}{t:TT}(h:PT X e t)(w:∀O H Q,tT X.kw m O H Q->t O H Q):RT X e m:=⟨PT.wk h w⟩
theorem PW.wk{t t':TT}(h:PW X e t)(w:∀O H Q,t' O H Q->t O H Q):PW X e t':=λwh w6 s O H Q I q=>h wh w6 s O H Q I (w O H Q q)
theorem RW.wk{m:Sl->M Bool}{t:TT}(h:PW X e t)(w:∀O H Q,tT X.kw m O H Q->t O H Q):RW X e m:=⟨PW.wk h w⟩
theorem PA.wk{t t':TA}(h:PA X es t)(w:∀O H Q,t' O H Q->t O H Q):PA X es t':=λp w6 s O H Q I q=>h p w6 s O H Q I (w O H Q q)
theorem RA.wk{m:Sl->M (List D)}{t:TA}(h:PA X es t)(w:∀O H Q,tL X.kw m O H Q->t O H Q):RA X es m:=⟨PA.wk h w⟩
theorem PS.wk{st:Stmt}{t t':TS}(h:PS X st t)(w:∀D O H,t' D O H->t D O H):PS X st t':=λw6 s O H D I q=>h w6 s O H D I (w D O H q)
theorem RS.wk{m:Sl->M (Fl×Sl)}{st:Stmt}{t:TS}(h:PS X st t)(w:∀D O H,tSt X.kw m D O H->t D O H):RS X st m:=⟨PS.wk h w⟩
theorem PSs.wk{st:List Stmt}{t t':TS}(h:PSs X st t)(w:∀D O H,t' D O H->t D O H):PSs X st t':=λw6 s O H D I q=>h w6 s O H D I (w D O H q)
theorem RSs.wk{m:Sl->M (Fl×Sl)}{st:List Stmt}{t:TS}(h:PSs X st t)(w:∀D O H,tSt X.kw m D O H->t D O H):RSs X st m:=⟨PSs.wk h w⟩
theorem OpR.wk{f:Value->Value->Sem Value}{r r':R2}(h:OpR X f r)(w:∀x y H Q,r' x y H Q->r x y H Q):OpR X f r':=λw6 s O H x y v u Q I rx ry q=>h w6 s O H x y v u Q I rx ry (w x y H Q q)
noncomputable def GV:Expr->Bool
 | .Starred _ _=>true
 |_=>false
theorem Ak{e:Expr}{es:List Expr}{env:Env}(h:GV e=false):starEach (e::es) env=(false,eval e env)::starEach es env:=by
 cases e<;>first|rfl|cases h
theorem A5{pos:Pos}{env:Env}:∀{es:List Expr},(es.all λe=>!GV e)=true->(backTo pos (starEach es env)).any (·.1)=false
 |[],_=>rfl
 |e::es,h=>by
  rw[List.all_cons,Bool.and_eq_true] at h;have h1:GV e=false:=by simpa using h.1
  have ih:=A5 (pos:=pos) (env:=env) h.2;rw[Ak h1];unfold backTo at ih ⊢;simpa using ih
noncomputable def AD(i:Nat):Sl->M D:=λB Z=>match B[i]? with
 |some (some d)=>some (d,Z)
 |_=>none
noncomputable def mC(d:D):Sl->M D:=λ_=>ret d
theorem AC(i:Nat){x:Str}(hN:X.N[i]?=some x:=by rfl)(hv:Vis X.env.scope x:=by first|exact Or.inl rfl|exact Or.inr (Or.inl rfl)|exact Or.inr (Or.inr rfl))(hd:(x==("__debug__" : Str))=false:=by decide)
  (hcd:(x==("__classdict__" : Str))=false:=by decide):RE X (.Name x pos) (AD i):=RE.wk (Xp hN hv hd hcd) λO H Q h=>by
 obtain⟨Y,Z,B,d,Z',R,S,e,q⟩:=h;unfold AD at e;split at e
 ·rename_i d' ed;cases e;obtain⟨v,e1,h1⟩:=S.get i _ ed;exact⟨v,e1,q Y H R.ext0 R v h1⟩
 ·cases e
theorem Pc{t:TE}{d:D}{v:V}(h:PE X e (tC v))(hd:∀Y k H,Is X.kw Y k H d v):RE X e (mC d):=RE.wk h λO H Q h=>by
 obtain⟨Y,Z,B,d,Z',R,S,e,q⟩:=h;cases e;exact q Y H R.ext0 R v (hd _ _ _)
theorem AF{i j}:RE X (.Constant (.int i) j pos) (mC (.int i)):=Pc (t:=λ_ _ _=>True) SB λ_ _ _=>by unfold Is;rfl
theorem BX{i j}:RE X (.Constant (.bool i) j pos) (mC (.bl i)):=Pc (t:=λ_ _ _=>True) Z7 λ_ _ _=>by unfold Is;rfl
theorem Fd{j}:RE X (.Constant .none j pos) (mC .non):=Pc (t:=λ_ _ _=>True) Xs λ_ _ _=>by unfold Is;rfl
theorem AL{i j}:RE X (.Constant (.str i) j pos) (mC (.str i)):=Pc (t:=λ_ _ _=>True) R8 λ_ _ _=>by unfold Is;rfl
theorem UU{x:Str}{v:V}{u:Value}{d:D}(hm:X.mg x=some u)(r:RelV v u)(hd:∀Y k H,Is X.kw Y k H d v)(hg:Gl X x:=by rfl)(hdb:(x==("__debug__" : Str))=false:=by decide):RE X (.Name x pos) (mC d):=
 Pc (t:=λ_ _ _=>True) (F4 hg hm r hdb) hd
noncomputable def mOp(g:D->D->M D)(ma mb:Sl->M D):Sl->M D:=λB=>bnd (ma B) λx=>bnd (mb B) λy=>g x y
noncomputable def mUn(g:D->M D)(ma:Sl->M D):Sl->M D:=λB=>bnd (ma B) g
noncomputable def rM(K:KW)(g:D->D->M D):R2:=λx y H Q=>∃Y Z a b d Z',RelH K Y Z H/\Is K Y Z.length H a x/\Is K Y Z.length H b y/\g a b Z=some (d,Z') /\
 Aft K Y Z H Z' λY' H'=>∀v,Is K Y' Z'.length H' d v->Q v H'
noncomputable def rM1(K:KW)(g:D->M D):V->Hp->VK->Prop:=λx H Q=>∃Y Z a d Z',RelH K Y Z H/\Is K Y Z.length H a x/\g a Z=some (d,Z') /\
 Aft K Y Z H Z' λY' H'=>∀v,Is K Y' Z'.length H' d v->Q v H'
noncomputable def rMA(K:KW)(g:List D->M D):List V->Hp->VK->Prop:=λxs H Q=>∃Y Z as d Z',RelH K Y Z H/\IsL K Y Z.length H as xs/\g as Z=some (d,Z') /\
 Aft K Y Z H Z' λY' H'=>∀v,Is K Y' Z'.length H' d v->Q v H'
theorem OD{K:KW}{g:D->D->M D}{ma mb:Sl->M D}{O:St}{H:Hp}{Q:VK}(h:tE K (mOp g ma mb) O H Q):tOp (rM K g) (tE K ma) (tE K mb) O H Q:=by
 obtain⟨Y,Z,B,d,Z',R,S,e,q⟩:=h;obtain⟨x,w9,e1,e⟩:=AH e;obtain⟨y,u9,e2,e3⟩:=AH e;refine⟨Y,Z,B,x,w9,R,S,e1,λv5 H1 E1 R1 v1 i1=>?_⟩;refine⟨v5,w9,B,y,u9,R1,S.ext E1,e2,λv8 H2 E2 R2 v2 i2=>?_⟩;exact⟨v8,u9,x,y,d,Z',R2,i1.ext E2,i2,e3,λj7 H3 E3 R3 v3 i3=>q j7 H3 ((E1.trans E2).trans E3) R3 v3 i3⟩
theorem ZW{K:KW}{g:D->M D}{ma:Sl->M D}{O:St}{H:Hp}{Q:VK}(h:tE K (mUn g ma) O H Q):tUn (rM1 K g) (tE K ma) O H Q:=by
 obtain⟨Y,Z,B,d,Z',R,S,e,q⟩:=h;obtain⟨x,w9,e1,e⟩:=AH e;refine⟨Y,Z,B,x,w9,R,S,e1,λv5 H1 E1 R1 v1 i1=>?_⟩;exact⟨v5,w9,x,d,Z',R1,i1,e,λj7 H3 E3 R3 v3 i3=>q j7 H3 (E1.trans E3) R3 v3 i3⟩
theorem Ai{op:Operator}{g:D->D->M D}{ma mb:Sl->M D}(ho:OpR X (binaryOp op) (rM X.kw g))(ha:RE X a ma)(hb:RE X b mb):RE X (.BinOp a op b pos) (mOp g ma mb):=RE.wk (Z5 ho ha.pe hb.pe) λ_ _ _ h=>OD h
theorem WI{op:UnaryOp}{g:D->M D}{ma:Sl->M D}(ho:UnR X (unaryOp op) (rM1 X.kw g))(ha:RE X a ma):RE X (.UnaryOp op a pos) (mUn g ma):=RE.wk (Z3 ho ha.pe) λ_ _ _ h=>ZW h
theorem Be{op:CmpOp}{g:D->D->M D}{ma mb:Sl->M D}(ho:OpR X (compareOp op) (rM X.kw g))(ha:RE X a ma)(hb:RE X b mb)(hm:behindInMarks op b=false:=by first|exact SO _|rfl):RE X (.Compare a [op] [b] pos) (mOp g ma mb):=
 RE.wk (Uu ho ha.pe hb.pe hm) λ_ _ _ h=>OD h
theorem AQ{g:D->D->M D}{ma mb:Sl->M D}(ho:IxR X (rM X.kw g))(ha:RE X a ma)(hb:RE X b mb)(hs:O6 b:=by exact λ_ _=>rfl):RE X (.Subscript a b pos) (mOp g ma mb):=RE.wk (Z6 ho ha.pe hb.pe hs) λ_ _ _ h=>OD h
noncomputable def asB:D->M Bool
 | .bl b=>ret b
 |_=>BD
noncomputable def AS(m:Sl->M D):Sl->M Bool:=λB=>bnd (m B) asB
theorem Kj{K:KW}{m:Sl->M D}{O:St}{H:Hp}{Q:Bool->Hp->Prop}(h:tT K (AS m) O H Q):tE K m O H λx H'=>∃k,x=.bl k/\Q k H':=by
 obtain⟨Y,Z,B,b,Z',R,S,e,q⟩:=h;obtain⟨x,w9,e1,e⟩:=AH e;refine⟨Y,Z,B,x,w9,R,S,e1,λv5 H1 E1 R1 v1 i1=>?_⟩;cases x with
 |bl k=>
  cases e;unfold Is at i1;exact⟨b,i1,q v5 H1 E1 R1⟩
 |_=>cases e
theorem Aq{op:CmpOp}{g:D->D->M D}{ma mb:Sl->M D}(ho:OpR X (compareOp op) (rM X.kw g))(ha:RE X a ma)(hb:RE X b mb)(hm:behindInMarks op b=false:=by first|exact SO _|rfl):RT X (.Compare a [op] [b] pos) (AS (mOp g ma mb)):=
 RT.wk (Ue ho ha.pe hb.pe hm) λO H Q h=>OD (Q:=λx H'=>∃k,x=.bl k/\Q k H') (Kj h)
theorem By{m:Sl->M D}(h:RE X e m)(he:∀whole,isTrue e X.env whole=(do let v ←whole;standAt e.pos;holding [v] (truthy v)):=by intro _;rfl):RT X e (AS m):=
 RT.wk (Xe h.pe he) λ_ _ _ q=>Kj q
noncomputable def mOr(ma mb:Sl->M Bool):Sl->M Bool:=λB=>bnd (ma B) λx=>if x=true then ret true else mb B
noncomputable def Ce(ma:Sl->M Bool):Sl->M Bool:=λB=>bnd (ma B) λx=>ret (!x)
theorem CO{ma:Sl->M Bool}(ha:RT X a ma):RT X (.UnaryOp .Not a pos) (Ce ma):=RT.wk (Xf ha.pe) λO H Q h=>by
 obtain⟨Y,Z,B,b,Z',R,S,e,q⟩:=h;obtain⟨x,w9,e1,e⟩:=AH e;cases e;exact⟨Y,Z,B,x,_,R,S,e1,q⟩
theorem GR{ma:Sl->M Bool}(ha:RT X a ma):RW X (.BoolOp .Or [a] pos) ma:=⟨XZ ha.pe⟩
theorem GJ{rest:List Expr}{ma mb:Sl->M Bool}(ha:RT X a ma)(hb:RW X (.BoolOp .Or (b::rest) pos) mb):RW X (.BoolOp .Or (a::b::rest) pos) (mOr ma mb):=RW.wk (Zy ha.pe hb.pe) λO H Q h=>by
 obtain⟨Y,Z,B,z,Z',R,S,e,q⟩:=h;obtain⟨x,w9,e1,e⟩:=AH e;refine⟨Y,Z,B,x,w9,R,S,e1,λv5 H1 E1 R1=>?_⟩;cases x with
 |true=>cases e;exact q v5 H1 E1 R1
 |false=>exact⟨v5,w9,B,z,Z',R1,S.ext E1,e,λv8 H2 E2 R2=>q v8 H2 (E1.trans E2) R2⟩
theorem RW.rt{m:Sl->M Bool}(h:RW X e m):RT X e m:=⟨h.pe.pt⟩
noncomputable def mIf(mc:Sl->M Bool)(ma mb:Sl->M D):Sl->M D:=λB=>bnd (mc B) λx=>if x=true then ma B else mb B
theorem Ii{mc:Sl->M Bool}{ma mb:Sl->M D}(hc:RT X c mc)(ha:RE X a ma)(hb:RE X b mb):RE X (.IfExp c a b pos) (mIf mc ma mb):=RE.wk (SC hc.pe ha.pe hb.pe) λO H Q h=>by
 obtain⟨Y,Z,B,z,Z',R,S,e,q⟩:=h;obtain⟨x,w9,e1,e⟩:=AH e;refine⟨Y,Z,B,x,w9,R,S,e1,λv5 H1 E1 R1=>?_⟩;cases x with
 |true=>exact⟨v5,w9,B,z,Z',R1,S.ext E1,e,λv8 H2 E2 R2=>q v8 H2 (E1.trans E2) R2⟩
 |false=>exact⟨v5,w9,B,z,Z',R1,S.ext E1,e,λv8 H2 E2 R2=>q v8 H2 (E1.trans E2) R2⟩
noncomputable def Dy(ma mb:Sl->M D):Sl->M D:=λB=>bnd (ma B) λx=>bnd (asB x) λc=>if c=true then mb B else ret (.bl false)
noncomputable def aP(ma mb:Sl->M D):Sl->M D:=λB=>bnd (ma B) λx=>bnd (asB x) λc=>if c=true then ret (.bl true) else mb B
noncomputable def WW(ma:Sl->M D):Sl->M D:=λB=>bnd (ma B) λx=>bnd (asB x) λc=>ret (.bl (!c))
theorem G7{x:D}{Z w9:Mh}{c:Bool}(h:asB x Z=some (c,w9)):x=.bl c/\w9=Z:=by
 cases x with
 |bl k=>cases h;exact⟨rfl,rfl⟩
 |_=>cases h
theorem En{op}{m:Sl->M D}(h:RE X a m):RE X (.BoolOp op [a] pos) m:=⟨Xq h.pe⟩
theorem DS{rest:List Expr}{ma mb:Sl->M D}(ha:RE X a ma)(hb:RE X (.BoolOp .And (b::rest) pos) mb):RE X (.BoolOp .And (a::b::rest) pos) (Dy ma mb):=RE.wk (Xw ha.pe hb.pe) λO H Q h=>by
 obtain⟨Y,Z,B,z,Z',R,S,e,q⟩:=h;obtain⟨x,w9,e1,e⟩:=AH e;obtain⟨c,u9,e2,e⟩:=AH e;obtain⟨rfl,rfl⟩:=G7 e2;refine⟨Y,Z,B,_,u9,R,S,e1,λv5 H1 E1 R1 v1 i1=>⟨c,by unfold Is at i1;exact i1,?_⟩⟩;cases c with
 |true=>exact⟨v5,u9,B,z,Z',R1,S.ext E1,e,λv8 H2 E2 R2=>q v8 H2 (E1.trans E2) R2⟩
 |false=>cases e;exact q v5 H1 E1 R1 _ (by unfold Is;rfl)
theorem Zp{rest:List Expr}{ma mb:Sl->M D}(ha:RE X a ma)(hb:RE X (.BoolOp .Or (b::rest) pos) mb):RE X (.BoolOp .Or (a::b::rest) pos) (aP ma mb):=RE.wk (Z4 ha.pe hb.pe) λO H Q h=>by
 obtain⟨Y,Z,B,z,Z',R,S,e,q⟩:=h;obtain⟨x,w9,e1,e⟩:=AH e;obtain⟨c,u9,e2,e⟩:=AH e;obtain⟨rfl,rfl⟩:=G7 e2;refine⟨Y,Z,B,_,u9,R,S,e1,λv5 H1 E1 R1 v1 i1=>⟨c,by unfold Is at i1;exact i1,?_⟩⟩;cases c with
 |true=>cases e;exact q v5 H1 E1 R1 _ (by unfold Is;rfl)
 |false=>exact⟨v5,u9,B,z,Z',R1,S.ext E1,e,λv8 H2 E2 R2=>q v8 H2 (E1.trans E2) R2⟩
theorem XQ{ma:Sl->M D}(ha:RE X a ma):RE X (.UnaryOp .Not a pos) (WW ma):=RE.wk (Xr ha.pe) λO H Q h=>by
 obtain⟨Y,Z,B,z,Z',R,S,e,q⟩:=h;obtain⟨x,w9,e1,e⟩:=AH e;obtain⟨c,u9,e2,e⟩:=AH e;obtain⟨rfl,rfl⟩:=G7 e2;cases e;exact⟨Y,Z,B,_,_,R,S,e1,λv5 H1 E1 R1 v1 i1=>⟨c,by unfold Is at i1;exact i1,q v5 H1 E1 R1 _ (by unfold Is;rfl)⟩⟩
noncomputable def Ix(g g':D->D->M D)(ma mb mc:Sl->M D):Sl->M D:=λB=>bnd (ma B) λx=>bnd (mb B) λy=>bnd (g x y) λz=>bnd (asB z) λk=>if k=true then bnd (mc B) λw=>g' y w else ret (.bl false)
noncomputable def AI:Sl->M (List D):=λ_=>ret []
noncomputable def AB(m:Sl->M D)(r:Sl->M (List D)):Sl->M (List D):=λB=>bnd (m B) λx=>bnd (r B) λxs=>ret (x::xs)
theorem AE:RA X [] AI:=RA.wk Dr λO H Q h=>by
 obtain⟨Y,Z,B,z,Z',R,S,e,q⟩:=h;cases e;exact q Y H R.ext0 R [] .nil
theorem AA{m:Sl->M D}{r:Sl->M (List D)}(h:RE X e m)(hr:RA X es r)(hs:starEach (e::es) X.env=(false,eval e X.env)::starEach es X.env:=by exact Ak rfl):RA X (e::es) (AB m r):=RA.wk (B7 h.pe hr.pe hs) λO H Q h=>by
 obtain⟨Y,Z,B,z,Z',R,S,e,q⟩:=h;obtain⟨x,w9,e1,e⟩:=AH e;obtain⟨xs,u9,e2,e⟩:=AH e;cases e;exact⟨Y,Z,B,x,w9,R,S,e1,λv5 H1 E1 R1 v1 i1=>⟨v5,w9,B,xs,_,R1,S.ext E1,e2,λv8 H2 E2 R2 vs i2=>q v8 H2 (E1.trans E2) R2 _ (.cons (i1.ext E2) i2)⟩⟩
noncomputable def lim(n:Nat):M Unit:=λZ=>if n<=sizeLine then some ((),Z) else none
theorem DC{n:Nat}{Z w9:Mh}{u:Unit}(h:lim n Z=some (u,w9)):n<=sizeLine/\w9=Z:=by
 unfold lim at h;split at h
 ·rename_i hn;cases h;exact⟨hn,rfl⟩
 ·cases h
theorem Sb{n:Nat}(h:n<=sizeLine)(Z:Mh):lim n Z=some ((),Z):=if_pos h
noncomputable def A4(ds:List D):M D:=bnd (lim ds.length) λ_=>ret (.tup ds)
noncomputable def A0(ds:List D):M D:=bnd (lim ds.length) λ_=>ret (.lst ds)
noncomputable def Ed(ds:List D):M D:=bnd (lim ds.length) λ_=>λZ=>some (.ref Z.length,Z++[.lst ds])
noncomputable def AG(f:List D->M D)(m:Sl->M (List D)):Sl->M D:=λB=>bnd (m B) f
theorem Od{K:KW}{Y:Nat->Addr}{Z Z':Mh}{H:Hp}{ds:List D}{vs:List V}{d:D}{Q:VK}(R:RelH K Y Z H)(i:IsL K Y Z.length H ds vs)(e:A4 ds Z=some (d,Z'))(q:Aft K Y Z H Z' λY' H'=>∀v,Is K Y' Z'.length H' d v->Q v H'):
  vs.length<=sizeLine/\∀p,H p=none->Q (.ref p) (upd H p (.tup vs)):=by
 obtain⟨u,w9,e1,e2⟩:=AH e;clear e;obtain⟨hl,e3⟩:=DC e1;cases e2;cases e3;refine⟨by rw[i.length];exact hl,λp hp=>?_⟩;obtain⟨E1,R1⟩:=R.laid (.tup vs) hp;exact q Y _ E1 R1 _ (by unfold Is;exact⟨p,vs,rfl,SqT.of BK,i.ext E1⟩)
theorem II{K:KW}{Y:Nat->Addr}{Z Z':Mh}{H:Hp}{ds:List D}{vs:List V}{d:D}{Q:VK}(R:RelH K Y Z H)(i:IsL K Y Z.length H ds vs)(e:A0 ds Z=some (d,Z'))(q:Aft K Y Z H Z' λY' H'=>∀v,Is K Y' Z'.length H' d v->Q v H'):
  vs.length<=sizeLine/\∀p,H p=none->Q (.ref p) (upd H p (.lst vs)):=by
 obtain⟨u,w9,e1,e2⟩:=AH e;clear e;obtain⟨hl,e3⟩:=DC e1;cases e2;cases e3;refine⟨by rw[i.length];exact hl,λp hp=>?_⟩;obtain⟨E1,R1⟩:=R.laid (.lst vs) hp;have ho:∀n,n<Z.length->Y n≠p:=λn hn z=>by
  obtain⟨o,e,_⟩:=R.muts n hn;rw[z,hp] at e;cases e
 exact q Y _ E1 R1 _ (by unfold Is;exact⟨p,vs,rfl,BK,ho,i.ext E1⟩)
theorem VF{K:KW}{Y:Nat->Addr}{Z Z':Mh}{H:Hp}{ds:List D}{vs:List V}{d:D}{Q:VK}(R:RelH K Y Z H)(i:IsL K Y Z.length H ds vs)(e:Ed ds Z=some (d,Z'))(q:Aft K Y Z H Z' λY' H'=>∀v,Is K Y' Z'.length H' d v->Q v H'):
  vs.length<=sizeLine/\∀p,H p=none->Q (.ref p) (upd H p (.lst vs)):=by
 obtain⟨u,w9,e1,e2⟩:=AH e;clear e;obtain⟨hl,e3⟩:=DC e1;cases e2;cases e3;refine⟨by rw[i.length];exact hl,λp hp=>?_⟩;obtain⟨Y',E1,R1,e0⟩:=R.grown (m:=.lst ds) hp ⟨vs,rfl,i⟩;exact q Y' _ E1 R1 _ (by unfold Is;exact⟨by simp,by rw[e0]⟩)
theorem EC{K:KW}{f:List D->M D}{m:Sl->M (List D)}{O:St}{H:Hp}{Q:VK}{R:List V->Hp->Prop}(h:tE K (AG f m) O H Q)
  (hf:∀Y Z Z' H ds vs d,RelH K Y Z H->IsL K Y Z.length H ds vs->f ds Z=some (d,Z')->(Aft K Y Z H Z' λY' H'=>∀v,Is K Y' Z'.length H' d v->Q v H')->R vs H):tL K m O H R:=by
 obtain⟨Y,Z,B,z,Z',S1,S,e,q⟩:=h;obtain⟨ds,w9,e1,e⟩:=AH e;exact⟨Y,Z,B,ds,w9,S1,S,e1,λv5 H1 E1 R1 vs iv=>hf v5 w9 Z' H1 ds vs z R1 iv e λv8 H2 E2 R2=>q v8 H2 (E1.trans E2) R2⟩
theorem Ar{x1}{m:Sl->M (List D)}(h:RA X es m):RE X (.Tuple es x1 pos) (AG A4 m):=RE.wk (R7 h.pe) λ_ _ _ q=>EC q λ_ _ _ _ _ _ _ R i e q=>Od R i e q
theorem Bd{m:Sl->M (List D)}(h:RA X es m):RE X (.List es pos) (AG A0 m):=RE.wk (SA h.pe) λ_ _ _ q=>EC q λ_ _ _ _ _ _ _ R i e q=>II R i e q
theorem B6{m:Sl->M (List D)}(h:RA X es m):RE X (.List es pos) (AG Ed m):=RE.wk (SA h.pe) λ_ _ _ q=>EC q λ_ _ _ _ _ _ _ R i e q=>VF R i e q
theorem Ac{id:String}{x:Str}{g:List D->M D}{m:Sl->M (List D)}{p:Pos}(hc:Bo X (.builtin id) (rMA X.kw g))(hm:X.mg x=none)(hv:bootBuiltins x=some (.builtin id))(ha:RA X (e::es) m)(hg:Gl X x:=by rfl)(hn:x ≠ "__name__" := by decide)(hdb:(x==("__debug__" : Str))=false:=by decide)
  (he:starEach (e::es) X.env=(false,eval e X.env)::starEach es X.env:=by exact Ak rfl) (hpl:(backTo pos (starEach es X.env)).any (·.1)=false:=by exact A5 rfl):RE X (.Call (.Name x p) (e::es) [] pos) (AG g m):=
 RE.wk (Eb hc hg hm hv ha.pe hn hdb he hpl) λ_ _ _ q=>EC q λY Z Z' H ds vs d R i e q=>⟨Y,Z,ds,d,Z',R,i,e,q⟩
theorem Br{T:String}{x:Str}{g:List D->M D}{m:Sl->M (List D)}{p:Pos}(hc:Bo X (.type T) (rMA X.kw g))(hm:X.mg x=none)(hv:bootBuiltins x=some (.type T))(ha:RA X (e::es) m)(hg:Gl X x:=by rfl)(hn:x ≠ "__name__" := by decide)(hdb:(x==("__debug__" : Str))=false:=by decide)
  (he:starEach (e::es) X.env=(false,eval e X.env)::starEach es X.env:=by exact Ak rfl) (hpl:(backTo pos (starEach es X.env)).any (·.1)=false:=by exact A5 rfl):RE X (.Call (.Name x p) (e::es) [] pos) (AG g m):=
 RE.wk (EZ hc hg hm hv ha.pe hn hdb he hpl) λ_ _ _ q=>EC q λY Z Z' H ds vs d R i e q=>⟨Y,Z,ds,d,Z',R,i,e,q⟩
noncomputable def spM(K:KW)(n:Nat)(φ:List D->M D):Sp:=λvs H Q _=>vs.length=n/\rMA K φ vs H Q
theorem UV{n k:Nat}{φ:List D->M D}{f:Addr}{fd:FuncData}{ps:List Str}{x:Str}{m:Sl->M (List D)}{p:Pos}(F:FnOk X.prog X.w X.kw X.mg X.base CX0 k f fd ps (spM X.kw n φ))(hr:Room k X.A)(hm:X.mg x=some (.ref f))(hk:PySem.W.keepIn X.kw (.ref f)=true)(hb:Binds X.kw fd ps [])
  (hφ:∀ds Z r,φ ds Z=some r->ds.length=n) (ha:RA X (e::es) m) (hg:Gl X x:=by rfl) (hdb:(x==("__debug__" : Str))=false:=by decide) (he:starEach (e::es) X.env=(false,eval e X.env)::starEach es X.env:=by exact Ak rfl) (hpl:(backTo pos (starEach es X.env)).any (·.1)=false:=by exact A5 rfl) :
  RE X (.Call (.Name x p) (e::es) [] pos) (AG φ m):=
 RE.wk (OW F hr hg hm hk hb .nil OX ha.pe hdb he hpl) λ_ _ _ q=>EC q λY Z Z' H ds vs d R i e q=>by
  rw[AAX];exact⟨by rw[i.length];exact hφ ds Z _ e,Y,Z,ds,d,Z',R,i,e,q⟩
end
section
variable{X:Cx}{e a c tg iter:Expr}{es:List Expr}{pos:Pos}{st:Stmt}{rest body:List Stmt}
noncomputable def A6:Sl->M (Fl×Sl):=λB=>ret (.next,B)
noncomputable def AO(m1 m2:Sl->M (Fl×Sl)):Sl->M (Fl×Sl):=λB=>bnd (m1 B) λr=>match r.1 with
 | .next=>m2 r.2
 |f=>ret (f,r.2)
theorem Au:RSs X [] A6:=RSs.wk Ug λDn O H h=>by
 obtain⟨Y,Z,B,f,B',Z',R,S,e,q⟩:=h;cases e;exact q Y H R.ext0 R O S
theorem AJ(h1:RS X st m1)(h2:RSs X rest m2):RSs X (st::rest) (AO m1 m2):=RSs.wk (Rs h1.pe h2.pe) λDn O H h=>by
 obtain⟨Y,Z,B,f,B',Z',R,S,e,q⟩:=h;obtain⟨⟨f1,v9⟩,w9,e1,e⟩:=AH e;refine⟨Y,Z,B,f1,v9,w9,R,S,e1,λv5 H1 E1 R1 j8 S1=>?_⟩;cases f1 with
 |next=>exact⟨v5,w9,v9,f,B',Z',R1,S1,e,λv8 H2 E2 R2=>q v8 H2 (E1.trans E2) R2⟩
 |brk=>cases e;exact q v5 H1 E1 R1 j8 S1
 |cont=>cases e;exact q v5 H1 E1 R1 j8 S1
 |rt d=>cases e;exact q v5 H1 E1 R1 j8 S1
 |xc x=>cases e;exact q v5 H1 E1 R1 j8 S1
theorem AN(h:RS X st m):RSs X [st] m:=⟨Uf h.pe⟩
noncomputable def ON:Sl->M (Fl×Sl):=λB=>ret (.cont,B)
theorem UM:RS X (.Continue pos) ON:=RS.wk Ly λDn O H h=>by
 obtain⟨Y,Z,B,f,B',Z',R,S,e,q⟩:=h;cases e;exact q Y H R.ext0 R O S
noncomputable def Cm(m:Sl->M D):Sl->M (Fl×Sl):=λB=>bnd (m B) λ_=>ret (.next,B)
theorem Bp(h:RE X e m)(hs:swapsWith e none pos.line X.env=pure false:=by rfl):RS X (.Expr e pos) (Cm m):=RS.wk (Uh h.pe hs) λDn O H h=>by
 obtain⟨Y,Z,B,f,B',Z',R,S,e,q⟩:=h;obtain⟨x,w9,e1,e⟩:=AH e;cases e;exact⟨Y,Z,_,x,_,R,S,e1,λv5 H1 E1 R1 v i1=>q v5 H1 E1 R1 O (S.ext E1)⟩
noncomputable def Ao(m:Sl->M D):Sl->M (Fl×Sl):=λB=>bnd (m B) λd=>ret (.rt d,B)
theorem Aa(h:RE X e m):RS X (.Return (some e) pos) (Ao m):=RS.wk (Xi h.pe) λDn O H h=>by
 obtain⟨Y,Z,B,f,B',Z',R,S,e,q⟩:=h;obtain⟨x,w9,e1,e⟩:=AH e;cases e;exact⟨Y,Z,_,x,_,R,S,e1,λv5 H1 E1 R1 v i1=>q v5 H1 E1 R1 O (S.ext E1) v i1⟩
noncomputable def sIf(mc:Sl->M Bool)(m1 m2:Sl->M (Fl×Sl)):Sl->M (Fl×Sl):=λB=>bnd (mc B) λx=>if x=true then m1 B else m2 B
theorem BB(hc:RT X c mc)(h1:RSs X body m1)(h2:RSs X rest m2):RS X (.If c body rest pos) (sIf mc m1 m2):=RS.wk (Z1 hc.pe h1.pe h2.pe) λDn O H h=>by
 obtain⟨Y,Z,B,f,B',Z',R,S,e,q⟩:=h;obtain⟨x,w9,e1,e⟩:=AH e;refine⟨Y,Z,B,x,w9,R,S,e1,λv5 H1 E1 R1=>?_⟩;cases x with
 |true=>exact⟨v5,w9,B,f,B',Z',R1,S.ext E1,e,λv8 H2 E2 R2=>q v8 H2 (E1.trans E2) R2⟩
 |false=>exact⟨v5,w9,B,f,B',Z',R1,S.ext E1,e,λv8 H2 E2 R2=>q v8 H2 (E1.trans E2) R2⟩
noncomputable def tG(K:KW)(bf:D->Sl->M Sl):TG:=λv O H Q=>∃Y Z B d B' Z',RelH K Y Z H/\RelS K Y Z.length H B O/\Is K Y Z.length H d v/\bf d B Z=some (B',Z') /\
 Aft K Y Z H Z' λY' H'=>∀v7,RelS K Y' Z'.length H' B' v7->Q v7 H'
structure RG(X:Cx)(tg:Expr)(bf:D->Sl->M Sl):Prop where
 pe:PG X tg (tG X.kw bf)
theorem PG.wk(h:PG X tg t)(w:∀v O H Q,t' v O H Q->t v O H Q):PG X tg t':=λw6 s O H v u Q I r q=>h w6 s O H v u Q I r (w v O H Q q)
theorem RG.wk(h:PG X tg t)(w:∀v O H Q,tG X.kw bf v O H Q->t v O H Q):RG X tg bf:=⟨PG.wk h w⟩
noncomputable def AK(i:Nat):D->Sl->M Sl:=λd B=>ret (B.set i (some d))
theorem Kl(h:tG K (AK i) v O H Q):Ho i v O H Q:=by
 obtain⟨Y,Z,B,d,B',Z',R,S,i1,e,q⟩:=h;cases e;exact q Y H R.ext0 R _ (S.set i i1)
theorem BM(i:Nat)(hN:X.N.Nodup)(hi:X.N[i]?=some x:=by rfl)(hx:Loc X.env.scope x:=by first|exact Or.inl rfl|exact Or.inr rfl)(hf:X.fn x=true∨X.env.scope.names.lookup x=some .local:=by first|exact .inl rfl|exact .inr rfl|assumption):RG X (.Name x pos) (AK i):=
 RG.wk (AV hN hi hx hf) λ_ _ _ _ h=>Kl h
noncomputable def E8:List Nat->List D->Sl->M Sl
 |[],[],B=>ret B
 |i::is,d::ds,B=>bnd (AK i d B) λv9=>E8 is ds v9
 |_,_,_=>BD
noncomputable def Dh(is:List Nat):D->Sl->M Sl
 | .tup ds,B=>if ds.length=is.length then E8 is ds B else BD
 |_,_=>BD
noncomputable def Fp:List Nat->TGs
 |[]=>ac
 |i::is=>Wd (Ho i) (Fp is)
theorem HU:∀{is:List Nat} {ds:List D} {vs:List V} {B B':Sl} {O:St} {Y:Nat->Addr} {Z Z':Mh} {H:Hp} {Q:St->Hp->Prop},RelH K Y Z H->RelS K Y Z.length H B O->IsL K Y Z.length H ds vs->E8 is ds B Z=some (B',Z')->
  (Z'=Z->∀v7,RelS K Y Z.length H B' v7->Q v7 H)->Fp is vs O H Q
 |[],[],_,_,_,_,_,_,_,_,_,R,S,i,e,q=>by
  cases e;unfold IsL at i;subst i;exact⟨rfl,q rfl _ S⟩
 |_::is,_::ds,_,B,B',O,Y,Z,Z',H,Q,R,S,i,e,q=>by
  unfold IsL at i;obtain⟨v,vs',rfl,i1,i2⟩:=i;exact⟨v,vs',rfl,HU (is:=is) (ds:=ds) R (S.set _ i1) i2 e q⟩
 |[],_::_,_,_,_,_,_,_,_,_,_,_,_,_,e,_=>by cases e
 |_::_,[],_,_,_,_,_,_,_,_,_,_,_,_,e,_=>by cases e
theorem Ke:∀{is:List Nat} {ds:List D} {B B':Sl} {Z Z':Mh},E8 is ds B Z=some (B',Z')->Z'=Z
 |[],[],_,_,_,_,e=>by cases e;rfl
 |_::is,_::ds,_,_,_,_,e=>Ke (is:=is) (ds:=ds) e
 |[],_::_,_,_,_,_,e=>by cases e
 |_::_,[],_,_,_,_,e=>by cases e
theorem Dp(hc:X.calm=true)(h:PGs X es (Fp is))(hn:(assignEach es X.env).length=is.length:=by rfl)(hst:(assignEach es X.env).findIdx? (·.1)=none:=by rfl):RG X (.Tuple es k pos) (Dh is):=
 RG.wk (NG hc h hn hst) λv O H Q h=>by
  obtain⟨Y,Z,B,d,B',Z',R,S,i1,e,q⟩:=h;cases d with
  |tup ds=>
   unfold Is at i1;obtain⟨p,vs,rfl,h1,h2⟩:=i1;have e':(if ds.length=is.length then E8 is ds B else BD) Z=some (B',Z'):=e;by_cases hl:ds.length=is.length
   ·rw[if_pos hl] at e';have e:=e';refine⟨p,vs,rfl,h1,by rw[h2.length,hl],HU R S h2 e λz v7 S'=>?_⟩;subst z;exact q Y H R.ext0 R v7 S'
   ·rw[if_neg hl] at e';cases e'
  |_=>cases e
noncomputable def AX(m:Sl->M D)(bf:D->Sl->M Sl):Sl->M (Fl×Sl):=λB=>bnd (m B) λd=>bnd (bf d B) λB'=>ret (.next,B')
theorem OB(hg:∀v H Q,tG K bf v O H Q->g v O H Q)(h:tSt K (AX m bf) Dn O H):UA (tE K m) g Dn O H:=by
 obtain⟨Y,Z,B,f,B',Z',R,S,e,q⟩:=h;obtain⟨x,w9,e1,e⟩:=AH e;obtain⟨v9,u9,e2,e⟩:=AH e;cases e;exact⟨Y,Z,B,x,w9,R,S,e1,λv5 H1 E1 R1 v i1=>hg _ _ _ ⟨v5,w9,B,x,_,_,R1,S.ext E1,i1,e2,λv8 H2 E2 R2 v7 S'=>q v8 H2 (E1.trans E2) R2 v7 S'⟩⟩
theorem AY(i:Nat)(hN:X.N.Nodup)(he:RE X e m)(hi:X.N[i]?=some x:=by rfl)(hx:Loc X.env.scope x:=by first|exact Or.inl rfl|exact Or.inr rfl)(hs:swapsWith e (some (.Name x pos')) pos.line X.env=pure false:=by rfl)(hf:X.fn x=true∨X.env.scope.names.lookup x=some .local:=by first|exact .inl rfl|exact .inr rfl|assumption):
  RS X (.Assign [.Name x pos'] e pos) (AX m (AK i)):=RS.wk (Xh hN hi hx he.pe hs hf) λ_ _ _ h=>OB (λ_ _ _ q=>Kl q) h
theorem HI(he:RE X e m)(hg:RG X tg bf)(hs:swapsWithSole [tg] e pos.line X.env=pure false:=by rfl)(hw:swappedStores [tg] e X.env=pure none:=by rfl)
  (h1:(assignEach [tg] X.env).map (·.2)=[assign tg X.env]:=by rfl):RS X (.Assign [tg] e pos) (AX m bf):=RS.wk (Xk he.pe hg.pe hs hw h1) λ_ _ _ h=>OB (λ_ _ _ q=>q) h
noncomputable def Qo(mc:Sl->M Bool)(mb:Sl->M (Fl×Sl)):Nat->Sl->M (Fl×Sl)
 |0,_=>BD
 |n+1,B=>bnd (mc B) λx=>if x=true then bnd (mb B) λr=>match r.1 with
   | .next=>Qo mc mb n r.2
   | .cont=>Qo mc mb n r.2
   | .brk=>ret (.next,r.2)
   | .rt d=>ret (.rt d,r.2)
   | .xc x=>ret (.xc x,r.2)
  else ret (.next,B)
noncomputable def M4(n:Nat)(mc:Sl->M Bool)(mb:Sl->M (Fl×Sl)):Sl->M (Fl×Sl):=Qo mc mb n
theorem Ln(n:Nat)(hp:PassesOwn (model X.prog X.w) X.A X.env X.xe)(hc:RT X c mc)(hb:RSs X body mb):RS X (.While c body [] pos) (M4 n mc mb):=RS.wk (Rt hp hc.pe hb.pe) λDn O H h=>by
 refine⟨λn O H=>tSt X.kw (Qo mc mb n) Dn O H,⟨n,h⟩,?_⟩;intro n O H h;obtain⟨Y,Z,B,f,B',Z',R,S,e,q⟩:=h;cases n with
 |zero=>cases e
 |succ n=>
  obtain⟨x,w9,e1,e⟩:=AH e;refine⟨Y,Z,B,x,w9,R,S,e1,λv5 H1 E1 R1=>?_⟩;cases x with
  |false=>cases e;exact q v5 H1 E1 R1 O (S.ext E1)
  |true=>
   obtain⟨⟨f2,j4⟩,u9,e2,e⟩:=AH e;refine⟨λv7 H'=>tSt X.kw (Qo mc mb n) Dn v7 H',λv7 H' z=>⟨n,Nat.lt_succ_self n,z⟩,?_⟩;refine⟨v5,w9,B,f2,j4,u9,R1,S.ext E1,e2,λv8 H2 E2 R2 k9 S2=>?_⟩;have E12:=E1.trans E2;cases f2 with
   |next=>exact⟨v8,u9,j4,f,B',Z',R2,S2,e,λj7 H3 E3 R3=>q j7 H3 (E12.trans E3) R3⟩
   |cont=>exact⟨v8,u9,j4,f,B',Z',R2,S2,e,λj7 H3 E3 R3=>q j7 H3 (E12.trans E3) R3⟩
   |brk=>cases e;exact q v8 H2 E12 R2 k9 S2
   |rt d=>cases e;exact q v8 H2 E12 R2 k9 S2
   |xc x=>cases e;exact q v8 H2 E12 R2 k9 S2
def ItM(K:KW)(J:It)(ds:List D)(Y:Nat->Addr)(Z:Mh)(H:Hp):Prop:=∀Y' (Z':Mh) H',Ext Y Z.length H Y' Z'.length H'->RelH K Y' Z' H'->
 (∀i,i<ds.length->J.go i H')/\J.stop ds.length H'/\∀(i:Nat) x H2 d,ds[i]?=some d->J.yld i H' x H2->Ext Y' Z'.length H' Y' Z'.length H2/\RelH K Y' Z' H2/\Is K Y' Z'.length H2 d x
theorem ItM.ext(h:ItM K J ds Y Z H)(E:Ext Y Z.length H Y' Z'.length H'):ItM K J ds Y' Z' H':=λv8 u9 H2 E2 R2=>h v8 u9 H2 (E.trans E2) R2
noncomputable def tI(K:KW)(m:Sl->M (List D)):TI:=λO H R=>∃Y Z B ds Z',RelH K Y Z H/\RelS K Y Z.length H B O/\m B Z=some (ds,Z') /\
 Aft K Y Z H Z' λY' H'=>∀J,ItM K J ds Y' Z' H'->R J H'
structure RI(X:Cx)(tg iter:Expr)(m:Sl->M (List D)):Prop where
 pe:PI X tg iter (tI X.kw m)
theorem PI.wk(h:PI X tg iter t)(w:∀O H R,t' O H R->t O H R):PI X tg iter t':=λw6 s O H R I q=>h w6 s O H R I (w O H R q)
theorem RI.wk(h:PI X tg iter t)(w:∀O H R,tI X.kw m O H R->t O H R):RI X tg iter m:=⟨PI.wk h w⟩
theorem PI.or(h:PI X tg iter t)(h':PI X tg iter t'):PI X tg iter (λO H R=>t O H R∨t' O H R):=λw6 s O H R I q=>q.elim (h w6 s O H R I) (h' w6 s O H R I)
noncomputable def a9:D->M (List D)
 | .lst ds=>ret ds
 | .tup ds=>ret ds
 | .scr ns=>ret (ns.map D.int)
 |_=>BD
noncomputable def BC(m:Sl->M D):Sl->M (List D):=λB=>bnd (m B) a9
theorem MC(st:∀Y' (Z':Mh) H',Ext Y Z.length H Y' Z'.length H'->RelH K Y' Z' H'->SqL K H' p vs)(i:IsL K Y Z.length H ds vs):ItM K (Itl K p) ds Y Z H:=by
 intro Y' Z' H' E R;have h:=st Y' Z' H' E R;have hl:=i.length;refine⟨λj hj=>⟨vs,vs[j],h,by simp⟩,⟨vs,h,by omega⟩,λj x H2 d hd y=>?_⟩;obtain⟨e,y⟩:=y;subst e;obtain⟨v,ev,iv⟩:=(i.ext E).get hd;have:=y vs h;rw[ev] at this;cases this;exact⟨R.ext0,R,iv⟩
theorem VR{K:KW}{Y:Nat->Addr}{Z:Mh}(h:SqT K H p vs)(i:IsL K Y Z.length H ds vs):ItM K (Itt K p) ds Y Z H:=by
 intro Y' Z' H' E R;have h:=Gf E h;have hl:=i.length;refine⟨λj hj=>⟨vs,vs[j],h,by simp⟩,⟨vs,h,by omega⟩,λj x H2 d hd y=>?_⟩;obtain⟨e,y⟩:=y;subst e;obtain⟨v,ev,iv⟩:=(i.ext E).get hd;have:=y vs h;rw[ev] at this;cases this;exact⟨R.ext0,R,iv⟩
theorem UQ(q:tI K (BC m) O H R):Wc K (tE K m) O H R∨aX K (tE K m) O H R:=by
 obtain⟨Y,Z,B,ds,Z',R0,S,e,q⟩:=q;obtain⟨x,w9,e1,e⟩:=AH e;cases x with
 |lst es=>
  cases e;refine .inl ⟨Y,Z,B,_,_,R0,S,e1,λv5 H1 E1 R1 v i1=>?_⟩;unfold Is at i1;obtain⟨p,vs,rfl,h1,hn,h2⟩:=i1;exact⟨p,rfl,⟨vs,SqL.of h1⟩,q v5 H1 E1 R1 _ (MC (λY' Z' H' E _=>SqL.of (E.keep p _ h1 hn)) h2)⟩
 |tup es=>
  cases e;refine .inr ⟨Y,Z,B,_,_,R0,S,e1,λv5 H1 E1 R1 v i1=>?_⟩;unfold Is at i1;obtain⟨p,vs,rfl,h1,h2⟩:=i1;exact⟨p,rfl,⟨vs,h1⟩,q v5 H1 E1 R1 _ (VR h1 h2)⟩
 |scr ns=>
  cases e;refine .inl ⟨Y,Z,B,_,_,R0,S,e1,λv5 H1 E1 R1 v i1=>?_⟩;unfold Is at i1;obtain⟨p,rfl,h1⟩:=i1;exact⟨p,rfl,⟨_,h1.sq⟩,q v5 H1 E1 R1 _ (MC (λY' Z' H' E _=>(Kq E h1).sq) (IsL.ofInts ns))⟩
 |non=>cases e
 |bl _=>cases e
 |int _=>cases e
 |str _=>cases e
 |ty _=>cases e
 |ref _=>cases e
theorem Ax(h:RE X e m):RI X tg e (BC m):=RI.wk (PI.or (OV h.pe) (Xm h.pe)) λ_ _ _ q=>UQ q
noncomputable def Lo(lo hi:Int):List D:=(List.range (hi-lo).toNat).map λ(j:Nat)=>D.int (lo+(j:Int))
noncomputable def Ra:List D->M (List D)
 |[.int j]=>λZ=>if -(2 ^ 62)<=j/\j<2 ^ 62 then some (Lo 0 j,Z) else none
 |_=>BD
noncomputable def KB(m:Sl->M (List D)):Sl->M (List D):=λB=>bnd (m B) Ra
theorem VT:ItM K (Itr lo (hi-lo).toNat) (Lo lo hi) Y Z H:=by
 intro Y' Z' H' E R;have hl:(Lo lo hi).length=(hi-lo).toNat:=by simp[Lo]
 rw[hl];refine⟨λj hj=>hj,AAF _,λj x H2 d hd y=>?_⟩;obtain⟨e,y⟩:=y;subst e;unfold Lo at hd;rw[AAV] at hd;cases q:(List.range (hi-lo).toNat)[j]? with
 |none=>rw[q] at hd;cases hd
 |some z=>
  rw[q] at hd;have hz:z=j:=by
   have:=(AAT.mp q).2;simpa using this.symm
  subst hz;cases hd;exact⟨R.ext0,R,by unfold Is;exact y⟩
theorem J5(hm:X.mg "range" = none)(ha:RA X [a] m)(hg:Gl X "range" := by rfl)(hs:starEach [a] X.env=[(false,eval a X.env)]:=by rfl):RI X tg (.Call (.Name "range" p) [a] [] pos) (KB m):=
 RI.wk (Pj hg hm ha.pe hs) λO H R q=>by
  obtain⟨Y,Z,B,ds,Z',R0,S,e,q⟩:=q;obtain⟨xs,w9,e1,e⟩:=AH e;refine⟨Y,Z,B,xs,w9,R0,S,e1,λv5 H1 E1 R1 vs i1=>?_⟩;unfold Ra at e;split at e
  ·rename_i j;split at e
   ·rename_i hb;cases e;unfold IsL Is at i1;obtain⟨v,vs',rfl,rfl,i2⟩:=i1;unfold IsL at i2;subst i2;refine⟨j,rfl,hb.1,hb.2,q v5 H1 E1 R1 _ ?_⟩;have:=VT (K:=X.kw) (Y:=v5) (Z:=Z') (H:=H1) (lo:=0) (hi:=j);rw[Int.sub_zero] at this;exact this
   ·cases e
  ·cases e
noncomputable def FJ(bf:D->Sl->M Sl)(mb:Sl->M (Fl×Sl)):List D->Sl->M (Fl×Sl)
 |[],B=>ret (.next,B)
 |x::xs,B=>bnd (bf x B) λv9=>bnd (mb v9) λr=>match r.1 with
  | .next=>FJ bf mb xs r.2
  | .cont=>FJ bf mb xs r.2
  | .brk=>ret (.next,r.2)
  | .rt d=>ret (.rt d,r.2)
  | .xc x=>ret (.xc x,r.2)
noncomputable def B3(src:Sl->M (List D))(bf:D->Sl->M Sl)(mb:Sl->M (Fl×Sl)):Sl->M (Fl×Sl):=λB=>bnd (src B) λds=>FJ bf mb ds B
theorem Bz(hp:PassesOwn (model X.prog X.w) X.A X.env X.xe)(hc:X.calm=true)(hi:RI X tg iter src)(hg:RG X tg bf)(hb:RSs X body mb)
  (hs:∀x,foldedSetIterable iter X.env x=pure x:=by intro _;rfl):RS X (.For tg iter body [] pos) (B3 src bf mb):=RS.wk (Ru hp hc hi.pe hg.pe hb.pe hs) λDn O H h=>by
 obtain⟨Y,Z,B,f,B',Z',R,S,e,q⟩:=h;obtain⟨ds,w9,e1,e⟩:=AH e;refine⟨Y,Z,B,ds,w9,R,S,e1,λv5 H1 E1 R1 J it=>?_⟩
 let W:Nat->Nat->St->Hp->Prop:=λi m O H=>m=ds.length-i/\i<=ds.length/\∃Y Z B f B' Z',RelH X.kw Y Z H/\RelS X.kw Y Z.length H B O/\ItM X.kw J ds Y Z H/\FJ bf mb (ds.drop i) B Z=some ((f,B'),Z') /\
  Aft X.kw Y Z H Z' λY' H'=>∀v7,RelS X.kw Y' Z'.length H' B' v7->FlP X.kw Dn Y' Z'.length H' B' v7 f
 refine⟨W,⟨ds.length,by simp,AAh _,v5,w9,B,f,B',Z',R1,S.ext E1,it,e,λv8 H2 E2 R2=>q v8 H2 (E1.trans E2) R2⟩,?_⟩;rintro i m O H ⟨hm,hil,Y,Z,B,f,B',Z',R,S,it,e,q⟩;obtain⟨go,stop,yl⟩:=it Y Z H R.ext0 R;by_cases hlt:i<ds.length
 ·refine .inr ⟨go i hlt,λv7 H'=>W (i+1) (ds.length-(i+1)) v7 H',λv7 H' z=>⟨_,by omega,z⟩,λx H2 y=>?_⟩;have hd:ds[i]?=some ds[i]:=by simp[hlt]
  obtain⟨E2,R2,ix⟩:=yl i x H2 _ hd y;rw[List.drop_eq_getElem_cons hlt] at e;obtain⟨v9,w9,e1,e⟩:=AH e;obtain⟨⟨f2,j4⟩,u9,e2,e⟩:=AH e;refine⟨Y,Z,B,_,v9,w9,R2,S.ext E2,ix,e1,λj7 H3 E3 R3 m5 S3=>?_⟩;refine⟨j7,w9,v9,f2,j4,u9,R3,S3,e2,λj9 H4 E4 R4 n0 S4=>?_⟩;have E14:=(E2.trans E3).trans E4;cases f2 with
  |next=>exact⟨rfl,hlt,j9,u9,j4,f,B',Z',R4,S4,it.ext E14,e,λm4 H5 E5 R5=>q m4 H5 (E14.trans E5) R5⟩
  |cont=>exact⟨rfl,hlt,j9,u9,j4,f,B',Z',R4,S4,it.ext E14,e,λm4 H5 E5 R5=>q m4 H5 (E14.trans E5) R5⟩
  |brk=>cases e;exact q j9 H4 E14 R4 n0 S4
  |rt d=>cases e;exact q j9 H4 E14 R4 n0 S4
  |xc x=>cases e;exact q j9 H4 E14 R4 n0 S4
 ·have hi':i=ds.length:=by omega
  subst hi';rw[List.drop_length] at e;cases e;exact .inl ⟨stop,q Y H R.ext0 R O S⟩
end
section
variable{tgs:List Str}{ix:List Nat}
noncomputable def Rx(ix:List Nat)(B:Sl):Sl:=ix.map λj=>(B[j]?).getD none
noncomputable def ED(n:Nat)(ix:List Nat)(B:Sl):Sl:=List.replicate n none++Rx ix B
noncomputable def ER(bf:D->Sl->M Sl)(mc:Sl->M Bool)(me:Sl->M D)(m9:Sl):List D->List D->M (List D)
 |[],ys=>ret ys
 |x::xs,ys=>bnd (bf x m9) λv9=>bnd (mc v9) λc=>if c=true then bnd (me v9) λy=>ER bf mc me m9 xs (ys++[y]) else ER bf mc me m9 xs ys
noncomputable def A7(n:Nat)(ix:List Nat)(src:Sl->M (List D))(bf:D->Sl->M Sl)(mc:Sl->M Bool)(me:Sl->M D)(fin:List D->M D):Sl->M D:=λB=>bnd (src B) λds=>bnd (lim ds.length) λ_=>bnd (ER bf mc me (ED n ix B) ds []) fin
noncomputable def BH:Sl->M Bool:=λ_=>ret true
theorem RelS.block(S:RelS K Y k H B O):RelS K Y k H (ED tgs.length ix B) (DI tgs ix O):=by
 refine⟨by simp[ED,DI,Rx,J6],λi d e=>?_⟩;unfold ED at e;have hk:tgs.length<=i:=by
  rcases Nat.lt_or_ge i tgs.length with z|z
  ·rw[AAS (by simpa using z),List.getElem?_replicate,if_pos z] at e;cases e
  ·exact z
 rw[AAR (by simpa using hk),AAj] at e;unfold Rx at e;rw[AAV] at e;cases q:ix[i-tgs.length]? with
 |none=>rw[q] at e;cases e
 |some j=>
  rw[q] at e;have e':(B[j]?).getD none=some d:=Option.some.inj e;cases q2:B[j]? with
  |none=>rw[q2] at e';cases e'
  |some o=>
   rw[q2] at e';have e'':o=some d:=e';subst e'';obtain⟨v,ev,iv⟩:=S.get j d q2;refine⟨v,?_,iv⟩;unfold DI;rw[AAR (by simpa using hk),AAj];unfold J6;rw[AAV,q,Option.map_some,ev];rfl
mutual
def Cl(k:Nat):D->Prop
 | .tup ds=>ClL k ds
 | .lst ds=>ClL k ds
 | .ref n=>n<k
 |_=>True
def ClL(k:Nat):List D->Prop
 |[]=>True
 |d::ds=>Cl k d/\ClL k ds
end
noncomputable def ClO(k:Nat):MO->Prop
 | .lst ds=>ClL k ds
 | .dK l=>ClL k (l.map (·.2))
 | .dC l=>ClL k (l.map (·.2))
 | .ins _ l=>ClL k (l.map (·.2))
 | .dP l=>ClL k (l.map (·.1))/\ClL k (l.map (·.2))
 | .exc _ _=>True
section
variable{K:KW}{Y:Nat->Addr}{k k':Nat}{H:Hp}
mutual
theorem Is.down(hk:k<=k'):∀{d:D} {v:V},Cl k d->Is K Y k' H d v->Is K Y k H d v
 | .non,_,_,h=>by unfold Is at h ⊢;exact h
 | .bl _,_,_,h=>by unfold Is at h ⊢;exact h
 | .int _,_,_,h=>by unfold Is at h ⊢;exact h
 | .str _,_,_,h=>by unfold Is at h ⊢;exact h
 | .ty _,_,_,h=>by unfold Is at h ⊢;exact h
 | .scr _,_,_,h=>by unfold Is at h ⊢;exact h
 | .tup ds,_,c,h=>by
  unfold Is at h ⊢;obtain⟨p,vs,e,h1,h2⟩:=h;exact⟨p,vs,e,h1,IsL.down hk (by unfold Cl at c;exact c) h2⟩
 | .lst ds,_,c,h=>by
  unfold Is at h ⊢;obtain⟨p,vs,e,h1,hn,h2⟩:=h;exact⟨p,vs,e,h1,λn z=>hn n (AAM z hk),IsL.down hk (by unfold Cl at c;exact c) h2⟩
 | .ref n,_,c,h=>by
  unfold Is at h ⊢;exact⟨by unfold Cl at c;exact c,h.2⟩
theorem IsL.down(hk:k<=k'):∀{ds:List D} {vs:List V},ClL k ds->IsL K Y k' H ds vs->IsL K Y k H ds vs
 |[],_,_,h=>by unfold IsL at h ⊢;exact h
 |_::_,_,c,h=>by
  unfold IsL at h ⊢;unfold ClL at c;obtain⟨v,vs',e,h1,h2⟩:=h;exact⟨v,vs',e,Is.down hk c.1 h1,IsL.down hk c.2 h2⟩
end
mutual
theorem Is.cl:∀{d:D} {v:V},Is K Y k H d v->Cl k d
 | .non,_,_=>by unfold Cl;trivial
 | .bl _,_,_=>by unfold Cl;trivial
 | .int _,_,_=>by unfold Cl;trivial
 | .str _,_,_=>by unfold Cl;trivial
 | .ty _,_,_=>by unfold Cl;trivial
 | .scr _,_,_=>by unfold Cl;trivial
 | .tup ds,_,h=>by
  unfold Is at h;unfold Cl;obtain⟨p,vs,e,h1,h2⟩:=h;exact IsL.cl h2
 | .lst ds,_,h=>by
  unfold Is at h;unfold Cl;obtain⟨p,vs,e,h1,hn,h2⟩:=h;exact IsL.cl h2
 | .ref n,_,h=>by
  unfold Is at h;unfold Cl;exact h.1
theorem IsL.cl:∀{ds:List D} {vs:List V},IsL K Y k H ds vs->ClL k ds
 |[],_,_=>by unfold ClL;trivial
 |_::_,_,h=>by
  unfold IsL at h;unfold ClL;obtain⟨v,vs',e,h1,h2⟩:=h;exact⟨Is.cl h1,IsL.cl h2⟩
end
theorem KVs.cl:∀{l:List (Key×D)} {r:List (Key×V)},KVs K Y k H l r->ClL k (l.map (·.2))
 |[],_,_=>by unfold List.map ClL;trivial
 |(_,_)::_,_,h=>by
  obtain⟨v,r',e,h1,h2⟩:=h;rw[AAW];unfold ClL;exact⟨h1.cl,KVs.cl h2⟩
theorem KVs.down(hk:k<=k'):∀{l:List (Key×D)} {r:List (Key×V)},ClL k (l.map (·.2))->KVs K Y k' H l r->KVs K Y k H l r
 |[],_,_,h=>h
 |(_,_)::_,_,c,h=>by
  rw[AAW] at c;unfold ClL at c;obtain⟨v,r',e,h1,h2⟩:=h;exact⟨v,r',e,h1.down hk c.1,KVs.down hk c.2 h2⟩
theorem O4:∀l:List Int,ClL k (l.map D.int)
 |[]=>by unfold List.map ClL;trivial
 |_::l=>by unfold List.map ClL;exact⟨by unfold Cl;trivial,O4 l⟩
theorem av(c:Nk.Cs):Cl k (csD c):=by
 unfold csD Cl ClL;refine⟨by unfold Cl;trivial,?_⟩;unfold ClL;refine⟨by unfold Cl;trivial,?_⟩;unfold ClL;exact⟨by unfold Cl;exact O4 _,by unfold ClL;trivial⟩
theorem CVs.cl:∀{l:List (Nk.Cs×D)} {r:List (Nk.Cs×Addr×V)},CVs K Y k H l r->ClL k (l.map (·.2))
 |[],_,_=>by unfold List.map ClL;trivial
 |(_,_)::_,_,h=>by
  obtain⟨a,v,r',rfl,_,h1,h2⟩:=h;rw[AAW];unfold ClL;exact⟨h1.cl,CVs.cl h2⟩
theorem CVs.down(hk:k<=k'):∀{l:List (Nk.Cs×D)} {r:List (Nk.Cs×Addr×V)},ClL k (l.map (·.2))->CVs K Y k' H l r->CVs K Y k H l r
 |[],_,_,h=>h
 |(_,_)::_,_,c,h=>by
  rw[AAW] at c;unfold ClL at c;obtain⟨a,v,r',e,h0,h1,h2⟩:=h;exact⟨a,v,r',e,h0.down hk (av _),h1.down hk c.1,CVs.down hk c.2 h2⟩
theorem FVs.cl:∀{l:List (Str×D)} {r:List (Str×V)},FVs K Y k H l r->ClL k (l.map (·.2))
 |[],_,_=>by unfold List.map ClL;trivial
 |(_,_)::_,_,h=>by
  obtain⟨v,r',rfl,h1,h2⟩:=h;rw[AAW];unfold ClL;exact⟨h1.cl,FVs.cl h2⟩
theorem FVs.down(hk:k<=k'):∀{l:List (Str×D)} {r:List (Str×V)},ClL k (l.map (·.2))->FVs K Y k' H l r->FVs K Y k H l r
 |[],_,_,h=>h
 |(_,_)::_,_,c,h=>by
  rw[AAW] at c;unfold ClL at c;obtain⟨v,r',e,h1,h2⟩:=h;exact⟨v,r',e,h1.down hk c.1,FVs.down hk c.2 h2⟩
theorem PVs.cl:∀{l:List (D×D)} {r:List (D×Addr×V)},PVs K Y k H l r->ClL k (l.map (·.1))/\ClL k (l.map (·.2))
 |[],_,_=>by unfold List.map ClL;exact⟨trivial,trivial⟩
 |(_,_)::_,_,h=>by
  obtain⟨a,v,r',_,h1,h2,h3⟩:=h;rw[AAW,AAW];unfold ClL;exact⟨⟨h1.2.2.cl,(PVs.cl h3).1⟩,h2.cl,(PVs.cl h3).2⟩
theorem PVs.down(hk:k<=k'):∀{l:List (D×D)} {r:List (D×Addr×V)},ClL k (l.map (·.1))->ClL k (l.map (·.2))->PVs K Y k' H l r->PVs K Y k H l r
 |[],_,_,_,h=>h
 |(_,_)::_,_,b,c,h=>by
  rw[AAW] at b c;unfold ClL at b c;obtain⟨a,v,r',e,h1,h2,h3⟩:=h;exact⟨a,v,r',e,⟨h1.1,h1.2.1,h1.2.2.down hk b.1⟩,h2.down hk c.1,PVs.down hk b.2 c.2 h3⟩
theorem ObjIs.cl(h:ObjIs K Y k H p o u):ClO k o:=by
 cases o with
 |lst ds=>obtain⟨vs,_,h⟩:=h;exact h.cl
 |dK l=>obtain⟨r,_,h⟩:=h;exact h.cl
 |dC l=>obtain⟨r,_,h⟩:=h;exact h.cl
 |ins c l=>obtain⟨C,dx,r,_,_,_,h⟩:=h;exact h.cl
 |dP l=>obtain⟨r,_,h⟩:=h;exact h.cl
 |exc c n=>exact trivial
theorem ObjIs.down(hk:k<=k')(c:ClO k o)(h:ObjIs K Y k' H p o u):ObjIs K Y k H p o u:=by
 cases o with
 |lst ds=>obtain⟨vs,e,h⟩:=h;exact⟨vs,e,h.down hk c⟩
 |dK l=>obtain⟨r,e,h⟩:=h;exact⟨r,e,h.down hk c⟩
 |dC l=>obtain⟨r,e,h⟩:=h;exact⟨r,e,h.down hk c⟩
 |ins n l=>obtain⟨C,dx,r,e,h0,h1,h⟩:=h;exact⟨C,dx,r,e,h0,h1,h.down hk c⟩
 |dP l=>obtain⟨r,e,h⟩:=h;exact⟨r,e,h.down hk c.1 c.2⟩
 |exc c n=>exact h
end
def cY(u9 Z':Mh)(d' d:D):Prop:=(d'=d/\Cl Z'.length d)∨∃n ds,d'=.ref n/\u9[n]?=some (.lst ds)/\Z'.length<=n/\d=.lst ds/\ClL Z'.length ds
structure Mm(Z u9 Z':Mh)(d' d:D):Prop where
 grow:∃g,u9=Z'++g
 le:Z.length<=Z'.length
 old:∀(n:Nat) (o:MO),Z'[n]?=some o->Z[n]?=some o∨ClO Z'.length o
 conv:cY u9 Z' d' d
noncomputable def Jf:Fl->D
 | .rt d=>d
 |_=>.non
theorem Lb(R:RelH K Y Z H)(E:Ext Y Z.length H v8 u9.length H2)(R2:RelH K v8 u9 H2)(t:Mm Z u9 Z' d' d):
  Ext Y Z.length H v8 Z'.length H2/\RelH K v8 Z' H2/\∀v,Is K v8 u9.length H2 d' v->Is K v8 Z'.length H2 d v:=by
 obtain⟨⟨g,hg⟩,le,old,conv⟩:=t;have hle:Z'.length<=u9.length:=by rw[hg];simp
 have hget:∀(n:Nat) (o:MO),Z'[n]?=some o->u9[n]?=some o:=λn o e=>by
  rw[hg,AAS (AAT.mp e).1];exact e
 refine⟨⟨le,E.agree,λn h1 h2=>E.fresh n h1 (AAM h2 hle),E.keep,E.was,E.there⟩,⟨λi j hi hj=>R2.inj i j (AAM hi hle) (AAM hj hle),λn o e=>?_⟩,λv iv=>?_⟩
 ·obtain⟨u,q,hq⟩:=R2.obj n o (hget n o e);refine⟨u,q,hq.down hle ?_⟩;rcases old n o e with z|z
  ·obtain⟨u0,_,h0⟩:=R.obj n o z;have c:=h0.cl;cases o with
   |lst ds=>exact clL_mono le c
   |dK l=>exact clL_mono le c
   |dC l=>exact clL_mono le c
   |ins n l=>exact clL_mono le c
   |dP l=>exact⟨clL_mono le c.1,clL_mono le c.2⟩
   |exc c n=>exact trivial
  ·exact z
 ·rcases conv with ⟨rfl,c⟩|⟨n,ds,rfl,hn,hle2,rfl,c⟩
  ·exact iv.down hle c
  ·obtain⟨u,q,vs,rfl,il⟩:=R2.obj n _ hn;have hn2:n<u9.length:=(AAT.mp hn).1;unfold Is at iv ⊢;refine⟨v8 n,vs,iv.2,q,λm hm z=>?_,il.down hle c⟩;have:=R2.inj m n (AAM hm hle) hn2 z;omega
where
 cl_mono {k k':Nat} (h:k<=k'):∀{d:D},Cl k d->Cl k' d
  | .non,_=>by unfold Cl;trivial
  | .bl _,_=>by unfold Cl;trivial
  | .int _,_=>by unfold Cl;trivial
  | .str _,_=>by unfold Cl;trivial
  | .ty _,_=>by unfold Cl;trivial
  | .scr _,_=>by unfold Cl;trivial
  | .tup ds,c=>by unfold Cl at c ⊢;exact clL_mono h c
  | .lst ds,c=>by unfold Cl at c ⊢;exact clL_mono h c
  | .ref n,c=>by unfold Cl at c ⊢;exact AAM c h
 clL_mono {k k':Nat} (h:k<=k'):∀{ds:List D},ClL k ds->ClL k' ds
  |[],_=>by unfold ClL;trivial
  |_::_,c=>by unfold ClL at c ⊢;exact⟨cl_mono h c.1,clL_mono h c.2⟩
noncomputable def BS(n:Nat)(ds:List D):Sl:=ds.map some++List.replicate (n-ds.length) none
theorem RelS.start(i:IsL K Y k H ds vs):RelS K Y k H (BS N.length ds) (L2.start N vs):=by
 have hl:=i.length;refine⟨by simp[BS,L2.start,hl],λj d e=>?_⟩;unfold BS at e;unfold L2.start;rcases Nat.lt_or_ge j ds.length with z|z
 ·rw[AAS (by simpa using z),AAV] at e;rw[AAS (by simpa[hl] using z),AAV];cases q:ds[j]? with
  |none=>rw[q] at e;cases e
  |some d0=>
   rw[q] at e;cases e;obtain⟨v,ev,iv⟩:=i.get q;exact⟨v,by rw[ev];rfl,iv⟩
 ·rw[AAR (by simpa using z),List.getElem?_replicate] at e;split at e<;>cases e
end
noncomputable def E9:D->M (List D)
 | .lst ds=>ret ds
 | .scr ns=>ret (ns.map D.int)
 | .ref n=>λZ=>match Z[n]? with
  |some (.lst ds)=>some (ds,Z)
  |_=>none
 |_=>BD
section
variable{K:KW}{Y:Nat->Addr}{Z Z':Mh}{H:Hp}{d:D}{v:V}{ds:List D}
theorem CL(R:RelH K Y Z H)(i:Is K Y Z.length H d v)(e:E9 d Z=some (ds,Z')):Z'=Z/\∃p vs,v=.ref p/\SqL K H p vs/\IsL K Y Z.length H ds vs:=by
 cases d with
 |lst es=>
  cases e;unfold Is at i;obtain⟨p,vs,rfl,h1,hn,h2⟩:=i;exact⟨rfl,p,vs,rfl,SqL.of h1,h2⟩
 |scr ns=>
  cases e;unfold Is at i;obtain⟨p,rfl,h1⟩:=i;exact⟨rfl,p,_,rfl,h1.sq,IsL.ofInts ns⟩
 |ref n=>
  unfold Is at i;obtain⟨hn,rfl⟩:=i;have e':(match Z[n]? with|some (.lst ds)=>some (ds,Z)|_=>none)=some (ds,Z'):=e;split at e'
  ·rename_i es hq;cases e';obtain⟨u,h1,vs,rfl,h2⟩:=R.obj n _ hq;exact⟨rfl,_,vs,rfl,SqL.of h1,h2⟩
  ·cases e'
 |_=>cases e
theorem Bj(h:Is K Y Z.length H (.int i) v):v=.int i:=by unfold Is at h;exact h
theorem Cy(h:Is K Y Z.length H (.str i) v):v=.str i:=by unfold Is at h;exact h
theorem Si(h:Is K Y Z.length H (.bl i) v):v=.bl i:=by unfold Is at h;exact h
theorem NY(h:Is K Y Z.length H .non v):v=.non:=by unfold Is at h;exact h
theorem aV(h:Is K Y Z.length H (.ty n) v):v=.ty n:=by unfold Is at h;exact h
theorem ofI(i:Int):Is K Y k H (.int i) (.int i):=by unfold Is;rfl
theorem ofS(i:Str):Is K Y k H (.str i) (.str i):=by unfold Is;rfl
theorem ofB(i:Bool):Is K Y k H (.bl i) (.bl i):=by unfold Is;rfl
theorem ofN:Is K Y k H .non .non:=by unfold Is;rfl
theorem Eg(h:IsL K Y k H [d] vs):∃v,vs=[v]/\Is K Y k H d v:=by
 unfold IsL at h;obtain⟨v,vs',rfl,h1,h2⟩:=h;unfold IsL at h2;subst h2;exact⟨v,rfl,h1⟩
theorem VZ(h:IsL K Y k H [d,d'] vs):∃v v',vs=[v,v']/\Is K Y k H d v/\Is K Y k H d' v':=by
 unfold IsL at h;obtain⟨v,vs',rfl,h1,h2⟩:=h;obtain⟨v',rfl,h3⟩:=Eg h2;exact⟨v,v',rfl,h1,h3⟩
theorem Y7(h:IsL K Y k H ds vs)(e:atI ds i=some d):∃v,atI vs i=some v/\Is K Y k H d v:=by
 unfold atI at e ⊢;rw[h.length];cases q:ixN ds.length i with
 |none=>rw[q] at e;cases e
 |some j=>
  rw[q] at e;exact h.get e
theorem TQ(h:IsL K Y k H ds vs):IsL K Y k H ((ds.drop (HT.sIx ds.length 0 lo)).take (HT.sIx ds.length ds.length hi-HT.sIx ds.length 0 lo)) (MV vs lo hi):=by
 unfold MV;rw[h.length];exact(h.drop _).take _
end
noncomputable def K8(C:Int->Int->Prop)[∀i j,Decidable (C i j)](g:Int->Int->D):D->D->M D
 | .int i,.int j=>λZ=>if C i j then some (g i j,Z) else none
 |_,_=>BD
noncomputable def Bq:D->D->M D:=K8 (λ_ _=>True) λi j=>.int (i-j)
noncomputable def Ep:D->D->M D:=K8 (λ_ j=>0<j/\j<1073741824) λi j=>.int (i / j)
noncomputable def EE:D->D->M D:=K8 (λ_ j=>0<j) λi j=>.int (i % j)
noncomputable def WM:D->D->M D:=K8 (λi j=>0<=j/\j<=1000000/\i.natAbs<2 ^ 64) λi j=>.int (i ^ j.toNat)
noncomputable def NC:D->D->M D:=K8 (λ_ _=>True) λi j=>.bl (decide (i<j))
noncomputable def ND:D->D->M D:=K8 (λ_ _=>True) λi j=>.bl (decide (i<=j))
noncomputable def Hz:D->D->M D:=K8 (λ_ _=>True) λi j=>.bl (decide (j<i))
noncomputable def UZ:D->D->M D:=K8 (λ_ _=>True) λi j=>.bl (decide (j<=i))
section
variable{X:Cx}
theorem Ff[∀i j,Decidable (C i j)](hg:∀i j Y k H,Is X.kw Y k H (g i j) (gv i j))(ho:OpR X f (rI C gv)):OpR X f (rM X.kw (K8 C g)):=OpR.wk ho λx y H Q h=>by
 obtain⟨Y,Z,a,b,d,Z',R,ia,ib,e,q⟩:=h;cases a with
 |int i=>
  cases b with
  |int j=>
   have e':(if C i j then some (g i j,Z) else none)=some (d,Z'):=e;split at e'
   ·rename_i hc;cases e';exact⟨i,j,Bj ia,Bj ib,hc,q Y H R.ext0 R _ (hg i j _ _ _)⟩
   ·cases e'
  |_=>cases e
 |_=>cases e
theorem OpR.ofI0(ho:OpR X f (rI0 gv)):OpR X f (rI (λ_ _=>True) gv):=OpR.wk ho λx y H Q h=>by
 obtain⟨i,j,h1,h2,_,q⟩:=h;exact⟨i,j,h1,h2,q⟩
theorem DP:OpR X (binaryOp .Sub) (rM X.kw Bq):=Ff (λ_ _ _ _ _=>ofI _) (OpR.ofI0 Xz)
theorem HJ:OpR X (binaryOp .FloorDiv) (rM X.kw Ep):=Ff (λ_ _ _ _ _=>ofI _) U0
theorem Go:OpR X (binaryOp .Mod) (rM X.kw EE):=Ff (λ_ _ _ _ _=>ofI _) X4
theorem aH:OpR X (binaryOp .Pow) (rM X.kw WM):=Ff (λ_ _ _ _ _=>ofI _) X1
theorem SM:OpR X (compareOp .Lt) (rM X.kw NC):=Ff (λ_ _ _ _ _=>ofB _) (OpR.ofI0 Z9)
theorem Pp:OpR X (compareOp .LtE) (rM X.kw ND):=Ff (λ_ _ _ _ _=>ofB _) (OpR.ofI0 aA)
theorem YC:OpR X (compareOp .Gt) (rM X.kw Hz):=Ff (λ_ _ _ _ _=>ofB _) (OpR.ofI0 aB)
theorem aJ:OpR X (compareOp .GtE) (rM X.kw UZ):=Ff (λ_ _ _ _ _=>ofB _) (OpR.ofI0 aC)
noncomputable def Ro:D->M D
 | .int i=>ret (.int (-i))
 |_=>BD
theorem WR:UnR X (unaryOp .USub) (rM1 X.kw Ro):=λw6 s O H x v Q I r h=>by
 obtain⟨Y,Z,a,d,Z',R,ia,e,q⟩:=h;cases a with
 |int i=>
  cases e;have z:=Bj ia;subst z;exact Wy w6 s O H _ v Q I r ⟨i,rfl,q Y H R.ext0 R _ (ofI _)⟩
 |_=>cases e
noncomputable def Rp:D->D->M D
 | .int i,.int j=>ret (.int (i+j))
 | .str i,.str j=>bnd (lim (i.length+j.length)) λ_=>ret (.str (i++j))
 | .lst a,.lst b=>A0 (a++b)
 | .tup [],.tup b=>BD
 | .tup (a::as),.tup b=>A4 (a::as++b)
 |_,_=>BD
theorem aK:OpR X (binaryOp .Add) (rM X.kw Rp):=λw6 s O H x y v u Q I rx ry h=>by
 obtain⟨Y,Z,a,b,d,Z',R,ia,ib,e,q⟩:=h;unfold Rp at e;split at e
 ·cases e;cases Bj ia;cases Bj ib;exact X8 w6 s O H _ _ v u Q I rx ry ⟨_,_,rfl,rfl,q Y H R.ext0 R _ (ofI _)⟩
 ·obtain⟨_,w9,e1,e2⟩:=AH e;obtain⟨hl,rfl⟩:=DC e1;cases e2;cases Cy ia;cases Cy ib;exact NI w6 s O H _ _ v u Q I rx ry ⟨_,_,rfl,rfl,hl,q Y H R.ext0 R _ (ofS _)⟩
 ·unfold Is at ia ib;obtain⟨p,vs,rfl,h1,hn,h2⟩:=ia;obtain⟨p',vs',rfl,h1',hn',h2'⟩:=ib;obtain⟨hl,w⟩:=II R (h2.append h2') e q;exact X7 w6 s O H _ _ v u Q I rx ry ⟨p,p',vs,vs',rfl,rfl,h1,h1',by rw[←AAH];exact hl,w⟩
 ·cases e
 ·rename_i a as bs;unfold Is at ia ib;obtain⟨p,vs,rfl,h1,h2⟩:=ia;obtain⟨p',vs',rfl,h1',h2'⟩:=ib;obtain⟨hl,w⟩:=Od R (h2.append h2') e q;refine U1 w6 s O H _ _ v u Q I rx ry ⟨p,p',vs,vs',rfl,rfl,h1,h1',λz=>?_,by rw[←AAH];exact hl,λz=>?_,λ_=>w⟩
  ·have:=h2.length;rw[z] at this;cases this
  ·subst z;have hb:bs=[]:=by
    have:=h2'.length;cases bs with
    |nil=>rfl
    |cons _ _=>cases this
   subst hb;obtain⟨_,w9,e1,e2⟩:=AH e;obtain⟨hl,rfl⟩:=DC e1;cases e2;exact q Y H R.ext0 R _ (by unfold Is;exact⟨p,vs,rfl,h1,by rw[AAX];exact h2⟩)
 ·cases e
noncomputable def C7:D->D->M D
 | .int i,.int j=>λZ=>if (-(2 ^ 64)<i/\i<2 ^ 64)∨(-(2 ^ 64)<j/\j<2 ^ 64) then some (.int (i * j),Z) else none
 | .lst a,.int j=>λZ=>if -(2 ^ 63)<=j/\j<2 ^ 63/\a.length * j.toNat<=sizeLine then A0 (List.replicate j.toNat a).flatten Z else none
 |_,_=>BD
theorem IsL.rep(h:IsL K Y k H ds vs):∀n:Nat,IsL K Y k H (List.replicate n ds).flatten (List.replicate n vs).flatten
 |0=>.nil
 |n+1=>by
  rw[AAi,AAi,List.flatten_cons,List.flatten_cons];exact h.append (IsL.rep h n)
theorem Fe:OpR X (binaryOp .Mult) (rM X.kw C7):=λw6 s O H x y v u Q I rx ry h=>by
 obtain⟨Y,Z,a,b,d,Z',R,ia,ib,e,q⟩:=h;unfold C7 at e;split at e
 ·split at e
  ·rename_i hc;cases e;cases Bj ia;cases Bj ib;exact X3 w6 s O H _ _ v u Q I rx ry ⟨_,_,rfl,rfl,hc,q Y H R.ext0 R _ (ofI _)⟩
  ·cases e
 ·split at e
  ·rename_i hc;cases Bj ib;unfold Is at ia;obtain⟨p,vs,rfl,h1,hn,h2⟩:=ia;obtain⟨hl,w⟩:=II R (h2.rep _) e q;exact X0 w6 s O H _ _ v u Q I rx ry ⟨p,_,vs,rfl,rfl,h1,hc.1,hc.2.1,by rw[h2.length];exact hc.2.2,w⟩
  ·cases e
 ·cases e
mutual
def toP(Z:Mh):D->Option PyData
 | .non=>some .none
 | .bl b=>some (.bool b)
 | .int i=>some (.int i)
 | .str x=>some (.str x)
 | .ty _=>none
 | .scr ns=>some (.list (ns.map PyData.int))
 | .tup ds=>(Hw Z ds).map PyData.tuple
 | .lst ds=>(Hw Z ds).map PyData.list
 | .ref _=>none
def Hw(Z:Mh):List D->Option (List PyData)
 |[]=>some []
 |d::ds=>(toP Z d).bind λp=>(Hw Z ds).map (p::·)
end
noncomputable def Qu(Z:Mh):D->Option PyData
 | .ref n=>match Z[n]? with
  |some (.lst ds)=>(Hw Z ds).map PyData.list
  |_=>none
 |d=>toP Z d
section
variable{K:KW}{Y:Nat->Addr}{Z:Mh}{H:Hp}{k:Nat}
theorem O2:∀(ns:List Int),DatVs K H (ns.map V.int) (ns.map PyData.int)
 |[]=>.nil
 |n::r=>.cons (.int n) (O2 r)
mutual
theorem Is.dat:∀{d:D} {v:V} {p:PyData},Is K Y k H d v->toP Z d=some p->DatV K H v p
 | .non,_,_,h,e=>by unfold Is at h;unfold toP at e;cases e;subst h;exact .non
 | .bl b,_,_,h,e=>by unfold Is at h;unfold toP at e;cases e;subst h;exact .bl b
 | .int b,_,_,h,e=>by unfold Is at h;unfold toP at e;cases e;subst h;exact .int b
 | .str b,_,_,h,e=>by unfold Is at h;unfold toP at e;cases e;subst h;exact .str b
 | .ty b,_,_,h,e=>by unfold toP at e;cases e
 | .scr ns,_,_,h,e=>by
  unfold Is at h;unfold toP at e;cases e;obtain⟨p,rfl,h⟩:=h;exact .lst h.sq (O2 ns)
 | .tup ds,_,_,h,e=>by
  unfold Is at h;unfold toP at e;obtain⟨p,vs,rfl,h1,h2⟩:=h;cases q:Hw Z ds with
  |none=>rw[q] at e;cases e
  |some ps=>rw[q] at e;cases e;exact .tup h1 (IsL.dat h2 q)
 | .lst ds,_,_,h,e=>by
  unfold Is at h;unfold toP at e;obtain⟨p,vs,rfl,h1,_,h2⟩:=h;cases q:Hw Z ds with
  |none=>rw[q] at e;cases e
  |some ps=>rw[q] at e;cases e;exact .lst (SqL.of h1) (IsL.dat h2 q)
 | .ref n,_,_,h,e=>by unfold toP at e;cases e
theorem IsL.dat:∀{ds:List D} {vs:List V} {ps:List PyData},IsL K Y k H ds vs->Hw Z ds=some ps->DatVs K H vs ps
 |[],_,_,h,e=>by unfold IsL at h;unfold Hw at e;cases e;subst h;exact .nil
 |d::ds,_,_,h,e=>by
  unfold IsL at h;unfold Hw at e;obtain⟨v,vs',rfl,h1,h2⟩:=h;cases q:toP Z d with
  |none=>rw[q] at e;cases e
  |some p=>
   rw[q] at e;cases q2:Hw Z ds with
   |none=>rw[q2] at e;cases e
   |some ps=>rw[q2] at e;cases e;exact .cons (Is.dat h1 q) (IsL.dat h2 q2)
end
theorem Vp(R:RelH K Y Z H)(h:Is K Y Z.length H d v)(e:Qu Z d=some p):DatV K H v p:=by
 cases d with
 |ref n=>
  unfold Is at h;obtain⟨_,rfl⟩:=h;have e':(match Z[n]? with|some (.lst ds)=>(Hw Z ds).map PyData.list|_=>none)=some p:=e;split at e'
  ·rename_i ds hq;obtain⟨u,h1,vs,rfl,h2⟩:=R.obj n _ hq;cases q:Hw Z ds with
   |none=>rw[q] at e';cases e'
   |some ps=>rw[q] at e';cases e';exact .lst (SqL.of h1) (IsL.dat h2 q)
  ·cases e'
 |_=>exact Is.dat (Z:=Z) h e
end
noncomputable def OT(neg:Bool)(a b:D):M D:=λZ=>match Qu Z a,Qu Z b with
 |some p,some q=>if SeqAt.shaped p=true/\SeqAt.shaped q=true then some (.bl (if neg then !PyData.eqv p q else PyData.eqv p q),Z) else none
 |_,_=>none
noncomputable def BO:D->D->M D:=OT false
noncomputable def Dd:D->D->M D:=OT true
theorem Im(e:OT neg a b Z=some (d,Z')):∃p q,Qu Z a=some p/\Qu Z b=some q/\SeqAt.shaped p=true/\SeqAt.shaped q=true/\d=.bl (if neg then !PyData.eqv p q else PyData.eqv p q)/\Z'=Z:=by
 unfold OT at e;split at e
 ·rename_i p q e1 e2;split at e
  ·rename_i h;cases e;exact⟨p,q,e1,e2,h.1,h.2,rfl,rfl⟩
  ·cases e
 ·cases e
theorem Bv(hr:Room k X.A):OpR X (compareOp .Eq) (rM X.kw BO):=OpR.wk (X6 (RZ hr)) λx y H Q h=>by
 obtain⟨Y,Z,a,b,d,Z',R,ia,ib,e,q⟩:=h;obtain⟨p,p',e1,e2,s1,s2,rfl,rfl⟩:=Im e;exact⟨p,p',Vp R ia e1,Vp R ib e2,s1,s2,q Y H R.ext0 R _ (ofB _)⟩
theorem H9(hr:Room k X.A):OpR X (compareOp .NotEq) (rM X.kw Dd):=OpR.wk (X2 (RZ hr)) λx y H Q h=>by
 obtain⟨Y,Z,a,b,d,Z',R,ia,ib,e,q⟩:=h;obtain⟨p,p',e1,e2,s1,s2,rfl,rfl⟩:=Im e;exact⟨p,p',Vp R ia e1,Vp R ib e2,s1,s2,q Y H R.ext0 R _ (ofB _)⟩
noncomputable def isN:D->Bool
 | .non=>true
 |_=>false
noncomputable def GC(neg:Bool):D->D->M D
 |a,.non=>ret (.bl (if neg then !isN a else isN a))
 |_,_=>BD
theorem Ow(h:Is K Y k H a x):decide (x=V.non)=isN a:=by
 cases a with
 |non=>unfold Is at h;subst h;rfl
 |bl b=>unfold Is at h;subst h;rfl
 |int b=>unfold Is at h;subst h;rfl
 |str b=>unfold Is at h;subst h;rfl
 |ty b=>unfold Is at h;subst h;rfl
 |scr ns=>unfold Is at h;obtain⟨p,rfl,_⟩:=h;rfl
 |tup ns=>unfold Is at h;obtain⟨p,o,rfl,_⟩:=h;rfl
 |lst ns=>unfold Is at h;obtain⟨p,o,rfl,_⟩:=h;rfl
 |ref ns=>unfold Is at h;obtain⟨_,rfl⟩:=h;rfl
theorem VA:OpR X (compareOp .Is) (rM X.kw (GC false)):=OpR.wk X5 λx y H Q h=>by
 obtain⟨Y,Z,a,b,d,Z',R,ia,ib,e,q⟩:=h;cases b with
 |non=>cases e;exact⟨NY ib,by rw[Ow ia];exact q Y H R.ext0 R _ (ofB _)⟩
 |_=>cases e
theorem U9:OpR X (compareOp .IsNot) (rM X.kw (GC true)):=OpR.wk Uz λx y H Q h=>by
 obtain⟨Y,Z,a,b,d,Z',R,ia,ib,e,q⟩:=h;cases b with
 |non=>cases e;exact⟨NY ib,by rw[Ow ia];exact q Y H R.ext0 R _ (ofB _)⟩
 |_=>cases e
noncomputable def MM:D->Option V
 | .non=>some .non
 | .bl b=>some (.bl b)
 | .int i=>some (.int i)
 | .str x=>some (.str x)
 |_=>none
noncomputable def HW:List D->Option (List V)
 |[]=>some []
 |d::ds=>(MM d).bind λv=>(HW ds).map (v::·)
section
variable{K:KW}{Y:Nat->Addr}{H:Hp}{k:Nat}
theorem JI(h:Is K Y k H d x)(e:MM d=some v):x=v/\DY v=true:=by
 cases d with
 |non=>cases e;unfold Is at h;exact⟨h,rfl⟩
 |bl b=>cases e;unfold Is at h;exact⟨h,rfl⟩
 |int b=>cases e;unfold Is at h;exact⟨h,rfl⟩
 |str b=>cases e;unfold Is at h;exact⟨h,rfl⟩
 |_=>cases e
theorem HV:∀{ds:List D} {vs xs:List V},IsL K Y k H ds xs->HW ds=some vs->xs=vs/\vs.all DY=true
 |[],_,_,h,e=>by cases e;unfold IsL at h;exact⟨h,rfl⟩
 |d::ds,_,_,h,e=>by
  unfold IsL at h;obtain⟨v,vs',rfl,h1,h2⟩:=h;unfold HW at e;cases q:MM d with
  |none=>rw[q] at e;cases e
  |some w=>
   rw[q] at e;cases q2:HW ds with
   |none=>rw[q2] at e;cases e
   |some ws=>
    rw[q2] at e;cases e;obtain⟨rfl,f1⟩:=JI h1 q;obtain⟨rfl,f2⟩:=HV h2 q2;exact⟨rfl,by rw[List.all_cons,f1,f2];rfl⟩
end
noncomputable def ES:D->M (List D)
 | .tup ds=>ret ds
 |d=>E9 d
theorem El(R:RelH K Y Z H)(i:Is K Y Z.length H d v)(e:ES d Z=some (ds,Z')):Z'=Z/\∃p vs,v=.ref p/\(SqL K H p vs∨SqT K H p vs)/\IsL K Y Z.length H ds vs:=by
 cases d with
 |tup es=>
  cases e;unfold Is at i;obtain⟨p,vs,rfl,h1,h2⟩:=i;exact⟨rfl,p,vs,rfl,.inr h1,h2⟩
 |lst es=>obtain⟨h,p,vs,a,b,c⟩:=CL R i e;exact⟨h,p,vs,a,.inl b,c⟩
 |scr es=>obtain⟨h,p,vs,a,b,c⟩:=CL R i e;exact⟨h,p,vs,a,.inl b,c⟩
 |ref es=>obtain⟨h,p,vs,a,b,c⟩:=CL R i e;exact⟨h,p,vs,a,.inl b,c⟩
 |_=>cases e
noncomputable def Wb(neg:Bool)(a b:D):M D:=bnd (ES b) λds=>λZ=>match MM a,HW ds with
 |some x,some xs=>some (.bl (if neg then !inV x xs else inV x xs),Z)
 |_,_=>none
noncomputable def NE(neg:Bool):D->D->M D
 | .str i,.str j=>ret (.bl (if neg then !(!(Builtin.Str.occurrences j i 0 j.length 1).isEmpty) else !(Builtin.Str.occurrences j i 0 j.length 1).isEmpty))
 |a,b=>Wb neg a b
theorem Rn(R:RelH K Y Z H)(ia:Is K Y Z.length H a x)(ib:Is K Y Z.length H b y)(e:Wb neg a b Z=some (d,Z'))(q:Aft K Y Z H Z' λY' H'=>∀v,Is K Y' Z'.length H' d v->Q v H'):rIn K neg x y H Q:=by
 obtain⟨ds,w9,e1,e2⟩:=AH e;obtain⟨hm,p,vs,rfl,h1,h2⟩:=El R ib e1;subst hm;split at e2
 ·rename_i w ws q1 q2;cases e2;obtain⟨rfl,f1⟩:=JI ia q1;obtain⟨rfl,f2⟩:=HV h2 q2;exact⟨p,_,rfl,h1,f1,f2,q Y H R.ext0 R _ (ofB _)⟩
 ·cases e2
theorem aI:OpR X (compareOp .In) (rM X.kw (NE false)):=λw6 s O H x y v u Q I rx ry h=>by
 obtain⟨Y,Z,a,b,d,Z',R,ia,ib,e,q⟩:=h;unfold NE at e;split at e
 ·cases e;cases Cy ia;cases Cy ib;exact Pm w6 s O H _ _ v u Q I rx ry ⟨_,_,rfl,rfl,q Y H R.ext0 R _ (ofB _)⟩
 ·exact Pn w6 s O H _ _ v u Q I rx ry (Rn R ia ib e q)
theorem U8:OpR X (compareOp .NotIn) (rM X.kw (NE true)):=λw6 s O H x y v u Q I rx ry h=>by
 obtain⟨Y,Z,a,b,d,Z',R,ia,ib,e,q⟩:=h;unfold NE at e;split at e
 ·cases e;cases Cy ia;cases Cy ib;exact Kv w6 s O H _ _ v u Q I rx ry ⟨_,_,rfl,rfl,q Y H R.ext0 R _ (ofB _)⟩
 ·exact Kw w6 s O H _ _ v u Q I rx ry (Rn R ia ib e q)
noncomputable def ixD(ds:List D)(i:Int):M D:=λZ=>(atI ds i).map λd=>(d,Z)
noncomputable def AM:D->D->M D
 | .str z,.int i=>λZ=>if z.length<=sizeLine then (atI z.cps.toList i).map λc=>(.str ⟨#[c]⟩,Z) else none
 |a,.int i=>bnd (ES a) λds=>ixD ds i
 |_,_=>BD
theorem AU:IxR X (rM X.kw AM):=λva sl w6 s O H x y v u Q I rx ry h hsl=>by
 obtain⟨Y,Z,a,b,d,Z',R,ia,ib,e,q⟩:=h;unfold AM at e;split at e
 ·split at e
  ·rename_i z i hl;cases Cy ia;cases Bj ib;cases qq:atI z.cps.toList i with
   |none=>rw[qq] at e;cases e
   |some c=>
    rw[qq] at e;cases e;exact NW va sl w6 s O H _ _ v u Q I rx ry (.inr (.inr ⟨z,i,c,rfl,rfl,hl,qq,q Y H R.ext0 R _ (ofS _)⟩)) hsl
  ·cases e
 ·cases Bj ib;obtain⟨ds,w9,e1,e2⟩:=AH e;obtain⟨hm,p,vs,rfl,h1,h2⟩:=El R ia e1;subst hm;rename_i i _;unfold ixD at e2;cases qq:atI ds i with
  |none=>rw[qq] at e2;cases e2
  |some c=>
   rw[qq] at e2;cases e2;obtain⟨w,ew,iw⟩:=Y7 h2 qq;rcases h1 with h1|h1
   ·exact NW va sl w6 s O H _ _ v u Q I rx ry (.inl ⟨p,vs,i,w,rfl,rfl,h1,ew,q Y H R.ext0 R _ iw⟩) hsl
   ·exact NW va sl w6 s O H _ _ v u Q I rx ry (.inr (.inl ⟨p,vs,i,w,rfl,rfl,h1,ew,q Y H R.ext0 R _ iw⟩)) hsl
 ·cases e
noncomputable def Bc:List D->M D
 |[.str z]=>λZ=>if z.length<=sizeLine then some (.int z.length,Z) else none
 |[.ref n]=>λZ=>match Z[n]? with
  |some (.lst ds)=>some (.int ds.length,Z)
  |_=>none
 |[d]=>bnd (ES d) λds=>ret (.int ds.length)
 |_=>BD
theorem Bn:Bo X (.builtin "len") (rMA X.kw Bc):=λw6 s O H xs us Q I r h=>by
 obtain⟨Y,Z,as,d,Z',R,ia,e,q⟩:=h;refine TY w6 s O H xs us Q I r ?_;unfold Bc at e;split at e
 ·rename_i z;obtain⟨v,rfl,i1⟩:=Eg ia;split at e
  ·rename_i hl;cases e;cases Cy i1;exact⟨_,_,rfl,⟨hl,rfl⟩,q Y H R.ext0 R _ (ofI _)⟩
  ·cases e
 ·rename_i n;obtain⟨v,rfl,i1⟩:=Eg ia;unfold Is at i1;obtain⟨_,rfl⟩:=i1;split at e
  ·rename_i ds hq;cases e;obtain⟨u,h1,vs,rfl,h2⟩:=R.obj n _ hq;exact⟨_,_,rfl,.inl ⟨vs,SqL.of h1,rfl⟩,by rw[h2.length];exact q Y H R.ext0 R _ (ofI _)⟩
  ·cases e
 ·obtain⟨v,rfl,i1⟩:=Eg ia;obtain⟨ds,w9,e1,e2⟩:=AH e;obtain⟨hm,p,vs,rfl,h1,h2⟩:=El R i1 e1;subst hm;cases e2;rw[←h2.length] at q;rcases h1 with h1|h1
  ·exact⟨_,_,rfl,.inl ⟨vs,h1,rfl⟩,q Y H R.ext0 R _ (ofI _)⟩
  ·exact⟨_,_,rfl,.inr ⟨vs,h1,rfl⟩,q Y H R.ext0 R _ (ofI _)⟩
 ·cases e
noncomputable def MW(ds:List D)(lo hi:Option Int):List D:=(ds.drop (HT.sIx ds.length 0 lo)).take (HT.sIx ds.length ds.length hi-HT.sIx ds.length 0 lo)
noncomputable def XX(lo hi:Option Int):D->M D
 | .tup ds=>if HT.sIx ds.length 0 lo=0/\HT.sIx ds.length ds.length hi=ds.length then BD else ret (.tup (MW ds lo hi))
 |d=>bnd (E9 d) λds=>ret (.lst (MW ds lo hi))
noncomputable def rMS(K:KW):V->Option Int->Option Int->Hp->VK->Prop:=λx lo hi H Q=>∃Y Z a d Z',RelH K Y Z H/\Is K Y Z.length H a x/\XX lo hi a Z=some (d,Z') /\
 Aft K Y Z H Z' λY' H'=>∀v,Is K Y' Z'.length H' d v->Q v H'
theorem On{K:KW}{Y:Nat->Addr}{Z:Mh}{vs:List V}{Q:VK}(R:RelH K Y Z H)(i:IsL K Y Z.length H ds vs)(q:Aft K Y Z H Z λY' H'=>∀v,Is K Y' Z.length H' (.lst ds) v->Q v H')(p:Addr)(hp:H p=none):Q (.ref p) (upd H p (.lst vs)):=by
 obtain⟨E1,R1⟩:=R.laid (.lst vs) hp;have ho:∀n,n<Z.length->Y n≠p:=λn hn z=>by
  obtain⟨o,e,_⟩:=R.muts n hn;rw[z,hp] at e;cases e
 exact q Y _ E1 R1 _ (by unfold Is;exact⟨p,vs,rfl,BK,ho,i.ext E1⟩)
theorem Om{K:KW}{Y:Nat->Addr}{Z:Mh}{vs:List V}{Q:VK}(R:RelH K Y Z H)(i:IsL K Y Z.length H ds vs)(q:Aft K Y Z H Z λY' H'=>∀v,Is K Y' Z.length H' (.tup ds) v->Q v H')(p:Addr)(hp:H p=none):Q (.ref p) (upd H p (.tup vs)):=by
 obtain⟨E1,R1⟩:=R.laid (.tup vs) hp;exact q Y _ E1 R1 _ (by unfold Is;exact⟨p,vs,rfl,SqT.of BK,i.ext E1⟩)
theorem aG:SlR X (rMS X.kw):=λw6 s O H x v vl vu lo hi sl Q I rx hs pl pu h=>by
 obtain⟨Y,Z,a,d,Z',R,ia,e,q⟩:=h;refine(SlR.or UE XF) w6 s O H x v vl vu lo hi sl Q I rx hs pl pu ?_;unfold XX at e;split at e
 ·rename_i ds;unfold Is at ia;obtain⟨p,vs,rfl,h1,h2⟩:=ia;split at e
  ·cases e
  ·rename_i hc;cases e;exact .inr ⟨p,vs,rfl,h1,by rw[h2.length];exact hc,λp hp=>Om R (TQ h2) q p hp⟩
 ·obtain⟨ds,w9,e1,e2⟩:=AH e;obtain⟨hm,p,vs,rfl,h1,h2⟩:=CL R ia e1;subst hm;cases e2;exact .inl ⟨p,vs,rfl,h1,λp hp=>On R (TQ h2) q p hp⟩
noncomputable def mSl(me:Sl->M D)(ml mh:Sl->M (Option Int)):Sl->M D:=λB=>bnd (me B) λx=>bnd (ml B) λl=>bnd (mh B) λh=>XX l h x
noncomputable def BJ:Sl->M (Option Int):=λ_=>ret none
noncomputable def asI:D->M (Option Int)
 | .int i=>ret (some i)
 |_=>BD
noncomputable def BV(m:Sl->M D):Sl->M (Option Int):=λB=>bnd (m B) asI
noncomputable def tPt(K:KW)(m:Sl->M (Option Int)):TO:=λO H Q=>∃Y Z B b Z',RelH K Y Z H/\RelS K Y Z.length H B O/\m B Z=some (b,Z')/\Aft K Y Z H Z' λ_ H'=>Q b H'
structure RO(X:Cx)(e:Option Expr)(m:Sl->M (Option Int)):Prop where
 pe:PO X e (tPt X.kw m)
theorem PO.wk(h:PO X e t)(w:∀O H Q,t' O H Q->t O H Q):PO X e t':=λw6 s O H Q I q=>h w6 s O H Q I (w O H Q q)
theorem RO.wk(h:PO X e t)(w:∀O H Q,tPt X.kw m O H Q->t O H Q):RO X e m:=⟨PO.wk h w⟩
theorem Bw:RO X none BJ:=RO.wk Ul λO H Q h=>by
 obtain⟨Y,Z,B,b,Z',R,S,e,q⟩:=h;cases e;exact q Y H R.ext0 R
theorem BT(h:RE X e m):RO X (some e) (BV m):=RO.wk (Uk h.pe) λO H Q h=>by
 obtain⟨Y,Z,B,b,Z',R,S,e,q⟩:=h;obtain⟨x,w9,e1,e⟩:=AH e;refine⟨Y,Z,B,x,w9,R,S,e1,λv5 H1 E1 R1 v i1=>?_⟩;cases x with
 |int i=>cases e;exact⟨i,Bj i1,q v5 H1 E1 R1⟩
 |_=>cases e
theorem WJ(he:RE X e me)(hl:RO X lo ml)(hh:RO X hi mh):RE X (.Subscript e (.Slice lo hi none p2) pos) (mSl me ml mh):=RE.wk (Lz aG he.pe hl.pe hh.pe) λO H Q h=>by
 obtain⟨Y,Z,B,z,Z',R,S,e,q⟩:=h;obtain⟨x,w9,e1,e⟩:=AH e;obtain⟨l,u9,e2,e⟩:=AH e;obtain⟨u,j6,e3,e⟩:=AH e;refine⟨Y,Z,B,x,w9,R,S,e1,λv5 H1 E1 R1 v i1=>⟨v5,w9,B,l,u9,R1,S.ext E1,e2,λv8 H2 E2 R2=>⟨v8,u9,B,u,j6,R2,S.ext (E1.trans E2),e3,λj7 H3 E3 R3=>?_⟩⟩⟩;have E23:=E2.trans E3;exact⟨j7,j6,x,z,Z',R3,i1.ext E23,e,λj9 H4 E4 R4=>q j9 H4 ((E1.trans E23).trans E4) R4⟩
noncomputable def tyD(Z:Mh):D->Option String
 | .non=>some "NoneType"
 | .bl _=>some "bool"
 | .int _=>some "int"
 | .str _=>some "str"
 | .tup _=>some "tuple"
 | .lst _=>some "list"
 | .scr _=>none
 | .ref n=>match Z[n]? with
  |some (.lst _)=>some "list"
  |some (.dK _)=>some "dict"
  |some (.dC _)=>none
  |some (.ins _ _)=>none
  |some (.dP _)=>none
  |some (.exc _ _)=>none
  |none=>none
 | .ty _=>none
noncomputable def Ov(t T:String):Option Bool:=
 if t∈["NoneType", "bool", "int", "str", "tuple", "list", "dict"]/\T∈["bool", "int", "str", "tuple", "list", "dict"] then some (t==T||(t == "bool" && T == "int")) else none
theorem VQ(h:Ov t T=some b):PySem.W.kitOne K (.type t) (.type T)=some b:=by
 unfold Ov at h;split at h
 ·rename_i hm;obtain⟨h1,h2⟩:=hm;simp only[AAJ,List.not_mem_nil,or_false] at h1 h2;rcases h1 with rfl|rfl|rfl|rfl|rfl|rfl|rfl<;>rcases h2 with rfl|rfl|rfl|rfl|rfl|rfl<;>(cases h;kernel_rfl)
 ·cases h
noncomputable def Hn:List D->M D
 |[a,.ty T]=>λZ=>match tyD Z a with
  |some t=>(Ov t T).map λb=>(.bl b,Z)
  |none=>none
 |_=>BD
theorem Ha:Bo X (.builtin "isinstance") (rMA X.kw Hn):=λw6 s O H xs us Q I r h=>by
 obtain⟨Y,Z,as,d,Z',R,ia,e,q⟩:=h;unfold Hn at e;split at e
 ·rename_i a T;obtain⟨v,v',rfl,i1,i2⟩:=VZ ia;cases aV i2;split at e
  ·rename_i t ht;cases hk:Ov t T with
   |none=>rw[hk] at e;cases e
   |some b=>
    rw[hk] at e;cases e;have kit:=VQ (K:=X.kw) hk;have fin:=q Y H R.ext0 R _ (ofB b);have byTy:HA X.kw H v (.type t)->wpAny (model X.prog X.w) X.A (call (.builtin "isinstance") us) (EP X w6 O Q) X.xe s:=λty=>
     Mb w6 s O H _ us Q I r ⟨v,T,_,b,rfl,ty,kit,fin⟩
    cases a with
    |non=>cases ht;cases NY i1;exact byTy .non
    |bl x=>cases ht;cases Si i1;exact byTy (.bl x)
    |int x=>cases ht;cases Bj i1;exact byTy (.int x)
    |str x=>cases ht;cases Cy i1;exact byTy (.str x)
    |ty n=>cases ht
    |lst ds=>cases ht;unfold Is at i1;obtain⟨p,vs,rfl,h1,_⟩:=i1;exact byTy (.lst h1)
    |scr ns=>cases ht
    |ref n=>
     unfold Is at i1;obtain⟨_,rfl⟩:=i1;have ht:(match Z[n]? with|some (.lst _)=>some "list" |some (.dK _)=>some "dict" |some (.dC _)=>none|some (.ins _ _)=>none|some (.dP _)=>none|some (.exc _ _)=>none|none=>none)=some t:=ht;split at ht
     ·rename_i ds hq;cases ht;obtain⟨u,h1,vs,rfl,h2⟩:=R.obj n _ hq;exact byTy (.lst h1)
     ·rename_i ds hq;cases ht;obtain⟨u,h1,vs,rfl,h2⟩:=R.obj n _ hq;exact byTy (.dK h1)
     ·cases ht
     ·cases ht
     ·cases ht
     ·cases ht
     ·cases ht
    |tup ds=>
     cases ht;unfold Is at i1;obtain⟨p,vs,rfl,h1,h2⟩:=i1;obtain⟨its,_,⟨o,g1,g2,_⟩,_⟩:=I.tuple h1;obtain⟨u1,u2,rfl,r1,r2⟩:=Vals.two r;cases r1;cases r2;exact PySem.W.kia_one PySem.W.kitx_tuple I.kIn ⟨o,g1,g2⟩ kit (λz=>nomatch z) λtk=>⟨.bl b,H,I.tok _,rfl,fin⟩
  ·cases e
 ·cases e
noncomputable def P6:List D->M D
 |[.int i]=>ret (.int i)
 |[.bl b]=>ret (.int (if b then 1 else 0))
 |_=>BD
theorem Wh:Bo X (.type "int") (rMA X.kw P6):=λw6 s O H xs us Q I r h=>by
 obtain⟨Y,Z,as,d,Z',R,ia,e,q⟩:=h;refine QZ w6 s O H xs us Q I r ?_;unfold P6 at e;split at e
 ·obtain⟨v,rfl,i1⟩:=Eg ia;cases e;cases Bj i1;exact .inl ⟨_,rfl,q Y H R.ext0 R _ (ofI _)⟩
 ·obtain⟨v,rfl,i1⟩:=Eg ia;cases e;cases Si i1;exact .inr ⟨_,rfl,q Y H R.ext0 R _ (ofI _)⟩
 ·cases e
noncomputable def Ps:List D->M D
 |[.int i,.int j]=>ret (.int (if j > i then j else i))
 |_=>BD
noncomputable def VG:List D->M D
 |[.int i,.int j]=>ret (.int (if j<i then j else i))
 |_=>BD
theorem Wg(hc:X.calm=true):Bo X (.builtin "max") (rMA X.kw Ps):=λw6 s O H xs us Q I r h=>by
 obtain⟨Y,Z,as,d,Z',R,ia,e,q⟩:=h;refine QV hc w6 s O H xs us Q I r ?_;unfold Ps at e;split at e
 ·obtain⟨v,w,rfl,i1,i2⟩:=VZ ia;cases e;cases Bj i1;cases Bj i2;exact⟨_,_,rfl,q Y H R.ext0 R _ (ofI _)⟩
 ·cases e
theorem ay(hc:X.calm=true):Bo X (.builtin "min") (rMA X.kw VG):=λw6 s O H xs us Q I r h=>by
 obtain⟨Y,Z,as,d,Z',R,ia,e,q⟩:=h;refine QR hc w6 s O H xs us Q I r ?_;unfold VG at e;split at e
 ·obtain⟨v,w,rfl,i1,i2⟩:=VZ ia;cases e;cases Bj i1;cases Bj i2;exact⟨_,_,rfl,q Y H R.ext0 R _ (ofI _)⟩
 ·cases e
noncomputable def DH:List D->M D
 |[.tup ds]=>ret (.tup ds)
 |[d]=>bnd (E9 d) λds=>ret (.tup ds)
 |_=>BD
theorem DN:Bo X (.type "tuple") (rMA X.kw DH):=λw6 s O H xs us Q I r h=>by
 obtain⟨Y,Z,as,d,Z',R,ia,e,q⟩:=h;unfold DH at e;split at e
 ·obtain⟨v,rfl,i1⟩:=Eg ia;cases e;have i2:=i1;unfold Is at i1;obtain⟨p,vs,rfl,h1,h2⟩:=i1;exact MZ w6 s O H _ us Q I r ⟨p,vs,rfl,h1,q Y H R.ext0 R _ i2⟩
 ·obtain⟨v,rfl,i1⟩:=Eg ia;obtain⟨ds,w9,e1,e2⟩:=AH e;obtain⟨hm,p,vs,rfl,h1,h2⟩:=CL R i1 e1;subst hm;cases e2;obtain⟨u,rfl,ru⟩:=Vals.one r;cases ru;obtain⟨its,rv,pl,hz⟩:=I.list h1;refine PySem.call_tuple_list pl.isList (λh' hk=>?_) (by rw[List.size_toArray,←rv.length];exact hz);have I1:Inv X w6 O H { s with heap:=h' }:=I.kept (t':=s.toks) hk;have I2:Inv X w6 O (upd H h'.objs.size (.tup vs)) { s with heap:=h'.push { cls:=.type "tuple",data:=.seq its.toArray } }:=I1.laid (t':=s.toks) (o:=.tup vs) (λb ob q=>AAC _ q) (AAF _) ⟨hz,its,rv,PyProof.Rows.IsTup.new _ _⟩;exact⟨.ref h'.objs.size,_,I2,rfl,Om R h2 q _ (I1.hok.fresh (AAF _))⟩
 ·cases e
end
section
variable{X:Cx}{e a b c o i f tg:Expr}{es:List Expr}{pos apos cpos:Pos}
theorem Q0(h:tE K (Ix g g' ma mb mc) O H Q):Q2 (rM K g) (rM K g') (tE K ma) (tE K mb) (tE K mc) O H Q:=by
 obtain⟨Y,Z,B,d,Z',R,S,e,q⟩:=h;obtain⟨x,w9,e1,ee1⟩:=AH e;obtain⟨y,u9,e2,ee2⟩:=AH ee1;obtain⟨z,j6,e3,ee3⟩:=AH ee2;obtain⟨k,m7,e4,ee4⟩:=AH ee3;obtain⟨hz,hm⟩:=G7 e4;subst hm;subst hz;refine⟨Y,Z,B,x,w9,R,S,e1,λv5 H1 E1 R1 v1 i1=>⟨v5,w9,B,y,u9,R1,S.ext E1,e2,λv8 H2 E2 R2 v2 i2=>?_⟩⟩;refine⟨v8,u9,x,y,_,_,R2,i1.ext E2,i2,e3,λj7 H3 E3 R3 v3 i3=>⟨k,Si i3,?_⟩⟩;have E13:=(E1.trans E2).trans E3;cases k with
 |false=>cases ee4;exact q j7 H3 E13 R3 _ (ofB _)
 |true=>
  obtain⟨w,m8,e5,ee5⟩:=AH ee4;exact⟨j7,_,B,w,m8,R3,S.ext E13,e5,λj9 H4 E4 R4 v4 i4=>⟨j9,m8,y,w,d,Z',R4,i2.ext (E3.trans E4),i4,ee5,λm4 H5 E5 R5=>q m4 H5 ((E13.trans E4).trans E5) R5⟩⟩
theorem Ij(ho:OpR X (compareOp op) (rM X.kw g))(ho':OpR X (compareOp op') (rM X.kw g'))(ha:RE X a ma)(hb:RE X b mb)(hc:RE X c mc)(hm:lastMarks [op,op'] [b,c]=false:=by with_unfolding_all rfl):
  RE X (.Compare a [op,op'] [b,c] pos) (Ix g g' ma mb mc):=RE.wk (SI ho ho' ha.pe hb.pe hc.pe hm) λ_ _ _ h=>Q0 h
theorem Eo(hm:X.mg x=none)(hv:bootBuiltins x=some (.type n))(hg:Gl X x:=by rfl)(hn:x ≠ "__name__" := by decide)(hdb:(x==("__debug__" : Str))=false:=by decide):RE X (.Name x pos) (mC (.ty n)):=
 Pc (t:=λ_ _ _=>True) (Uv (v:=.ty n) hg hm hv rfl hn hdb) λ_ _ _=>by unfold Is;rfl
noncomputable def LB(d:D):M Unit:=bnd (E9 d) λ_=>ret ()
noncomputable def Bi(g:D->List D->M D)(mo:Sl->M D)(ma:Sl->M (List D)):Sl->M D:=λB=>bnd (mo B) λx=>bnd (LB x) λ_=>bnd (ma B) λxs=>g x xs
noncomputable def rMM(K:KW)(g:D->List D->M D):V->List V->Hp->VK->Prop:=λx xs H Q=>∃Y Z a as d Z',RelH K Y Z H/\Is K Y Z.length H a x/\IsL K Y Z.length H as xs/\g a as Z=some (d,Z') /\
 Aft K Y Z H Z' λY' H'=>∀v,Is K Y' Z'.length H' d v->Q v H'
theorem MJ(R:RelH K Y Z H)(i:Is K Y Z.length H d v)(e:LB d Z=some (u,Z')):Z'=Z/\tyV K "list" v H:=by
 obtain⟨ds,w9,e1,ee1⟩:=AH e;cases ee1;obtain⟨hm,p,vs,rfl,h1,h2⟩:=CL R i e1;exact⟨hm,.inl ⟨rfl,vs,h1⟩⟩
theorem KJ(e:LB d Z=some (u,Z')):Z'=Z:=by
 obtain⟨ds,w9,e1,ee1⟩:=AH e;cases ee1;cases d with
 |lst _=>cases e1;rfl
 |scr _=>cases e1;rfl
 |ref n=>
  have e1:(match Z[n]? with|some (.lst ds)=>some (ds,Z)|_=>none)=some (ds,Z'):=e1;split at e1
  ·cases e1;rfl
  ·cases e1
 |_=>cases e1
theorem Qy(h:tE K (Bi g mo ma) O H Q):tBM K "list" (rMM K g) (tE K mo) (tL K ma) O H Q:=by
 obtain⟨Y,Z,B,d,Z',R,S,e,q⟩:=h;obtain⟨x,w9,e1,ee1⟩:=AH e;obtain⟨u,u9,e2,ee2⟩:=AH ee1;obtain⟨as,j6,e3,ee3⟩:=AH ee2;have hm:=KJ e2;subst hm;refine⟨Y,Z,B,x,_,R,S,e1,λv5 H1 E1 R1 v1 i1=>⟨(MJ R1 i1 e2).2,?_⟩⟩;refine⟨v5,_,B,as,j6,R1,S.ext E1,e3,λv8 H2 E2 R2 vs i2=>?_⟩;exact⟨v8,j6,x,as,d,Z',R2,i1.ext E2,i2,ee3,λj7 H3 E3 R3=>q j7 H3 ((E1.trans E2).trans E3) R3⟩
theorem BN{name:Str}{id:String}(slot:Slot "list" name id)(hty:typeOf (.builtin id)=pure (.type "method_descriptor"))(hm:MtR X id (rMM X.kw g))(ho:RE X o mo)(ha:RA X (e::es) ma)
  (hbase:attributeBase o name X.env (eval o X.env)=eval o X.env:=by rfl)
  (hfew:((backTo cpos (starEach (e::es) X.env)).all (λx=>!x.1)&&(backToKw cpos (keywordEach [] X.env)).all (λx=>x.1.isSome)
   && decide ((e::es).length+([]:List Keyword).length+(if ([]:List Keyword).isEmpty then 0 else 1)<30))=true:=by rfl)
  (hline:(apos.endLine==cpos.line)=true:=by rfl) (hs:starEach (e::es) X.env=(false,eval e X.env)::starEach es X.env:=by exact Ak rfl) (hplain:(backTo cpos (starEach es X.env)).any (·.1)=false:=by exact A5 rfl) :
  RE X (.Call (.Attribute o name apos) (e::es) [] cpos) (Bi g mo ma):=RE.wk (WO PySem.F.plainAttrs_list slot hty hm ho.pe ha.pe hbase hfew hline hs hplain) λ_ _ _ h=>Qy h
noncomputable def Qq(n:Nat)(k:List D->Option (D×List D)):M D:=λZ=>match Z[n]? with
 |some (.lst ds)=>(k ds).map λr=>(r.1,Z.set n (.lst r.2))
 |_=>none
theorem Jp(e:Qq n k Z=some (d,Z')):∃ds es,Z[n]?=some (.lst ds)/\k ds=some (d,es)/\Z'=Z.set n (.lst es):=by
 unfold Qq at e;split at e
 ·rename_i ds hq;cases hk:k ds with
  |none=>rw[hk] at e;cases e
  |some r=>rw[hk] at e;cases e;exact⟨ds,r.2,hq,hk,rfl⟩
 ·cases e
theorem N6{K:KW}{Y:Nat->Addr}{Z:Mh}{H:Hp}{n:Nat}{d:D}{es:List D}{ws:List V}{v:V}{Q:VK}{ds:List D}(R:RelH K Y Z H)(hn:Z[n]?=some (.lst ds))(iw:IsL K Y Z.length H es ws)(iv:Is K Y Z.length H d v)
  (q:Aft K Y Z H (Z.set n (.lst es)) λY' H'=>∀v,Is K Y' (Z.set n (.lst es)).length H' d v->Q v H'):Q v (upd H (Y n) (.lst ws)):=by
 have hlt:n<Z.length:=(AAT.mp hn).1;obtain⟨E1,R1⟩:=R.changed (m:=.lst es) (o:=.lst ws) hlt ⟨ws,rfl,iw⟩;exact q Y _ E1 R1 v (iv.ext E1)
noncomputable def GE:D->List D->M D
 | .ref n,[d]=>Qq n λds=>if ds.length<sizeLine then some (.non,ds++[d]) else none
 |_,_=>BD
theorem B0:MtR X "list.append" (rMM X.kw GE):=λw6 s O H x xs v us Q I rx rs h=>by
 obtain⟨Y,Z,a,as,d,Z',R,ia,ib,e,q⟩:=h;unfold GE at e;split at e
 ·rename_i n y;obtain⟨ds,es,h1,h2,rfl⟩:=Jp e;split at h2
  ·rename_i hl;cases h2;obtain⟨w,rfl,iw⟩:=Eg ib;unfold Is at ia;obtain⟨_,rfl⟩:=ia;obtain⟨u,g1,vs,rfl,g2⟩:=R.obj n _ h1;exact Pr w6 s O H _ _ v us Q I rx rs ⟨_,vs,w,rfl,rfl,g1,by rw[g2.length];exact hl,N6 R h1 (g2.append (.one iw)) ofN q⟩
  ·cases h2
 ·cases e
noncomputable def Ni:D->List D->M D
 | .ref n,[.lst zs]=>Qq n λds=>if ds.length+zs.length<=sizeLine then some (.non,ds++zs) else none
 |_,_=>BD
theorem Fk:MtR X "list.extend" (rMM X.kw Ni):=λw6 s O H x xs v us Q I rx rs h=>by
 obtain⟨Y,Z,a,as,d,Z',R,ia,ib,e,q⟩:=h;unfold Ni at e;split at e
 ·rename_i n zs;obtain⟨ds,es,h1,h2,rfl⟩:=Jp e;split at h2
  ·rename_i hl;cases h2;obtain⟨w,rfl,iw⟩:=Eg ib;unfold Is at ia iw;obtain⟨_,rfl⟩:=ia;obtain⟨p,ws,rfl,k1,_,k2⟩:=iw;obtain⟨u,g1,vs,rfl,g2⟩:=R.obj n _ h1;exact Pq w6 s O H _ _ v us Q I rx rs ⟨_,p,vs,ws,rfl,rfl,g1,k1,by rw[g2.length,k2.length];exact hl,N6 R h1 (g2.append k2) ofN q⟩
  ·cases h2
 ·cases e
noncomputable def ce:D->List D->M D
 | .ref n,[.int i,d]=>Qq n λds=>if 0<=i/\i<2 ^ 62/\ds.length<sizeLine then some (.non,ds.take i.toNat++d::ds.drop i.toNat) else none
 |_,_=>BD
noncomputable def RH:D->D->D->M Unit
 | .ref n,.int k,d=>λZ=>match Z[n]? with
  |some (.lst ds)=>(ixN ds.length k).map λj=>((),Z.set n (.lst (ds.set j d)))
  |_=>none
 |_,_,_=>BD
noncomputable def Tj(mo mi:Sl->M D):D->Sl->M Sl:=λd B=>bnd (mo B) λx=>bnd (mi B) λy=>bnd (RH x y d) λ_=>ret B
theorem PU(e:RH x y d Z=some (u,Z')):∃n k ds j,x=.ref n/\y=.int k/\Z[n]?=some (.lst ds)/\ixN ds.length k=some j/\Z'=Z.set n (.lst (ds.set j d)):=by
 unfold RH at e;split at e
 ·rename_i n k;split at e
  ·rename_i ds hq;cases hk:ixN ds.length k with
   |none=>rw[hk] at e;cases e
   |some j=>rw[hk] at e;cases e;exact⟨n,k,ds,j,rfl,rfl,hq,hk,rfl⟩
  ·cases e
 ·cases e
theorem Rg(ho:RE X o mo)(hi:RE X i mi)
  (ha:∀v,assign (.Subscript o i pos) X.env v=(do
   let ov ←holding [v] (eval o X.env)
   let iv ←holding [v,ov] (eval i X.env)
   standAt pos
   holding [v,ov,iv] (setItem ov iv v)
   release [v,ov,iv] []):=by intro _;rfl):RG X (.Subscript o i pos) (Tj mo mi):=RG.wk (Xo ho.pe hi.pe RC ha) λv O H Q h=>by
 obtain⟨Y,Z,B,d,B',Z',R,S,i1,e,q⟩:=h;obtain⟨x,w9,e1,ee1⟩:=AH e;obtain⟨y,u9,e2,ee2⟩:=AH ee1;obtain⟨u,j6,e3,ee3⟩:=AH ee2;cases ee3;refine⟨Y,Z,_,x,w9,R,S,e1,λv5 H1 E1 R1 v1 j1=>⟨v5,w9,_,y,u9,R1,S.ext E1,e2,λv8 H2 E2 R2 v2 j2=>?_⟩⟩;obtain⟨n,k,ds,j,rfl,rfl,g1,g2,rfl⟩:=PU e3;have E12:=E1.trans E2;have j1':=j1.ext E2;unfold Is at j1';obtain⟨hlt,rfl⟩:=j1';cases Bj j2;obtain⟨w,k1,vs,rfl,k2⟩:=R2.obj n _ g1;obtain⟨E3,R3⟩:=R2.changed (m:=.lst (ds.set j d)) (o:=.lst (vs.set j v)) hlt ⟨_,rfl,k2.set (i1.ext E12) j⟩;exact⟨_,vs,k,j,rfl,rfl,k1,by rw[k2.length];exact g2,q v8 _ (E12.trans E3) R3 O (S.ext (E12.trans E3))⟩
noncomputable def Iz:D->Option Key
 | .int i=>some (.inl i)
 | .str x=>some (.inr x)
 |_=>none
noncomputable def FA:D->M (Nat×List (Key×D))
 | .ref n=>λZ=>match Z[n]? with
  |some (.dK l)=>some ((n,l),Z)
  |_=>none
 |_=>BD
noncomputable def Ki(l:List (Key×D))(k:Key):Option D:=(l.find? λkv=>decide (kv.1=k)).map (·.2)
noncomputable def Rq(l:List (Key×D))(k:Key)(d:D):List (Key×D):=
 if (l.any λkv=>decide (kv.1=k))=true then l.map (λkv=>if kv.1=k then (kv.1,d) else kv) else l++[(k,d)]
noncomputable def NN:Sl->M D:=λ_ Z=>some (.ref Z.length,Z++[.dK []])
theorem IH:RE X (.Dict [] [] pos) NN:=RE.wk SD λO H Q h=>by
 obtain⟨Y,Z,B,d,Z',R,S,e,q⟩:=h;cases e;intro p hp;obtain⟨Y',E1,R1,e0⟩:=R.grown (m:=.dK []) (o:=.dK []) hp ⟨[],rfl,rfl⟩;exact q Y' _ E1 R1 _ (by unfold Is;exact⟨by simp,by rw[e0]⟩)
section
variable{K:KW}{Y:Nat->Addr}{k:Nat}{H:Hp}
theorem KVs.val:∀{l:List (Key×D)} {r:List (Key×V)} (y:Key),KVs K Y k H l r->(Ki l y=none/\FQ r y=none)∨∃d v,Ki l y=some d/\FQ r y=some v/\Is K Y k H d v
 |[],_,y,h=>by cases h;exact .inl ⟨rfl,rfl⟩
 |(z,d)::l,_,y,h=>by
  obtain⟨v,r',rfl,h1,h2⟩:=h;by_cases hz:z=y
  ·subst hz;exact .inr ⟨d,v,by simp[Ki],by simp[FQ],h1⟩
  ·have:=KVs.val y h2;simpa[Ki,FQ,List.find?_cons,hz] using this
theorem KVs.any:∀{l:List (Key×D)} {r:List (Key×V)} (y:Key),KVs K Y k H l r->(l.any λkv=>decide (kv.1=y))=(r.any λkv=>decide (kv.1=y))
 |[],_,y,h=>by cases h;rfl
 |(z,d)::l,_,y,h=>by
  obtain⟨v,r',rfl,h1,h2⟩:=h;rw[List.any_cons,List.any_cons,KVs.any y h2]
theorem KVs.length:∀{l:List (Key×D)} {r:List (Key×V)},KVs K Y k H l r->r.length=l.length
 |[],_,h=>by cases h;rfl
 |(z,d)::l,_,h=>by
  obtain⟨v,r',rfl,h1,h2⟩:=h;rw[AAI,AAI,KVs.length h2]
theorem KVs.app:∀{l:List (Key×D)} {r:List (Key×V)} {y:Key} {d:D} {v:V},KVs K Y k H l r->Is K Y k H d v->KVs K Y k H (l++[(y,d)]) (r++[(y,v)])
 |[],_,y,d,v,h,h1=>by cases h;exact⟨v,[],rfl,h1,rfl⟩
 |(z,e)::l,_,y,d,v,h,h1=>by
  obtain⟨w,r',rfl,h2,h3⟩:=h;exact⟨w,_,rfl,h2,KVs.app h3 h1⟩
theorem KVs.mapPut:∀{l:List (Key×D)} {r:List (Key×V)} {y:Key} {d:D} {v:V},KVs K Y k H l r->Is K Y k H d v->KVs K Y k H (l.map λkv=>if kv.1=y then (kv.1,d) else kv) (r.map λkv=>if kv.1=y then (kv.1,v) else kv)
 |[],_,y,d,v,h,h1=>by cases h;rfl
 |(z,e)::l,_,y,d,v,h,h1=>by
  obtain⟨w,r',rfl,h2,h3⟩:=h;rw[AAW,AAW];by_cases hz:z=y
  ·subst hz;simp only[if_true];exact⟨v,_,rfl,h1,KVs.mapPut h3 h1⟩
  ·simp only[hz,if_false];exact⟨w,_,rfl,h2,KVs.mapPut h3 h1⟩
theorem KVs.put(h:KVs K Y k H l r)(h1:Is K Y k H d v):KVs K Y k H (Rq l y d) (EM r y v):=by
 unfold Rq EM;rw[h.any y];split
 ·exact h.mapPut h1
 ·exact h.app h1
theorem Gv(h:Is K Y k H d v)(e:Iz d=some y):v=kV y:=by
 cases d with
 |int i=>cases e;unfold Is at h;exact h
 |str i=>cases e;unfold Is at h;exact h
 |_=>cases e
theorem B4(R:RelH K Y Z H)(i:Is K Y Z.length H d v)(e:FA d Z=some (r,Z')):Z'=Z/\d=.ref r.1/\Z[r.1]?=some (.dK r.2)/\v=.ref (Y r.1)/\∃kvs,H (Y r.1)=some (.dK kvs)/\KVs K Y Z.length H r.2 kvs:=by
 cases d with
 |ref n=>
  have e:(match Z[n]? with|some (.dK l)=>some ((n,l),Z)|_=>none)=some (r,Z'):=e;split at e
  ·rename_i l hq;cases e;unfold Is at i;obtain⟨u,h1,kvs,rfl,h2⟩:=R.obj n _ hq;exact⟨rfl,rfl,hq,i.2,kvs,h1,h2⟩
  ·cases e
 |_=>cases e
end
noncomputable def JM(d y:D):M D:=bnd (FA d) λr=>λZ=>((Iz y).bind (Ki r.2)).map λv=>(v,Z)
theorem F3(hr:Room k X.A)(ho:RE X o mo)(hi:RE X i mi)(hs:Tk i:=by exact λ_ _=>rfl):RE X (.Subscript o i pos) (mOp JM mo mi):=RE.wk (Ut (KG hr) ho.pe hi.pe hs) λO H Q h=>by
 obtain⟨Y,Z,B,d,Z',R,S,e,q⟩:=h;obtain⟨x,w9,e1,ee1⟩:=AH e;obtain⟨y,u9,e2,ee2⟩:=AH ee1;obtain⟨r,j6,e3,ee3⟩:=AH ee2;refine⟨Y,Z,B,x,w9,R,S,e1,λv5 H1 E1 R1 v1 i1=>⟨v5,w9,B,y,u9,R1,S.ext E1,e2,λv8 H2 E2 R2 v2 i2=>?_⟩⟩;obtain⟨hm,_,g1,rfl,kvs,g2,g3⟩:=B4 R2 (i1.ext E2) e3;subst hm;cases hk:Iz y with
 |none=>rw[hk] at ee3;cases ee3
 |some ky=>
  rw[hk] at ee3;cases Gv i2 hk;rcases g3.val ky with ⟨z1,_⟩|⟨dd,vv,z1,z2,z3⟩
  ·rw[Option.bind_some,z1] at ee3;cases ee3
  ·rw[Option.bind_some,z1] at ee3;cases ee3;exact⟨_,vv,rfl,by rw[←z2];exact DGet.k g2,q v8 H2 (E1.trans E2) R2 vv z3⟩
noncomputable def Yx(d y:D):M D:=bnd (FA d) λr=>λZ=>(Iz y).map λk=>((Ki r.2 k).getD .non,Z)
noncomputable def Nf(d:D):M Unit:=bnd (FA d) λ_=>ret ()
noncomputable def SY(mo mi:Sl->M D):Sl->M D:=λB=>bnd (mo B) λx=>bnd (Nf x) λ_=>bnd (mi B) λy=>Yx x y
theorem KK(e:Nf d Z=some (u,Z')):Z'=Z/\∃r,FA d Z=some (r,Z):=by
 obtain⟨r,w9,e1,ee1⟩:=AH e;cases ee1;cases d with
 |ref n=>
  have e2:(match Z[n]? with|some (.dK l)=>some ((n,l),Z)|_=>none)=some (r,Z'):=e1;split at e2
  ·cases e2;exact⟨rfl,_,e1⟩
  ·cases e2
 |_=>cases e1
theorem Rl(hr:Room k X.A)(ho:RE X o mo)(hi:RE X e mi)(m:M1 X o "get" apos e cpos:=by exact⟨rfl,rfl,rfl,rfl⟩):RE X (.Call (.Attribute o "get" apos) [e] [] cpos) (SY mo mi):=RE.wk (SF (KG hr) ho.pe hi.pe m) λO H Q h=>by
 obtain⟨Y,Z,B,d,Z',R,S,e,q⟩:=h;obtain⟨x,w9,e1,ee1⟩:=AH e;obtain⟨u,m7,e4,ee2⟩:=AH ee1;obtain⟨y,u9,e2,ee3⟩:=AH ee2;obtain⟨r,j6,e3,ee4⟩:=AH ee3;obtain⟨hm,r0,e5⟩:=KK e4;subst hm;refine⟨Y,Z,B,x,_,R,S,e1,λv5 H1 E1 R1 v1 i1=>?_⟩;obtain⟨_,_,_,rfl,kvs0,g0,_⟩:=B4 R1 i1 e5;refine⟨_,rfl,.inl ⟨kvs0,.inl g0⟩,v5,_,B,y,u9,R1,S.ext E1,e2,λv8 H2 E2 R2 v2 i2=>?_⟩;obtain⟨hm,hx,g1,hv,kvs,g2,g3⟩:=B4 R2 (i1.ext E2) e3;subst hm;cases hk:Iz y with
 |none=>rw[hk] at ee4;cases ee4
 |some ky=>
  rw[hk] at ee4;cases ee4;cases Gv i2 hk;have hv':v5 r0.1=v8 r.1:=V.ref.inj hv;rw[hv'];refine⟨FQ kvs ky,DGet.k g2,?_⟩;rcases g3.val ky with ⟨z1,z2⟩|⟨dd,vv,z1,z2,z3⟩
  ·rw[z2];rw[z1] at q;exact q v8 H2 (E1.trans E2) R2 _ ofN
  ·rw[z2];rw[z1] at q;exact q v8 H2 (E1.trans E2) R2 vv z3
noncomputable def QI(neg:Bool)(y d:D):M D:=bnd (FA d) λr=>λZ=>(Iz y).map λk=>(.bl (if neg then !(Ki r.2 k).isSome else (Ki r.2 k).isSome),Z)
theorem Qz(h:tE K (mOp (QI false) mi mo) O H Q):ZZ (tE K mi) (tE K mo) O H Q:=by
 obtain⟨Y,Z,B,d,Z',R,S,e,q⟩:=h;obtain⟨y,w9,e1,ee1⟩:=AH e;obtain⟨x,u9,e2,ee2⟩:=AH ee1;obtain⟨r,j6,e3,ee3⟩:=AH ee2;refine⟨Y,Z,B,y,w9,R,S,e1,λv5 H1 E1 R1 v1 i1=>⟨v5,w9,B,x,u9,R1,S.ext E1,e2,λv8 H2 E2 R2 v2 i2=>?_⟩⟩;obtain⟨hm,_,g1,rfl,kvs,g2,g3⟩:=B4 R2 i2 e3;subst hm;cases hk:Iz y with
 |none=>rw[hk] at ee3;cases ee3
 |some ky=>
  rw[hk] at ee3;cases ee3;cases Gv (i1.ext E2) hk;refine⟨_,FQ kvs ky,rfl,DGet.k g2,?_⟩;rcases g3.val ky with ⟨z1,z2⟩|⟨dd,vv,z1,z2,z3⟩
  ·rw[z2];rw[z1] at q;exact q v8 H2 (E1.trans E2) R2 _ (ofB _)
  ·rw[z2];rw[z1] at q;exact q v8 H2 (E1.trans E2) R2 _ (ofB _)
theorem XV(hr:Room k X.A)(hi:RE X i mi)(ho:RE X o mo)(h1:behindInMarks .In o=false:=by first|exact nobehind _ (by decide) (by decide)|rfl):RE X (.Compare i [.In] [o] pos) (mOp (QI false) mi mo):=RE.wk (SH (SJ (KG hr) hi.pe ho.pe) h1) λ_ _ _ h=>Qz h
theorem RV(hr:Room k X.A)(hi:RE X i mi)(ho:RE X o mo)(h1:behindInMarks .In o=false:=by first|exact nobehind _ (by decide) (by decide)|rfl):RT X (.Compare i [.In] [o] pos) (AS (mOp (QI false) mi mo)):=
 RT.wk (Xg (SJ (KG hr) hi.pe ho.pe) h1) λO H Q h=>Qz (Q:=λx H'=>∃k,x=.bl k/\Q k H') (Kj h)
noncomputable def Do(mo mi mv:Sl->M D):Sl->M (Fl×Sl):=λB=>bnd (mv B) λv=>bnd (mo B) λx=>bnd (mi B) λy=>bnd (FA x) λr=>λZ=>match Iz y with
 |some k=>if r.2.length<sizeLine then some ((.next,B),Z.set r.1 (.dK (Rq r.2 k v))) else none
 |none=>none
theorem Db(hr:Room k X.A)(ho:RE X o mo)(hi:RE X i mi)(hv:RE X value mv)(hs:swapsWith value (some (.Subscript o i pos')) pos.line X.env=pure false:=by rfl):RS X (.Assign [.Subscript o i pos'] value pos) (Do mo mi mv):=RS.wk (Ui (KG hr) ho.pe hi.pe hv.pe hs) λDn O H h=>by
 obtain⟨Y,Z,B,f,B',Z',R,S,e,q⟩:=h;obtain⟨v,w9,e1,ee1⟩:=AH e;obtain⟨x,u9,e2,ee2⟩:=AH ee1;obtain⟨y,j6,e3,ee3⟩:=AH ee2;obtain⟨r,m7,e4,ee4⟩:=AH ee3;refine⟨Y,Z,B,v,w9,R,S,e1,λv5 H1 E1 R1 v1 i1=>⟨v5,w9,B,x,u9,R1,S.ext E1,e2,λv8 H2 E2 R2 v2 i2=>⟨v8,u9,B,y,j6,R2,S.ext (E1.trans E2),e3,λj7 H3 E3 R3 v3 i3=>?_⟩⟩⟩;obtain⟨hm,hx,g1,hv2,kvs,g2,g3⟩:=B4 R3 (i2.ext E3) e4;subst hm;have E13:=(E1.trans E2).trans E3;cases hk:Iz y with
 |none=>rw[hk] at ee4;cases ee4
 |some ky=>
  rw[hk] at ee4;have ee4:(if r.2.length<sizeLine then some ((Fl.next,B),List.set m7 r.1 (MO.dK (Rq r.2 ky v))) else none)=some ((f,B'),Z'):=ee4;split at ee4
  ·rename_i hl;cases ee4;cases Gv i3 hk;have hlt:r.1<List.length m7:=(AAT.mp g1).1;obtain⟨E4,R4⟩:=R3.changed (m:=.dK (Rq r.2 ky v)) (o:=.dK (EM kvs ky v1)) hlt ⟨_,rfl,g3.put (i1.ext (E2.trans E3))⟩;exact⟨_,_,hv2,DPut.k g2 (by rw[g3.length];exact hl),q j7 _ (E13.trans E4) R4 O (S.ext (E13.trans E4))⟩
  ·cases ee4
noncomputable def a8:D->M (List D)
 | .str x=>ret (x.cps.toList.map λc=>.str ⟨#[c]⟩)
 |_=>BD
noncomputable def WV(m:Sl->M D):Sl->M (List D):=λB=>bnd (m B) a8
theorem VS:ItM K (Its x) (x.cps.toList.map λc=>.str ⟨#[c]⟩) Y Z H:=by
 intro Y' Z' H' E R;have hl:(x.cps.toList.map λc=>D.str ⟨#[c]⟩).length=x.cps.size:=by simp
 rw[hl];refine⟨λj hj=>hj,rfl,λj v H2 d hd y=>?_⟩;obtain⟨e,c,hc,y⟩:=y;subst e;rw[AAV,Array.getElem?_toList,hc] at hd;cases hd;exact⟨R.ext0,R,by unfold Is;exact y⟩
theorem XO(h:RE X e m):RI X tg e (WV m):=RI.wk (Xn h.pe) λO H R q=>by
 obtain⟨Y,Z,B,ds,Z',R0,S,e,q⟩:=q;obtain⟨x,w9,e1,ee1⟩:=AH e;refine⟨Y,Z,B,x,w9,R0,S,e1,λv5 H1 E1 R1 v i1=>?_⟩;cases x with
 |str x=>cases ee1;exact⟨x,Cy i1,q v5 H1 E1 R1 _ VS⟩
 |_=>cases ee1
noncomputable def GO:Nat->List D->List D
 |_,[]=>[]
 |k,d::ds=>.tup [.int k,d]::GO (k+1) ds
theorem KP:∀(k:Nat) (ds:List D),(GO k ds).length=ds.length
 |_,[]=>rfl
 |k,_::ds=>by unfold GO;simp[KP (k+1) ds]
theorem KQ:∀(k:Nat) (ds:List D) (j:Nat),(GO k ds)[j]?=(ds[j]?).map λd=>.tup [.int ((k+j:Nat):Int),d]
 |_,[],j=>by simp[GO]
 |k,d::ds,0=>by simp[GO]
 |k,d::ds,j+1=>by
  unfold GO;rw[List.getElem?_cons_succ,List.getElem?_cons_succ,KQ (k+1) ds j];have:k+1+j=k+(j+1):=by omega
  rw[this]
noncomputable def Oz:List D->M (List D)
 |[.lst ds]=>ret ds
 |[.scr ns]=>ret (ns.map D.int)
 |_=>BD
noncomputable def WY(m:Sl->M (List D)):Sl->M (List D):=λB=>bnd (m B) λas=>bnd (Oz as) λds=>ret (GO 0 ds)
theorem JB(st:∀Y' (Z':Mh) H',Ext Y Z.length H Y' Z'.length H'->RelH K Y' Z' H'->Cond K H')(i:IsL K Y Z.length H ds vs):
  ItM K (ItP K vs.length (Ft vs) Cond) (GO 0 ds) Y Z H:=by
 intro Y' Z' H' E R;have h:=st Y' Z' H' E R;rw[KP,←i.length];refine⟨λj hj=>⟨hj,h⟩,⟨rfl,h⟩,λj x H2 d hd y=>?_⟩;obtain⟨T,hT,rfl,rfl⟩:=y;obtain⟨E2,R2⟩:=R.laid (.tup (Ft vs j)) hT;refine⟨E2,R2,?_⟩;rw[KQ] at hd;cases q:ds[j]? with
 |none=>rw[q] at hd;cases hd
 |some d0=>
  rw[q] at hd;cases hd;obtain⟨w,ew,iw⟩:=(i.ext E).get q;have e0:vs.getD j V.non=w:=by simp[List.getD,ew]
  have es:Ft vs j=[.int j,w]:=by unfold Ft;rw[e0]
  have key:IsL K Y' (List.length Z') (upd H' T (.tup (Ft vs j))) [.int ((0+j:Nat):Int),d0] [.int j,w]:=.cons (by unfold Is;simp) (.one (iw.ext E2));unfold Is;exact⟨T,_,rfl,SqT.of BK,(congrArg (IsL K Y' (List.length Z') (upd H' T (.tup (Ft vs j))) [.int ((0+j:Nat):Int),d0]) es).mpr key⟩
theorem Rf(hm:X.mg "enumerate" = none)(ha:RA X [a] m)(hg:Gl X "enumerate" := by rfl)(hs:starEach [a] X.env=[(false,eval a X.env)]:=by rfl):RI X (.Tuple es k0 tpos) (.Call (.Name "enumerate" p) [a] [] pos) (WY m):=
 RI.wk (Rz hg hm ha.pe hs) λO H R q=>by
  obtain⟨Y,Z,B,ds,Z',R0,S,e,q⟩:=q;obtain⟨xs,w9,e1,ee1⟩:=AH e;obtain⟨zs,u9,e2,ee2⟩:=AH ee1;cases ee2;refine⟨Y,Z,B,xs,w9,R0,S,e1,λv5 H1 E1 R1 vs i1=>?_⟩;unfold Oz at e2;split at e2
  ·cases e2;obtain⟨v,rfl,i2⟩:=Eg i1;unfold Is at i2;obtain⟨p,ws,rfl,h1,hn,h2⟩:=i2;exact⟨p,ws,rfl,SqL.of h1,q v5 H1 E1 R1 _ (JB (λY' Z' H' E _=>SqL.of (E.keep p _ h1 hn)) h2)⟩
  ·cases e2;obtain⟨v,rfl,i2⟩:=Eg i1;unfold Is at i2;obtain⟨p,rfl,h1⟩:=i2;exact⟨p,_,rfl,h1.sq,q v5 H1 E1 R1 _ (JB (λY' Z' H' E _=>(Kq E h1).sq) (IsL.ofInts _))⟩
  ·cases e2
noncomputable def Mf:List D->Option (List Bool)
 |[]=>some []
 | .bl b::ds=>(Mf ds).map (b::·)
 |_=>none
theorem LJ:∀{ds:List D} {vs:List V} {bs:List Bool},IsL K Y k H ds vs->Mf ds=some bs->vs=bs.map V.bl
 |[],_,_,h,e=>by cases e;unfold IsL at h;exact h
 | .bl b::ds,_,_,h,e=>by
  unfold IsL at h;obtain⟨v,vs',rfl,h1,h2⟩:=h;unfold Mf at e;cases q:Mf ds with
  |none=>rw[q] at e;cases e
  |some bs=>
   rw[q] at e;cases e;unfold Is at h1;rw[h1,LJ h2 q];rfl
 | .non::_,_,_,_,e=>by cases e
 | .int _::_,_,_,_,e=>by cases e
 | .str _::_,_,_,_,e=>by cases e
 | .ty _::_,_,_,_,e=>by cases e
 | .scr _::_,_,_,_,e=>by cases e
 | .tup _::_,_,_,_,e=>by cases e
 | .lst _::_,_,_,_,e=>by cases e
 | .ref _::_,_,_,_,e=>by cases e
noncomputable def Y9:List D->M D
 |[.lst ds]=>λZ=>(Mf ds).map λbs=>(.bl (bs.all id),Z)
 |_=>BD
noncomputable def Y8:List D->M D
 |[.lst ds]=>λZ=>(Mf ds).map λbs=>(.bl (bs.any id),Z)
 |_=>BD
theorem a0(hc:X.calm=true):Bo X (.builtin "all") (rMA X.kw Y9):=λw6 s O H xs us Q I r h=>by
 obtain⟨Y,Z,as,d,Z',R,ia,e,q⟩:=h;refine Qb hc w6 s O H xs us Q I r ?_;unfold Y9 at e;split at e
 ·rename_i ds;cases hb:Mf ds with
  |none=>rw[hb] at e;cases e
  |some bs=>
   rw[hb] at e;cases e;obtain⟨v,rfl,i1⟩:=Eg ia;unfold Is at i1;obtain⟨p,vs,rfl,h1,_,h2⟩:=i1;exact⟨p,bs,rfl,SqL.of (by rw[←LJ h2 hb];exact h1),q Y H R.ext0 R _ (ofB _)⟩
 ·cases e
theorem az(hc:X.calm=true):Bo X (.builtin "any") (rMA X.kw Y8):=λw6 s O H xs us Q I r h=>by
 obtain⟨Y,Z,as,d,Z',R,ia,e,q⟩:=h;refine Qa hc w6 s O H xs us Q I r ?_;unfold Y8 at e;split at e
 ·rename_i ds;cases hb:Mf ds with
  |none=>rw[hb] at e;cases e
  |some bs=>
   rw[hb] at e;cases e;obtain⟨v,rfl,i1⟩:=Eg ia;unfold Is at i1;obtain⟨p,vs,rfl,h1,_,h2⟩:=i1;exact⟨p,bs,rfl,SqL.of (by rw[←LJ h2 hb];exact h1),q Y H R.ext0 R _ (ofB _)⟩
 ·cases e
end
theorem As:bootBuiltins "len" = some (.builtin "len"):=by decide +kernel
theorem BG:bootBuiltins "isinstance" = some (.builtin "isinstance"):=by decide +kernel
theorem G5:bootBuiltins "max" = some (.builtin "max"):=by decide +kernel
theorem Te:bootBuiltins "min" = some (.builtin "min"):=by decide +kernel
theorem Th:bootBuiltins "all" = some (.builtin "all"):=by decide +kernel
theorem Tf:bootBuiltins "any" = some (.builtin "any"):=by decide +kernel
theorem JS:bootBuiltins "int" = some (.type "int"):=by decide +kernel
theorem Md:bootBuiltins "str" = some (.type "str"):=by decide +kernel
theorem Qd:bootBuiltins "bool" = some (.type "bool"):=by decide +kernel
theorem Bb:bootBuiltins "tuple" = some (.type "tuple"):=by decide +kernel
theorem Qc:bootBuiltins "list" = some (.type "list"):=by decide +kernel
theorem Me:bootBuiltins "set" = some (.type "set"):=by decide +kernel
noncomputable def EO:Nat:=1048576
structure Fn(P:Program)(w:World)(K:PySem.W.Frag)(mg:Str->Option Value)(base:Heap)(x:Str)(ps:List Str)(k:Nat)(φ:List D->M D):Prop where
 len:∀ds Z r,φ ds Z=some r->ds.length=ps.length
 ex:∃f fd,FnOk P w K mg base CX0 k f fd ps (spM ⟨K,w⟩ ps.length φ)/\mg x=some (.ref f)/\PySem.W.keepIn K (.ref f)=true/\Binds K fd ps []
def Glo(K:PySem.W.Frag)(mg:Str->Option Value)(x:Str)(d:D):Prop:=∃u v,mg x=some u/\RelV v u/\∀w Y k H,Is ⟨K,w⟩ Y k H d v
section
variable{X:Cx}{e:Expr}{es:List Expr}{pos p:Pos}
theorem AZ(F:Fn X.prog X.w X.kw X.mg X.base x ps k φ)(hr:Room j X.A)(ha:RA X (e::es) m)(hkj:k<=j:=by decide)(hg:Gl X x:=by rfl)(hdb:(x==("__debug__" : Str))=false:=by decide)
  (he:starEach (e::es) X.env=(false,eval e X.env)::starEach es X.env:=by exact Ak rfl) (hpl:(backTo pos (starEach es X.env)).any (·.1)=false:=by exact A5 rfl):RE X (.Call (.Name x p) (e::es) [] pos) (AG φ m):=by
 obtain⟨len,f,fd,F,hm,hk,hb⟩:=F;exact UV F (hr.mono hkj) hm hk hb len ha hg hdb he hpl
theorem C5(h:Glo X.kw X.mg x d)(hg:Gl X x:=by rfl)(hdb:(x==("__debug__" : Str))=false:=by decide):RE X (.Name x pos) (mC d):=by
 obtain⟨u,v,hm,r,hd⟩:=h;exact UU hm r (hd _) hg hdb
end
section
variable{X:Cx}{e i:Expr}{es:List Expr}{pos p:Pos}
structure V4(w:World)(K:PySem.W.Frag)(mg:Str->Option Value)(x:Str)(t:Str->Option D):Prop where
 ex:∃ad,mg x=some (.ref ad)/\∀y:Str,∃r,KGet w.params K ad (.str y) r/\((t y=none/\r=none)∨∃d v,t y=some d/\r=some v/\∀Y k H,Is ⟨K,w⟩ Y k H d v)
noncomputable def Os(t:Str->Option D):D->M D
 | .str y=>λZ=>(t y).map λd=>(d,Z)
 |_=>BD
noncomputable def YQ(t:Str->Option D):D->M D
 | .str y=>λZ=>some (.bl (t y).isSome,Z)
 |_=>BD
theorem Kt(k:V4 X.w X.kw X.mg x t)(hi:RE X i mi)(hg:Gl X x:=by rfl)(hdb:(x==("__debug__" : Str))=false:=by decide)(hs:Tk i:=by exact λ_ _=>rfl):RE X (.Subscript (.Name x p) i pos) (mUn (Os t) mi):=by
 obtain⟨ad,hm,kk⟩:=k;refine RE.wk (Ur (F4 (v:=.ref ad) hg hm rfl hdb) hi.pe hs) λO H Q h=>?_;obtain⟨Y,Z,B,d,Z',R,S,e,q⟩:=h;obtain⟨y,w9,e1,e2⟩:=AH e;refine⟨Y,Z,B,y,w9,R,S,e1,λv5 H1 E1 R1 v1 i1=>?_⟩;cases y with
 |str y=>
  cases Cy i1;obtain⟨r,g,z⟩:=kk y;rcases z with ⟨z1,_⟩|⟨d0,v0,z1,rfl,z3⟩
  ·have e3:(t y).map (λd=>(d,w9))=some (d,Z'):=e2;rw[z1] at e3;cases e3
  ·have e3:(t y).map (λd=>(d,w9))=some (d,Z'):=e2;rw[z1] at e3;cases e3;exact⟨ad,v0,rfl,g,q v5 H1 E1 R1 v0 (z3 _ _ _)⟩
 |_=>cases e2
theorem W9{K:KW}{w:World}{t:Str->Option D}{mi:Sl->M D}(kk:∀y:Str,∃r,KGet w.params K ad (.str y) r/\((t y=none/\r=none)∨∃d v,t y=some d/\r=some v/\∀Y k H,Is K Y k H d v))
  (h:tE K (mUn (YQ t) mi) O H Q):ZT w.params K (tE K mi) (tC (.ref ad)) O H Q:=by
 obtain⟨Y,Z,B,d,Z',R,S,e,q⟩:=h;obtain⟨y,w9,e1,e2⟩:=AH e;refine⟨Y,Z,B,y,w9,R,S,e1,λv5 H1 E1 R1 v1 i1=>?_⟩;cases y with
 |str y=>
  cases Cy i1;obtain⟨r,g,z⟩:=kk y;cases e2;rcases z with ⟨z1,rfl⟩|⟨d0,v0,z1,rfl,z3⟩
  ·exact⟨ad,none,rfl,g,by rw[z1] at q;exact q v5 H1 E1 R1 _ (ofB _)⟩
  ·exact⟨ad,some v0,rfl,g,by rw[z1] at q;exact q v5 H1 E1 R1 _ (ofB _)⟩
 |_=>cases e2
theorem XR(k:V4 X.w X.kw X.mg x t)(hi:RE X i mi)(hg:Gl X x:=by rfl)(hdb:(x==("__debug__" : Str))=false:=by decide)(h1:behindInMarks .In (.Name x p)=false:=by first|exact nobehind _ (by decide) (by decide)|rfl):RE X (.Compare i [.In] [.Name x p] pos) (mUn (YQ t) mi):=by
 obtain⟨ad,hm,kk⟩:=k;exact RE.wk (SH (Xx hi.pe (F4 (v:=.ref ad) hg hm rfl hdb)) h1) λO H Q h=>W9 kk h
noncomputable def cL:D->M D
 | .str x=>λZ=>if x.length<=sizeLine then some (.str x,Z) else none
 |_=>BD
noncomputable def aQ(m:Sl->M D):Sl->M D:=mUn cL m
theorem XU(h:RE X e m):RE X (.FormattedValue e (-1) none pos) (aQ m):=RE.wk (Xu h.pe) λO H Q h=>by
 obtain⟨Y,Z,B,d,Z',R,S,e,q⟩:=h;obtain⟨y,w9,e1,e2⟩:=AH e;refine⟨Y,Z,B,y,w9,R,S,e1,λv5 H1 E1 R1 v1 i1=>?_⟩;cases y with
 |str y=>
  have e3:(if y.length<=sizeLine then some (D.str y,w9) else none)=some (d,Z'):=e2;split at e3
  ·rename_i hl;cases e3;exact .inl ⟨y,Cy i1,hl,q v5 H1 E1 R1 _ (ofS _)⟩
  ·cases e3
 |_=>cases e2
noncomputable def NV:List (Sl->M D)->Str->Sl->M D
 |[],out=>λ_=>bnd (lim out.length) λ_=>ret (.str out)
 |m::r,out=>λB=>bnd (m B) λd=>match d with
  | .str y=>bnd (lim (out++y).length) λ_=>NV r (out++y) B
  |_=>BD
noncomputable def WX(ms:List (Sl->M D)):Sl->M D:=NV ms Str.empty
structure RJ(X:Cx)(es:List Expr)(ms:List (Sl->M D)):Prop where
 pe:PJ X es (ms.map (tE X.kw))
theorem XN:RJ X [] []:=⟨Xl⟩
theorem OP(h:RE X e m)(hr:RJ X es ms):RJ X (e::es) (m::ms):=⟨Um h.pe hr.pe⟩
theorem OE:∀{ms:List (Sl->M D)} {out:Str} {O:St} {H:Hp} {Q:VK},tE K (NV ms out) O H Q->OC (ms.map (tE K)) out O H Q
 |[],out,O,H,Q,h=>by
  obtain⟨Y,Z,B,d,Z',R,S,e,q⟩:=h;obtain⟨_,w9,e1,e2⟩:=AH e;obtain⟨hl,hm⟩:=DC e1;subst hm;cases e2;exact⟨hl,q Y H R.ext0 R _ (ofS _)⟩
 |m::ms,out,O,H,Q,h=>by
  obtain⟨Y,Z,B,d,Z',R,S,e,q⟩:=h;obtain⟨y,w9,e1,e2⟩:=AH e;refine⟨Y,Z,B,y,w9,R,S,e1,λv5 H1 E1 R1 v1 i1=>?_⟩;cases y with
  |str y=>
   obtain⟨_,u9,e3,e4⟩:=AH e2;obtain⟨hl,hm⟩:=DC e3;subst hm;exact⟨y,Cy i1,hl,OE ⟨v5,_,B,d,Z',R1,S.ext E1,e4,λv8 H2 E2 R2=>q v8 H2 (E1.trans E2) R2⟩⟩
  |_=>cases e2
theorem Pb(h:RJ X (e::e2::es) (m::m2::ms)):RE X (.JoinedStr (e::e2::es) pos) (WX (m::m2::ms)):=RE.wk (Pl h.pe) λO H Q h=>OE h
end
end Mi
namespace L2
open PySem PySem.Spec PyProof.Rows Sem
section
variable{prog:Program}{w:World}{A:Around}{E:Value->Shared->Prop}{s:Shared}
theorem Cv[Decidable c](h:¬c)(hb:wpAny M A b Q E s):wpAny M A (if c then a else b) Q E s:=by
 rw[if_neg h];exact hb
theorem LY(hh:A.handled=none)(hit:s.heap.IsTupleIter it t i)(ht:s.heap.IsTuple t items)
  (more:∀x h',items[i]?=some x->h'.IsTupleIter it t (i+1)->Heap.SameBut it s.heap h'->Q x { s with heap:=h' })
  (over:items[i]?=none->∀h' e,Heap.ExtBut it s.heap h'->(∃o,h'.get? e=some o/\o.cls=.type "StopIteration")->E (.ref e) { s with heap:=h' }) :
  wpAny (model prog w) A (Builtin.SmallTypes.nextOf (.ref it)) Q E s:=by
 have ty:=hit.typeIs;obtain⟨o,at_it,hc,hd⟩:=hit;obtain⟨ot,at_t,_,n,hdt⟩:=ht;have put:∀(k:Nat) (v:Value),(s.heap.update it (Obj.mapFields (λfs=>fs.set! k v))).get? it=some (Obj.mapFields (λfs=>fs.set! k v) o):=λk v=>Heap.get?_update_self _ at_it (Obj.isFreed_of_fields (Obj.data_mapFields hd _));unfold Builtin.SmallTypes.nextOf;refine AAA (wpAny_callSpecial?_slot ty F.slot_tuple_iterator_next (AAa F.slot_tuple_iterator_next ty F.entry_tuple_iterator_next ?_ (F.args_tuple_iterator_next_1 _)));have notNone:¬(Value.ref t==Value.none)=true:=AAd;refine AAA (m:=field (.ref it) 0) (AAs at_it hd (x:=.ref t) rfl ?_);refine Cv notNone ?_;refine AAA (m:=field (.ref it) 1) (AAs at_it hd (x:=.int i 0) rfl (AAA (m:=seqItems? (.ref t)) (AAt at_t hdt ?_)));have ei:((i:Int)).toNat=i:=Int.toNat_natCast i;cases hx:items[i]? with
 |some x=>
  dsimp only;rw[ei,hx];refine AAA (wpAny_setField at_it hd (by simp) (AAB ⟨x,rfl,AAB (more x _ hx ⟨_,put _ _,?_,?_⟩ (Heap.SameBut.update ..))⟩))
  ·exact(Obj.cls_mapFields ..).trans hc
  ·rw[Obj.data_mapFields hd];rfl
 |none=>
  dsimp only;rw[ei,hx];refine AAA (wpAny_rule (AAA (wpAny_setField at_it hd (by simp) ?_)));have first:firstArgMember (.type "StopIteration") []=pure Value.none:=by first|rfl|(unfold firstArgMember;rfl)
  unfold Builtin.SmallTypes.stopIteration newExc newTuple;refine AAA (AAA (AAn (AAA (AAr first (AAn (wpAny_raiseNew_none hh ?_) (by size_fits)))) (by size_fits)));exact over hx _ _ (((Heap.SameBut.update ..).extBut.push _).push _) ⟨_,AAD _ rfl,rfl⟩
theorem KR(hh:A.handled=none)(it t:Addr)(hne:t≠it)(items:Array Value):
  Draws prog w A it [it,t] items.size (λi v=>items[i]?=some v) (λi h=>h.IsTupleIter it t i/\h.IsTuple t items):=by
 refine⟨λi h st=>?_,λi h h' st k=>⟨?_,?_⟩,λi s Q E hi st q=>?_,λs Q E st q=>?_⟩
 ·obtain⟨⟨o,e,_⟩,_⟩:=st;exact⟨o,e⟩
 ·obtain⟨⟨o,e,r⟩,_⟩:=st;exact⟨o,k it (by simp) o e,r⟩
 ·obtain⟨_,⟨o,e,r⟩⟩:=st;exact⟨o,k t (by simp) o e,r⟩
 ·exact LY hh st.1 st.2 (λx h' hx st' sb=>q x h' s.toks hx ⟨st',st.2.extBut sb.extBut hne⟩ sb) λno=>absurd no (by simp[hi])
 ·exact LY hh st.1 st.2 (λx h' hx=>absurd hx (by simp)) λ_ h' e eb so=>q h' e eb so
noncomputable abbrev G0(it:Addr):Obj:={ cls:=.type "enumerate",data:=.fields #[.none,.bool false,.ref it,rawInt 0,.none,.none] }
theorem TK(v:Value)(ob:Obj)(good:Heap->Prop)(hv:∀(prog:Program) (w:World) (A:Around) (E:Value->Shared->Prop) (s:Shared) (Q:Value->Shared->Prop),good s.heap->Q (.ref s.heap.objs.size) { s with heap:=s.heap.push ob }->wpAny (model prog w) A (pyIter v) Q E s):
  Meets (Builtin.«enumerate.__new__» ⟨[.type "enumerate",v],[]⟩) (λ_ R s=>good s.heap/\R (.ok (.ret (.ref (s.heap.push ob).objs.size))) { s with heap:=(s.heap.push ob).push (G0 s.heap.objs.size) }):=by
 refine .of_wp λprog w A R s ⟨g,q⟩=>?_;have own:=sub_enumerate;have walk:∀(A:Around) (E:Value->Shared->Prop) (Q:Value->Shared->Prop),Q (.ref s.heap.objs.size) { s with heap:=s.heap.push ob }->wpAny (model prog w) A (pyIter v) Q E s:=λA E Q z=>hv prog w A E s Q g z;obtain⟨hp,gs,dr,tk,os⟩:=s
 wp_walk
 refine wpAny_stack_any λst=>AAB ?_;split
 ·rename_i c _ _ _ _ _;cases (c==Value.type "enumerate")<;>(wp_walk using walk;exact⟨_,rfl,q⟩)
 ·wp_walk using walk
  exact⟨_,rfl,q⟩
end
end L2
namespace L2
open PySem PySem.Spec PyProof.Rows
theorem Mz{P:Program}{w:World}{K:PySem.W.Frag}(a e it:Addr)(xs:List V)(hei:e≠it)(hea:e≠a)(hai:a≠it):
  Jl P w K (.Tuple es k0 pos) (ItP K xs.length (Ft xs) λK H=>SqT K H a xs) [e,it] e (λi h=>(∃old,IsEnum h e it i old)/\h.IsTupleIter it a i):=by
 refine IR (Y:=List Value) (fp:=[e,it,a]) (Mid:=λits i T h=>(∃x,IsEnumOut h e it ((i:Int)+1) x T)/\(h.IsTupleIter it a (i+1)/\h.IsTuple a its.toArray)/\T≠e/\T≠it) (good:=λits=>Vals xs its) (Pt:=λits i vals=>∃t x,its.toArray[i]?=some x/\vals=#[.int i t,x]) (Sw:=λits i h=>(∃old,IsEnum h e it i old)/\h.IsTupleIter it a i/\h.IsTuple a its.toArray)
  (λA hA its r=>?walk) AAP (λits i vals r h=>JK r h) (λi=>(by show 2<=sizeLine;decide)) (λi h st=>?obj) (λi h h' st k=>?keep) (λX w6 O H s i hP hw hK I hc st=>?into) (λz i h st=>⟨st.1,st.2.1⟩) (λA i s Q E st h=>?self)
 case walk=>
  have hl:xs.length=its.toArray.size:=by rw[List.size_toArray];exact r.length
  have D:=KR (prog:=P) (w:=w) (A:=A.in1) hA it a hai its.toArray;rw[hl];exact WalksT.enumerateD D e hei (by simp[hei,hea]) (by simp)
 case obj=>
  obtain⟨o,ho,_,hd⟩:=st.2;exact TL st.1 ho ⟨_,hd⟩
 case keep=>
  obtain⟨⟨old,q⟩,o,ho,r⟩:=st;exact⟨⟨old,k e (by simp) _ q⟩,o,k it (by simp) o ho,r⟩
 case into=>
  subst hK;obtain⟨its,r,p,_⟩:=I.tuple hc;exact⟨its,r,st.1,st.2,p⟩
 case self=>exact O1 (f:=λi h=>h.IsTupleIter it a i) A i s Q E st h
section
variable{X:Cx}{es:List Expr}{k0:Nat}{tpos:Pos}
noncomputable def Yc(K:PySem.W.Frag)(ta:TA):TI:=λO H R=>ta O H λvs H1=>∃a xs,vs=[.ref a]/\SqT K H1 a xs/\R (ItP K xs.length (Ft xs) λK H=>SqT K H a xs) H1
theorem Ry(hg:Gl X "enumerate")(hm:X.mg "enumerate" = none)(ha:PA X [a] ta)(hs:starEach [a] X.env=[(false,eval a X.env)]:=by rfl):PI X (.Tuple es k0 tpos) (.Call (.Name "enumerate" p) [a] [] pos) (Yc X.kw ta):=by
 intro w6 s O H R I h;refine Call_ (GU I hg hm KU (PyProof.Rows.callWith_type1 (thn (ha pos w6 s O H _ I h) λus s1 ⟨vs,H1,I1,r1,q1⟩=>?_) hs rfl));obtain⟨l,xs,ev,hq,q⟩:=q1;subst ev;obtain⟨u,eu,ru⟩:=ET r1;subst eu;cases ru;obtain⟨its,rv,pl,hz⟩:=I1.tuple hq;have lt:l<s1.heap.objs.size:=by obtain⟨o,e,_⟩:=pl;exact Heap.lt_size e
 have new:=TK (.ref l) { cls:=.type "tuple_iterator",data:=.fields #[.ref l,.int 0 0] } (λh=>h.IsTuple l its.toArray) (λ_ _ _ _ _ _ g z=>wpAny_pyIter_tuple g z);refine callType_new F.called_enumerate (by decide) (F.typeCall_enumerate_1 _) (F.newCall_enumerate_1 _) (λobj=>F.args_object_init_2 obj _) F.entry_enumerate_new new ⟨pl,?_⟩;generalize hG:s1.heap.push { cls:=.type "tuple_iterator",data:=.fields #[.ref l,.int 0 0] }=G;have hsz:G.objs.size=s1.heap.objs.size+1:=by rw[←hG];exact Heap.size_push ..
 have at_e:(G.push (G0 s1.heap.objs.size)).get? (s1.heap.objs.size+1)=some (G0 s1.heap.objs.size):=by rw[←hsz];exact AAD _ rfl
 have he:IsEnum (G.push (G0 s1.heap.objs.size)) (s1.heap.objs.size+1) s1.heap.objs.size 0 .none:=at_e;have at_i:(G.push (G0 s1.heap.objs.size)).IsTupleIter s1.heap.objs.size l 0:=⟨_,AAC _ (hG ▸ AAD _ rfl),rfl,rfl⟩;show _/\_;rw[hsz];refine⟨⟨_,at_e,rfl⟩,wpAny_pyIter_enum he ?_⟩;refine⟨s1.heap.objs.size+1,[s1.heap.objs.size+1,s1.heap.objs.size],λi h=>(∃old,IsEnum h (s1.heap.objs.size+1) s1.heap.objs.size i old)/\h.IsTupleIter s1.heap.objs.size l i,_,H1,rfl,I1.kept (t':=s1.toks) λb o x=>AAC _ (hG ▸ AAC _ x),?_,⟨⟨_,he⟩,at_i⟩,Qr I1,q⟩;exact Mz l _ _ xs (Nat.succ_ne_self _) (Nat.ne_of_gt (AAe lt)) (AAb lt)
end
end L2
namespace Mi
open PySem L2
section
variable{X:Cx}{a:Expr}{es:List Expr}{pos:Pos}
noncomputable def Qs:List D->M (List D)
 |[.tup ds]=>ret ds
 |_=>BD
noncomputable def Eu(m:Sl->M (List D)):Sl->M (List D):=λB=>bnd (m B) λas=>bnd (Qs as) λds=>ret (GO 0 ds)
theorem Fc(hm:X.mg "enumerate" = none)(ha:RA X [a] m)(hg:Gl X "enumerate" := by rfl)(hs:starEach [a] X.env=[(false,eval a X.env)]:=by exact Ak rfl):RI X (.Tuple es k0 tpos) (.Call (.Name "enumerate" p) [a] [] pos) (Eu m):=
 RI.wk (Ry hg hm ha.pe hs) λO H R q=>by
  obtain⟨Y,Z,B,ds,Z',R0,S,e,q⟩:=q;obtain⟨xs,w9,e1,e2⟩:=AH e;obtain⟨zs,u9,e3,e4⟩:=AH e2;cases e4;refine⟨Y,Z,B,xs,w9,R0,S,e1,λv5 H1 E1 R1 vs i1=>?_⟩;unfold Qs at e3;split at e3
  ·cases e3;obtain⟨v,rfl,i2⟩:=Eg i1;unfold Is at i2;obtain⟨p,ws,rfl,h1,h2⟩:=i2;exact⟨p,ws,rfl,h1,q v5 H1 E1 R1 _ (JB (λY' Z' H' E _=>Gf E h1) h2)⟩
  ·cases e3
end
end Mi
namespace L2
open PySem PySem.Spec PyProof.Rows Sem
def TwoAt(h:Heap)(T:Addr)(a b:Value):Prop:=∃n,h.get? T=some { cls:=.type "tuple",data:=.seq #[a,b] n }
noncomputable abbrev Dk(TI TO:Addr)(f0:Value):Obj:={ cls:=.type "zip",data:=.fields #[f0,.bool false,.bool false,.ref TI,.ref TO] }
theorem TwoAt.keep(x:TwoAt h T a b)(k:∀o,h.get? T=some o->h'.get? T=some o):TwoAt h' T a b:=by
 obtain⟨n,e⟩:=x;exact⟨n,k _ e⟩
section
variable{prog:Program}{w:World}{A:Around}{E:Value->Shared->Prop}{s:Shared}
theorem N7(t:TwoAt s.heap T a b)(sh:(#[a,b]:Array Value).setIfInBounds k x=#[c,d])(h:∀h',TwoAt h' T c d->Heap.SameBut T s.heap h'->Q () { s with heap:=h' }):
  wpAny (model prog w) A (updateSeq T λxs=>xs.setIfInBounds k x) Q E s:=by
 obtain⟨n,e⟩:=t;refine wpAny_updateSeq e rfl (h _ ⟨n,?_⟩ (Heap.SameBut.update ..)) (by simp[sizeLine]) (by simp[sizeLine]);rw[Heap.get?_update_self _ e rfl];show some ({ cls:=.type "tuple",data:=.seq ((#[a,b]:Array Value).setIfInBounds k x) (if (((#[a,b]:Array Value).setIfInBounds k x).size==(#[a,b]:Array Value).size)=true then n else n+1) }:Obj)=_;rw[sh];rfl
structure JX(z TI TO i1 i2:Addr)(f1 f2:List Addr):Prop where
 zTI:z≠TI
 zTO:z≠TO
 io:TI≠TO
 z1:z∉f1
 z2:z∉f2
 o1:TO∉f1
 o2:TO∉f2
 n1:TI≠i1
 n2:TI≠i2
 m1:i1∈f1
 m2:i2∈f2
 x12:i1∉f2
 x21:i2∉f1
theorem Qi{z TI TO i1 i2:Addr}{n k:Nat}{a b:Value}{f1 f2:List Addr}{Q:Value->Shared->Prop}(ap:JX z TI TO i1 i2 f1 f2)
  (D1:Draws prog w A.in1 i1 f1 n P1 S1) (D2:Draws prog w A.in1 i2 f2 n P2 S2) (hk:k<n)
  (hz:s.heap.get? z=some (Dk TI TO .none)) (hI:TwoAt s.heap TI (.ref i1) (.ref i2)) (hO:TwoAt s.heap TO a b) (s1:S1 k s.heap) (s2:S2 k s.heap)
  (q:∀x y T h' tk,P1 k x->P2 k y->s.heap.objs.size<=T->h'.IsTuple T #[x,y]->h'.get? z=some (Dk TI TO (rawInt T))->TwoAt h' TI (.ref i1) (.ref i2)->TwoAt h' TO x y->S1 (k+1) h'->S2 (k+1) h'->(∀c o,c≠z->c≠TO->c≠i1->c≠i2->s.heap.get? c=some o->h'.get? c=some o)->Q (.ref T) { s with heap:=h',toks:=tk }) :
  wpAny (model prog w) A.in1 (Builtin.«zip.__next__» ⟨[.ref z],[]⟩) (λfin s'=>∃v,fin=.done (.ret v)/\Q v s') E s:=by
 obtain⟨nI,eI⟩:=id hI;refine AAA (m:=field (.ref z) 2) (AAs hz rfl (x:=.bool false) rfl ?_);refine AAA (m:=field (.ref z) 3) (AAs hz rfl (x:=.ref TI) rfl ?_);refine AAA (m:=seqItems? (.ref TI)) (AAt eI rfl ?_);refine Cv (by simp) ?_;refine AAA (m:=Builtin.SmallTypes.ownedTupleIsFree (.ref z)) ?_;unfold Builtin.SmallTypes.ownedTupleIsFree;refine AAA (m:=field (.ref z) 0) (AAs hz rfl (x:=.none) rfl (AAB ?_));rw[if_pos rfl];refine AAA (wpAny_rule ?_);refine AAA (m:=field (.ref z) 4) (AAs hz rfl (x:=.ref TO) rfl ?_);refine AAA (AAm hz (by simp) λh1 z1 b1=>?_);have k1:∀c o,c≠z->s.heap.get? c=some o->h1.get? c=some o:=λc o hc e=>(b1.2 c hc).trans e;have z1':h1.get? z=some (Dk TI TO .ellipsis):=z1;have hI1:=hI.keep (h':=h1) λo e=>k1 TI o ap.zTI.symm e;have hO1:=hO.keep (h':=h1) λo e=>k1 TO o ap.zTO.symm e;have s11:=D1.frame _ _ h1 s1 λc hc o e=>k1 c o (λy=>ap.z1 (y ▸ hc)) e;have s21:=D2.frame _ _ h1 s2 λc hc o e=>k1 c o (λy=>ap.z2 (y ▸ hc)) e;refine AAA (m:=forIn [(Value.ref i1,0),(Value.ref i2,1)] _ _) ?_;rw[List.forIn_cons];refine AAA (AAA (wpAny_onRaise (AAA (D1.item k { s with heap:=h1 } _ _ hk s11 λx h2 t2 px s12 b2=>AAB ?_))));have k2:∀c o,c≠i1->h1.get? c=some o->h2.get? c=some o:=λc o hc e=>(b2.2 c hc).trans e;have ne1:∀{c:Addr},c∉f1->c≠i1:=λhc y=>hc (y ▸ ap.m1);have ne2:∀{c:Addr},c∉f2->c≠i2:=λhc y=>hc (y ▸ ap.m2);have hO2:=hO1.keep (h':=h2) λo e=>k2 TO o (ne1 ap.o1) e;have hI2:=hI1.keep (h':=h2) λo e=>k2 TI o ap.n1 e;have z2:=k2 z _ (ne1 ap.z1) z1';have s22:=D2.frame _ _ h2 s21 λc hc o e=>k2 c o (λy=>ap.x12 (y ▸ hc)) e;obtain⟨nO,eO⟩:=id hO2;refine AAA (m:=seqItems? (.ref TO)) (AAt eO rfl ?_);refine AAA (N7 (s:={ s with heap:=h2,toks:=t2 }) (c:=x) (d:=b) hO2 rfl λh3 hO3 b3=>AAA (wpAny_letGo (AAB ?_)));have k3:∀c o,c≠TO->h2.get? c=some o->h3.get? c=some o:=λc o hc e=>(b3.2 c hc).trans e;have hI3:=hI2.keep (h':=h3) λo e=>k3 TI o ap.io e;have z3:=k3 z _ ap.zTO z2;have s13:=D1.frame _ _ h3 s12 λc hc o e=>k3 c o (λy=>ap.o1 (y ▸ hc)) e;have s23:=D2.frame _ _ h3 s22 λc hc o e=>k3 c o (λy=>ap.o2 (y ▸ hc)) e;show wpAny _ _ (forIn [(Value.ref i2,1)] _ _) _ _ _;rw[List.forIn_cons];refine AAA (AAA (wpAny_onRaise (AAA (D2.item k { s with heap:=h3,toks:=t2 } _ _ hk s23 λy h4 t4 py s24 b4=>AAB ?_))));have k4:∀c o,c≠i2->h3.get? c=some o->h4.get? c=some o:=λc o hc e=>(b4.2 c hc).trans e;have hO4:=hO3.keep (h':=h4) λo e=>k4 TO o (ne2 ap.o2) e;have hI4:=hI3.keep (h':=h4) λo e=>k4 TI o ap.n2 e;have z4:=k4 z _ (ne2 ap.z2) z3;have s14:=D1.frame _ _ h4 s13 λc hc o e=>k4 c o (λy=>ap.x21 (y ▸ hc)) e;obtain⟨nO4,eO4⟩:=id hO4;refine AAA (m:=seqItems? (.ref TO)) (AAt eO4 rfl ?_);refine AAA (N7 (s:={ s with heap:=h4,toks:=t4 }) (c:=x) (d:=y) hO4 rfl λh5 hO5 b5=>AAA (wpAny_letGo (AAB ?_)));have k5:∀c o,c≠TO->h4.get? c=some o->h5.get? c=some o:=λc o hc e=>(b5.2 c hc).trans e;have hI5:=hI4.keep (h':=h5) λo e=>k5 TI o ap.io e;have z5:=k5 z _ ap.zTO z4;have s15:=D1.frame _ _ h5 s14 λc hc o e=>k5 c o (λy=>ap.o1 (y ▸ hc)) e;have s25:=D2.frame _ _ h5 s24 λc hc o e=>k5 c o (λy=>ap.o2 (y ▸ hc)) e;show wpAny _ _ (forIn [] _ _) _ _ _;rw[List.forIn_nil];refine AAB ?_;obtain⟨nO5,eO5⟩:=id hO5;refine AAA (m:=seqItems? (.ref TO)) (AAt eO5 rfl ?_);refine AAA (wpAny_newTuple ?_ (by simp[sizeLine]));have kp:∀c o,h5.get? c=some o->(h5.push { cls:=.type "tuple",data:=.seq #[x,y] }).get? c=some o:=λc o e=>AAC _ e;unfold Builtin.SmallTypes.ownedTupleHandOut;refine AAA (AAA (AAm (s:={ s with heap:=h5.push { cls:=.type "tuple",data:=.seq #[x,y] },toks:=t4 }) (kp z _ z5) (by simp) λh6 z6 b6=>AAm (s:={ s with heap:=h6,toks:=t4 }) z6 (by simp) λh7 z7 b7=>AAB ⟨_,rfl,?_⟩));have sz:h5.objs.size=s.heap.objs.size:=by rw[b5.1,b4.1,b3.1,b2.1,b1.1]
 have zlt:z<h5.objs.size:=Heap.lt_size z5;have k7:∀c o,c≠z->h5.get? c=some o->h7.get? c=some o:=λc o hc e=>(b7.2 c hc).trans ((b6.2 c hc).trans (kp c o e));refine q x y h5.objs.size h7 t4 px py (by rw[sz];exact AAF _) ?_ z7 (hI5.keep λo e=>k7 TI o ap.zTI.symm e) (hO5.keep λo e=>k7 TO o ap.zTO.symm e) (D1.frame _ _ h7 s15 λc hc o e=>k7 c o (λy=>ap.z1 (y ▸ hc)) e) (D2.frame _ _ h7 s25 λc hc o e=>k7 c o (λy=>ap.z2 (y ▸ hc)) e) ?_
 ·refine⟨{ cls:=.type "tuple",data:=.seq #[x,y] },?_,rfl,0,rfl⟩;have ne:h5.objs.size≠z:=Nat.ne_of_gt zlt;exact(b7.2 _ ne).trans ((b6.2 _ ne).trans (AAD _ rfl))
 ·intro c o c1 c2 c3 c4 e;exact k7 c o c1 (k5 c o c2 (k4 c o c4 (k3 c o c2 (k2 c o c3 (k1 c o c1 e)))))
theorem Qh{z TI TO i1 i2:Addr}{n:Nat}{a b:Value}(ap:JX z TI TO i1 i2 f1 f2)(D1:Draws prog w A.in1 i1 f1 n P1 S1)
  (hz:s.heap.get? z=some (Dk TI TO .none)) (hI:TwoAt s.heap TI (.ref i1) (.ref i2)) (hO:TwoAt s.heap TO a b) (s1:S1 n s.heap)
  (q:∀h' e,(∀c o,c≠z->c≠i1->s.heap.get? c=some o->h'.get? c=some o)->(∃o,h'.get? e=some o/\o.cls=.type "StopIteration")->E (.ref e) { s with heap:=h' }) :
  wpAny (model prog w) A.in1 (Builtin.«zip.__next__» ⟨[.ref z],[]⟩) Q E s:=by
 obtain⟨nI,eI⟩:=id hI;refine AAA (m:=field (.ref z) 2) (AAs hz rfl (x:=.bool false) rfl (AAA (m:=field (.ref z) 3) (AAs hz rfl (x:=.ref TI) rfl (AAA (m:=seqItems? (.ref TI)) (AAt eI rfl ?_)))));refine Cv (by simp) (AAA (m:=Builtin.SmallTypes.ownedTupleIsFree (.ref z)) ?_);unfold Builtin.SmallTypes.ownedTupleIsFree;refine AAA (m:=field (.ref z) 0) (AAs hz rfl (x:=.none) rfl (AAB ?_));rw[if_pos rfl];refine AAA (wpAny_rule (AAA (m:=field (.ref z) 4) (AAs hz rfl (x:=.ref TO) rfl (AAA (AAm hz (by simp) λh1 z1 b1=>?_)))));have s11:=D1.frame _ _ h1 s1 λc hc o e=>(b1.2 c (λy=>ap.z1 (y ▸ hc))).trans e;refine AAA (m:=forIn [(Value.ref i1,0),(Value.ref i2,1)] _ _) ?_;rw[List.forIn_cons];refine AAA (AAA (wpAny_onRaise (AAA (D1.done { s with heap:=h1 } _ _ s11 λh2 e eb so=>?_))));have zne:z≠i1:=λy=>ap.z1 (y ▸ ap.m1);have z2:h2.get? z=some (Dk TI TO .ellipsis):=eb z _ zne z1;obtain⟨oe,he,hce⟩:=so;refine AAm (s:={ s with heap:=h2 }) z2 (by simp) λh3 z3 b3=>q h3 e (λc o c1 c2 x=>(b3.2 c c1).trans (eb c o c2 ((b1.2 c c1).trans x))) ⟨oe,?_,hce⟩;have ez:e≠z:=λy=>by
  rw[y,z2] at he;cases he;exact absurd (Value.type.inj (show Value.type "zip" = Value.type "StopIteration" from hce)) (by decide)
 exact(b3.2 e ez).trans he
theorem IK{z TI TO:Addr}(hz:s.heap.get? z=some (Dk TI TO f0))(h:Q (.ref z) s):wpAny (model prog w) A (pyIter (.ref z)) Q E s:=wpAny_pyIter_zip hz h
theorem PD(hh:A.handled=none){z TI TO i1 i2:Addr}{n:Nat}{S1 S2:Nat->Heap->Prop}{f1 f2:List Addr}(ap:JX z TI TO i1 i2 f1 f2)
  (D1:Draws prog w A.in1 i1 f1 n P1 S1) (D2:Draws prog w A.in1 i2 f2 n P2 S2) :
  WalksT prog w A z (z::TI::TO::(f1++f2)) [z,TI,TO,i1,i2] n (λk vals=>∃x y,P1 k x/\P2 k y/\vals=#[x,y])
   (λk h=>h.get? z=some (Dk TI TO .none)/\TwoAt h TI (.ref i1) (.ref i2)/\(∃a b,TwoAt h TO a b)/\S1 k h/\S2 k h)
   (λk T h=>h.get? z=some (Dk TI TO (rawInt T))/\TwoAt h TI (.ref i1) (.ref i2)/\(∃a b,TwoAt h TO a b)/\S1 (k+1) h/\S2 (k+1) h/\T≠z/\T≠TI/\T≠TO/\T≠i1/\T≠i2) where
 sub:=λc hc=>by
  have hc':c=z∨c=TI∨c=TO∨c=i1∨c=i2:=by simpa using hc
  rcases hc' with e|e|e|e|e<;>subst e
  ·simp
  ·simp
  ·simp
  ·simp[ap.m1]
  ·simp[ap.m2]
 frame:=λk h h' st kp=>by
  obtain⟨a1,a2,⟨a,b,a3⟩,a4,a5⟩:=st;exact⟨kp z (by simp) _ a1,a2.keep λo e=>kp TI (by simp) o e,⟨a,b,a3.keep λo e=>kp TO (by simp) o e⟩,D1.frame _ _ _ a4 λc hc o e=>kp c (by simp[hc]) o e,D2.frame _ _ _ a5 λc hc o e=>kp c (by simp[hc]) o e⟩
 item:=λk s Q E hk st q=>by
  obtain⟨a1,a2,⟨a,b,a3⟩,a4,a5⟩:=st;have ty:s.TypeIs (.ref z) "zip" := ⟨_,a1,rfl⟩;unfold pyNext;refine AAA (AAu (wpAny_callSpecial?_slot (name:=Str.ofString "__next__") ty F.slot_zip_next (AAa F.slot_zip_next ty F.entry_zip_next (Qi ap D1 D2 hk a1 a2 a3 a4 a5 λx y T h' tk px py hT tup b1 b2 b3 b4 b5 kp=>?_) (F.args_zip_next_1 _))));have lt:∀{c:Addr} {o:Obj},s.heap.get? c=some o->T≠c:=λe=>Nat.ne_of_gt (AAM (Heap.lt_size e) hT);obtain⟨o1,e1⟩:=D1.live _ _ a4;obtain⟨o2,e2⟩:=D2.live _ _ a5;obtain⟨n3,e3⟩:=a3;obtain⟨n4,e4⟩:=id a2;refine AAB (q T #[x,y] h' tk ⟨x,y,px,py,rfl⟩ hT tup ⟨b1,b2,⟨x,y,b3⟩,b4,b5,lt a1,lt e4,lt e3,lt e1,lt e2⟩ λc o hc e=>?_);exact kp c o (λz=>hc (by simp[z])) (λz=>hc (by simp[z])) (λz=>hc (by simp[z])) (λz=>hc (by simp[z])) e
 go:=λes k0 pos k T s Q E st q=>by
  obtain⟨a1,a2,a3,a4,a5,t1,t5,t2,t3,t4⟩:=st;refine wpAny_letOwnedTupleGo_zip a1 λh' hz' sb=>?_;have kp:∀c o,c≠z->s.heap.get? c=some o->h'.get? c=some o:=λc o hc e=>(sb.2 c hc).trans e;obtain⟨a,b,a3⟩:=a3;refine q h' ⟨hz',a2.keep λo e=>kp TI o ap.zTI.symm e,⟨a,b,a3.keep λo e=>kp TO o ap.zTO.symm e⟩,D1.frame _ _ _ a4 λc hc o e=>kp c o (λy=>ap.z1 (y ▸ hc)) e,D2.frame _ _ _ a5 λc hc o e=>kp c o (λy=>ap.z2 (y ▸ hc)) e⟩ λc o hc e=>kp c o (λy=>hc (by simp[y])) e
 apart:=λk T h st hT=>by
  obtain⟨_,_,_,_,_,t1,t5,t2,t3,t4⟩:=st;have hT':T=z∨T=TI∨T=TO∨T=i1∨T=i2:=by simpa using hT
  rcases hT' with e|e|e|e|e
  ·exact t1 e
  ·exact t5 e
  ·exact t2 e
  ·exact t3 e
  ·exact t4 e
 done:=λs Q E st q=>by
  obtain⟨a1,a2,⟨a,b,a3⟩,a4,a5⟩:=st;have ty:s.TypeIs (.ref z) "zip" := ⟨_,a1,rfl⟩;unfold pyNext;refine AAA (AAu (wpAny_callSpecial?_slot (name:=Str.ofString "__next__") ty F.slot_zip_next (AAa F.slot_zip_next ty F.entry_zip_next (Qh ap D1 a1 a2 a3 a4 λh' e kp so=>?_) (F.args_zip_next_1 _))));obtain⟨o,ho,hc⟩:=so;refine AAA (wpAny_isInstance (T := "StopIteration") (b:=true) ⟨o,ho,hc⟩ isSubtype_stop (AAB (q h' s.toks λc o hc e=>?_)));exact kp c o (λy=>hc (by simp[y])) (λy=>hc (by simp[y])) e
 self:=λk s Q E st h=>IK st.1 h
end
end L2
namespace L2
open PySem PySem.Spec PyProof.Rows
noncomputable abbrev HG(a b:Value):Obj:={ cls:=.type "tuple",data:=.seq #[a,b] }
noncomputable abbrev zh2(h:Heap)(o1 o2:Obj):Heap:=(h.push o1).push o2
noncomputable abbrev zh4(h:Heap)(o1 o2:Obj):Heap:=((zh2 h o1 o2).push (HG (.ref h.objs.size) (.ref (h.push o1).objs.size))).push (HG .none .none)
noncomputable abbrev zh5(h:Heap)(o1 o2:Obj):Heap:=(zh4 h o1 o2).push (Dk (zh2 h o1 o2).objs.size ((zh2 h o1 o2).push (HG (.ref h.objs.size) (.ref (h.push o1).objs.size))).objs.size .none)
theorem Tn(v1 v2:Value)(o1 o2:Obj)(g1 g2:Heap->Prop)(g2p:∀h,g2 h->g2 (h.push o1))
  (w1:∀(prog:Program) (w:World) (A:Around) (E:Value->Shared->Prop) (s:Shared) (Q:Value->Shared->Prop),g1 s.heap->Q (.ref s.heap.objs.size) { s with heap:=s.heap.push o1 }->wpAny (model prog w) A (pyIter v1) Q E s)
  (w2:∀(prog:Program) (w:World) (A:Around) (E:Value->Shared->Prop) (s:Shared) (Q:Value->Shared->Prop),g2 s.heap->Q (.ref s.heap.objs.size) { s with heap:=s.heap.push o2 }->wpAny (model prog w) A (pyIter v2) Q E s) :
  Meets (Builtin.«zip.__new__» ⟨[.type "zip",v1,v2],[]⟩) (λ_ R s=>g1 s.heap/\g2 s.heap/\R (.ok (.ret (.ref (zh4 s.heap o1 o2).objs.size))) { s with heap:=zh5 s.heap o1 o2 }):=by
 refine .of_wp λprog w A R s ⟨x1,x2,q⟩=>?_;have own:=sub_zip;have walk1:∀(A:Around) (E:Value->Shared->Prop) (Q:Value->Shared->Prop),Q (.ref s.heap.objs.size) { s with heap:=s.heap.push o1 }->wpAny (model prog w) A (pyIter v1) Q E s:=λA E Q z=>w1 prog w A E s Q x1 z;have walk2:∀(A:Around) (E:Value->Shared->Prop) (Q:Value->Shared->Prop),Q (.ref (s.heap.push o1).objs.size) { s with heap:=zh2 s.heap o1 o2 }->wpAny (model prog w) A (pyIter v2) Q E { s with heap:=s.heap.push o1 }:=λA E Q z=>w2 prog w A E { s with heap:=s.heap.push o1 } Q (g2p _ x2) z;obtain⟨hp,gs,dr,tk,os⟩:=s
 wp_walk using walk1,walk2
 exact⟨_,rfl,q⟩
noncomputable def To(xs ys:List V)(i:Nat):List V:=[xs.getD i .non,ys.getD i .non]
theorem O8(r:Vals xs its)(r2:Vals ys jts)(h:∃x y,its.toArray[i]?=some x/\jts.toArray[i]?=some y/\vals=#[x,y]):Vals (To xs ys i) vals.toList:=by
 obtain⟨x,y,hx,hy,rfl⟩:=h;have one:∀{zs:List V} {us:List Value} {u:Value},Vals zs us->us.toArray[i]?=some u->RelV (zs.getD i .non) u:=λ{zs us u} rz hu=>by
  have hu':us[i]?=some u:=by simpa using hu
  have hl:=rz.length;have lt:i<zs.length:=by have:=(AAT.mp hu').1;omega
  obtain⟨u',e1,e2⟩:=rz.get (show zs[i]?=some zs[i] by simp[lt]);rw[hu'] at e1;cases e1;simpa[List.getD,lt] using e2
 exact .cons (one r hx) (.cons (one r2 hy) .nil)
section
theorem Td:bootBuiltins "zip" = some (.type "zip"):=by decide +kernel
end
section
variable{X:Cx}
theorem nin(h1:c≠n)(h2:c≠l):c∉([n,l]:List Nat):=λh=>by
 have h':c=n∨c=l:=by simpa using h
 exact h'.elim h1 h2
theorem zap(n l m:Nat)(hl:l<n)(hm:m<n):JX (n+4) (n+2) (n+3) n (n+1) [n,l] [n+1,m] where
 zTI:=(by omega:¬(n+4:Nat)=n+2)
 zTO:=(by omega:¬(n+4:Nat)=n+3)
 io:=(by omega:¬(n+2:Nat)=n+3)
 z1:=nin (by omega) (by omega)
 z2:=nin (by omega) (by omega)
 o1:=nin (by omega) (by omega)
 o2:=nin (by omega) (by omega)
 n1:=(by omega:¬(n+2:Nat)=n)
 n2:=(by omega:¬(n+2:Nat)=n+1)
 m1:=AAP
 m2:=AAP
 x12:=nin (by omega) (by omega)
 x21:=nin (by omega) (by omega)
theorem Vi(I:Inv X w6 O H s)(c:Addr)(hc:s.heap.objs.size<=c):Fy X w6 H c:=I.fpOk hc (I.hok.fresh hc)
end
inductive Sk where
 |t|l
namespace Sk
def sq(k:Sk)(K:PySem.W.Frag)(H:Hp)(a:Addr)(xs:List V):Prop:=match k with
 | .t=>SqT K H a xs
 | .l=>SqL K H a xs
noncomputable def nm(k:Sk):String:=match k with
 | .t => "tuple_iterator"
 | .l => "list_iterator"
noncomputable def ob(k:Sk)(a:Addr):Obj:={ cls:=.type k.nm,data:=.fields #[.ref a,.int 0 0] }
def it(k:Sk)(h:Heap)(i a:Addr)(n:Nat):Prop:=∃o,h.get? i=some o/\o.cls=.type k.nm/\o.data=.fields #[.ref a,.int n 0]
def cn(k:Sk)(h:Heap)(a:Addr)(xs:Array Value):Prop:=match k with
 | .t=>h.IsTuple a xs
 | .l=>h.IsList a xs
variable{k:Sk}{a i:Addr}{h h':Heap}{n:Nat}{xs:Array Value}
theorem it.keep(x:k.it h i a n)(q:∀o,h.get? i=some o->h'.get? i=some o):k.it h' i a n:=by
 obtain⟨o,e,r⟩:=x;exact⟨o,q o e,r⟩
theorem cn.keep(x:k.cn h a xs)(q:∀o,h.get? a=some o->h'.get? a=some o):k.cn h' a xs:=by
 cases k with
 |t=>obtain⟨o,e,r⟩:=x;exact⟨o,q o e,r⟩
 |l=>obtain⟨o,e,r⟩:=x;exact⟨o,q o e,r⟩
theorem cn.lt(x:k.cn h a xs):a<h.objs.size:=by
 cases k with
 |t=>obtain⟨o,e,_⟩:=x;exact Heap.lt_size e
 |l=>obtain⟨o,e,_⟩:=x;exact Heap.lt_size e
theorem into(I:Inv X w6 O H s)(c:k.sq X.K H a vs):∃its,Vals vs its/\k.cn s.heap a its.toArray:=by
 cases k with
 |t=>obtain⟨its,r,p,_⟩:=I.tuple c;exact⟨its,r,p⟩
 |l=>obtain⟨its,r,p,_⟩:=I.list c;exact⟨its,r,p.isList⟩
theorem iter(x:k.cn s.heap a xs)(q:Q (.ref s.heap.objs.size) { s with heap:=s.heap.push (k.ob a) }):wpAny (model prog w) A (pyIter (.ref a)) Q E s:=by
 cases k with
 |t=>exact wpAny_pyIter_tuple x q
 |l=>exact wpAny_pyIter_list x q
theorem draws(hA:A.handled=none)(i a:Addr)(hn:a≠i)(xs:Array Value):Draws P w A i [i,a] xs.size (λj v=>xs[j]?=some v) (λj h=>k.it h i a j/\k.cn h a xs):=by
 cases k with
 |t=>exact KR hA i a hn xs
 |l=>exact Draws.list hA i a hn xs
end Sk
theorem Sk.inj{k:Sk}{X:Cx}{w6:List (Addr×Obj)}{O:St}(I:Inv X w6 O H s)(x:k.sq X.K H a xs)(y:k.sq X.K H a ys):xs=ys:=by
 cases k with
 |t=>exact I.tuple_inj x y
 |l=>exact I.list_inj x y
noncomputable def ItZ(K:PySem.W.Frag)(k1 k2:Sk)(a b:Addr):It:=⟨λi H=>∃xs ys,k1.sq K H a xs/\k2.sq K H b ys/\ys.length=xs.length/\i<xs.length,λi H v H'=>∃T src,H T=none/\v=.ref T/\H'=upd H T (.tup src)/\∀xs ys,k1.sq K H a xs->k2.sq K H b ys->src=To xs ys i,λi H=>∃xs ys,k1.sq K H a xs/\k2.sq K H b ys/\ys.length=xs.length/\i=xs.length⟩
theorem PM{P:Program}{w:World}{K:PySem.W.Frag}(k1 k2:Sk)(a b z TI TO i1 i2:Addr)(ap:JX z TI TO i1 i2 [i1,a] [i2,b])(h1:a≠i1)(h2:b≠i2):
  Jl P w K (.Tuple es k0 pos) (ItZ K k1 k2 a b) [z,TI,TO,i1,i2] z (λi h=>h.get? z=some (Dk TI TO .none)/\TwoAt h TI (.ref i1) (.ref i2)/\(∃c d,TwoAt h TO c d)/\k1.it h i1 a i/\k2.it h i2 b i):=by
 have W:∀(A:Around) (hA:A.handled=none) (xs ys:List V) (its jts:List Value),Vals xs its->Vals ys jts->ys.length=xs.length->_:=λA hA xs ys its jts r r2 hl=>by
  have l1:its.toArray.size=xs.length:=by rw[List.size_toArray];exact r.length.symm
  have l2:jts.toArray.size=xs.length:=by rw[List.size_toArray,←hl];exact r2.length.symm
  have D1:=Sk.draws (k:=k1) (P:=P) (w:=w) (A:=A.in1) hA i1 a h1 its.toArray;have D2:=Sk.draws (k:=k2) (P:=P) (w:=w) (A:=A.in1) hA i2 b h2 jts.toArray;rw[l1] at D1;rw[l2] at D2;exact PD hA ap D1 D2
 refine⟨AAP,λi h st=>?obj,λi h h' st k=>?keep,?item,?done,λA i s Q E st h=>IK st.1 h⟩
 case obj=>
  intro c hc;obtain⟨a1,⟨n1,a2⟩,⟨c0,d0,n2,a3⟩,⟨o4,a4,_,d4⟩,⟨o5,a5,_,d5⟩⟩:=st;have hc':c=z∨c=TI∨c=TO∨c=i1∨c=i2:=by simpa using hc
  rcases hc' with e|e|e|e|e<;>subst e
  ·exact⟨_,a1,λv q=>by cases q⟩
  ·exact⟨_,a2,λv q=>by cases q⟩
  ·exact⟨_,a3,λv q=>by cases q⟩
  ·exact⟨_,a4,λv q=>by rw[d4] at q;cases q⟩
  ·exact⟨_,a5,λv q=>by rw[d5] at q;cases q⟩
 case keep=>
  obtain⟨a1,a2,⟨c0,d0,a3⟩,a4,a5⟩:=st;exact⟨k z (by simp) _ a1,a2.keep λo e=>k TI (by simp) o e,⟨c0,d0,a3.keep λo e=>k TO (by simp) o e⟩,a4.keep (k i1 (by simp)),a5.keep (k i2 (by simp))⟩
 case item=>
  intro X hP hw hK hc i w6 s O H E I hf st hg;subst hP hw hK;obtain⟨xs,ys,c1,c2,hl,hi⟩:=hg;obtain⟨a1,a2,a3,a4,a5⟩:=st;obtain⟨its,r,p⟩:=Sk.into I c1;obtain⟨jts,r2,p2⟩:=Sk.into I c2;have W':=W X.A (I.ok.hd hc) xs ys its jts r r2 hl;refine W'.item i s _ _ hi ⟨a1,a2,a3,⟨a4,p⟩,⟨a5,p2⟩⟩ λT vals h' tk hp hT ht hm kk=>⟨_,rfl,?_⟩;have I1:Inv X w6 O H { s with heap:=h',toks:=tk }:=I.turnedL kk hf;refine W'.go es k0 pos i T _ _ _ hm λh2 st2 kk2=>?_;have I2:Inv X w6 O H { s with heap:=h2,toks:=tk }:=I1.turnedL (t':=tk) kk2 hf;have hn:H T=none:=I.hok.fresh hT;have ht2:IsTup h2 T vals:=by
   obtain⟨o,e,r⟩:=ht;exact⟨o,kk2 T o (W'.apart i T _ hm) e,r⟩
  obtain⟨b1,b2,b3,b4,b5⟩:=st2;refine⟨.ref T,upd H T (.tup (To xs ys i)),I2.track (I.fpOk hT hn) ⟨(by show 2<=sizeLine;decide),vals.toList,O8 r r2 hp,by simpa using ht2⟩,rfl,⟨T,_,hn,rfl,rfl,λxs' ys' g1 g2=>by rw[Sk.inj I g1 c1,Sk.inj I g2 c2]⟩,⟨b1,b2,b3,b4.1,b5.1⟩,λc hc=>?_⟩;have hcT:c≠T:=λz=>W'.apart i T _ hm (by rw[←z];exact hc);rw[Aw hcT];exact(hf c hc).1
 case done=>
  intro X hP hw hK hc i w6 s O H E I hf st hg;subst hP hw hK;obtain⟨xs,ys,c1,c2,hl,hi⟩:=hg;subst hi;obtain⟨a1,a2,a3,a4,a5⟩:=st;obtain⟨its,r,p⟩:=Sk.into I c1;obtain⟨jts,r2,p2⟩:=Sk.into I c2;exact(W X.A (I.ok.hd hc) xs ys its jts r r2 hl).done s _ _ ⟨a1,a2,a3,⟨a4,p⟩,⟨a5,p2⟩⟩ λh' tk kk=>⟨rfl,I.turnedL kk hf⟩
section
variable{X:Cx}{es:List Expr}{k0:Nat}{tpos:Pos}
noncomputable def aW(K:PySem.W.Frag)(ta:TA):TI:=λO H R=>ta O H λvs H1=>∃(k1 k2:Sk) (a b:Addr) (xs ys:List V),vs=[.ref a,.ref b]/\k1.sq K H1 a xs/\k2.sq K H1 b ys/\R (ItZ K k1 k2 a b) H1
theorem Uo{a b:Expr}(hg:Gl X "zip")(hm:X.mg "zip" = none)(ha:PA X [a,b] ta)(hs:starEach [a,b] X.env=(false,eval a X.env)::starEach [b] X.env)(hpl:(backTo pos (starEach [b] X.env)).any (·.1)=false):
  PI X (.Tuple es k0 tpos) (.Call (.Name "zip" p) [a,b] [] pos) (aW X.kw ta):=by
 intro w6 s O H R I h;refine Call_ (GU I hg hm Td (PyProof.Rows.callWith_type1 (thn (ha pos w6 s O H _ I h) λus s1 ⟨vs,H1,I1,r1,q1⟩=>?_) hs hpl));obtain⟨k1,k2,l,m,xs,ys,ev,hx,hy,q⟩:=q1;subst ev;obtain⟨u1,u2,eu,ru1,ru2⟩:=Vals.two r1;subst eu;cases ru1;cases ru2;obtain⟨its,rx,px⟩:=Sk.into I1 hx;obtain⟨jts,ry,py⟩:=Sk.into I1 hy;have ltl:=px.lt;have ltm:=py.lt;have new:=Tn (.ref l) (.ref m) (k1.ob l) (k2.ob m) (λh=>k1.cn h l its.toArray) (λh=>k2.cn h m jts.toArray) (λh x=>x.keep λo e=>AAC _ e) (λ_ _ _ _ _ _ g z=>Sk.iter g z) (λ_ _ _ _ _ _ g z=>Sk.iter g z);refine callType_new F.called_zip (by decide) (F.typeCall_zip_2 _ _) (F.newCall_zip_2 _ _) (λobj=>F.args_object_init_3 obj _ _) F.entry_zip_new new ⟨px,py,?_⟩;have f1:(k1.ob l).isFreed=false:=by cases k1<;>rfl
 have f2:(k2.ob m).isFreed=false:=by cases k2<;>rfl
 have q1:(k1.ob l).cls=.type k1.nm/\(k1.ob l).data=.fields #[.ref l,.int 0 0]:=⟨rfl,rfl⟩;have q2:(k2.ob m).cls=.type k2.nm/\(k2.ob m).data=.fields #[.ref m,.int 0 0]:=⟨rfl,rfl⟩;generalize k1.ob l=o1 at *;generalize k2.ob m=o2 at *;have n1:(s1.heap.push o1).objs.size=s1.heap.objs.size+1:=Heap.size_push ..;have n2:(zh2 s1.heap o1 o2).objs.size=s1.heap.objs.size+2:=by rw[Heap.size_push,n1]
 have n3:((zh2 s1.heap o1 o2).push (HG (.ref s1.heap.objs.size) (.ref (s1.heap.push o1).objs.size))).objs.size=s1.heap.objs.size+3:=by rw[Heap.size_push,n2]
 have n4:(zh4 s1.heap o1 o2).objs.size=s1.heap.objs.size+4:=by rw[Heap.size_push,n3]
 have kp:∀c o,s1.heap.get? c=some o->(zh5 s1.heap o1 o2).get? c=some o:=λc o e=>AAC _ (AAC _ (AAC _ (AAC _ (AAC _ e))));have a1:(zh5 s1.heap o1 o2).get? s1.heap.objs.size=some o1:=AAC _ (AAC _ (AAC _ (AAC _ (AAD _ f1))));have a2:(zh5 s1.heap o1 o2).get? (s1.heap.objs.size+1)=some o2:=by rw[←n1];exact AAC _ (AAC _ (AAC _ (AAD _ f2)))
 have a3:(zh5 s1.heap o1 o2).get? (s1.heap.objs.size+2)=some (HG (.ref s1.heap.objs.size) (.ref (s1.heap.objs.size+1))):=by
  rw[←n1,←n2];exact AAC _ (AAC _ (AAD _ rfl))
 have a4:(zh5 s1.heap o1 o2).get? (s1.heap.objs.size+3)=some (HG .none .none):=by
  rw[←n3];exact AAC _ (AAD _ rfl)
 have a5:(zh5 s1.heap o1 o2).get? (s1.heap.objs.size+4)=some (Dk (s1.heap.objs.size+2) (s1.heap.objs.size+3) .none):=by
  rw[←n4,←n2,←n3];exact AAD _ rfl
 show _/\_;rw[n4];refine⟨⟨_,a5,rfl⟩,IK a5 ?_⟩;refine⟨s1.heap.objs.size+4,[s1.heap.objs.size+4,s1.heap.objs.size+2,s1.heap.objs.size+3,s1.heap.objs.size,s1.heap.objs.size+1],_,_,H1,rfl,I1.kept (t':=s1.toks) kp,
  PM k1 k2 l m (s1.heap.objs.size+4) (s1.heap.objs.size+2) (s1.heap.objs.size+3) s1.heap.objs.size (s1.heap.objs.size+1) (zap _ l m ltl ltm) (AAb ltl) (AAb (AAe ltm)),⟨a5,⟨_,a3⟩,⟨_,_,_,a4⟩,⟨o1,a1,q1.1,q1.2⟩,⟨o2,a2,q2.1,q2.2⟩⟩,λc hc=>Vi I1 c ?_,q⟩
 have hc':c=s1.heap.objs.size+4∨c=s1.heap.objs.size+2∨c=s1.heap.objs.size+3∨c=s1.heap.objs.size∨c=s1.heap.objs.size+1:=by simpa using hc
 rcases hc' with e|e|e|e|e<;>subst e<;>first|exact AAF _|exact Nat.le_add_right _ _
end
end L2
namespace Mi
open PySem L2
section
noncomputable def IM:List D->List D->List D
 |x::xs,y::ys=>.tup [x,y]::IM xs ys
 |_,_=>[]
noncomputable def N1:List D->M (List D)
 |[.tup xs,.tup ys]=>λZ=>if ys.length=xs.length then some (IM xs ys,Z) else none
 |_=>BD
noncomputable def VJ(m:Sl->M (List D)):Sl->M (List D):=λB=>bnd (m B) N1
theorem LR:∀{xs ys:List D},ys.length=xs.length->(IM xs ys).length=xs.length
 |[],[],_=>rfl
 |x::xs,y::ys,h=>by unfold IM;simp at h ⊢;exact LR h
 |[],_::_,h=>by simp at h
 |_::_,[],h=>by simp at h
theorem LS:∀{xs ys:List D} {j:Nat} {d:D},(IM xs ys)[j]?=some d->∃x y,xs[j]?=some x/\ys[j]?=some y/\d=.tup [x,y]
 |[],_,j,d,h=>by simp[IM] at h
 |_::_,[],j,d,h=>by simp[IM] at h
 |x::xs,y::ys,0,d,h=>by simp[IM] at h;exact⟨x,y,rfl,rfl,h.symm⟩
 |x::xs,y::ys,j+1,d,h=>by
  obtain⟨x',y',h1,h2,h3⟩:=LS (xs:=xs) (ys:=ys) (j:=j) (d:=d) (by simpa[IM] using h);exact⟨x',y',by simpa using h1,by simpa using h2,h3⟩
end
section
variable{K:KW}{Y:Nat->Addr}{Z Z':Mh}{H:Hp}{d:D}{v:V}{ds es:List D}
theorem ZC(R:RelH K Y Z H)(s1:k1.sq K H p vs)(s2:k2.sq K H q ws)(i:IsL K Y Z.length H ds vs)(j:IsL K Y Z.length H es ws)(hd:(IM ds es)[k]?=some d)(y:(ItZ K k1 k2 p q).yld k H x H2):Ext Y Z.length H Y Z.length H2/\RelH K Y Z H2/\Is K Y Z.length H2 d x:=by
 obtain⟨T,src,hT,rfl,rfl,u⟩:=y;obtain⟨E2,R2⟩:=R.laid (.tup src) hT;refine⟨E2,R2,?_⟩;obtain⟨x,y,h1,h2,rfl⟩:=LS hd;obtain⟨v,ev,iv⟩:=i.get h1;obtain⟨u',eu,iu⟩:=j.get h2;have es':src=[v,u']:=by rw[u vs ws s1 s2];unfold To;simp[List.getD,ev,eu]
 subst es';unfold Is;exact⟨T,_,rfl,SqT.of BK,.cons (iv.ext E2) (.one (iu.ext E2))⟩
theorem Sf(st1:∀Y' (ν:Mh) H',Ext Y Z.length H Y' ν.length H'->k1.sq K H' p vs)(st2:∀Y' (ν:Mh) H',Ext Y Z.length H Y' ν.length H'->k2.sq K H' q ws)(i:IsL K Y Z.length H ds vs)(j:IsL K Y Z.length H es ws)(hl:es.length=ds.length):
  ItM K (ItZ K k1 k2 p q) (IM ds es) Y Z H:=by
 intro Y' Z' H' E R;have s1:=st1 Y' Z' H' E;have s2:=st2 Y' Z' H' E;have hl':ws.length=vs.length:=by rw[i.length,j.length,hl]
 rw[LR hl,←i.length];exact⟨λk hk=>⟨vs,ws,s1,s2,hl',hk⟩,⟨vs,ws,s1,s2,hl',rfl⟩,λk x H2 d hd y=>ZC R s1 s2 (i.ext E) (j.ext E) hd y⟩
end
section
variable{X:Cx}{a b:Expr}{es:List Expr}{pos:Pos}
theorem Kr(hm:X.mg "zip" = none)(ha:RA X [a,b] m)(hg:Gl X "zip" := by rfl)(hs:starEach [a,b] X.env=(false,eval a X.env)::starEach [b] X.env:=by exact Ak rfl)(hpl:(backTo pos (starEach [b] X.env)).any (·.1)=false:=by exact A5 rfl):
  RI X (.Tuple es k0 tpos) (.Call (.Name "zip" p) [a,b] [] pos) (VJ m):=
 RI.wk (Uo hg hm ha.pe hs hpl) λO H R q=>by
  obtain⟨Y,Z,B,ds,Z',R0,S,e,q⟩:=q;obtain⟨xs,w9,e1,e2⟩:=AH e;refine⟨Y,Z,B,xs,w9,R0,S,e1,λv5 H1 E1 R1 vs i1=>?_⟩;unfold N1 at e2;split at e2
  ·rename_i xs ys;split at e2
   ·rename_i hl;cases e2;obtain⟨v,u,rfl,i2,i3⟩:=VZ i1;unfold Is at i2 i3;obtain⟨p,ws,rfl,h1,h2⟩:=i2;obtain⟨p',ws',rfl,h1',h2'⟩:=i3;exact⟨.t,.t,p,p',ws,ws',rfl,h1,h1',q v5 H1 E1 R1 _ (Sf (k1:=.t) (k2:=.t) (λY' ν H' E=>Gf E h1) (λY' ν H' E=>Gf E h1') h2 h2' hl)⟩
   ·cases e2
  ·cases e2
end
end Mi
namespace L2
open PySem PySem.Spec PyProof.Rows Sem
noncomputable def Bg(xs:List Str):List Str:=xs.foldl (λys x=>if x∈ys then ys else ys++[x]) []
theorem HK(xs:List Str)(x:Str):Bg (xs++[x])=if x∈Bg xs then Bg xs else Bg xs++[x]:=by
 unfold Bg;rw[List.foldl_append];rfl
theorem J7:∀(xs ys:List Str),(xs.foldl (λys x=>if x∈ys then ys else ys++[x]) ys).length<=ys.length+xs.length
 |[],ys=>AAF _
 |x::xs,ys=>by
  rw[List.foldl_cons];have:=J7 xs (if x∈ys then ys else ys++[x]);split at this<;>simp at this ⊢<;>(try split)<;>simp_all<;>omega
theorem Ob(xs:List Str):(Bg xs).length<=xs.length:=by
 have:=J7 xs [];simpa[Bg] using this
section
variable{prog:Program}{w:World}{A:Around}{E:Value->Shared->Prop}{s:Shared}
theorem Q9(hS:s.heap.SetOf (strKind prog w) S (λk=>decide (k∈Bg xs)) (Bg xs).length)(room:xs.length+2<scanBound)
  (q:∀b h' tk,Heap.SameBut S s.heap h'->h'.SetOf (strKind prog w) S (λk=>decide (k∈Bg (xs++[x]))) (Bg (xs++[x])).length->Q b { s with heap:=h',toks:=tk }) :
  wpAny (model prog w) A (setAdd S (.str x t)) Q E s:=by
 unfold setAdd;refine AAl (AAA ((strKind prog w).pyHash (strKind_is prog w x t) ?_));have le:=Ob xs;refine wpAny_setAddHashed_of (knd:=strKind prog w) (s:={ s with toks:=s.toks+1 }) (strKind_is prog w x t) rfl hS (by omega) λh' sb hS'=>q _ h' _ sb ?_;have e1:(λk':Str=>decide (k'∈Bg xs)||decide (k'=x))=λk'=>decide (k'∈Bg (xs++[x])):=by
  funext k'
  rw[HK];split
  ·rename_i hx;by_cases e:k'=x
   ·subst e;simp[hx]
   ·simp[e]
  ·simp
 have e2:(if decide (x∈Bg xs)=true then (Bg xs).length else (Bg xs).length+1)=(Bg (xs++[x])).length:=by
  rw[HK];by_cases hx:x∈Bg xs<;>simp[hx]
 rw[e1,e2] at hS';exact hS'
theorem RB(hh:A.in1.handled=none)(hlI:l≠I)(hSI:S≠I)(hSl:S≠l)(rv:Vals (ss.map V.str) its)(room:ss.length+2<scanBound):
  ∀(m i:Nat) (s:Shared),ss.length-i=m->i<=ss.length->s.heap.IsListIter I l i->s.heap.IsList l its.toArray->s.heap.SetOf (strKind prog w) S (λk=>decide (k∈Bg (ss.take i))) (Bg (ss.take i)).length->
   (∀h' tk,(∀c o,c≠S->c≠I->s.heap.get? c=some o->h'.get? c=some o)->h'.SetOf (strKind prog w) S (λk=>decide (k∈Bg ss)) (Bg ss).length->R (.ok (.ret .none)) { s with heap:=h',toks:=tk })->
   codeAny (model prog w) A (.builtin "set.update.loop" ⟨[.ref S,.ref I],[]⟩) R s:=by
 have hl:its.length=ss.length:=by have:=rv.length;simpa using this.symm
 have W:=Walks.list (prog:=prog) (w:=w) hh I l hlI its.toArray;intro m
 induction m with
 |zero=>
  intro i s hm hi hit hls hS q;have ei:i=ss.length:=by omega
  subst ei;refine codeAny_builtin PyProof.Rows.F.entry_set_update_loop ?_;rw[Around.under_plainId PyProof.Rows.F.plain_set_update_loop _];refine AAA (m:=pyNext (.ref I)) (W.done s _ _ ⟨by rw[List.size_toArray,hl];exact hit,hls⟩ λh' tk kp=>AAB ?_);rw[List.take_length] at hS;obtain⟨o,es,ep,tb,ho,rest⟩:=hS;exact q h' tk (λc o _ c2 e=>kp c o (by simpa using c2) e) ⟨o,es,ep,tb,kp S o (by simpa using hSI) ho,rest⟩
 |succ m ih=>
  intro i s hm hi hit hls hS q;have lt:i<ss.length:=by omega
  refine codeAny_builtin PyProof.Rows.F.entry_set_update_loop ?_;rw[Around.under_plainId PyProof.Rows.F.plain_set_update_loop _];refine AAA (m:=pyNext (.ref I)) (W.item i s _ _ (by rw[List.size_toArray,hl];exact lt) ⟨hit,hls⟩ λv h' tk hv st kp=>?_);obtain⟨u,eu,ru⟩:=rv.get (show (ss.map V.str)[i]?=some (V.str ss[i]) by simp[lt]);have hv':its[i]?=some v:=by simpa using hv
  rw[eu] at hv';cases hv';obtain⟨t,rfl⟩:=ru;obtain⟨o,es,ep,tb,ho,rest⟩:=hS;have hS1:h'.SetOf (strKind prog w) S (λk=>decide (k∈Bg (ss.take i))) (Bg (ss.take i)).length:=⟨o,es,ep,tb,kp S o (by simpa using hSI) ho,rest⟩;refine AAA (AAl (Q9 (s:={ s with heap:=h',toks:=tk }) hS1 (by rw[List.length_take];omega) λb h2 t2 sb hS2=>?_));have tk1:ss.take i++[ss[i]]=ss.take (i+1):=by rw[List.take_succ,AAq lt];rfl
  rw[tk1] at hS2;have k2:∀c o,c≠S->h'.get? c=some o->h2.get? c=some o:=λc o hc e=>(sb.2 c hc).trans e;refine AAB ⟨plainId_quiet PyProof.Rows.F.plain_set_update_loop _,ih (i+1) _ (by omega) lt (st.1.at λo e=>k2 I o hSI.symm e) (st.2.at λo e=>k2 l o hSl.symm e) hS2 λh3 t3 kp3 hS3=>?_⟩;exact q h3 t3 (λc o c1 c2 e=>kp3 c o c1 c2 (k2 c o c1 (kp c o (by simpa using c2) e))) hS3
end
section
variable{prog:Program}{w:World}{A:Around}{E:Value->Shared->Prop}{s:Shared}
set_option maxHeartbeats 2000000 in
theorem Of(ft:TypeCalled T nid iid)(ok:checkTypeCall T ⟨args,[]⟩=pure ())
  (new:codeAny (model prog w) A.in1 (.call (.builtin nid) ⟨.type T::args,[]⟩) (wants Q₁ E) s)
  (init:∀x s₁,Q₁ x s₁->s₁.TypeIs x T/\codeAny (model prog w) A.in1 (.call (.builtin iid) ⟨x::args,[]⟩) (wants (λr s₂=>r=.none/\Q x s₂) E) s₁) :
  wpAny (model prog w) A (call (.type T) args) Q E s:=by
 have a1:=ft.notType;have a2:=ft.canCreate;have a3:=ft.made;have a4:=ft.sub;obtain⟨c,tl,a5⟩:=ft.mro;have step:codeAny (model prog w) A (.builtin "type.__call__" ⟨.type T::args,[]⟩) (wants Q E) s:=by
  refine codeAny_builtin F.entry_type_call ?_;rw[Around.under_plain (weight_type_call_type T args []) rfl];unfold Builtin.«type.__call__»
  iterate 3 (any_goals (first|assumption|wp_step))
  first|refine AAr ok ?_|refine AAA (AAr ok ?_)
  repeat (any_goals (first|assumption|wp_step))
  refine codeAny_mono new λr s₁ hr=>?_
  match r,hr with
  | .error e,hr=>exact hr
  | .ok (.ret x),hr=>
   obtain⟨ty,run⟩:=init x s₁ hr;have b1:=ft.init.lookup;have b2:=ft.init.bind x
   repeat (any_goals (first|assumption|wp_step))
   refine codeAny_mono run λr₂ s₂ hr₂=>?_
   match r₂,hr₂ with
   | .error e,hr₂=>exact hr₂
   | .ok (.ret y),hr₂=>
    obtain⟨ey,hq⟩:=hr₂;subst ey
    repeat (any_goals (first|assumption|wp_step))
 exact wpAny_call (codeAny_of_tree (AAB ⟨Code.quiet_builtin _ (by decide +kernel),step⟩))
noncomputable abbrev A9(led:Bool):Obj:={ cls:=.type "set",data:=.set #[] 0 (.fresh 0 0 led) }
set_option maxHeartbeats 2000000 in
theorem QQ(hh:A.handled=none)(hl:s.heap.IsList l its.toArray)(rv:Vals (ss.map V.str) its)(room:ss.length+2<scanBound)
  (q:∀h' tk,(∀c o,s.heap.get? c=some o->h'.get? c=some o)->h'.SetOf (strKind prog w) s.heap.objs.size (λk=>decide (k∈Bg ss)) (Bg ss).length->Q (.ref s.heap.objs.size) { s with heap:=h',toks:=tk }) :
  wpAny (model prog w) A (call (.type "set") [.ref l]) Q E s:=by
 refine Of F.called_set (F.typeCall_set_1 _) (code_set_new_1 (.ref l) (Q₁:=λx s₁=>∃led:Bool,x=.ref s.heap.objs.size/\s₁={ s with heap:=s.heap.push (A9 led) }) λled=>⟨led,rfl,rfl⟩) ?_;rintro x s₁ ⟨led,rfl,rfl⟩;have at_S:(s.heap.push (A9 led)).get? s.heap.objs.size=some (A9 led):=AAD _ rfl;have ty:Shared.TypeIs { s with heap:=s.heap.push (A9 led) } (.ref s.heap.objs.size) "set" := ⟨_,at_S,rfl⟩;have lt:l<s.heap.objs.size:=by obtain⟨o,e,_⟩:=hl;exact Heap.lt_size e
 have hl1:(s.heap.push (A9 led)).IsList l its.toArray:=hl.push _;have tyl:Shared.TypeIs { s with heap:=s.heap.push (A9 led) } (.ref l) "list" := hl1.typeIs;refine⟨ty,codeAny_call_builtin F.called_set.init.plain F.entry_set_init (check_set_init_1 ty ?_)⟩;have c1:=F.sub_list_set;have c2:=F.sub_list_frozenset;unfold Builtin.«set.__init__» noKeywords Builtin.Frozenset.updateFrom;have walk:∀(A:Around) (E:Value->Shared->Prop) (Q:Value->Shared->Prop),Q (.ref (s.heap.push (A9 led)).objs.size) { s with heap:=(s.heap.push (A9 led)).push { cls:=.type "list_iterator",data:=.fields #[.ref l,.int 0 0] } }->wpAny (model prog w) A (pyIter (.ref l)) Q E { s with heap:=s.heap.push (A9 led) }:=λA E Q z=>wpAny_pyIter_list hl1 z
 wp_walk using walk
 have sz:(s.heap.push (A9 led)).objs.size=s.heap.objs.size+1:=Heap.size_push ..;refine RB (l:=l) (ss:=ss) (A:=A.in1.in1) (by simp[hh]) (by rw[sz];exact AAb (AAe lt)) (by rw[sz];exact AAb (Nat.lt_succ_self _)) (Nat.ne_of_gt lt) rv room ss.length 0 _ (Nat.sub_zero _) (AAh _) ⟨_,AAD _ rfl,rfl,rfl⟩ (hl1.push _) ?start λh' tk kp hS=>?fin
 case start=>
  exact(setObjOf_fresh (knd:=strKind prog w) led).setOf (AAC _ at_S) (by decide)
 case fin=>
  have ltS:∀{c:Addr} {o:Obj},s.heap.get? c=some o->c<s.heap.objs.size:=λe=>Heap.lt_size e;exact AAB (AAB ⟨rfl,q h' tk (λc o e=>kp c o (AAb (ltS e)) (by rw[sz];exact AAb (AAe (ltS e))) (AAC _ (AAC _ e))) hS⟩)
end
noncomputable def UI(P:Program)(w:World)(p:Addr)(ss:List Str):HO:=.ext λh=>h.SetOf (strKind P w) p (λk=>decide (k∈Bg ss)) (Bg ss).length
section
variable{X:Cx}
theorem QP(hc:X.calm=true):Bo X (.type "set") (λxs H Q=>∃a ss,xs=[.ref a]/\SqL X.kw H a (ss.map V.str)/\ss.length+2<scanBound/\∀p,H p=none->Q (.ref p) (upd H p (UI X.prog X.w p ss))):=by
 intro w6 s O H xs us Q I r h;obtain⟨a,ss,rfl,ha,room,q⟩:=h;obtain⟨u,rfl,ru⟩:=Vals.one r;cases ru;obtain⟨its,rv,pl,hz⟩:=I.list ha;refine QQ (I.ok.hd hc) pl.isList rv room λh' tk kp hS=>?_;refine⟨.ref s.heap.objs.size,_,I.laid (o:=UI X.prog X.w s.heap.objs.size ss) kp (AAF _) ?_,rfl,q _ (I.hok.fresh (AAF _))⟩;obtain⟨o,es,ep,t,e,rest⟩:=id hS;refine⟨hS,⟨o,e⟩,λh1 h2 z k=>?_⟩;obtain⟨o,es,ep,t,e,rest⟩:=z;exact⟨o,es,ep,t,k o e,rest⟩
theorem QW:Bo X (.builtin "len") (λxs H Q=>∃p ss,xs=[.ref p]/\H p=some (UI X.prog X.w p ss)/\Q (.int (Bg ss).length) H):=by
 intro w6 s O H xs us Q I r h;obtain⟨p,ss,rfl,hp,q⟩:=h;obtain⟨u,rfl,ru⟩:=Vals.one r;cases ru;obtain⟨hS,_⟩:=I.hok p _ hp;obtain⟨o,es,ep,t,e,ex,hd,_,_,hb,hf,hn⟩:=hS;refine call_len_set e ex hd hf (by unfold scanBound at hb;omega) ?_;rw[hn];exact⟨.int (Bg ss).length,H,I.tok _,⟨_,rfl⟩,q⟩
end
end L2
namespace Mi
open PySem L2
noncomputable def Gd:List D->Option (List Str)
 |[]=>some []
 | .str x::ds=>(Gd ds).map (x::·)
 |_=>none
theorem Gc:∀{ds:List D} {vs:List V} {ss:List Str},IsL K Y k H ds vs->Gd ds=some ss->vs=ss.map V.str
 |[],_,_,h,e=>by cases e;unfold IsL at h;exact h
 |d::ds,_,_,h,e=>by
  cases d with
  |str x=>
   unfold IsL at h;obtain⟨v,vs',rfl,h1,h2⟩:=h;have e':(Gd ds).map (x::·)=some _:=e;cases q:Gd ds with
   |none=>rw[q] at e';cases e'
   |some ss=>
    rw[q] at e';cases e';unfold Is at h1;rw[h1,Gc h2 q];rfl
  |_=>cases e
noncomputable def Oi(d:D):M D:=bnd (E9 d) λds=>λZ=>match Gd ds with
 |some ss=>if ss.length+2<scanBound then some (.int (Bg ss).length,Z) else none
 |none=>none
section
variable{X:Cx}{e:Expr}{pos p p2 pos2:Pos}
theorem Pa(yl:X.mg "len" = none)(ys:X.mg "set" = none)(he:RE X e m)(hc:X.calm=true:=by rfl)(hgl:Gl X "len" := by rfl)(hgs:Gl X "set" := by rfl)(hst:GV e=false:=by rfl):
  RE X (.Call (.Name "len" p) [.Call (.Name "set" p2) [e] [] pos2] [] pos) (mUn Oi m):=by
 have hs:PE X (.Call (.Name "set" p2) [e] [] pos2) _:=EZ (QP hc) hgs ys Mi.Me (B7 he.pe Dr (Ak hst)) (by decide) (by decide) (Ak hst) rfl;refine RE.wk (Eb QW hgl yl Mi.As (B7 hs Dr (Ak rfl)) (by decide) (by decide) (Ak rfl) rfl) λO H Q h=>?_;obtain⟨Y,Z,B,d,Z',R,S,ev,q⟩:=h;obtain⟨x,w9,e1,e2⟩:=AH ev;obtain⟨ds,u9,e3,e4⟩:=AH e2;refine⟨Y,Z,B,x,w9,R,S,e1,λv5 H1 E1 R1 v1 i1=>?_⟩;obtain⟨hm,a,vs,rfl,h1,h2⟩:=CL R1 i1 e3;subst hm;cases hx:Gd ds with
 |none=>rw[hx] at e4;cases e4
 |some ss=>
  rw[hx] at e4;have e5:(if ss.length+2<scanBound then some (D.int (Bg ss).length,u9) else none)=some (d,Z'):=e4;split at e5
  ·rename_i room;cases e5;refine⟨a,ss,rfl,by rw[←Gc h2 hx];exact h1,room,λp hp=>?_⟩;obtain⟨E2,R2⟩:=R1.laid (UI X.prog X.w p ss) hp;exact⟨p,ss,rfl,BK,q v5 _ (E1.trans E2) R2 _ (ofI _)⟩
  ·cases e5
end
inductive How where
 |all|drop|frz
theorem Fn.mono{P:Program}{w:World}{K:PySem.W.Frag}{mg:Str->Option Value}{base:Heap}{x:Str}{ps:List Str}{j k:Nat}{φ:List D->M D}(F:Fn P w K mg base x ps j φ)(h:j<=k):Fn P w K mg base x ps k φ:=by
 obtain⟨len,f,fd,F,hm,hk,hb⟩:=F;exact⟨len,f,fd,F.mono h,hm,hk,hb⟩
theorem JH{P:Program}{w:World}{K:PySem.W.Frag}{mg:Str->Option Value}{base:Heap}{x qual:Str}{st:Stmt}{f:Addr}{fd:FuncData}{ps:List Str}{k:Nat}(F:Fun K x qual st f fd)(hm:mg x=some (.ref f))(hb:Binds K fd ps []):Fn P w K mg base x ps k (λ_=>BD):=by
 refine⟨(λds Z r h=>absurd (show (none:Option (D×Mh))=some r from h) (by simp)),⟨f,fd,⟨λvs H Q E h=>?_,λA outer s H args us vs Q E _ _ _ _ h=>?_⟩,hm,F.kp,hb⟩⟩
 ·obtain⟨_,Y,Z,as,d,Z',_,_,e,_⟩:=h;cases e
 ·obtain⟨_,Y,Z,as,d,Z',_,_,e,_⟩:=h;cases e
section
variable{P:Program}{w:World}{K:PySem.W.Frag}{mg:Str->Option Value}{base h:Heap}{x:Str}
noncomputable def FS:List Value->Option (List Str)
 |[]=>some []
 | .str s _::r=>(FS r).map (s::·)
 |_::_=>none
theorem FR:∀{us:List Value} {xs:List Str},FS us=some xs->Vals (xs.map V.str) us
 |[],xs,e=>by cases e;exact .nil
 |u::r,xs,e=>by
  cases u with
  |str s t=>
   have e:(FS r).map (s::·)=some xs:=e;cases q:FS r with
   |none=>rw[q] at e;cases e
   |some ys=>rw[q] at e;cases e;exact .cons ⟨t,rfl⟩ (FR q)
  |_=>cases e
def TupLit(K:PySem.W.Frag)(p:Addr)(xs:List Str):Prop:=∃od its n sl,K.lookup p=some ⟨.type "tuple",od,.seq its n,sl⟩/\FS its.toList=some xs
theorem ZM(l:K.lookup p=some ⟨.type "tuple",od,.seq its n,sl⟩)(e:FS its.toList=some xs):TupLit K p xs:=⟨od,its,n,sl,l,e⟩
theorem MD:∀xs:List Str,IsL ⟨K,w⟩ Y k H (xs.map D.str) (xs.map V.str)
 |[]=>.nil
 |_::r=>.cons (by unfold Is;rfl) (MD r)
theorem TupLit.is(h:TupLit K p xs)(hl:xs.length<=1000):Is ⟨K,w⟩ Y k H (.tup (xs.map D.str)) (.ref p):=by
 obtain⟨od,its,n,sl,l,e⟩:=h;have v:=FR e;unfold Is;refine⟨p,_,rfl,.inr ⟨_,its,n,l,rfl,rfl,?_,v⟩,MD xs⟩;have:=v.length;rw[AAG] at this;have z:its.size=xs.length:=by rw[this];simp
 rw[z];exact Nat.le_of_lt (Jt hl)
theorem Dg(X:K.In h)(G:h.Ns mainGlobals mg)(a:PySem.W.nsIn K mainGlobals x=some (some (.int i t))):Glo K mg x (.int i):=
 ⟨_,.int i,PySem.W.mg_of X G a,⟨t,rfl⟩,λ_ _ _ _=>by unfold Is;rfl⟩
theorem Vb(X:K.In h)(G:h.Ns mainGlobals mg)(a:PySem.W.nsIn K mainGlobals x=some (some (.str s t))):Glo K mg x (.str s):=
 ⟨_,.str s,PySem.W.mg_of X G a,⟨t,rfl⟩,λ_ _ _ _=>by unfold Is;rfl⟩
theorem LC(X:K.In h)(G:h.Ns mainGlobals mg)(a:PySem.W.nsIn K mainGlobals x=some (some (.ref p)))(l:TupLit K p xs)(hl:xs.length<=1000):Glo K mg x (.tup (xs.map D.str)):=
 ⟨_,.ref p,PySem.W.mg_of X G a,rfl,λ_ _ _ _=>l.is hl⟩
noncomputable def TabIs(K:PySem.W.Frag):List DictEntry->List (Str×List Str)->Prop
 |[],t=>t=[]
 |e::es,t=>∃x ys t' tok p,t=(x,ys)::t'/\e.key=.str x tok/\e.val=.ref p/\TupLit K p ys/\ys.length<=1000/\TabIs K es t'
theorem TabIs.noref:∀{es:List DictEntry} {t:List (Str×List Str)},TabIs K es t->es.any (·.refKey)=false
 |[],_,_=>rfl
 |e::es,t,h=>by
  obtain⟨x,ys,t',tok,p,rfl,hk,_,_,_,r⟩:=h;rw[List.any_cons,r.noref,Bool.or_false];show DictEntry.refKey e=false;unfold DictEntry.refKey;rw[hk]
noncomputable def Lc(t:List (Str×List Str))(y:Str):Option D:=(t.find? (·.1==y)).map λp=>.tup (p.2.map D.str)
theorem TabIs.find:∀{es:List DictEntry} {t:List (Str×List Str)} (y:Str),TabIs K es t->(es.find? (·.key.isStr y)=none/\Lc t y=none)∨∃e p ys,es.find? (·.key.isStr y)=some e/\e.val=.ref p/\TupLit K p ys/\ys.length<=1000/\Lc t y=some (.tup (ys.map D.str))
 |[],t,y,h=>by cases (show t=[] from h);exact .inl ⟨rfl,rfl⟩
 |e::es,t,y,h=>by
  obtain⟨x,ys,t',tok,p,rfl,hk,hv,l,hl,r⟩:=h;have q:e.key.isStr y=(x==y):=by rw[hk];rfl
  cases b:(x==y) with
  |true=>
   right;refine⟨e,p,ys,?_,hv,l,hl,?_⟩
   ·rw[List.find?_cons];simp only[q,b]
   ·unfold Lc;rw[List.find?_cons];simp only[b];rfl
  |false=>
   have z1:(e::es).find? (·.key.isStr y)=es.find? (·.key.isStr y):=by rw[List.find?_cons];simp only[q,b]
   have z2:Lc ((x,ys)::t') y=Lc t' y:=by unfold Lc;rw[List.find?_cons];simp only[b]
   rw[z1,z2];exact r.find y
theorem VP(X:K.In h)(G:h.Ns mainGlobals mg)(a:PySem.W.nsIn K mainGlobals x=some (some (.ref ad)))(l:K.lookup ad=some ⟨.type "dict",none,.dict es n,#[]⟩)(kl:PySem.W.KeysLit w.params es.toList)
  (hs:(ad==sysModules)=false) (T:TabIs K es.toList t):V4 w K mg x (Lc t):=by
 refine⟨ad,PySem.W.mg_of X G a,λy=>?_⟩;have nr:=T.noref;rcases T.find y with ⟨f,g⟩|⟨e,p,ys,f,hv,tl,hl,g⟩
 ·refine⟨none,⟨y,es,n,none,rfl,l,kl,?_,trivial,hs⟩,.inl ⟨g,rfl⟩⟩;unfold PySem.W.nsIn;rw[l];simp only[f,nr];rfl
 ·refine⟨some (.ref p),⟨y,es,n,some (.ref p),rfl,l,kl,?_,rfl,hs⟩,.inr ⟨_,.ref p,g,rfl,λ_ _ _=>tl.is hl⟩⟩;unfold PySem.W.nsIn;rw[l];simp only[f,hv]
structure Df(K:PySem.W.Frag)(x:Str)(st:Stmt)(f:Addr)(fd:FuncData):Prop where
 a:PySem.W.nsIn K mainGlobals x=some (some (.ref f))
 F:Fun K x x st f fd
theorem ao{st:Stmt}{f:Addr}{oc:Value}{osl:Array (Option Value)}{kV doc pm cdv ct:Value}(a:PySem.W.nsIn K mainGlobals x=some (some (.ref f)))(l:K.lookup f=some ⟨oc,od,.func (PySem.W.fnOf x x (Ey st) (Ch st) (AR st) .none kV doc pm an cdv ct),osl⟩)
  (c:PySem.W.codeIn K cdv x=true) (k:PySem.W.keepIn K (.ref f)=true):∃f fd,Df K x st f fd:=⟨f,_,a,Ng l c k⟩
noncomputable def OI(K:PySem.W.Frag):Sp:=λvs H Q _=>∃(a:Addr) (ns:List Int),vs=[.ref a]/\ScrAt K H a (ns.map V.int)/\ns.length<=63/\∀H',Q (.bl true) H'
theorem W5(F:FnOk P w K mg base CX0 k f fd ["_law_script"] (spM ⟨K,w⟩ 1 φ))(hφ:∀ns:List Int,ns.length<=63->∃Z',φ [.scr ns] []=some (.bl true,Z')):FnOk P w K mg base CX0 k f fd ["_law_script"] (OI K):=
 F.imp λvs H Q E q=>by
  obtain⟨a,ns,rfl,s,hl,q⟩:=q;obtain⟨Z',e⟩:=hφ ns hl;refine⟨rfl,λ_=>a,[],[.scr ns],.bl true,Z',⟨λi j h=>absurd h (Nat.not_lt_zero _),λn o e=>by simp at e⟩,.one (by unfold Is;exact⟨a,rfl,s⟩),e,λv8 H2 E2 R2 v i=>?_⟩;unfold Is at i;rw[i];exact q H2
theorem Lh(o:V3 H)(s:SqL K H a xs):ScrAt K H a xs:=by
 rcases s with z|z
 ·rcases z with z|⟨p,z⟩
  ·rcases o a with q|⟨p,ys,q⟩
   ·rw[q] at z;cases z
   ·rw[q] at z;cases z
  ·exact .inl ⟨p,z⟩
 ·exact .inr z
end
theorem ZG{l:PySem.W.OpenLaw}{q:Program}{loose:List Str}{XP:(Str->Option Value)->Heap->Prop}{K:Params->PySem.W.Frag}{k:Nat}(hn:l.most=some 63)(hdf:d.params.defaults=[])(hk:k<=60)
  (hY:∀(w:World) (h:Heap),YP w h->(K w.params).In h)
  (F:∀(w:World) (mg:Str->Option Value) (fa:Addr) (h:Heap),(K w.params).In h->h.Ns mainGlobals mg->mg d.name=some (.ref fa)->
   ∃fd:FuncData,(∀(s:Shared) (u:Value),BindsTo s fd ⟨[u],[]⟩ [("_law_script",u)])/\∀base:Heap,(K w.params).In base->base.Ns mainGlobals mg->FnOk l.prog w (K w.params) mg base CX0 k fa fd ["_law_script"] (OI (K w.params))) :
  PySem.W.WalkO q loose XP YP l.row.toRowW d [] (λf vs=>PySem.call f vs):=
 L2.T0 (n:=63) (k:=k) (x := "_law_script") (CX:=λ_=>CX0) (sp:=λw=>OI (K w.params)) hn (by decide) hdf (Room.mono (j:=k) (k:=60) ⟨rfl,by decide,by decide,rfl⟩ hk) hY F (λ_ _ a ns hl o hS=>⟨a,ns,rfl,Lh o hS,hl,λ_=>rfl⟩) λ_ _ _ _ _ z=>z
end Mi
namespace K1
open PySem L2 Mi
noncomputable def sl(xs:List Str):D:=.tup (xs.map D.str)
noncomputable def Bt:D:=.str "abcdefghijklmnopqrstuvwxyz"
noncomputable def DL:D:=.int 9
noncomputable def Dj:D:=.int 5
noncomputable def Ci:D:=sl ["+", "-", "=", "<", "and", "or"]
noncomputable def GA:D:=sl ["safe", "steady", "whole"]
noncomputable def B9:D:=.int 6
noncomputable def CK:D:=.int 2
noncomputable def Cj:D:=.int 4
noncomputable def DA:D:=.int 60
noncomputable def CJ:D:=.int 400
noncomputable def Ck:D:=.int 2
noncomputable def C9:D:=.int 10
noncomputable def Bl:D:=sl ["not", "and", "or"]
noncomputable def PQ:List (Str×List Str):=[("put",["box", "expression"]),("get",["variable", "box"]),("let",["variable", "expression"]),("unless",["expression", "target"]),("jump",["target"]),("tell",["expression"]),("done",[])]
noncomputable def DZ:Str->Option D:=Lc PQ
noncomputable def Du  : Sl->M (Fl×Sl):=
  (Ao (Dy (AG Hn (AB (AD 0) (AB (mC (.ty "int")) AI))) (Dy (WW (AG Hn (AB (AD 0) (AB (mC (.ty "bool")) AI)))) (Ix ND ND (AD 1) (AD 0) (AD 2)))))
noncomputable def Ef  : Sl->M (Fl×Sl):=
  (Ao (Dy (AG Hn (AB (AD 0) (AB (mC (.ty "str")) AI))) (Dy (Ix ND ND (mC (.int 1)) (AG Bc (AB (AD 0) AI)) (mC (.int 8))) (AG Y9 (AB (A7 1 [] (WV (AD 0)) (AK 0) BH (mOp (NE false) (AD 0) (mC Bt)) A0) AI)))))
noncomputable def CT(cy:List D->M D):Sl->M (Fl×Sl):=
  (AO (sIf (AS (mOp BO (mOp AM (AD 0) (mC (.int 0))) (mC (.str "num")))) (Ao (AG A0 AI)) A6)
  (AO (sIf (AS (mOp BO (mOp AM (AD 0) (mC (.int 0))) (mC (.str "var")))) (Ao (AG A0 (AB (mOp AM (AD 0) (mC (.int 1))) AI))) A6)
  (AO (AX (AG Ed AI) (AK 1))
  (AO (B3 (BC (mSl (AD 0) (BV (mC (.int 1))) BJ)) (AK 2) (Cm (Bi Ni (AD 1) (AB (AG cy (AB (AD 2) AI)) AI))))
  (Ao (AD 1))))))
noncomputable def Dv  : Sl->M (Fl×Sl):=
  (Ao (Dy (AG Hn (AB (AD 0) (AB (mC (.ty "tuple")) AI))) (Ix ND ND (AD 1) (AG Bc (AB (AD 0) AI)) (AD 2))))
noncomputable def DB  : Sl->M (Fl×Sl):=
  (Ao (mOp BO (mUn Oi (AD 0)) (AG Bc (AB (AD 0) AI))))
noncomputable def CS(cy:List D->M D):Sl->M (Fl×Sl):=
  (AO (AX (AG Ed AI) (AK 1))
  (AO (B3 (VJ (AB (mUn (Os DZ) (mOp AM (AD 0) (mC (.int 0)))) (AB (mSl (AD 0) (BV (mC (.int 1))) BJ) AI))) (Dh [2,3]) (AO (sIf (AS (mOp BO (AD 2) (mC (.str "variable")))) (Cm (Bi GE (AD 1) (AB (AD 3) AI))) A6)
  (sIf (AS (mOp BO (AD 2) (mC (.str "expression")))) (Cm (Bi Ni (AD 1) (AB (AG cy (AB (AD 3) AI)) AI))) A6)))
  (Ao (AD 1))))
noncomputable def DK  : Sl->M (Fl×Sl):=
  (AO (sIf (AS (mOp NC (AD 1) (AG Bc (AB (AD 0) AI)))) (Ao (mOp AM (AD 0) (AD 1))) A6)
  (Ao (mC (.int 0))))
end K1
namespace Mi
open PySem L2 PyProof.Rows
section
variable{X:Cx}{e a b c:Expr}{pos:Pos}
theorem SL:OpR X (binaryOp .Add) (λx y H Q=>∃a b ys,x=.ref a/\y=.ref b/\SqT X.kw H a []/\SqT X.kw H b ys/\Q (.ref b) H):=by
 intro w6 s O H x y v u Q I rx ry h;obtain⟨a,b,ys,rfl,rfl,ha,hb,q⟩:=h;cases rx;cases ry;obtain⟨its,r1,p1,_⟩:=I.tuple ha;obtain⟨its2,r2,p2,_⟩:=I.tuple hb;cases r1;obtain⟨⟨cls,dd,data,sl⟩,ho,hc,n,hd⟩:=p1;obtain⟨⟨cls2,dd2,data2,sl2⟩,ho2,hc2,n2,hd2⟩:=p2;simp only at hc hd hc2 hd2;subst hc hd hc2 hd2;exact concat_meets ⟨_,ho,rfl⟩ ⟨_,ho2,rfl⟩ noFill_tuple_add seq_tuple_add PySem.F.slot_tuple_add PySem.F.entry_tuple_add (PySem.F.args_tuple_add_2 _ _) (tuple_addW0 a b _ _ n n2 dd dd2 sl sl2 rfl) ⟨ho,ho2,⟨.ref b,H,I,rfl,q⟩⟩
noncomputable def Ah(a b:D):M D:=match a,b with
 | .tup [],.tup ds=>ret (.tup ds)
 |a,b=>Rp a b
theorem A3:OpR X (binaryOp .Add) (rM X.kw Ah):=λw6 s O H x y v u Q I rx ry h=>by
 obtain⟨Y,Z,a,b,d,Z',R,ia,ib,e,q⟩:=h;unfold Ah at e;split at e
 ·rename_i ds;cases e;unfold Is at ia;obtain⟨p,vs,rfl,h1,h2⟩:=ia;unfold IsL at h2;subst h2;have ib2:=ib;unfold Is at ib;obtain⟨p',vs',rfl,h1',h2'⟩:=ib;exact SL w6 s O H _ _ v u Q I rx ry ⟨p,p',vs',rfl,rfl,h1,h1',q Y H R.ext0 R _ ib2⟩
 ·exact aK w6 s O H x y v u Q I rx ry ⟨Y,Z,_,_,d,Z',R,ia,ib,e,q⟩
theorem Ji{prog:Program}{w:World}{A:Around}{E:Value->Shared->Prop}{s:Shared}{vl vu:Value}{lo hi:Option Int}{Q:Value->Shared->Prop}(ht:IsTup s.heap t items)(hs:s.heap.IsSliceOf sl vl vu .none)(pl:IsPart vl lo)(pu:IsPart vu hi)
  (h1:HT.sIx items.size 0 lo=0) (h2:HT.sIx items.size items.size hi=items.size) (h:Q (.ref t) s):wpAny (model prog w) A (getItem (.ref t) (.ref sl)) Q E s:=by
 obtain⟨os,hos,hcs,hds⟩:=id hs;have hTs:s.TypeIs (.ref sl) "slice" := ⟨os,hos,hcs⟩;unfold getItem
 try with_reducible refine AAl ?_
 first|refine AAA (AAB ?_)|skip
 refine AAA (wpAny_sequenceKey ht.typeIs (by decide) ?_);refine AAA (wpAny_callSpecial?_slot (name:=Str.ofString "__getitem__") ht.typeIs PyProof.Rows.slot_tuple_getitem
  (AAa PyProof.Rows.slot_tuple_getitem ht.typeIs entry_tuple_getitem ?_ (args_tuple_getitem _ _)))
 show wpAny _ _ (Builtin.Tuple.tupleItemsOf (.ref t) >>= _) _ _ s;refine AAA (tupleItemsOf_ ht ?_);refine AAA (wpAny_typeOf hTs ?_);rw[if_pos (by decide)];refine AAA (HT.EU hs pl pu ?_);have hyes:((((HT.sIx items.size 0 lo:Nat):Int)==0&&(1:Int)==1&&(HT.sIx items.size items.size hi-HT.sIx items.size 0 lo)==items.size)=true):=by rw[h1,h2];simp
 show wpAny _ _ (if (((HT.sIx items.size 0 lo:Nat):Int)==0&&(1:Int)==1&&(HT.sIx items.size items.size hi-HT.sIx items.size 0 lo)==items.size)=true then _ else _) _ _ s;rw[if_pos hyes];refine AAA (m:=Builtin.Tuple.tupleIsExact (.ref t)) ?_;unfold Builtin.Tuple.tupleIsExact;refine AAA (wpAny_typeOf ht.typeIs (AAB ?_));rw[if_pos (by decide)];refine AAA (wpAny_rule ?_);exact AAB ⟨_,rfl,AAB h⟩
theorem UD:SlR X (λx lo hi H Q=>∃a xs,x=.ref a/\SqT X.kw H a xs/\HT.sIx xs.length 0 lo=0/\HT.sIx xs.length xs.length hi=xs.length/\Q (.ref a) H):=by
 intro w6 s O H x v vl vu lo hi sl Q I rx hs pl pu h;obtain⟨a,xs,rfl,hx,h1,h2,q⟩:=h;cases rx;obtain⟨its,r,ht,hz⟩:=I.tuple hx;have hlen:its.toArray.size=xs.length:=by rw[List.size_toArray];exact r.length.symm
 refine⟨"tuple",_,PyProof.Rows.slot_tuple_getitem.lookup,ht.typeIs,?_⟩;exact Ji ht hs pl pu (by rw[hlen];exact h1) (by rw[hlen];exact h2) ⟨.ref a,H,I,rfl,q⟩
theorem TR{ds:List D}{lo hi:Option Int}(h1:HT.sIx ds.length 0 lo=0)(h2:HT.sIx ds.length ds.length hi=ds.length):MW ds lo hi=ds:=by
 unfold MW;rw[h1,h2];simp
noncomputable def WL(lo hi:Option Int):D->M D
 | .tup ds=>ret (.tup (MW ds lo hi))
 |d=>bnd (E9 d) λds=>ret (.lst (MW ds lo hi))
noncomputable def bv(K:KW):V->Option Int->Option Int->Hp->VK->Prop:=λx lo hi H Q=>∃Y Z a d Z',RelH K Y Z H/\Is K Y Z.length H a x/\WL lo hi a Z=some (d,Z') /\
 Aft K Y Z H Z' λY' H'=>∀v,Is K Y' Z'.length H' d v->Q v H'
theorem aF:SlR X (bv X.kw):=λw6 s O H x v vl vu lo hi sl Q I rx hs pl pu h=>by
 obtain⟨Y,Z,a,d,Z',R,ia,e,q⟩:=h;by_cases c:∃ds,a=.tup ds/\HT.sIx ds.length 0 lo=0/\HT.sIx ds.length ds.length hi=ds.length
 ·obtain⟨ds,rfl,h1,h2⟩:=c;have e:some (D.tup (MW ds lo hi),Z)=some (d,Z'):=e;rw[TR h1 h2] at e;cases e;have ia2:=ia;unfold Is at ia;obtain⟨p,vs,rfl,g1,g2⟩:=ia;exact UD w6 s O H _ v vl vu lo hi sl Q I rx hs pl pu ⟨p,vs,rfl,g1,by rw[g2.length];exact h1,by rw[g2.length];exact h2,q Y H R.ext0 R _ ia2⟩
 ·refine aG w6 s O H x v vl vu lo hi sl Q I rx hs pl pu ⟨Y,Z,a,d,Z',R,ia,?_,q⟩;cases a with
  |tup ds=>
   show (if HT.sIx ds.length 0 lo=0/\HT.sIx ds.length ds.length hi=ds.length then (BD:M D) else ret (D.tup (MW ds lo hi))) Z=_;rw[if_neg (λz=>c ⟨ds,rfl,z.1,z.2⟩)];exact e
  |_=>exact e
noncomputable def Cw(me:Sl->M D)(ml mh:Sl->M (Option Int)):Sl->M D:=λB=>bnd (me B) λx=>bnd (ml B) λl=>bnd (mh B) λh=>WL l h x
theorem CP{e:Expr}{lo hi:Option Expr}(he:RE X e me)(hl:RO X lo ml)(hh:RO X hi mh):RE X (.Subscript e (.Slice lo hi none p2) pos) (Cw me ml mh):=RE.wk (Lz aF he.pe hl.pe hh.pe) λO H Q h=>by
 obtain⟨Y,Z,B,z,Z',R,S,e,q⟩:=h;obtain⟨x,w9,e1,e⟩:=AH e;obtain⟨l,u9,e2,e⟩:=AH e;obtain⟨u,j6,e3,e⟩:=AH e;refine⟨Y,Z,B,x,w9,R,S,e1,λv5 H1 E1 R1 v i1=>⟨v5,w9,B,l,u9,R1,S.ext E1,e2,λv8 H2 E2 R2=>⟨v8,u9,B,u,j6,R2,S.ext (E1.trans E2),e3,λj7 H3 E3 R3=>?_⟩⟩⟩;have E23:=E2.trans E3;exact⟨j7,j6,x,z,Z',R3,i1.ext E23,e,λj9 H4 E4 R4=>q j9 H4 ((E1.trans E23).trans E4) R4⟩
end
end Mi
namespace Mi
open PySem L2
open PyProof.Rows hiding St
section
variable{X:Cx}{e a b o:Expr}
noncomputable def Fh:List Int->Int
 |[]=>0
 |i::r=>r.foldl max i
theorem F6:∀(r:List Int) (i:Int),i<=r.foldl max i/\(∀a∈r,a<=r.foldl max i)/\(r.foldl max i=i∨r.foldl max i∈r)
 |[],i=>⟨Int.le_refl _,by simp,.inl rfl⟩
 |j::r,i=>by
  obtain⟨h1,h2,h3⟩:=F6 r (max i j);refine⟨Int.le_trans (Int.le_max_left i j) h1,λa ha=>?_,?_⟩
  ·rcases AAJ.mp ha with z|z
   ·subst z;exact Int.le_trans (Int.le_max_right i a) h1
   ·exact h2 a z
  ·rcases h3 with z|z
   ·show List.foldl max (max i j) r=i∨List.foldl max (max i j) r∈j::r;rw[z];rcases Int.le_total i j with q|q
    ·right;rw[Int.max_eq_right q];simp
    ·left;exact Int.max_eq_left q
   ·right;exact AAQ _ z
theorem SR(h:ns≠[]):Fh ns∈ns:=by
 cases ns with
 |nil=>exact absurd rfl h
 |cons i r=>
  rcases(F6 r i).2.2 with z|z
  ·show r.foldl max i∈i::r;rw[z];simp
  ·exact AAQ _ z
theorem VH{ns:List Int}{a:Int}(ha:a∈ns):a<=Fh ns:=by
 cases ns with
 |nil=>cases ha
 |cons i r=>
  rcases AAJ.mp ha with z|z
  ·subst z;exact(F6 r a).1
  ·exact(F6 r i).2.1 a z
theorem VI{ns:List Int}{m:Int}(h:m∈ns)(h2:∀a∈ns,a<=m):Fh ns=m:=by
 have h1:=VH h;have h3:=h2 _ (SR (ns:=ns) (by intro z;rw[z] at h;cases h));omega
theorem QU(hc:X.calm=true):Bo X (.builtin "max") (λxs H Q=>∃a ns,xs=[.ref a]/\SqL X.kw H a (ns.map V.int)/\ns≠[]/\Q (.int (Fh ns)) H):=by
 intro w6 s O H xs us Q I r h;obtain⟨a,ns,rfl,ha,hne,q⟩:=h;obtain⟨u,rfl,ru⟩:=ET r;cases ru;obtain⟨its,rv,p,hz⟩:=I.list ha;have hl:=rv.length;rw[AAG] at hl;have hpos:0<ns.length:=List.length_pos_iff.mpr hne;refine call_max_walk (wpAny_pyIter_list p.isList ?_);have hlt:a<s.heap.objs.size:=by
  obtain⟨o,n,e,_⟩:=p;exact Heap.lt_size e
 have I1:Inv X w6 O H { s with heap:=s.heap.push { cls:=.type "list_iterator",data:=.fields #[.ref a,.int 0 0] } }:=I.kept (t':=s.toks) λb o e=>AAC _ e;obtain⟨f0,f1,f2,f3,f4,f5⟩:=I.fpOk (H':=H) (AAF _) (I.hok.fresh (AAF _));have hat:∀(i:Nat) (v:Value),its.toArray[i]?=some v->∃t,v=Value.int (ns.getD i 0) t:=λi v e=>by
  have hi:its[i]?=some v:=by simpa using e
  have hlt2:i<its.length:=(AAT.mp hi).1;have hb:(ns.map V.int)[i]?=some (V.int (ns.getD i 0)):=by
   rw[AAV,AAq (show i<ns.length by omega)];simp[List.getD,show i<ns.length by omega]
  obtain⟨u,hu,ru⟩:=rv.get hb;rw[hi] at hu;cases hu;exact ru
 refine⟨s.heap.objs.size,_,_,_,_,_,_,rfl,Walks.list (prog:=X.prog) (w:=X.w) (A:=X.A.in1) (show X.A.handled=none from I.ok.hd hc) s.heap.objs.size a (AAb hlt) its.toArray,⟨⟨_,AAD _ rfl,rfl,rfl⟩,p.isList.push _⟩,λb hb=>?_,by rw[List.size_toArray];omega,CmpOf.ints_gt (λi=>ns.getD i 0) hat,λv h' tk hP kk=>?_⟩
 ·show b<(s.heap.push _).objs.size;rw[Heap.size_push];simp at hb;rcases hb with hb|hb
  ·rw[hb];exact Nat.lt_succ_self _
  ·rw[hb];exact AAe hlt
 ·obtain⟨t,rfl⟩:=hat _ v hP;obtain⟨g1,g2⟩:=argBest_gt (λi=>ns.getD i 0) (its.toArray.size-1);rw[List.size_toArray] at g1 g2;have hM:Fh ns=ns.getD (argBest (λi j=>decide (ns.getD i 0 > ns.getD j 0)) (its.length-1)) 0:=by
   apply VI
   ·have hx:argBest (λi j=>decide (ns.getD i 0 > ns.getD j 0)) (its.length-1)<ns.length:=by omega
    rw[List.getD,AAq hx];exact List.getElem_mem hx
   ·intro m hm;obtain⟨j,hj⟩:=List.mem_iff_getElem?.mp hm;have hj2:=(AAT.mp hj).1;have:=g2 j (by omega);simp only[List.getD,hj] at this;simpa[List.getD] using this
  refine⟨.int (Fh ns),H,I1.turned (t':=tk) (λb o hb e=>kk b o (by simpa using hb) e) f0 f1 f3 f4 f5,⟨t,?_⟩,q⟩;rw[hM,List.size_toArray]
noncomputable def MG:List D->Option (List Int)
 |[]=>some []
 | .int i::ds=>(MG ds).map (i::·)
 |_=>none
theorem MF{K:KW}{Y:Nat->Addr}:∀{ds:List D} {vs:List V} {ns:List Int},IsL K Y k H ds vs->MG ds=some ns->vs=ns.map V.int
 |[],_,_,h,e=>by cases e;unfold IsL at h;exact h
 | .int b::ds,_,_,h,e=>by
  unfold IsL at h;obtain⟨v,vs',rfl,h1,h2⟩:=h;unfold MG at e;cases q:MG ds with
  |none=>rw[q] at e;cases e
  |some bs=>
   rw[q] at e;cases e;unfold Is at h1;rw[h1,MF h2 q];rfl
 | .non::_,_,_,_,e=>by cases e
 | .bl _::_,_,_,_,e=>by cases e
 | .str _::_,_,_,_,e=>by cases e
 | .ty _::_,_,_,_,e=>by cases e
 | .scr _::_,_,_,_,e=>by cases e
 | .tup _::_,_,_,_,e=>by cases e
 | .lst _::_,_,_,_,e=>by cases e
 | .ref _::_,_,_,_,e=>by cases e
noncomputable def KA:List D->M D
 |[d]=>bnd (E9 d) λds=>λZ=>match MG ds with
  |some (i::r)=>some (.int (Fh (i::r)),Z)
  |_=>none
 |_=>BD
theorem TZ(hc:X.calm=true):Bo X (.builtin "max") (rMA X.kw KA):=λw6 s O H xs us Q I r h=>by
 obtain⟨Y,Z,as,d,Z',R,ia,e,q⟩:=h;refine QU hc w6 s O H xs us Q I r ?_;unfold KA at e;split at e
 ·rename_i y;obtain⟨ds,w9,e1,e2⟩:=AH e;obtain⟨v,rfl,i1⟩:=Eg ia;obtain⟨hm,p,vs,rfl,h1,h2⟩:=CL R i1 e1;subst hm;split at e2
  ·rename_i i r0 hi;cases e2;exact⟨p,i::r0,rfl,by rw[←MF h2 hi];exact h1,by simp,q Y H R.ext0 R _ (ofI _)⟩
  ·cases e2
 ·cases e
theorem JJ:∀{ys:List V} {us:List Value} {j:Nat},Vals ys us->ys.all DY=true->ys.findIdx? (λz=>eqV z y)=some j->∃hj:j<us.length,eqU y us[j]=true/\∀m (hm:m<us.length),m<j->eqU y us[m]=false
 |_,_,j,.nil,_,e=>by simp at e
 |z::ys,u::us,j,.cons r t,f,e=>by
  rw[List.all_cons,Bool.and_eq_true] at f;rw[List.findIdx?_cons] at e;cases hz:eqV z y with
  |true=>
   rw[hz] at e;simp at e;subst e;exact⟨by simp,by show eqU y u=true;rw[LF r f.1,hz],λm hm h=>by omega⟩
  |false=>
   rw[hz] at e;cases q:ys.findIdx? (λz=>eqV z y) with
   |none=>rw[q] at e;simp at e
   |some k=>
    rw[q] at e;simp at e;subst e;obtain⟨hk,h1,h2⟩:=JJ t f.2 q;refine⟨by simp;omega,by simpa using h1,λm hm h=>?_⟩;cases m with
    |zero=>show eqU y u=false;rw[LF r f.1,hz]
    |succ m=>simpa using h2 m (by simpa using hm) (by omega)
noncomputable abbrev Zw(Sq:Hp->Addr->List V->Prop):V->List V->Hp->VK->Prop:=λx xs H Q=>∃p ys y j,x=.ref p/\xs=[y]/\Sq H p ys/\DY y=true/\ys.all DY=true/\ys.findIdx? (λz=>eqV z y)=some j/\Q (.int j) H
theorem Jh:MtR X "list.index" (Zw λH p ys=>SqL X.kw H p ys):=by
 intro w6 s O H x xs v us Q I rx rs h;obtain⟨p,ys,y,j,rfl,rfl,hp,fy,fys,hj,q⟩:=h;cases rx;obtain⟨u,rfl,ru⟩:=ET rs;obtain⟨its,rv,pl,hz⟩:=I.list hp;have hl:=rv.length;obtain⟨⟨cls,dd,data,sl⟩,ho,hc,n,hd⟩:=pl.isList;simp only at hc hd;subst hc hd;obtain⟨hj2,e1,e2⟩:=JJ rv fys hj;have hn:=HQ;refine call_meets PySem.F.slot_list_index ⟨_,ho,rfl⟩ PySem.F.entry_list_index (PySem.F.args_list_index_2 _ _) (SeqAt.list_indexAt _ its.toArray n dd sl u (eqU y) j (by rw[List.size_toArray];exact hj2) (by omega) (by simpa using e1) (λm hm h=>by simpa using e2 m (by simpa using hm) h)) ⟨ho,λw hw=>Dt ru fy rv fys w (by simpa using hw),?_⟩;exact⟨.int j,H,I.tok _,⟨_,rfl⟩,q⟩
noncomputable def Yb:D->List D->M D
 |d,[y]=>bnd (ES d) λds=>λZ=>match MM y,HW ds with
  |some y,some xs=>(xs.findIdx? λz=>eqV z y).map λ(j:Nat)=>(D.int (j:Int),Z)
  |_,_=>none
 |_,_=>BD
theorem P8{d r:D}{Z Z':Mh}{K:KW}{Y:Nat->Addr}(R:RelH K Y Z H)(ia:Is K Y Z.length H d x)(ib:IsL K Y Z.length H as xs)(e:Yb d as Z=some (r,Z')):
  ∃p ys y j,x=.ref p/\xs=[y]/\(SqL K H p ys∨SqT K H p ys)/\DY y=true/\ys.all DY=true/\ys.findIdx? (λz=>eqV z y)=some j/\r=.int j/\Z'=Z:=by
 unfold Yb at e;split at e
 ·rename_i y0;obtain⟨ds,w9,e1,e2⟩:=AH e;obtain⟨hm,p,vs,rfl,h1,h2⟩:=El R ia e1;subst hm;obtain⟨v,rfl,i1⟩:=Eg ib;split at e2
  ·rename_i w ws q1 q2;obtain⟨rfl,f1⟩:=JI i1 q1;obtain⟨rfl,f2⟩:=HV h2 q2;cases hj:vs.findIdx? (λz=>eqV z v) with
   |none=>rw[hj] at e2;cases e2
   |some j=>rw[hj] at e2;cases e2;exact⟨p,vs,v,j,rfl,rfl,h1,f1,f2,hj,rfl,rfl⟩
  ·cases e2
 ·cases e
noncomputable def Su(d:D)(as:List D):M D:=bnd (LB d) λ_=>Yb d as
theorem SU:MtR X "list.index" (rMM X.kw Su):=λw6 s O H x xs v us Q I rx rs h=>by
 obtain⟨Y,Z,a,as,d,Z',R,ia,ib,e,q⟩:=h;obtain⟨u,w9,e1,e2⟩:=AH e;have hm:=KJ e1;subst hm;obtain⟨ds,u9,g1,g2⟩:=AH e1;obtain⟨_,p0,vs0,hx,hq,_⟩:=CL R ia g1;obtain⟨p,ys,y,j,rfl,rfl,h1,f1,f2,hj,rfl,rfl⟩:=P8 R ia ib e2;cases hx;have hs:SqL X.kw H p0 ys:=by
  rcases h1 with z|z
  ·exact z
  ·obtain⟨its,_,pl,_⟩:=I.list hq;obtain⟨its2,_,pt,_⟩:=I.tuple z;obtain⟨o,e1,c1,_⟩:=pl.isList;obtain⟨o2,e2,c2,_⟩:=pt;rw[e1] at e2;cases e2;rw[c1] at c2;exact absurd c2 (by decide)
 exact Jh w6 s O H _ _ v us Q I rx rs ⟨p0,ys,y,j,rfl,rfl,hs,f1,f2,hj,q Y H R.ext0 R _ (ofI _)⟩
end
theorem Tz{M:Model}{A:Around}{E:Value->Shared->Prop}(f:Nat->β->Sem (ForInStep β))(I:Nat->β->Shared->Prop)(Q:β->Shared->Prop)
  (turn:∀i b s,i<n->I i b s->wpAny M A (f i b) (λr s'=>match r with | .yield b'=>I (i+1) b' s' | .done b'=>Q b' s') E s)
  (fin:∀b s,I n b s->Q b s) (b:β) (h:I 0 b s):wpAny M A (forIn [:n] b f) Q E s:=by
 rw[Std.Legacy.Range.forIn_eq_forIn_range'];simp only[Std.Legacy.Range.size,Nat.sub_zero,Nat.add_sub_cancel,Nat.div_one];refine wpAny_forIn_list f (λrest b s=>∃i,rest=List.range' i (n-i)/\i<=n/\I i b s) Q (λx rest b s hI=>?_) (λb s hI=>?_) _ b ⟨0,rfl,AAh _,h⟩
 ·obtain⟨i,e,hi,hI⟩:=hI;have hlt:i<n:=by
   rcases Nat.lt_or_ge i n with z|z
   ·exact z
   ·rw[show n-i=0 from by omega] at e;cases e
  rw[show n-i=(n-(i+1))+1 from by omega,List.range'_succ] at e;have e1:=(List.cons.inj e).1;have e2:=(List.cons.inj e).2;subst e1;subst e2;refine AAg (turn _ b s hlt hI) (λr s' hr=>?_) λ_ _ z=>z;cases r with
  |done b'=>exact hr
  |yield b'=>exact⟨_,rfl,hlt,hr⟩
 ·obtain⟨i,e,hi,hI⟩:=hI;have hn:i=n:=by
   have:=congrArg List.length e;simp at this;omega
  subst hn;exact fin b s hI
theorem Jd(l:Addr)(items:Array Value)(n:Nat)(dd:Option Addr)(sl:Array (Option Value))(x:Value)(e:Value->Bool)(j:Nat)(hj:j<items.size)
  (hit:e items[j]=true) (hno:∀m (hm:m<items.size),m<j->e items[m]=false) :
  Meets (Builtin.«tuple.index» ⟨[.ref l,x],[]⟩)
   (λA R s=>s.heap.get? l=some { cls:=.type "tuple",dict:=dd,data:=.seq items n,slots:=sl }/\(∀y,y∈items->SeqAt.EqAt A.in1 s y x (e y))/\R (.ok (.ret (.int j s.toks))) { s with toks:=s.toks+1 }):=
 .of_wp λprog w A R s h=>by
  obtain⟨hp,g,d,tk,os⟩:=s;obtain⟨hl,he,h⟩:=h
  wp_walk using wpAny_loadPart' hl,Tz _ (λi b s'=>b.1=none/\s'=⟨hp,g,d,tk,os⟩/\i<=j) _
  case turn=>
   rintro i b s' hi ⟨hb,rfl,hij⟩;have hi2:i<items.size:=by omega
   rw[show items[i]?=some items[i] from Array.getElem?_eq_getElem hi2];refine AAA (he items[i] (Array.getElem_mem hi2) prog w _ _ ?_);rcases Nat.lt_or_ge i j with z|z
   ·rw[hno i hi2 z]
    wp_walk
    exact⟨rfl,rfl,z⟩
   ·have hij2:i=j:=by omega
    subst hij2;rw[hit]
    wp_walk
    exact⟨_,rfl,h⟩
  case fin=>
   rintro b s' ⟨hb,rfl,hij⟩;exfalso;simp at hij;omega
  case h=>
   exact⟨rfl,rfl,AAh _⟩
section
variable{X:Cx}{e a:Expr}{apos cpos:Pos}
theorem IS:MtR X "tuple.index" (Zw λH p ys=>SqT X.kw H p ys):=by
 intro w6 s O H x xs v us Q I rx rs h;obtain⟨p,ys,y,j,rfl,rfl,hp,fy,fys,hj,q⟩:=h;cases rx;obtain⟨u,rfl,ru⟩:=ET rs;obtain⟨its,rv,pl,hz⟩:=I.tuple hp;obtain⟨⟨cls,dd,data,sl⟩,ho,hc,n,hd⟩:=pl;simp only at hc hd;subst hc hd;obtain⟨hj2,e1,e2⟩:=JJ rv fys hj;refine call_meets PySem.F.slot_tuple_index ⟨_,ho,rfl⟩ PySem.F.entry_tuple_index (PySem.F.args_tuple_index_2 _ _) (Jd _ its.toArray n dd sl u (eqU y) j (by rw[List.size_toArray];exact hj2) (by simpa using e1) (λm hm h=>by simpa using e2 m (by simpa using hm) h)) ⟨ho,λw hw=>Dt ru fy rv fys w (by simpa using hw),?_⟩;exact⟨.int j,H,I.tok _,⟨_,rfl⟩,q⟩
structure ZA(K:PySem.W.Frag)(mg:Str->Option Value)(x:Str)(xs:List Str):Prop where
 ex:∃p its n sl,mg x=some (.ref p)/\K.lookup p=some ⟨.type "tuple",none,.seq its n,sl⟩/\FS its.toList=some xs/\xs.length<=1000
theorem Va{K:PySem.W.Frag}{mg:Str->Option Value}{h:Heap}{x:Str}(X:K.In h)(G:h.Ns mainGlobals mg)(a:PySem.W.nsIn K mainGlobals x=some (some (.ref p)))(l:K.lookup p=some ⟨.type "tuple",none,.seq its n,sl⟩)(e:FS its.toList=some xs)(hl:xs.length<=1000):ZA K mg x xs:=
 ⟨p,its,n,sl,PySem.W.mg_of X G a,l,e,hl⟩
noncomputable def Sy(xs:List Str):D->M D
 | .str y=>λZ=>(xs.findIdx? (·==y)).map λ(j:Nat)=>(D.int (j:Int),Z)
 |_=>BD
theorem KN(y:Str):∀xs:List Str,(xs.map V.str).findIdx? (λz=>eqV z (.str y))=xs.findIdx? (·==y)
 |[]=>rfl
 |x::r=>by
  rw[AAW,List.findIdx?_cons,List.findIdx?_cons,KN y r];rfl
theorem Gx:∀xs:List Str,(xs.map V.str).all DY=true
 |[]=>rfl
 |x::r=>by rw[AAW,List.all_cons,Gx r];rfl
theorem OS(g:ZA X.kw X.mg x xs)(he:RE X e me)(hg:Gl X x:=by rfl)(hdb:(x==("__debug__" : Str))=false:=by decide)
  (hbase:attributeBase (.Name x p) "index" X.env (eval (.Name x p) X.env)=eval (.Name x p) X.env:=by rfl)
  (hfew:((backTo cpos (starEach [e] X.env)).all (λx=>!x.1)&&(backToKw cpos (keywordEach [] X.env)).all (λx=>x.1.isSome)
   && decide ([e].length+([]:List Keyword).length+(if ([]:List Keyword).isEmpty then 0 else 1)<30))=true:=by rfl)
  (hline:(apos.endLine==cpos.line)=true:=by rfl) (hs:starEach [e] X.env=(false,eval e X.env)::starEach [] X.env:=by exact Ak rfl) (hplain:(backTo cpos (starEach [] X.env)).any (·.1)=false:=by exact A5 rfl) :
  RE X (.Call (.Attribute (.Name x p) "index" apos) [e] [] cpos) (mUn (Sy xs) me):=by
 obtain⟨ad,its,n,sl,hm,hk,hx,hl⟩:=g;have v:=FR hx;have hz:its.size<=sizeLine:=by
  have:=v.length;rw[AAG] at this;have z:its.size=xs.length:=by rw[this];simp
  rw[z];exact Nat.le_of_lt (Jt hl)
 refine RE.wk (WO PySem.F.plainAttrs_tuple PySem.F.slot_tuple_index PySem.F.type_tuple_index IS (F4 (v:=.ref ad) hg hm rfl hdb) (AA he AE hs).pe hbase hfew hline hs hplain) λO H Q h=>?_;obtain⟨Y,Z,B,d,Z',R,S,e,q⟩:=h;obtain⟨y,w9,e1,e2⟩:=AH e;refine⟨.inr (.inl ⟨rfl,_,hk,rfl,rfl⟩),?_⟩;refine⟨Y,Z,B,[y],w9,R,S,?_,λv5 H1 E1 R1 vs i1=>?_⟩
 ·show bnd (me B) _ Z=_;rw[AW e1];rfl
 cases y with
 |str y=>
  obtain⟨v1,rfl,iv⟩:=Eg i1;cases Cy iv;have e3:(xs.findIdx? (·==y)).map (λ(j:Nat)=>(D.int (j:Int),w9))=some (d,Z'):=e2;cases hj:xs.findIdx? (·==y) with
  |none=>rw[hj] at e3;cases e3
  |some j=>
   rw[hj] at e3;cases e3;exact⟨ad,xs.map V.str,.str y,j,rfl,rfl,.inr ⟨_,its,n,hk,rfl,rfl,hz,v⟩,rfl,Gx xs,by rw[KN];exact hj,q v5 H1 E1 R1 _ (ofI _)⟩
 |_=>cases e2
end
end Mi
namespace Ht
open PySem PySem.SetTable
abbrev Ris(l:List Nat):Prop:=l.Pairwise (· < ·)
theorem Rc{xs:Array Nat}(r:Ris xs.toList)(hk:k<xs.size)(h:i<k):xs[i]'(Nat.lt_trans h hk)<xs[k]:=by
 have:=List.pairwise_iff_getElem.mp r i k (by simpa using Nat.lt_trans h hk) (by simpa using hk) h;simpa using this
theorem Re{xs:Array Nat}(r:Ris xs.toList)(hk:k<xs.size)(h:i<=k):xs[i]'(AAo h hk)<=xs[k]:=by
 rcases Nat.lt_or_eq_of_le h with z|z
 ·exact Nat.le_of_lt (Rc r hk z)
 ·subst z;exact AAF _
structure Bel(xs:Array Nat)(j b:Nat):Prop where
 le:b<=xs.size
 lo:∀i (h:i<xs.size),i<b->xs[i]<j
 hi:∀i (h:i<xs.size),b<=i->j<=xs[i]
theorem JV{xs:Array Nat}(r:Ris xs.toList):∀EO lo hi,lo<=hi->hi<=xs.size->hi-lo<=EO->(∀i (h:i<xs.size),i<lo->xs[i]<j)->(∀i (h:i<xs.size),hi<=i->j<=xs[i])->Bel xs j (below.go xs j EO lo hi)
 |0,lo,hi,h1,h2,h3,h4,h5=>by
  have:lo=hi:=by omega
  subst this;exact⟨h2,h4,h5⟩
 |EO+1,lo,hi,h1,h2,h3,h4,h5=>by
  unfold below.go;by_cases z:lo<hi
  ·rw[if_pos z];have hm:(lo+hi) / 2<hi:=by omega
   have hm2:lo<=(lo+hi) / 2:=by omega
   have hs:(lo+hi) / 2<xs.size:=by omega
   have e:xs.getD ((lo+hi) / 2) j=xs[(lo+hi) / 2]:=by simp[Array.getD,hs]
   dsimp only;rw[e];by_cases q:xs[(lo+hi) / 2]<j
   ·rw[if_pos q];exact JV r EO _ hi (by omega) h2 (by omega) (λi h hi'=>AAo (Re r hs (by omega)) q) h5
   ·rw[if_neg q];exact JV r EO lo _ hm2 (by omega) (by omega) h4 (λi h hi'=>AAp (Nat.le_of_not_lt q) (Re r h hi'))
  ·rw[if_neg z];have:lo=hi:=by omega
   subst this;exact⟨h2,h4,h5⟩
theorem JU(r:Ris xs.toList)(j:Nat):Bel xs j (below xs j):=
 JV r _ 0 _ (AAh _) (AAF _) (by omega) (λi _ h=>absurd h (by omega)) (λi h h2=>absurd h2 (by omega))
theorem Nu{xs:Array Nat}(r:Ris xs.toList)(hk:k<xs.size):below xs (xs[k]+1)=k+1:=by
 have b:=JU r (xs[k]+1);rcases Nat.lt_trichotomy (below xs (xs[k]+1)) (k+1) with z|z|z
 ·have h1:=b.hi k hk (by omega);omega
 ·exact z
 ·have h1:=b.lo (k+1) (by have:=b.le;omega) z;have h2:=Rc r (k:=k+1) (i:=k) (by have:=b.le;omega) (by omega);omega
theorem Nt(r:Ris xs.toList):below xs 0=0:=by
 have b:=JU r 0;rcases Nat.eq_zero_or_pos (below xs 0) with z|z
 ·exact z
 ·have:=b.lo 0 (by have:=b.le;omega) z;omega
structure Tab(t:SetTable)(n:Nat):Prop where
 ris:Ris t.place.toList
 sz:t.place.size=n
 dm:t.dummies=#[]
 mks:(t.mask=7/\n<=4)∨(t.mask=31/\n<=18)∨(t.mask=127/\19<=n/\n<=75)
 pl:t.plain=true
theorem PP(led:Bool):Tab (.fresh 0 0 led) 0:=⟨List.Pairwise.nil,rfl,rfl,.inl ⟨rfl,by omega⟩,rfl⟩
theorem Tab.fits{t:SetTable}{n:Nat}(h:Tab t n):t.fits n=true:=by
 unfold SetTable.fits fill;rw[h.sz,h.dm];rcases h.mks with ⟨a,b⟩|⟨a,b⟩|⟨a,b⟩<;>simp[a]<;>omega
open PyProof.Rows
section
theorem Oy{h:Heap}{a:Addr}{o:Obj}{es:Array (Int×Value)}{ep:Nat}{t:SetTable}(ho:h.get? a=some o)(hd:o.data=.set es ep t)(es':Array (Int×Value))(t':SetTable):
  (h.update a (Obj.putSet es' t')).get? a=some { o with data:=.set es' (ep+1) t' }:=by
 have:=Heap.get?_update_self (Obj.putSet es' t') ho (by rw[putSet_of es' t' hd];rfl);rw[putSet_of es' t' hd] at this;exact this
end
end Ht
namespace Ht
open PySem PySem.Spec PyProof.Rows Sem L2
section
variable{prog:Program}{w:World}{A:Around}{E:Value->Shared->Prop}{s:Shared}
theorem UF(a:Value){Q:Value->Shared->Prop}(h:Q (.ref s.heap.objs.size) { s with heap:=s.heap.push (A9 !(w.params.followText "set-order")) }):
  codeAny (model prog w) A (.call (.builtin "set.__new__") ⟨[.type "set",a],[]⟩) (wants Q E) s:=by
 refine codeAny_call_builtin (b:=Builtin.«set.__new__») PySem.F.plain_set_new PySem.F.entry_set_new (AAr (PySem.F.newCall_set_1 a) ?_);unfold Builtin.«set.__new__» Builtin.Frozenset.newClass;have z:=sub_set_self
 wp_walk
 refine wpAny_askSetting (AAB ?_);have e:∀{Q:Value->Shared->Prop} {E:Value->Shared->Prop} (t:SetTable),Q (.ref s.heap.objs.size) { s with heap:=s.heap.push { cls:=.type "set",data:=.set #[] 0 t } }->wpAny (model prog w) A.in1 (newObj (.type "set") (.set #[] 0 t)) Q E s:=λt z=>by
  unfold newObj
  wp_walk
  first|exact z|exact AAA (wpAny_alloc (AAB z))|trace_state
 exact e _ (AAB h)
end
open PySem.SetTable
theorem GX:∀(l:List α) (i:Nat) (x:α),l[i]?=some x->(x::l.eraseIdx i).Perm l
 |[],_,_,e=>by cases e
 |a::l,0,x,e=>by
  simp at e;subst e;exact .refl _
 |a::l,i+1,x,e=>by
  have e':l[i]?=some x:=by simpa using e
  exact(List.Perm.swap a x _).trans ((GX l i x e').cons a)
theorem OU(f:Nat->Nat):∀(EO k:Nat) (left:List α) (out:Array α),left.length<=EO->(pickOrder.go f EO k left out).toList.Perm (out.toList++left)
 |0,k,left,out,h=>by
  have:left=[]:=List.length_eq_zero_iff.mp (by omega);subst this;unfold pickOrder.go;rw[AAX]
 |EO+1,k,left,out,h=>by
  unfold pickOrder.go;cases e:left[f k % left.length]? with
  |none=>
   simp only[];have:left=[]:=by
    cases left with
    |nil=>rfl
    |cons a l=>
     exfalso;have:=List.getElem?_eq_none_iff.mp e;have:=Nat.mod_lt (f k) (show 0<(a::l).length by simp);omega
   rw[this,AAX]
  |some x=>
   simp only[];have hp:=GX left _ x e;have hl:=hp.length_eq;rw[AAI] at hl;refine(OU f EO (k+1) _ (out.push x) (by omega)).trans ?_;rw[Array.toList_push,List.append_assoc];exact hp.append_left _
theorem Pi(f:Nat->Nat)(xs:Array α):(pickOrder f xs).toList.Perm xs.toList:=by
 have:=OU f xs.size 0 xs.toList #[] (by simp);simpa[pickOrder] using this
noncomputable def wv(w:World)(S:Addr)(ep:Nat)(es:Array (Int×Value)):Array (Int×Value):=if w.params.followText "set-order" = true then pickOrder (w.params.setOrder S ep) es else es
theorem N2(w:World)(S:Addr)(ep:Nat)(es:Array (Int×Value)):(wv w S ep es).toList.Perm es.toList:=by
 unfold wv;split
 ·exact Pi _ _
 ·exact .refl _
theorem IF(w:World)(S:Addr)(ep:Nat)(es:Array (Int×Value)):(wv w S ep es).size=es.size:=by
 have:=(N2 w S ep es).length_eq;simpa using this
structure Wt(w:World)(t:SetTable)(n:Nat):Prop where
 fits:t.fits n=true
 nd:w.params.followText "set-order" = false->Ris t.place.toList/\(!t.plain&&decide (n > 1))=false
theorem Wt.sz(T:Wt w t n):t.place.size=n:=by
 have:=T.fits;unfold SetTable.fits at this;simp only[Bool.and_eq_true,beq_iff_eq] at this;exact this.1
section
variable{prog:Program}{w:World}{A:Around}{E:Value->Shared->Prop}{s:Shared}
theorem Lf(ho:s.heap.get? S=some o)(hd:o.data=.set es ep t)(T:Wt w t es.size)(hled:t.led=!(w.params.followText "set-order"))
  (hsl:w.params.followText "set-order" = false->below t.place sl=i)
  (h1:∀e sl',(wv w S ep es)[i]?=some e->(w.params.followText "set-order" = false->below t.place sl'=i+1)->Q (some (e.2,sl')) s)
  (h2:(wv w S ep es)[i]?=none->Q none s):wpAny (model prog w) A (setNext S sl i ep) Q E s:=by
 unfold setNext;refine AAA (AAf ho hd T.fits ?_);dsimp only;unfold setsByText;refine AAA (AAA (wpAny_askSetting (AAB ?_)));dsimp only[model];by_cases hb:w.params.followText "set-order" = true
 ·rw[if_pos hb];have e0:(ep != ep)=false:=by simp
  rw[e0,if_neg AAd];unfold setWalk setsByText;refine AAA (AAA (AAf ho hd T.fits ?_));dsimp only;refine AAA (AAA (wpAny_askSetting (AAB ?_)));dsimp only[model];rw[if_pos hb];refine AAA (wpAny_askSetting (AAB (AAB ?_)));dsimp only;have ew:wv w S ep es=pickOrder (w.params.setOrder S ep) es:=by unfold wv;rw[if_pos hb]
  rw[ew] at h1 h2;cases q:(pickOrder (w.params.setOrder S ep) es)[i]? with
  |none=>exact h2 q
  |some e=>exact h1 e sl q λz=>by rw[hb] at z;cases z
 ·have hb':w.params.followText "set-order" = false:=by simpa using hb
  rw[if_neg hb];have hl:t.led=true:=by rw[hled,hb'];rfl
  have ew:wv w S ep es=es:=by unfold wv;rw[if_neg hb]
  rw[ew] at h1 h2;have hs:=hsl hb';split
  ·rename_i z;have z':(!t.plain&&decide (es.size > 1))=true:=z;rw[(T.nd hb').2] at z';cases z'
  ·refine AAA ?_;show wpAny _ _ (if (!t.led&&!es.isEmpty)=true then PySem.unsupported "set:maker-not-led" else Pure.pure ()) _ _ _;rw[hl];rw[if_neg (by simp)];refine AAB ?_;refine AAB ?_;rw[hs];have hsz:=T.sz;by_cases hi:i<es.size
   ·have e1:es[i]?=some es[i]:=by simp[hi]
    have e2:t.place[i]?=some (t.place[i]'(by omega)):=by simp[hsz,hi]
    rw[e1,e2];exact h1 es[i] _ e1 λ_=>Nu (T.nd hb').1 (by omega)
   ·have e1:es[i]?=none:=by simp;omega
    rw[e1];exact h2 e1
end
theorem si_next:Slot "set_iterator" "__next__" "set_iterator.__next__" :=
 Slot.of (owner := "set_iterator") (n := "__next__") (by rw[typeLookup_type,builtinLookup_eq_fast];kernel_rfl) (by decide +kernel) (by decide +kernel) (by decide +kernel) (.inl (by decide +kernel)) (by rw[isSubtype_type];kernel_rfl)
theorem IG:Slot "set_iterator" "__iter__" "set_iterator.__iter__" :=
 Slot.of (owner := "set_iterator") (n := "__iter__") (by rw[typeLookup_type,builtinLookup_eq_fast];kernel_rfl) (by decide +kernel) (by decide +kernel) (by decide +kernel) (.inl (by decide +kernel)) (by rw[isSubtype_type];kernel_rfl)
theorem G1:entryFor table "set_iterator.__next__" = some Builtin.«set_iterator.__next__»:=entryFor_of_tree (by kernel_rfl)
theorem MQ:entryFor table "set_iterator.__iter__" = some Builtin.«dict_keyiterator.__iter__»:=entryFor_alias (id' := "dict_keyiterator.__iter__") (by kernel_rfl) rfl (by decide +kernel) (by kernel_rfl)
theorem MR:entryFor table "set.__iter__" = some Builtin.«frozenset.__iter__»:=entryFor_alias (id' := "frozenset.__iter__") (by kernel_rfl) rfl (by decide +kernel) (by kernel_rfl)
theorem G8(a:Value):argsOk "set_iterator.__next__" ⟨[a],[]⟩:=by unfold argsOk;kernel_rfl
theorem Ml(a:Value):argsOk "set_iterator.__iter__" ⟨[a],[]⟩:=by unfold argsOk;kernel_rfl
noncomputable def itO(S:Addr)(sl i n ep:Nat):Obj:={ cls:=.type "set_iterator",data:=.fields #[.int sl 0,.int i 0,.ref S,.int n 0,.int ep 0] }
section
variable{prog:Program}{w:World}{A:Around}{E:Value->Shared->Prop}{s:Shared}
theorem Il(hh:A.handled=none)(h:∀a h',(∀b o,s.heap.get? b=some o->h'.get? b=some o)->Shared.TypeIs { s with heap:=h' } (.ref a) "StopIteration" -> E (.ref a) { s with heap:=h' }):
  wpAny (model prog w) A (newExc (.type "StopIteration") [] >>= λe=>(raiseNew e:Sem α)) Q E s:=by
 unfold newExc newTuple;refine AAA (AAA (AAn ?_ (by size_fits)));refine AAA (m:=firstArgMember _ _) (AAr (a:=Value.none) (by kernel_rfl) ?_);refine AAn ?_ (by size_fits);unfold raiseNew;refine AAA (wpAny_handled ?_);rw[hh];refine AAA (AAB (wpAny_throw (h _ _ (λb o e=>AAC _ (AAC _ e)) ⟨_,AAD _ rfl,rfl⟩)))
theorem VW(hne:S≠I)(hI:s.heap.get? I=some (itO S sl i es.size ep))(ho:s.heap.get? S=some o)(hd:o.data=.set es ep t)(T:Wt w t es.size)(hled:t.led=!(w.params.followText "set-order"))
  (hsl:w.params.followText "set-order" = false->below t.place sl=i) (hx:(wv w S ep es)[i]?=some x)
  (q:∀h' sl',h'.get? I=some (itO S sl' (i+1) es.size ep)->(w.params.followText "set-order" = false->below t.place sl'=i+1)->Heap.SameBut I s.heap h'->Q (some x.2) { s with heap:=h' }) :
  wpAny (model prog w) A (pyNext (.ref I)) Q E s:=by
 have hT:s.TypeIs (.ref I) "set_iterator" := ⟨_,hI,rfl⟩;unfold pyNext;refine AAA (AAu (wpAny_callSpecial?_slot (name:=Str.ofString "__next__") hT si_next (AAa si_next hT G1 ?_ (G8 _))));unfold Builtin.«set_iterator.__next__»;refine AAA (AAr (a:=(Value.ref I,[])) rfl ?_);refine AAA (wpAny_fieldsOf hI rfl ?_);dsimp only;unfold setEntries;refine AAA (AAA (AAf ho hd T.fits (AAB ?_)));dsimp only;have e0:((es.size:Int) != (es.size:Int))=false:=by simp
 rw[e0,if_neg AAd];simp only[Int.toNat_natCast];refine AAA (Lf ho hd T hled hsl (λe sl' h1 h2=>?_) λz=>by rw[hx] at z;cases z);rw[hx] at h1;cases h1;dsimp only;refine AAA (AAm hI (by simp) λh1 g1 s1=>?_);refine AAA (AAm g1 (by simp) λh2' g2 s2=>?_);refine AAB ⟨_,rfl,AAB (q h2' sl' ?_ h2 (s1.trans s2))⟩;rw[g2];simp[itO,rawInt]
theorem YY(hh:A.handled=none)(hI:s.heap.get? I=some (itO S sl i es.size ep))(ho:s.heap.get? S=some o)(hd:o.data=.set es ep t)(T:Wt w t es.size)(hled:t.led=!(w.params.followText "set-order"))
  (hsl:w.params.followText "set-order" = false->below t.place sl=i) (hx:(wv w S ep es)[i]?=none)
  (q:∀h',(∀b o,b≠I->s.heap.get? b=some o->h'.get? b=some o)->Q none { s with heap:=h' }) :
  wpAny (model prog w) A (pyNext (.ref I)) Q E s:=by
 have hT:s.TypeIs (.ref I) "set_iterator" := ⟨_,hI,rfl⟩;unfold pyNext;refine AAA (AAu (wpAny_callSpecial?_slot (name:=Str.ofString "__next__") hT si_next (AAa si_next hT G1 ?_ (G8 _))));unfold Builtin.«set_iterator.__next__»;refine AAA (AAr (a:=(Value.ref I,[])) rfl ?_);refine AAA (wpAny_fieldsOf hI rfl ?_);dsimp only;unfold setEntries;refine AAA (AAA (AAf ho hd T.fits (AAB ?_)));dsimp only;have e0:((es.size:Int) != (es.size:Int))=false:=by simp
 rw[e0,if_neg AAd];simp only[Int.toNat_natCast];refine AAA (Lf ho hd T hled hsl (λe sl' h1 h2=>by rw[hx] at h1;cases h1) λ_=>?_);dsimp only;refine AAA (AAm hI (by simp) λh1 g1 s1=>?_);refine Il (A:=A.in1) (s:={ s with heap:=h1 }) hh λa h' k ty=>?_;refine AAA (wpAny_isInstance (T := "StopIteration") (b:=true) ty isSubtype_stop ?_);exact AAB (q h' λb o hb e=>k b o (s1.extBut b o hb e))
theorem VU(hI:s.heap.get? I=some (itO S sl i n ep))(h:Q (.ref I) s):wpAny (model prog w) A (pyIter (.ref I)) Q E s:=by
 have hT:s.TypeIs (.ref I) "set_iterator" := ⟨_,hI,rfl⟩;refine wpAny_pyIter_slot hT IG (AAa IG hT MQ ?_ (Ml _));exact AAB ⟨_,rfl, "set_iterator",_,hT,si_next.lookup,h⟩
theorem YX(ho:s.heap.get? S=some o)(hex:o.ExactSet)(hd:o.data=.set es ep t)(T:Wt w t es.size)
  (h:Q (.ref s.heap.objs.size) { s with heap:=s.heap.push (itO S 0 0 es.size ep) }):wpAny (model prog w) A (pyIter (.ref S)) Q E s:=by
 have hT:s.TypeIs (.ref S) "set" := ⟨_,ho,hex.1⟩;refine wpAny_pyIter_slot hT PySem.F.slot_set_iter (AAa PySem.F.slot_set_iter hT MR ?_ (PySem.F.args_set_iter_1 _));unfold Builtin.«frozenset.__iter__» Builtin.Frozenset.slot0 Builtin.Frozenset.sizeOf setEntries setDrawn setsByText;refine AAA (AAA (AAr (a:=(Value.ref S,[])) rfl (AAB ?_)));refine AAA (AAA (AAA (AAf ho hd T.fits (AAB (AAB ?_)))));refine AAA (AAA (AAf ho hd T.fits ?_));dsimp only;refine AAA (AAA (wpAny_askSetting (AAB (AAB ?_))));dsimp only;have e0:(!(w.params.followText "set-order")&&(!t.plain&&decide (es.size > 1)))=false:=by
  cases b:w.params.followText "set-order" with
  |true=>rfl
  |false=>rw[(T.nd b).2];rfl
 split
 ·rename_i z;have z':=e0.symm.trans z;cases z'
 ·refine AAA (AAB ?_);refine AAA (wpAny_setEpoch_of ho hd T.fits ?_);unfold newFields;exact AAA (AAn (AAB ⟨_,rfl, "set_iterator",_,⟨_,AAD _ rfl,rfl⟩,si_next.lookup,h⟩))
end
section
variable{prog:Program}{w:World}{A:Around}{E:Value->Shared->Prop}{s:Shared}
theorem XD:splitId "set.__len__" = some ("set", "__len__"):=by decide +kernel
theorem Lg(hT:s.TypeIs (.ref S) "set")(h:Q false s):wpAny (model prog w) A (Builtin.List.listLengthHint (.ref S)) Q E s:=by
 obtain⟨id,hid⟩:∃id,id = "set.__len__" := ⟨_,rfl⟩;have l:=PySem.F.slot_set_len.lookup;have z:=sub_set_self;have sp:=XD;rw[←hid] at l sp;unfold Builtin.List.listLengthHint
 wp_walk
 rw[sp]
 wp_walk
 split
 ·wp_walk
  exact h
 ·rename_i no;exact absurd (by rw[hid];decide +kernel) no
theorem PF(hh:A.handled=none)(hne:S≠I)(hd:o.data=.set es ep t)(T:Wt w t es.size)(hled:t.led=!(w.params.followText "set-order")):
  Walks prog w A I [I,S] [I] es.size (λi v=>∃e,(wv w S ep es)[i]?=some e/\v=e.2)
   (λi h=>(∃sl:Nat,h.get? I=some (itO S sl i es.size ep)/\(w.params.followText "set-order" = false->below t.place sl=i))/\h.get? S=some o) where
 sub:=λb hb=>by simp at hb;simp[hb]
 frame:=λi h h' st k=>by
  obtain⟨⟨sl,h1,h2⟩,h3⟩:=st;exact⟨⟨sl,k I (by simp) _ h1,h2⟩,k S (by simp) _ h3⟩
 item:=λi s Q E hi st q=>by
  obtain⟨⟨sl,h1,h2⟩,h3⟩:=st;obtain⟨x,hx⟩:∃x,(wv w S ep es)[i]?=some x:=⟨(wv w S ep es)[i]'(by rw[IF];exact hi),by simp[IF,hi]⟩;refine VW hne h1 h3 hd T hled h2 hx λh' sl' g1 g2 sb=>?_;exact q x.2 h' s.toks ⟨x,hx,rfl⟩ ⟨⟨sl',g1,g2⟩,(sb.2 S hne).trans h3⟩ λb o hb e=>(sb.2 b (by simpa using hb)).trans e
 done:=λs Q E st q=>by
  obtain⟨⟨sl,h1,h2⟩,h3⟩:=st;refine YY hh h1 h3 hd T hled h2 (by simp[IF]) λh' k=>?_;exact q h' s.toks λb o hb e=>k b o (by simpa using hb) e
 self:=λi s Q E st h=>by
  obtain⟨⟨sl,h1,h2⟩,h3⟩:=st;exact VU h1 h
theorem UC(hex:o.ExactSet)(hd:o.data=.set es ep t)(T:Wt w t es.size)(hled:t.led=!(w.params.followText "set-order")):
  PySem.W.KdlSrc prog w "set" S S es.size (λi v=>∃e,(wv w S ep es)[i]?=some e/\v=e.2) (λh=>h.get? S=some o) where
 type:=λs h=>⟨_,h,hex.1⟩
 there:=λh e=>⟨Heap.lt_size e,Heap.lt_size e⟩
 keep:=λh h' e k=>k S (.inl rfl) _ e
 notList:=by decide
 notTuple:=by decide
 hint:=λA E s Q e h=>Lg ⟨_,e,hex.1⟩ h
 iter:=λA s hh e=>⟨itO S 0 0 es.size ep,_,λE Q h=>YX e hex hd T h,PF hh (AAb (Heap.lt_size e)) hd T hled,⟨0,AAD _ rfl,λb=>Nt (T.nd b).1⟩,AAC _ e⟩
end
end Ht
namespace L2
open PySem PySem.Spec PyProof.Rows Sem Ht
theorem OA:fillsNumberSlot (.type "tuple") "mul" = Pure.pure false:=PySem.fillsNumberSlot_seq (id := "tuple.__mul__") (r:=some (.builtin "tuple.__rmul__")) PySem.F.slot_tuple_mul.lookup (by decide +kernel) PySem.F.slot_tuple_rmul.lookup (by decide +kernel)
theorem Qv:seqRepeat? (.type "tuple")=Pure.pure (some (.builtin "tuple.__mul__")):=by
 unfold seqRepeat?;rw[PySem.seqSlot_of (T := "tuple") (name := "__mul__") PySem.F.slot_tuple_mul.lookup (by decide +kernel),PySem.seqSlot_of (T := "tuple") (name := "__rmul__") PySem.F.slot_tuple_rmul.lookup (by decide +kernel)];rfl
section
variable{w:World}{A:Around}{s:Shared}
theorem Qw(a:Int)(t:Tok)(l:Addr)(items:Array Value):Meets (Builtin.«int.__rmul__» ⟨[.int a t,.ref l],[]⟩) (λ_ R s=>IsTup s.heap l items/\R (.ok (.ret Value.notImplemented)) s):=
 .of_wp λprog w A R s h=>by
  obtain⟨⟨o,ho,hc,n,hd⟩,h⟩:=h;have hT:s.TypeIs (.ref l) "tuple" := ⟨o,ho,hc⟩;have z:=PySem.F.sub_tuple_int
  wp_walk
  rw[hd]
  wp_walk
  exact⟨_,rfl,h⟩
theorem W6(l:Addr)(items:Array Value)(k:Int)(t:Tok)(h0:items.isEmpty=false)(h1:1<=k)(h2:k<=1000)(h3:items.size<=1000):
  Meets (Builtin.«tuple.__mul__» ⟨[.ref l,.int k t],[]⟩) (λ_ R s=>IsTup s.heap l items/\(k=1->R (.ok (.ret (.ref l))) s)/\(k≠1->R (.ok (.ret (.ref s.heap.objs.size))) { s with heap:=s.heap.push { cls:=.type "tuple",data:=.seq ((List.replicate k.toNat items).foldl (·++·) #[]) } })):=
 .of_wp λprog w A R s h=>by
  obtain⟨⟨o,ho,hc,n,hd⟩,q1,q2⟩:=h;have hT:s.TypeIs (.ref l) "tuple" := ⟨o,ho,hc⟩;have b1:(items.size:Int) * k<=1000000:=by
   have:=Int.mul_le_mul (show (items.size:Int)<=1000 by omega) h2 (by omega) (by omega);omega
  have c1:(decide (k < -2 ^ 63)||decide (k ≥ 2 ^ 63))=false:=by simp;omega
  have c3:(decide (k<=0)||items.isEmpty)=false:=by rw[h0];simp;omega
  have c5:Builtin.Tuple.tupleTooMany ((items.size:Int) * k)=false:=by
   unfold Builtin.Tuple.tupleTooMany;simp[sizeLine_eq];omega
  unfold Builtin.«tuple.__mul__»
  wp_walk
  rw[c1,if_neg AAd];refine AAA ?_;unfold Builtin.Tuple.tupleItemsOf;refine AAA (AAt ho hd (AAB ?_));rw[h0];by_cases hk:k=1
  ·have c2:(false||k==1)=true:=by simp[hk]
   rw[c2];simp only[↓reduceIte]
   wp_walk
   exact⟨_,rfl,q1 hk⟩
  ·have c2:(false||k==1)=false:=by simp[hk]
   rw[c2];simp only[Bool.false_eq_true,↓reduceIte];rw[Bool.or_false,AAN (show ¬k<=0 by omega)];simp only[Bool.false_eq_true,↓reduceIte];rw[if_neg (show ¬(items.size:Int) * k > (2 ^ 63-1) / 8 by omega),c5];simp only[Bool.false_eq_true,↓reduceIte];unfold Builtin.Tuple.tupleExact;refine AAA (AAn (AAB ⟨_,rfl,q2 hk⟩) ?_);show ((List.replicate k.toNat items).foldl (·++·) #[]).size<=sizeLine;have sz:∀(m:Nat) (z:Array Value),((List.replicate m items).foldl (·++·) z).size=z.size+m * items.size:=by
    intro m
    induction m with
    |zero=>intro z;simp
    |succ m ih=>intro z;rw[AAi,List.foldl_cons,ih,Array.size_append,Nat.succ_mul];omega
   rw[sz,sizeLine_eq];have:((k.toNat * items.size:Nat):Int)=(items.size:Int) * k:=by
    rw[Int.natCast_mul,Int.toNat_of_nonneg (by omega),Int.mul_comm]
   simp;omega
end
theorem JG(its:List Value):∀(m:Nat) (z:List Value),(List.replicate m its.toArray).foldl (·++·) z.toArray=(z++(List.replicate m its).flatten).toArray
 |0,z=>by simp
 |m+1,z=>by
  rw[AAi,List.foldl_cons,List.append_toArray,JG its m,AAi,List.flatten_cons,List.append_assoc]
theorem Vals.reps(r:Vals vs us):∀m:Nat,Vals (List.replicate m vs).flatten (List.replicate m us).flatten
 |0=>.nil
 |m+1=>by
  rw[AAi,List.flatten_cons,AAi,List.flatten_cons];exact r.append (Vals.reps r m)
section
variable{X:Cx}
theorem Uy:OpR X (binaryOp .Mult) (λx y H Q=>∃l k xs,x=.ref l/\y=.int k/\SqT X.kw H l xs/\xs≠[]/\xs.length<=1000/\1<=k/\k<=1000/\(k=1->Q (.ref l) H)/\(k≠1->∀p,H p=none->Q (.ref p) (upd H p (.tup (List.replicate k.toNat xs).flatten)))):=by
 intro w6 s O H x y v u Q I rx ry h;obtain⟨l,k,xs,rfl,rfl,ha,hx,hz,k1,k2,q1,q2⟩:=h;cases rx;obtain⟨t,rfl⟩:=ry;obtain⟨its,r,p,_⟩:=I.tuple ha;have hlen:=r.length;have hT:s.TypeIs (.ref l) "tuple" := by obtain⟨o,e,c,_⟩:=p;exact⟨o,e,c⟩
 have he:its.toArray.isEmpty=false:=by
  cases its with
  |nil=>exact absurd (List.length_eq_zero_iff.mp (by simpa using hlen)) hx
  |cons a b=>rfl
 refine wpAny_binaryOp_repeat_ref (T := "tuple") (U := "int") (by decide) hT (λs'=>typeIs_int s' k t) OA PySem.F.fills_int_mul PySem.F.slot_int_rmul Qv PySem.F.slot_int_index.lookup ?_;refine call_meets PySem.F.slot_int_rmul (typeIs_int s k t) PySem.F.entry_int_rmul (PySem.F.args_int_rmul_2 _ _) (Qw k t l its.toArray) ⟨p,rfl,hT,?_⟩;refine call_meets PySem.F.slot_tuple_mul hT PySem.F.entry_tuple_mul (PySem.F.args_tuple_mul_2 _ _) (W6 l its.toArray k t he k1 k2 (by rw[List.size_toArray];omega)) ⟨p,λz=>⟨.ref l,H,I,rfl,q1 z⟩,λz=>?_⟩;have ef:=JG its k.toNat [];rw[List.nil_append] at ef;rw[ef];refine⟨.ref s.heap.objs.size,_,I.laid (t':=s.toks) (o:=.tup (List.replicate k.toNat xs).flatten) (λb ob q=>AAC _ q) (AAF _) ⟨?_,_,r.reps _,IsTup.new _ _⟩,rfl,q2 z _ (I.hok.fresh (AAF _))⟩;rw[Oj,sizeLine_eq];have:k.toNat * xs.length<=1000 * 1000:=Nat.mul_le_mul (by omega) hz;omega
end
end L2
namespace Mi
open PySem L2 Ht
noncomputable def NB(a b:D):M D:=match a,b with
 | .tup ds,.int k=>λZ=>if ds≠[]/\ds.length<=1000/\1<=k/\k<=1000 then some (.tup (List.replicate k.toNat ds).flatten,Z) else none
 |a,b=>C7 a b
section
variable{X:Cx}
theorem YB:OpR X (binaryOp .Mult) (rM X.kw NB):=λw6 s O H x y v u Q I rx ry h=>by
 obtain⟨Y,Z,a,b,d,Z',R,ia,ib,e,q⟩:=h;unfold NB at e;split at e
 ·rename_i ds k;split at e
  ·rename_i hc;obtain⟨c1,c2,c3,c4⟩:=hc;cases e;have zb:=Bj ib;subst zb;unfold Is at ia;obtain⟨p,vs,rfl,h1,h2⟩:=ia;have hl:=h2.length;refine Uy w6 s O H _ _ v u Q I rx ry ⟨p,k,vs,rfl,rfl,h1,λz=>c1 (List.length_eq_zero_iff.mp (by rw[←hl,z];rfl)),by omega,c3,c4,λz=>?_,λz=>?_⟩
   ·subst z;refine q Y H R.ext0 R _ ?_;unfold Is;exact⟨p,vs,rfl,h1,by simpa using h2⟩
   ·exact Om R (h2.rep _) q
  ·cases e
 ·exact Fe w6 s O H _ _ v u Q I rx ry ⟨Y,Z,a,b,d,Z',R,ia,ib,e,q⟩
end
end Mi
namespace L2
open PySem PySem.Spec PyProof.Rows Sem Ht
theorem T8(l:Addr)(items:Array Value)(t:Tok)(h0:items.isEmpty=false):
  Meets (Builtin.«tuple.__mul__» ⟨[.ref l,.int 0 t],[]⟩) (λ_ R s=>IsTup s.heap l items/\R (.ok (.ret (.ref s.heap.objs.size))) { s with heap:=s.heap.push { cls:=.type "tuple",data:=.seq #[] } }):=
 .of_wp λprog w A R s h=>by
  obtain⟨⟨o,ho,hc,n,hd⟩,q⟩:=h;have hT:s.TypeIs (.ref l) "tuple" := ⟨o,ho,hc⟩;unfold Builtin.«tuple.__mul__»
  wp_walk
  rw[hd];refine AAB (AAB ?_);dsimp only;rw[h0];have c2:(false||(0:Int)==1)=false:=by decide
  rw[c2];simp only[Bool.false_eq_true,↓reduceIte];have c3:(decide ((0:Int)<=0)||false)=true:=by decide
  rw[c3];simp only[↓reduceIte];unfold Builtin.Tuple.tupleExact;exact AAA (AAn (AAB ⟨_,rfl,q⟩))
section
variable{X:Cx}
theorem SK:OpR X (binaryOp .Mult) (λx y H Q=>∃l xs,x=.ref l/\y=.int 0/\SqT X.kw H l xs/\xs≠[]/\∀p,H p=none->Q (.ref p) (upd H p (.tup []))):=by
 intro w6 s O H x y v u Q I rx ry h;obtain⟨l,xs,rfl,rfl,ha,hx,q⟩:=h;cases rx;obtain⟨t,rfl⟩:=ry;obtain⟨its,r,p,_⟩:=I.tuple ha;have hlen:=r.length;have hT:s.TypeIs (.ref l) "tuple" := by
  obtain⟨o,e,c,_⟩:=p;exact⟨o,e,c⟩
 have he:its.toArray.isEmpty=false:=by
  cases its with
  |nil=>exact absurd (List.length_eq_zero_iff.mp (by simpa using hlen)) hx
  |cons a b=>rfl
 refine wpAny_binaryOp_repeat_ref (T := "tuple") (U := "int") (by decide) hT (λs'=>typeIs_int s' 0 t) OA PySem.F.fills_int_mul PySem.F.slot_int_rmul Qv PySem.F.slot_int_index.lookup ?_;refine call_meets PySem.F.slot_int_rmul (typeIs_int s 0 t) PySem.F.entry_int_rmul (PySem.F.args_int_rmul_2 _ _) (Qw 0 t l its.toArray) ⟨p,rfl,hT,?_⟩;refine call_meets PySem.F.slot_tuple_mul hT PySem.F.entry_tuple_mul (PySem.F.args_tuple_mul_2 _ _) (T8 l its.toArray t he) ⟨p,?_⟩;exact⟨.ref s.heap.objs.size,_,I.laid (t':=s.toks) (o:=.tup []) (λb ob z=>AAC _ z) (AAF _) ⟨by simp,[],.nil,IsTup.new _ _⟩,rfl,q _ (I.hok.fresh (AAF _))⟩
end
end L2
namespace Mi
open PySem L2 Ht
noncomputable def NA(a b:D):M D:=match a,b with
 | .tup (x::ds),.int 0=>λZ=>some (.tup [],Z)
 |a,b=>NB a b
section
variable{X:Cx}
theorem YA:OpR X (binaryOp .Mult) (rM X.kw NA):=λw6 s O H x y v u Q I rx ry h=>by
 obtain⟨Y,Z,a,b,d,Z',R,ia,ib,e,q⟩:=h;unfold NA at e;split at e
 ·rename_i z ds;cases e;have zb:=Bj ib;subst zb;unfold Is at ia;obtain⟨p,vs,rfl,h1,h2⟩:=ia;have hl:=h2.length;refine SK w6 s O H _ _ v u Q I rx ry ⟨p,vs,rfl,rfl,h1,λn=>by rw[n] at hl;simp at hl,?_⟩;exact Om R IsL.nil q
 ·exact YB w6 s O H _ _ v u Q I rx ry ⟨Y,Z,a,b,d,Z',R,ia,ib,e,q⟩
end
end Mi
namespace Mi
open PySem L2
section
variable{K:KW}{Y:Nat->Addr}{k:Nat}{H:Hp}
theorem ClsAt.eq(a:ClsAt K c C)(b:ClsAt K c C'):C=C':=by
 unfold ClsAt at a b;rw[a] at b;cases b;rfl
theorem FVs.lookup:∀{l:List (Str×D)} {r:List (Str×V)} {d:D},FVs K Y k H l r->l.lookup f=some d->∃v,r.lookup f=some v/\Is K Y k H d v
 |[],_,_,_,e=>by cases e
 |(y,d0)::l,_,d,h,e=>by
  obtain⟨v,r',rfl,h1,h2⟩:=h;rw[List.lookup_cons] at e ⊢;cases q:f==y with
  |true=>rw[q] at e;cases e;exact⟨v,rfl,h1⟩
  |false=>rw[q] at e;exact FVs.lookup h2 e
theorem FVs.none:∀{l:List (Str×D)} {r:List (Str×V)},FVs K Y k H l r->l.lookup f=none->r.lookup f=none
 |[],_,h,_=>by cases h;rfl
 |(y,d0)::l,_,h,e=>by
  obtain⟨v,r',rfl,h1,h2⟩:=h;rw[List.lookup_cons] at e ⊢;cases q:f==y with
  |true=>rw[q] at e;cases e
  |false=>rw[q] at e;exact FVs.none h2 e
theorem FVs.len:∀{l:List (Str×D)} {r:List (Str×V)},FVs K Y k H l r->r.length=l.length
 |[],_,h=>by cases h;rfl
 |(y,d0)::l,_,h=>by
  obtain⟨v,r',rfl,h1,h2⟩:=h;simp[FVs.len h2]
noncomputable def Gn(f:Str)(d:D):List (Str×D)->List (Str×D)
 |[]=>[(f,d)]
 |(y,x)::l=>if y=f then (y,d)::l else (y,x)::Gn f d l
theorem FVs.put(i:Is K Y k H d v):∀{l:List (Str×D)} {r:List (Str×V)},FVs K Y k H l r->FVs K Y k H (Gn f d l) (EN f v r)
 |[],_,h=>by cases h;exact⟨v,[],rfl,i,rfl⟩
 |(y,d0)::l,_,h=>by
  obtain⟨w,r',rfl,h1,h2⟩:=h;unfold Gn EN;by_cases e:y=f
  ·rw[if_pos e,if_pos e];exact⟨v,r',rfl,i,h2⟩
  ·rw[if_neg e,if_neg e];exact⟨w,_,rfl,h1,FVs.put i h2⟩
end
noncomputable def Mj(c:Str):D->M (Nat×List (Str×D))
 | .ref n=>λZ=>match Z[n]? with
  |some (.ins c' l)=>if c'=c then some ((n,l),Z) else none
  |_=>none
 |_=>BD
theorem D8(R:RelH K Y Z H)(i:Is K Y Z.length H d v)(e:Mj c d Z=some (r,Z')):
  Z'=Z/\d=.ref r.1/\Z[r.1]?=some (.ins c r.2)/\v=.ref (Y r.1)/\∃C dx fs,H (Y r.1)=some (.ins C dx fs)/\ClsAt K c C/\H dx=some (.own (Y r.1))/\FVs K Y Z.length H r.2 fs:=by
 cases d with
 |ref n=>
  have e1:(match Z[n]? with|some (.ins c' l)=>if c'=c then some ((n,l),Z) else none|_=>none)=some (r,Z'):=e;clear e;split at e1
  ·rename_i c' l hq;split at e1
   ·rename_i hc;cases e1;rw[hc] at hq;unfold Is at i;obtain⟨u,h1,C,dx,fs,rfl,h2,h3,h4⟩:=R.obj n _ hq;exact⟨rfl,rfl,hq,i.2,C,dx,fs,h1,h2,h3,h4⟩
   ·cases e1
  ·cases e1
 |_=>cases e
structure CA(K:PySem.W.Frag)(c:Str)(C:Addr):Prop where
 at_:ClsAt K c C
 cl:Cls K C
noncomputable def ML(c f:Str)(d:D):M D:=bnd (Mj c d) λr=>λZ=>(r.2.lookup f).map λx=>(x,Z)
noncomputable def RM(c f:Str)(mo mv:Sl->M D):Sl->M (Fl×Sl):=λB=>bnd (mv B) λy=>bnd (mo B) λx=>bnd (Mj c x) λr=>λZ=>if r.2.length<1000 then some ((.next,B),Z.set r.1 (.ins c (Gn f y r.2))) else none
noncomputable def Oe(c:Str)(φ:List D->M D):List D->M D:=λds Z=>match φ (.ref Z.length::ds) (Z++[.ins c []]) with
 |some (.non,Z')=>some (.ref Z.length,Z')
 |_=>none
noncomputable def Et(c m:Str)(φ:List D->M D)(mo:Sl->M D)(ma:Sl->M (List D)):Sl->M D:=λB=>bnd (mo B) λx=>bnd (Mj c x) λr=>if r.2.lookup m=none then bnd (ma B) λds=>φ (x::ds) else BD
structure Ini(P:Program)(w:World)(K:PySem.W.Frag)(mg:Str->Option Value)(base:Heap)(c:Str)(ps:List Str)(k:Nat)(φ:List D->M D):Prop where
 len:∀ds Z r,φ ds Z=some r->ds.length=ps.length
 ex:∃C f fd,ClsAt K c C/\mg c=some (.ref C)/\Mk K C f/\FnOk P w K mg base CX0 k f fd ps (spM ⟨K,w⟩ ps.length φ)/\Binds K fd ps []
structure Mth(P:Program)(w:World)(K:PySem.W.Frag)(mg:Str->Option Value)(base:Heap)(c m:Str)(ps:List Str)(k:Nat)(φ:List D->M D):Prop where
 len:∀ds Z r,φ ds Z=some r->ds.length=ps.length
 ex:∃C f fd,CA K c C/\Tl K C m f/\FnOk P w K mg base CX0 k f fd ps (spM ⟨K,w⟩ ps.length φ)/\Binds K fd ps []
section
variable{X:Cx}{e o value:Expr}{es:List Expr}{pos p pos' apos:Pos}{c f:Str}{C:Addr}
theorem GS(ca:CA X.kw c C)(na:NoAttr X.kw C f)(he:RE X e m)(hb:attributeBase e f X.env (eval e X.env)=eval e X.env:=by rfl):RE X (.Attribute e f pos) (mUn (ML c f) m):=RE.wk (Xv he.pe hb) λO H Q h=>by
 obtain⟨Y,Z,B,d,Z',R,S,ev,q⟩:=h;obtain⟨x,w9,e1,e2⟩:=AH ev;obtain⟨r,u9,e3,e4⟩:=AH e2;refine⟨Y,Z,B,x,w9,R,S,e1,λv5 H1 E1 R1 v1 i1=>?_⟩;obtain⟨hm,_,g1,rfl,C',dx,fs,g2,g3,g4,g5⟩:=D8 R1 i1 e3;subst hm;cases ca.at_.eq g3;cases hl:r.2.lookup f with
 |none=>rw[hl] at e4;cases e4
 |some x0=>
  rw[hl] at e4;cases e4;obtain⟨v,hv,iv⟩:=g5.lookup hl;exact⟨_,C,dx,fs,v,rfl,g2,ca.cl,na,hv,q v5 H1 E1 R1 v iv⟩
theorem RX(ca:CA X.kw c C)(na:NoAttr X.kw C f)(ho:RE X o mo)(hv:RE X value mv)(hs:swapsWith value (some (.Attribute o f pos')) pos.line X.env=pure false:=by rfl):RS X (.Assign [.Attribute o f pos'] value pos) (RM c f mo mv):=RS.wk (Xj ho.pe hv.pe hs) λDn O H h=>by
 obtain⟨Y,Z,B,fl,B',Z',R,S,ev,q⟩:=h;obtain⟨y,w9,e1,ee1⟩:=AH ev;obtain⟨x,u9,e2,ee2⟩:=AH ee1;obtain⟨r,j6,e3,ee3⟩:=AH ee2;refine⟨Y,Z,B,y,w9,R,S,e1,λv5 H1 E1 R1 v1 i1=>⟨v5,w9,B,x,u9,R1,S.ext E1,e2,λv8 H2 E2 R2 v2 i2=>?_⟩⟩;obtain⟨hm,_,g1,rfl,C',dx,fs,g2,g3,g4,g5⟩:=D8 R2 i2 e3;subst hm;cases ca.at_.eq g3;have ee3:(if r.2.length<1000 then some ((Fl.next,B),List.set j6 r.1 (MO.ins c (Gn f y r.2))) else none)=some ((fl,B'),Z'):=ee3;split at ee3
 ·rename_i hl;cases ee3;have hlt:r.1<List.length j6:=(AAT.mp g1).1;obtain⟨E4,R4⟩:=R2.changed (m:=.ins c (Gn f y r.2)) (o:=.ins C dx (EN f v1 fs)) hlt ⟨C,dx,_,rfl,ca.at_,g4,FVs.put (i1.ext E2) g5⟩;exact⟨_,C,dx,fs,rfl,g2,ca.cl,na,by rw[g5.len];exact hl,q v8 _ ((E1.trans E2).trans E4) R4 O (S.ext ((E1.trans E2).trans E4))⟩
 ·cases ee3
theorem UR(F:Ini X.prog X.w X.kw X.mg X.base c ps k φ)(hr:Room j X.A)(ha:RA X (e::es) m)(hkj:k+1<=j:=by decide)(hg:Gl X c:=by rfl)(hdb:(c==("__debug__" : Str))=false:=by decide)
  (he:starEach (e::es) X.env=(false,eval e X.env)::starEach es X.env:=by exact Ak rfl) (hpl:(backTo pos (starEach es X.env)).any (·.1)=false:=by exact A5 rfl):RE X (.Call (.Name c p) (e::es) [] pos) (AG (Oe c φ) m):=by
 obtain⟨len,C,f,fd,hc,hm,M,F,hb⟩:=F;refine RE.wk (Uq M F (hr.mono hkj) hg hm hb .nil OX ha.pe hdb he hpl) λ_ _ _ q=>EC q λY Z Z' H ds vs d R i ev q=>?_;intro x dx hx hdx hne;unfold Oe at ev;split at ev
 ·rename_i w9 hφ;cases ev;obtain⟨E1,R1⟩:=R.laid (.own x) hdx;have hx1:upd H dx (.own x) x=none:=by rw[Aw (Ne.symm hne)];exact hx
  obtain⟨Y',E2,R2,e0⟩:=R1.grown (m:=.ins c []) (o:=.ins C dx []) hx1 ⟨C,dx,[],rfl,hc,BK,rfl⟩;have hlen:=len _ _ _ hφ;refine⟨by rw[AAI,AAH,List.length_nil,Nat.add_zero,i.length,←hlen];rfl,Y',_,_,_,_,R2,.cons (v:=.ref x) (by unfold Is;exact⟨by simp,by rw[e0]⟩) (by rw[AAX];exact i.ext (E1.trans E2)),hφ,λj7 H3 E3 R3 v iv=>?_⟩;unfold Is at iv;refine⟨iv,q j7 H3 ((E1.trans E2).trans E3) R3 (.ref x) ?_⟩;unfold Is;have hl:Z.length<(Z++[MO.ins c []]).length:=by simp
  exact⟨AAM hl E3.le,by rw[E3.agree _ hl,e0]⟩
 ·cases ev
theorem Ks(F:Mth X.prog X.w X.kw X.mg X.base c mm ps k φ)(hr:Room j X.A)(ho:RE X o mo)(ha:RA X (e::es) ma)(hkj:k<=j:=by decide)
  (hst:starEach (e::es) X.env=(false,eval e X.env)::starEach es X.env:=by exact Ak rfl) (hpl:(backTo pos (starEach es X.env)).any (·.1)=false:=by exact A5 rfl)
  (ht:eval (.Call (.Attribute o mm apos) (e::es) [] pos) X.env=(do
   let ov ←eval o X.env
   standAt apos.atName
   let (f,first) ←holding [ov] (getMethod ov mm pl)
   callWith pos f first (backTo pos (starEach (e::es) X.env)) (backToKw pos (keywordEach [] X.env))):=by rfl):RE X (.Call (.Attribute o mm apos) (e::es) [] pos) (Et c mm φ mo ma):=by
 obtain⟨len,C,f,fd,ca,M,F,hb⟩:=F;refine RE.wk (Up (pl:=pl) ho.pe ca.cl M F (hr.mono hkj) hb .nil OX ha.pe hst hpl ht) λO H Q h=>?_;obtain⟨Y,Z,B,d,Z',R,S,ev,q⟩:=h;obtain⟨x,w9,e1,e2⟩:=AH ev;obtain⟨r,u9,e3,e4⟩:=AH e2;refine⟨Y,Z,B,x,w9,R,S,e1,λv5 H1 E1 R1 v1 i1=>?_⟩;obtain⟨hm,ex,g1,rfl,C',dx,fs,g2,g3,g4,g5⟩:=D8 R1 i1 e3;subst hm;cases ca.at_.eq g3;split at e4
 ·rename_i hl;obtain⟨ds,j6,e5,e6⟩:=AH e4;refine⟨_,dx,fs,rfl,g2,g5.none hl,v5,u9,B,ds,j6,R1,S.ext E1,e5,λv8 H2 E2 R2 vs i2=>?_⟩;have hlen:=len _ _ _ e6;exact⟨by rw[AAI,AAH,List.length_nil,Nat.add_zero,i2.length,←hlen];rfl,v8,_,_,_,_,R2,.cons (i1.ext E2) (by rw[AAX];exact i2),e6,λj7 H3 E3 R3 v iv=>q j7 H3 ((E1.trans E2).trans E3) R3 v iv⟩
 ·cases e4
end
noncomputable def NAs(K:PySem.W.Frag)(C:Addr):List Str->Prop
 |[]=>True
 |x::r=>PySem.W.findIn K (.ref C) x=some none/\NAs K C r
theorem NAs.all{K:PySem.W.Frag}{C:Addr}:∀{fl:List Str},NAs K C fl->∀x∈fl,NoAttr K C x
 |[],_,_,h=>nomatch h
 |y::r,n,x,h=>by
  rcases AAJ.mp h with rfl|h
  ·exact n.1
  ·exact NAs.all n.2 x h
structure Dc(K:PySem.W.Frag)(c:Str)(fl:List Str)(C:Addr):Prop where
 ca:CA K c C
 na:∀x∈fl,NoAttr K C x
structure Di(K:PySem.W.Frag)(c qual:Str)(st:Stmt)(C f:Addr)(fd:FuncData):Prop where
 at_:ClsAt K c C
 mak:Mk K C f
 F:Fun K "__init__" qual st f fd
structure Dm(K:PySem.W.Frag)(c m qual:Str)(st:Stmt)(C f:Addr)(fd:FuncData):Prop where
 ca:CA K c C
 me:Tl K C m f
 F:Fun K m qual st f fd
section
variable{K:PySem.W.Frag}{c qual:Str}{st:Stmt}{C f:Addr}{fl:List Str}{oc:Value}{od an:Option Addr}{osl:Array (Option Value)}{kV doc pm cdv ct:Value}
theorem aq(a:PySem.W.nsIn K mainGlobals c=some (some (.ref C)))(pg:PySem.W.plainGet K C Str.empty=true)(hd:PySem.W.hasDictIn K C=true)(po:PySem.W.plainOver K C=true)(sa:PySem.W.findIn K (.ref C) "__setattr__" = some (some (.builtin "object.__setattr__")))(na:NAs K C fl):∃C,Dc K c fl C:=
 ⟨C,⟨a,⟨pg,hd,po,sa⟩⟩,na.all⟩
theorem al(a:PySem.W.nsIn K mainGlobals c=some (some (.ref C)))(mk:PySem.W.makesIn K C=true)(ini:PySem.W.findIn K (.ref C) "__init__" = some (some (.ref f)))(fn:PySem.W.isFn K (.ref f)=true)(kc:PySem.W.keepIn K (.ref C)=true)
  (l:K.lookup f=some ⟨oc,od,.func (PySem.W.fnOf "__init__" qual (Ey st) (Ch st) (AR st) .none kV doc pm an cdv ct),osl⟩) (cd:PySem.W.codeIn K cdv qual=true) (k:PySem.W.keepIn K (.ref f)=true):∃C f fd,Di K c qual st C f fd:=⟨C,f,_,a,⟨mk,ini,fn,kc⟩,Ng l cd k⟩
end
noncomputable def Ss(st:Stmt)(j:Nat):Stmt:=match st with
 | .ClassDef _ _ _ body _ _ _ _ _ _ _=>body.getD j (.Pass ⟨0,0,0,0⟩)
 |_=>.Pass ⟨0,0,0,0⟩
end Mi
namespace Pk
open PySem PySem.Spec PyProof.Rows L2 Mi PySem.MeetsSeq PySem.SeqAt
mutual
def draws:D->Nat
 | .tup ks=>HZ ks+1
 |_=>1
def HZ:List D->Nat
 |[]=>0
 |k::ks=>draws k+HZ ks
end
mutual
def At(h:Heap):D->Value->Prop
 | .non,v=>v=.none
 | .int i,v=>∃t,v=.int i t
 | .str x,v=>∃t,v=.str x t
 | .tup ks,v=>∃a o items n,v=.ref a/\h.get? a=some o/\o.cls=.type "tuple" /\ o.data=.seq items n/\Ats h ks items.toList
 |_,_=>False
def Ats(h:Heap):List D->List Value->Prop
 |[],vs=>vs=[]
 |k::ks,vs=>∃v vs',vs=v::vs'/\At h k v/\Ats h ks vs'
end
theorem Nv(a:At h .non v):v=.none:=by unfold At at a;exact a
theorem LM(a:At h (.int i) v):∃t,v=.int i t:=by unfold At at a;exact a
theorem LL(a:At h (.str x) v):∃t,v=.str x t:=by unfold At at a;exact a
theorem GY(a:At h (.tup ks) v):∃a o items n,v=.ref a/\h.get? a=some o/\o.cls=.type "tuple" /\ o.data=.seq items n/\Ats h ks items.toList:=by unfold At at a;exact a
theorem At.shape:∀{k:D},At h k v->(k=.non/\v=.none)∨(∃i t,k=.int i/\v=.int i t)∨(∃x t,k=.str x/\v=.str x t)∨∃ks a,k=.tup ks/\v=.ref a
 | .non,a=>.inl ⟨rfl,Nv a⟩
 | .int i,a=>.inr (.inl ⟨i,(LM a).choose,rfl,(LM a).choose_spec⟩)
 | .str i,a=>.inr (.inr (.inl ⟨i,(LL a).choose,rfl,(LL a).choose_spec⟩))
 | .tup ks,a=>.inr (.inr (.inr (by obtain⟨x,_,_,_,e,_⟩:=GY a;exact⟨ks,x,rfl,e⟩)))
 | .bl _,a | .ty _,a | .scr _,a | .lst _,a | .ref _,a=>by unfold At at a;exact a.elim
mutual
theorem At.inj:∀{k j:D} {v:Value},At h k v->At h j v->k=j
 | .tup ks,j,v,a,b=>by
  rcases b.shape with ⟨rfl,e⟩|⟨i,t,rfl,e⟩|⟨x,t,rfl,e⟩|⟨js,y,rfl,e⟩
  ·obtain⟨_,_,_,_,e2,_⟩:=GY a;rw[e] at e2;cases e2
  ·obtain⟨_,_,_,_,e2,_⟩:=GY a;rw[e] at e2;cases e2
  ·obtain⟨_,_,_,_,e2,_⟩:=GY a;rw[e] at e2;cases e2
  ·obtain⟨x,o,items,n,rfl,h1,_,h3,h4⟩:=GY a;obtain⟨x',o',items',n',e',h1',_,h3',h4'⟩:=GY b;cases e';rw[h1] at h1';cases h1';rw[h3] at h3';cases h3';rw[Ats.inj h4 h4']
 | .non,j,v,a,b=>by
  cases Nv a;rcases b.shape with ⟨rfl,e⟩|⟨i,t,rfl,e⟩|⟨x,t,rfl,e⟩|⟨js,y,rfl,e⟩<;>first|rfl|cases e
 | .int i,j,v,a,b=>by
  obtain⟨t,rfl⟩:=LM a;rcases b.shape with ⟨rfl,e⟩|⟨i,t,rfl,e⟩|⟨x,t,rfl,e⟩|⟨js,y,rfl,e⟩
  ·cases e
  ·injection e with e1 _;rw[e1]
  ·cases e
  ·cases e
 | .str i,j,v,a,b=>by
  obtain⟨t,rfl⟩:=LL a;rcases b.shape with ⟨rfl,e⟩|⟨i,t,rfl,e⟩|⟨x,t,rfl,e⟩|⟨js,y,rfl,e⟩
  ·cases e
  ·cases e
  ·injection e with e1 _;rw[e1]
  ·cases e
 | .bl _,_,_,a,_ | .ty _,_,_,a,_ | .scr _,_,_,a,_ | .lst _,_,_,a,_ | .ref _,_,_,a,_=>by unfold At at a;exact a.elim
theorem Ats.inj:∀{ks js:List D} {vs:List Value},Ats h ks vs->Ats h js vs->ks=js
 |[],[],_,_,_=>rfl
 |[],_::_,vs,a,b=>by
  unfold Ats at a b;subst a;obtain⟨_,_,e,_⟩:=b;cases e
 |_::_,[],vs,a,b=>by
  unfold Ats at a b;subst b;obtain⟨_,_,e,_⟩:=a;cases e
 |k::ks,j::js,vs,a,b=>by
  unfold Ats at a b;obtain⟨v,vs',rfl,a1,a2⟩:=a;obtain⟨v',vs'',e,b1,b2⟩:=b;cases e;rw[At.inj a1 b1,Ats.inj a2 b2]
end
mutual
theorem At.kept:∀{k:D} {v:Value},At h k v->(∀a o items n,h.get? a=some o->o.cls=.type "tuple" -> o.data=.seq items n->h'.get? a=some o)->At h' k v
 | .non,v,a,_ | .int i,v,a,_ | .str i,v,a,_=>by unfold At at a ⊢;exact a
 | .tup ks,v,a,kp=>by
  unfold At at a ⊢;obtain⟨x,o,items,n,rfl,h1,h2,h3,h4⟩:=a;exact⟨x,o,items,n,rfl,kp x o items n h1 h2 h3,h2,h3,Ats.kept h4 kp⟩
 | .bl _,_,a,_ | .ty _,_,a,_ | .scr _,_,a,_ | .lst _,_,a,_ | .ref _,_,a,_=>by unfold At at a;exact a.elim
theorem Ats.kept:∀{ks:List D} {vs:List Value},Ats h ks vs->(∀a o items n,h.get? a=some o->o.cls=.type "tuple" -> o.data=.seq items n->h'.get? a=some o)->Ats h' ks vs
 |[],vs,a,_=>by unfold Ats at a ⊢;exact a
 |k::ks,vs,a,kp=>by
  unfold Ats at a ⊢;obtain⟨v,vs',rfl,a1,a2⟩:=a;exact⟨v,vs',rfl,At.kept a1 kp,Ats.kept a2 kp⟩
end
section
variable{prog:Program}{w:World}
theorem QC(hu:A.units<cLine)(q:Q 0xFCA86420 { s with toks:=s.toks+1 }):wpAny (model prog w) A (pyHash .none) Q E s:=by
 show wpAny _ _ (pyHashByItsType .none) Q E s;refine PySem.W.pyHash_slot (T := "NoneType") rfl F.slot_NoneType_hash F.entry_NoneType_hash (F.args_NoneType_hash_1 _) (beq_builtin_none _) (.inr hu) (AAA (AAB ?_));refine AAA (wpAny_mkInt (AAB ⟨0xFCA86420,_,rfl,?_⟩));exact q
mutual
theorem At.hash:∀{k:D} {v:Value} {A:Around} {E:Value->Shared->Prop} {s:Shared} {Q:Int->Shared->Prop},A.units+LH k<cLine->At s.heap k v->Q (hD w k) { s with toks:=s.toks+draws k }->wpAny (model prog w) A (pyHash v) Q E s
 | .non,v,A,E,s,Q,hu,hk,q=>by
  unfold At at hk;subst hk;exact QC (by omega) q
 | .int i,v,A,E,s,Q,hu,hk,q=>by
  unfold At at hk;obtain⟨t,rfl⟩:=hk;exact wpAny_pyHash_int q
 | .str i,v,A,E,s,Q,hu,hk,q=>by
  unfold At at hk;obtain⟨t,rfl⟩:=hk;exact wpAny_pyHash_str q
 | .tup ks,v,A,E,s,Q,hu,hk,q=>by
  unfold At at hk;obtain⟨a,o,items,n,rfl,h1,h2,h3,h4⟩:=hk;have hu':A.units+(EI ks+1)<cLine:=hu;refine Nk.hash_tup (hs:=hDs w ks) (d:=HZ ks) (by omega) h1 h2 h3 (λP p=>?_) q;exact Ats.hash (A:=A.in1) (by show A.units+1+EI ks<cLine;omega) h4 (acc:=#[]) (by simpa using p)
 | .bl _,_,_,_,_,_,_,a,_ | .ty _,_,_,_,_,_,_,a,_ | .scr _,_,_,_,_,_,_,a,_ | .lst _,_,_,_,_,_,_,a,_ | .ref _,_,_,_,_,_,_,a,_=>by unfold At at a;exact a.elim
theorem Ats.hash:∀{ks:List D} {vs:List Value} {A:Around} {E:Value->Shared->Prop} {s:Shared} {acc:Array Int} {P:Array Int->Shared->Prop},A.units+EI ks<cLine->Ats s.heap ks vs->P (acc++(hDs w ks).toArray) { s with toks:=s.toks+HZ ks }->
  wpAny (model prog w) A (forIn vs acc λx r=>do let y ←pyHash x;pure (ForInStep.yield (r.push y))) P E s
 |[],vs,A,E,s,acc,P,hu,hk,q=>by
  unfold Ats at hk;subst hk;rw[List.forIn_nil];exact AAB (by simpa[hDs,HZ] using q)
 |k::ks,vs,A,E,s,acc,P,hu,hk,q=>by
  unfold Ats at hk;obtain⟨v,vs',rfl,a1,a2⟩:=hk;rw[List.forIn_cons];have hu':A.units+max (LH k) (EI ks)<cLine:=hu;refine AAA (AAA (At.hash (by omega) a1 (AAB ?_)));refine Ats.hash (by omega) (s:={ s with toks:=s.toks+draws k }) a2 ?_;simpa[hDs,HZ,Nat.add_assoc] using q
end
end
theorem Ats.len:∀{ks:List D} {vs:List Value},Ats h ks vs->vs.length=ks.length
 |[],_,a=>by unfold Ats at a;subst a;rfl
 |k::ks,_,a=>by
  unfold Ats at a;obtain⟨v,vs',rfl,_,a2⟩:=a;simp[Ats.len a2]
noncomputable def Iy(ks js:List D)(j:Nat):Bool:=decide (ks[j]?=js[j]?)
theorem Py:((List.range (min ks.length js.length)).all (Iy ks js)&&ks.length==js.length)=decide (D.tup ks=D.tup js):=by
 by_cases e:ks=js
 ·subst e;rw[AAO rfl,beq_self_eq_true,Bool.and_true,List.all_eq_true];intro j _;exact AAO rfl
 ·rw[AAN (λz=>e (D.tup.inj z))];by_cases hl:ks.length=js.length
  ·rw[beq_iff_eq.mpr hl,Bool.and_true,←Bool.not_eq_true];intro z;rw[List.all_eq_true] at z;refine e (List.ext_getElem? λj=>?_);by_cases hj:j<ks.length
   ·exact of_decide_eq_true (z j (List.mem_range.mpr (by omega)))
   ·rw[List.getElem?_eq_none (by omega),List.getElem?_eq_none (by omega)]
  ·rw[AAc.mpr hl,Bool.and_false]
theorem Ou(a:At h (.tup ks) v):∃x items,v=.ref x/\h.IsTuple x items:=by
 unfold At at a;obtain⟨x,o,items,n,rfl,h1,h2,h3,_⟩:=a;exact⟨x,items,rfl,o,h1,h2,n,h3⟩
mutual
theorem At.eq:∀{k j:D} {u v:Value} {A:Around} {s:Shared},A.units+LH k<cLine->At s.heap k u->At s.heap j v->EqAt A s u v (decide (k=j))
 | .non,j,u,v,A,s,hu,a,b=>by
  have hu':A.units<cLine:=AAo (Nat.le_add_right _ _) hu;unfold At at a;subst a;cases j with
  |non=>unfold At at b;subst b;rw[AAO rfl];exact EqAt.same _
  |int i=>unfold At at b;obtain⟨t,rfl⟩:=b;rw[AAN (by intro z;cases z)];exact EqAt.none_int i t
  |str i=>unfold At at b;obtain⟨t,rfl⟩:=b;rw[AAN (by intro z;cases z)];exact EqAt.none_str i t
  |tup ks=>obtain⟨x,its,rfl,h⟩:=Ou b;rw[AAN (by intro z;cases z)];exact EqAt.none_tuple h hu'
  |_=>unfold At at b;exact b.elim
 | .int i,j,u,v,A,s,hu,a,b=>by
  have hu':A.units<cLine:=AAo (Nat.le_add_right _ _) hu;unfold At at a;obtain⟨t,rfl⟩:=a;cases j with
  |non=>unfold At at b;subst b;rw[AAN (by intro z;cases z)];exact EqAt.int_none i t
  |int j=>
   unfold At at b;obtain⟨t',rfl⟩:=b;have:decide (D.int i=D.int j)=(i==j):=by
    by_cases e:i=j
    ·subst e;simp
    ·rw[AAN (λz=>e (D.int.inj z)),AAc.mpr e]
   rw[this];exact EqAt.int_int i t j t'
  |str j=>unfold At at b;obtain⟨t',rfl⟩:=b;rw[AAN (by intro z;cases z)];exact EqAt.int_str i t j t'
  |tup ks=>obtain⟨x,its,rfl,h⟩:=Ou b;rw[AAN (by intro z;cases z)];exact EqAt.int_tuple i t h hu'
  |_=>unfold At at b;exact b.elim
 | .str i,j,u,v,A,s,hu,a,b=>by
  have hu':A.units<cLine:=AAo (Nat.le_add_right _ _) hu;unfold At at a;obtain⟨t,rfl⟩:=a;cases j with
  |non=>unfold At at b;subst b;rw[AAN (by intro z;cases z)];exact EqAt.str_none i t
  |str j=>
   unfold At at b;obtain⟨t',rfl⟩:=b;have:decide (D.str i=D.str j)=(i==j):=by
    by_cases e:i=j
    ·subst e;simp
    ·rw[AAN (λz=>e (D.str.inj z)),AAc.mpr e]
   rw[this];exact EqAt.str_str i t j t'
  |int j=>unfold At at b;obtain⟨t',rfl⟩:=b;rw[AAN (by intro z;cases z)];exact EqAt.str_int i t j t'
  |tup ks=>obtain⟨x,its,rfl,h⟩:=Ou b;rw[AAN (by intro z;cases z)];exact EqAt.str_tuple i t h hu'
  |_=>unfold At at b;exact b.elim
 | .tup ks,j,u,v,A,s,hu,a,b=>by
  have hu0:A.units<cLine:=AAo (Nat.le_add_right _ _) hu;obtain⟨x0,its0,e0,h0⟩:=Ou a;cases j with
  |non=>unfold At at b;subst b e0;rw[AAN (by intro z;cases z)];exact EqAt.tuple_none h0 hu0
  |int j=>unfold At at b;obtain⟨t',rfl⟩:=b;subst e0;rw[AAN (by intro z;cases z)];exact EqAt.tuple_int j t' h0 hu0
  |str j=>unfold At at b;obtain⟨t',rfl⟩:=b;subst e0;rw[AAN (by intro z;cases z)];exact EqAt.tuple_str j t' h0 hu0
  |tup js=>
   have a':=a;have b':=b;unfold At at a b;obtain⟨x,o,items,n,rfl,h1,h2,h3,h4⟩:=a;obtain⟨y,o',items',n',rfl,h1',h2',h3',h4'⟩:=b;have hu':A.units+(EI ks+1)<cLine:=hu;by_cases e:x=y
   ·subst e;rw[At.inj a' b',AAO rfl];exact EqAt.same _
   ·rw[←Py];have l1:=h4.len;have l2:=h4'.len;rw[Array.length_toList] at l1 l2;rw[←l1,←l2];refine EqAt.of_refs e (RcAt.tuples ⟨o,h1,h2,n,h3⟩ ⟨o',h1',h2',n',h3'⟩ (by omega) λj g1 g2=>?_);have:=Ats.eqs (A:=A.in1) (by show A.units+1+EI ks<cLine;omega) h4 h4' j (by simpa using g1) (by simpa using g2);simpa using this
  |_=>unfold At at b;exact b.elim
 | .bl _,_,_,_,_,_,_,a,_ | .ty _,_,_,_,_,_,_,a,_ | .scr _,_,_,_,_,_,_,a,_ | .lst _,_,_,_,_,_,_,a,_ | .ref _,_,_,_,_,_,_,a,_=>by unfold At at a;exact a.elim
theorem Ats.eqs:∀{ks js:List D} {us vs:List Value} {A:Around} {s:Shared},A.units+EI ks<cLine->Ats s.heap ks us->Ats s.heap js vs->∀(j:Nat) (h1:j<us.length) (h2:j<vs.length),EqAt A s us[j] vs[j] (Iy ks js j)
 |[],js,us,vs,A,s,hu,a,b,j,h1,h2=>by unfold Ats at a;subst a;simp at h1
 |k::ks,[],us,vs,A,s,hu,a,b,j,h1,h2=>by unfold Ats at b;subst b;simp at h2
 |k::ks,l::js,us,vs,A,s,hu,a,b,j,h1,h2=>by
  unfold Ats at a b;obtain⟨u,us',rfl,a1,a2⟩:=a;obtain⟨v,vs',rfl,b1,b2⟩:=b;have hu':A.units+max (LH k) (EI ks)<cLine:=hu;cases j with
  |zero=>
   have:=At.eq (k:=k) (j:=l) (A:=A) (by omega) a1 b1;have e:Iy (k::ks) (l::js) 0=decide (k=l):=by unfold Iy;simp
   rw[e];exact this
  |succ j=>
   have:=Ats.eqs (A:=A) (by omega) a2 b2 j (by simpa using h1) (by simpa using h2);have e:Iy (k::ks) (l::js) (j+1)=Iy ks js j:=by unfold Iy;simp
   rw[e];simpa using this
end
section
variable{prog:Program}{w:World}
theorem At.quiet:∀(d:Nat) {k:D} {v:Value} {A:Around} {E:Value->Shared->Prop} {s:Shared} {Q:Bool->Shared->Prop},LH k<=d->At s.heap k v->Q true s->wpAny (model prog w) A (eqIsQuiet d v) Q E s
 |d,.non,v,A,E,s,Q,hd,a,q=>by
  cases Nv a;unfold eqIsQuiet;exact AAB q
 |d,.int i,v,A,E,s,Q,hd,a,q=>by
  obtain⟨t,rfl⟩:=LM a;unfold eqIsQuiet;exact AAB q
 |d,.str i,v,A,E,s,Q,hd,a,q=>by
  obtain⟨t,rfl⟩:=LL a;unfold eqIsQuiet;exact AAB q
 |0,.tup ks,v,A,E,s,Q,hd,a,q=>by
  have hd':EI ks+1<=0:=hd;omega
 |d'+1,.tup ks,v,A,E,s,Q,hd,a,q=>by
  have hd':EI ks+1<=d'+1:=hd;obtain⟨x,o,items,n,rfl,h1,h2,h3,h4⟩:=GY a;have hT:s.TypeIs (.ref x) "tuple" := ⟨o,h1,h2⟩;unfold eqIsQuiet;refine AAA (wpAny_specialOf hT PySem.F.slot_tuple_eq.lookup ?_);show wpAny _ _ (isInstance (.ref x) (.type "tuple") >>= _) _ _ s;refine AAA (wpAny_isInstance hT isSubtype_tuple_tuple ?_);simp only[Bool.not_true,Bool.false_eq_true,if_false];refine AAA (AAt h1 h3 (AAA ?_));show wpAny _ _ (forIn items _ _) _ _ s;rw[←Array.forIn_toList];refine wpAny_forIn_list _ (λrest r s'=>r.1=none/\s'=s/\∃ks',EI ks'<=d'/\Ats s.heap ks' rest) _ ?_ ?_ _ _ ⟨rfl,rfl,ks,by omega,h4⟩
  ·rintro y rest r s' ⟨hr,rfl,ks',hk,at'⟩;cases ks' with
   |nil=>unfold Ats at at';cases at'
   |cons k' ks'=>
    unfold Ats at at';obtain⟨_,_,e,a1,a2⟩:=at';cases e;have hk':max (LH k') (EI ks')<=d':=hk;refine AAA (At.quiet d' (k:=k') (by omega) a1 ?_);simp only[Bool.not_true,Bool.false_eq_true,if_false];exact AAB ⟨rfl,rfl,ks',by omega,a2⟩
  ·rintro⟨r1,r2⟩ s' ⟨hr,rfl,_⟩;simp only at hr;subst hr;exact AAB q
 |_,.bl _,_,_,_,_,_,_,a,_|_,.ty _,_,_,_,_,_,_,a,_|_,.scr _,_,_,_,_,_,_,a,_|_,.lst _,_,_,_,_,_,_,a,_|_,.ref _,_,_,_,_,_,_,a,_=>by unfold At at a;exact a.elim
end
noncomputable def kind(prog:Program)(w:World):HeapKind prog w D where
 is:=λh k a=>At h k (.ref a)/\LH k<=8
 hash:=hD w
 draws:=draws
 room:=λA=>A.units+8<cLine
 inj:=λhx hy=>hx.1.inj hy.1
 keeps:=λ{h h' k a d o es ep} x ho hd hs=>⟨x.1.kept λb o' items n e _ e3=>by
  have hne:b≠d:=by
   intro z;subst z;rw[ho] at e;cases e;rw[hd] at e3;cases e3
  exact(hs.2 b hne).trans e,x.2⟩
 pyHash:=λhu hk h=>At.hash (by have:=hk.2;omega) hk.1 h
 eqBool:=λ{A E s x y a b Q} hu hx hy h=>At.eq (by have:=hx.2;omega) hx.1 hy.1 _ _ E Q h
 quiet:=λhk h=>At.quiet 8 hk.2 hk.1 h
end Pk
namespace Mi
open PySem L2 Pk
section
variable{X:Cx}
theorem Zm{k:Nat}(hr:Room k X.A):(Pk.kind X.prog X.w).room X.A.in1:=by
 have:=hr.units;show X.A.units+1+8<cLine;omega
end
end Mi
namespace Mi
open PySem L2
section
variable{K:PySem.W.Frag}{c m qual:Str}{st:Stmt}{C f:Addr}{oc:Value}{od an:Option Addr}{osl:Array (Option Value)}{kV doc pm cdv ct:Value}
theorem ai(a:PySem.W.nsIn K mainGlobals c=some (some (.ref C)))(pg:PySem.W.plainGet K C Str.empty=true)(hd:PySem.W.hasDictIn K C=true)(po:PySem.W.plainOver K C=true)(sa:PySem.W.findIn K (.ref C) "__setattr__" = some (some (.builtin "object.__setattr__")))
  (me:PySem.W.findIn K (.ref C) m=some (some (.ref f))) (fn:PySem.W.isFn K (.ref f)=true)
  (l:K.lookup f=some ⟨oc,od,.func (PySem.W.fnOf m qual (Ey st) (Ch st) (AR st) .none kV doc pm an cdv ct),osl⟩) (cd:PySem.W.codeIn K cdv qual=true) (k:PySem.W.keepIn K (.ref f)=true):∃C f fd,Dm K c m qual st C f fd:=⟨C,f,_,⟨a,⟨pg,hd,po,sa⟩⟩,⟨me,fn,k⟩,Ng l cd k⟩
end
end Mi
namespace Xc
open PySem L2
structure bD(h h':Heap)(a:Addr)(i:Nat)(x:Value):Prop where
 other:∀b,b≠a->h'.get? b=h.get? b
 size:h'.objs.size=h.objs.size
 self:∀o vs,h.get? a=some o->o.data=.fields vs->∃o',h'.get? a=some o'/\o'.cls=o.cls/\o'.dict=o.dict/\o'.data=.fields (vs.setIfInBounds i x)
theorem QJ(o:Obj)(f):(o.mapFields f).dict=o.dict:=by
 obtain⟨c,d,dt,sl⟩:=o;cases dt<;>rfl
section
variable{M:Model}{A:Around}{E:Value->Shared->Prop}{s:Shared}{Q:Unit->Shared->Prop}{a:Addr}{o:Obj}{vs:Array Value}{i:Nat}{x:Value}
theorem F0(ho:s.heap.get? a=some o)(hd:o.data=.fields vs)(hi:i<vs.size)(q:∀h',bD s.heap h' a i x->Q () { s with heap:=h' }):wpAny M A (setField (.ref a) i x) Q E s:=by
 refine wpAny_setField ho hd hi (q _ ⟨λb hb=>Heap.get?_update_other _ _ (Ne.symm hb),Heap.size_after_update ..,λo' vs' h1 h2=>?_⟩);have hd':=Obj.data_mapFields h2 λz:Array Value=>z.setIfInBounds i x;exact⟨_,Heap.get?_update_self _ h1 (Obj.isFreed_of_fields hd'),Obj.cls_mapFields ..,QJ ..,hd'⟩
end
structure Fly(h:Heap)(e:Addr)(cls:Value)(dx tb:Option Addr)(f:Value)(p:Prop):Prop where
 ob:∃oe vs,h.get? e=some oe/\oe.cls=cls/\oe.dict=dx/\oe.data=.fields vs/\vs[1]?=some (match tb with|none=>Value.none|some T=>.ref T)/\(p->vs[2]?=some .none)
 tb:∀T,tb=some T->T≠e/\∃oT ts,h.get? T=some oT/\oT.data=.fields ts/\ts[3]?=some f
structure Lft(h h':Heap)(fs:List Addr)(e:Addr)(tb:Option Addr):Prop where
 keep:∀b o,b∉fs->b≠e->tb≠some b->h.get? b=some o->h'.get? b=some o
 slot:∀b o,b∈fs->h.get? b=some o->∃sl,h'.get? b=some { o with slots:=sl }
 there:∀b o,h.get? b=some o->∃o',h'.get? b=some o'
theorem Lft.refl:Lft h h fs e tb:=⟨λ_ _ _ _ _ z=>z,λ_ o _ z=>⟨o.slots,z⟩,λ_ o z=>⟨o,z⟩⟩
section
variable{M:Model}{A:Around}{E:Value->Shared->Prop}{s:Shared}{Q:Unit->Shared->Prop}{base:Heap}{env:Env}{outer:List Env}{L e T:Addr}{oe:Obj}{vs:Array Value}{head:Value}{hn:Bool}{tb dx:Option Addr}{cls f:Value}{p:Prop}
theorem Gp(hl:s.heap.FunFrames base l)(he:s.heap.get? e=some oe)(hd:oe.data=.fields vs):e∉frs l:=by
 intro z
 match hl.mem z with
 |⟨_,_,same,no⟩=>exact no vs (Option.some.inj (he.symm.trans same) ▸ hd)
theorem J8(hfr:A.frames=some (env::outer))(hl:s.heap.FunFrames base (env::outer))(hf:env.frame=some L)(he:s.heap.get? e=some oe)(hd:oe.data=.fields vs)(h1:1<vs.size)(h2:p->vs[2]?=some .none)
  (q:∀h' T,Lft s.heap h' (frs (env::outer)) e none->s.heap.objs.size<=T->Fly h' e oe.cls oe.dict (some T) (rawInt L) p->Q () { s with heap:=h' }) :
  wpAny M A (do let a ←frameOf env;let pl ←entryPlaceOf L hn;let b ←EntryCells.newEntry head a .none (rawInt L) .none pl;setField (.ref e) 1 b) Q E s:=by
 have nf:=Gp hl he hd;refine AAA (wpAny_frameOf_fun hfr hl hf λg hg=>AAA (wpAny_entryPlaceOf λpl hp=>?_));unfold EntryCells.newEntry newFields;refine AAA (AAn ?_ (hp.sizeOk5 _ _ _ _ _));generalize hob:({ cls:=.type "traceback",dict:=none,data:=.fields ([head,.ref L,.none,rawInt L,.none]++(if pl.isEmpty then List.replicate 6 Value.none else pl)).toArray }:Obj)=ob;obtain⟨ts,hts,h3⟩:∃ts,ob.data=.fields ts/\ts[3]?=some (rawInt L):=⟨_,by rw[←hob],by simp⟩;have gT:=AAD g (Obj.isFreed_of_fields hts);have ge:=AAC ob ((hg.2.1 e nf).trans he);have ne:g.objs.size≠e:=Nat.ne_of_gt (by rw[hg.1];exact Heap.lt_size he);refine F0 ge hd h1 λg1 s1=>?_;obtain⟨o1,e1,c1,d1,v1⟩:=s1.self _ _ ge hd;have up:∀b o,b≠e->g.get? b=some o->g1.get? b=some o:=λb o hb z=>by
  rw[s1.other b hb];exact AAC ob z
 refine q g1 g.objs.size ⟨λb o hb hbe _ z=>up b o hbe ((hg.2.1 b hb).trans z),λb o hb z=>?_,λb o z=>?_⟩ (by rw[hg.1];exact AAF _) ⟨⟨o1,_,e1,c1,d1,v1,by simp[h1],λhp=>by rw[Array.getElem?_setIfInBounds_ne (by decide)];exact h2 hp⟩,λT hT=>?_⟩
 ·obtain⟨sl,z1⟩:=hg.2.2 b o z;exact⟨sl,up b _ (λw=>nf (w ▸ hb)) z1⟩
 ·by_cases hb:b=e
  ·exact⟨_,by rw[hb];exact e1⟩
  ·obtain⟨sl,z1⟩:=hg.2.2 b o z;exact⟨_,up b _ hb z1⟩
 ·cases hT;exact⟨ne,ob,ts,(s1.other _ ne).trans gT,hts,h3⟩
theorem VD(hfr:A.frames=some (env::outer))(hl:s.heap.FunFrames base (env::outer))(hf:env.frame=some L)(fl:Fly s.heap e cls dx tb f p)(hfl:f=.none∨f=rawInt L)
  (q:∀h' T,Lft s.heap h' (frs (env::outer)) e tb->(s.heap.objs.size<=T∨tb=some T)->Fly h' e cls dx (some T) (rawInt L) p->Q () { s with heap:=h' }) :
  wpAny M A (noteFrame (.ref e) env) Q E s:=by
 obtain⟨⟨oe,vs,he,rfl,rfl,hd,h1,h2⟩,ft⟩:=id fl;have sz:=(Array.getElem?_eq_some_iff.mp h1).1;unfold noteFrame;simp only[hf];refine AAA (AAs he hd h1 ?_);cases tb with
 |none=>
  rw[if_neg (by decide)];exact J8 hfr hl hf he hd sz h2 λh' T k le fl'=>q h' T k (.inl le) fl'
 |some T=>
  obtain⟨nT,oT,ts,hT,dT,h3⟩:=ft T rfl;have sT:=(Array.getElem?_eq_some_iff.mp h3).1;rw[if_pos (show (Value.ref T != Value.none)=true from by simp)];refine AAA (AAs hT dT h3 ?_);rcases hfl with rfl|rfl
  ·rw[if_neg (show ¬((Value.none==rawInt L)=true) from by simp[rawInt])];refine AAA (F0 hT dT sT λg s1=>?_);obtain⟨o1,e1,_,_,v1⟩:=s1.self _ _ hT dT;have nfT:=Gp hl hT dT;have hl1:g.FunFrames base (env::outer):=hl.of_keeps λb o z nf=>⟨o,by rw[s1.other b (λw=>by subst w;rw[hT] at z;cases z;exact nf ts dT)];exact z,rfl⟩;refine J8 (s:={ s with heap:=g }) hfr hl1 hf ((s1.other e (Ne.symm nT)).trans he) hd sz h2 λh' T' k le fl'=>q h' T' ⟨λb o hb hbe hbT z=>?_,λb o hb z=>?_,λb o z=>?_⟩ (.inl (by rw[←s1.size];exact le)) fl'
   ·exact k.keep b o hb hbe (by simp) ((s1.other b (λw=>hbT (by rw[w]))).trans z)
   ·exact k.slot b o hb ((s1.other b (λw=>nfT (w ▸ hb))).trans z)
   ·by_cases hb:b=T
    ·exact k.there b o1 (by rw[hb];exact e1)
    ·exact k.there b o ((s1.other b hb).trans z)
  ·rw[if_pos (show (rawInt L==rawInt L)=true from beq_self_eq_true _)];exact AAB (q s.heap T .refl (.inr rfl) fl)
theorem QF(hl:s.heap.FunFrames base l)(fl:Fly s.heap e cls dx (some T) f p)(q:∀h',Lft s.heap h' (frs l) e (some T)->Fly h' e cls dx (some T) (fr.elim .none λz=>rawInt z) p->Q () { s with heap:=h' }):
  wpAny M A (setFlight (.ref e) fr) Q E s:=by
 obtain⟨⟨oe,vs,he,rfl,rfl,hd,h1,h2⟩,ft⟩:=id fl;obtain⟨nT,oT,ts,hT,dT,h3⟩:=ft T rfl;have sT:=(Array.getElem?_eq_some_iff.mp h3).1;have nf:=Gp hl hT dT;unfold setFlight;refine AAA (AAs he hd h1 ?_);rw[if_pos (show (Value.ref T != Value.none)=true from by simp)];refine F0 hT dT sT λg s1=>?_;obtain⟨o1,e1,_,_,v1⟩:=s1.self _ _ hT dT;refine q g ⟨λb o _ _ hb z=>(s1.other b (λw=>hb (by rw[w]))).trans z,λb o hb z=>⟨o.slots,(s1.other b (λw=>nf (w ▸ hb))).trans z⟩,λb o z=>?_⟩ ⟨⟨oe,vs,(s1.other e (Ne.symm nT)).trans he,rfl,rfl,hd,h1,h2⟩,λT' hT'=>?_⟩
 ·by_cases hb:b=T
  ·exact⟨o1,by rw[hb];exact e1⟩
  ·exact⟨o,(s1.other b hb).trans z⟩
 ·cases hT';exact⟨nT,o1,_,e1,v1,by simp[sT]⟩
end
end Xc
namespace Mi
open PySem L2
mutual
def clB(k:Nat):D->Bool
 | .tup ds=>Bm k ds
 | .lst ds=>Bm k ds
 | .ref n=>Nat.blt n k
 |_=>true
def Bm(k:Nat):List D->Bool
 |[]=>true
 |d::ds=>match clB k d with
  |true=>Bm k ds
  |false=>false
end
noncomputable def aw(k:Nat):MO->Bool
 | .lst ds=>Bm k ds
 | .dK l=>Bm k (l.map (·.2))
 | .dC l=>Bm k (l.map (·.2))
 | .ins _ l=>Bm k (l.map (·.2))
 | .dP l=>Bm k (l.map (·.1))&&Bm k (l.map (·.2))
 | .exc _ _=>true
mutual
theorem TX:∀{d:D},clB k d=true->Cl k d
 | .tup ds,h=>by unfold clB at h;unfold Cl;exact Ct h
 | .lst ds,h=>by unfold clB at h;unfold Cl;exact Ct h
 | .ref n,h=>by unfold clB at h;unfold Cl;exact Nat.blt_eq.mp h
 | .non,_ | .bl _,_ | .int _,_ | .str _,_ | .ty _,_ | .scr _,_=>by unfold Cl;trivial
theorem Ct:∀{ds:List D},Bm k ds=true->ClL k ds
 |[],_=>by unfold ClL;trivial
 |d::ds,h=>by
  unfold Bm at h;unfold ClL;cases e:clB k d with
  |true=>rw[e] at h;exact⟨TX e,Ct h⟩
  |false=>rw[e] at h;cases h
end
theorem Vr(h:aw k o=true):ClO k o:=by
 cases o with
 |lst ds=>exact Ct h
 |dK l=>exact Ct h
 |dC l=>exact Ct h
 |ins _ l=>exact Ct h
 |dP l=>
  have h:(Bm k (l.map (·.1))&&Bm k (l.map (·.2)))=true:=h;rw[Bool.and_eq_true] at h;exact⟨Ct h.1,Ct h.2⟩
 |exc c n=>exact trivial
noncomputable def GW(k:Nat):Nat->Mh->Option Mh
 |0,_=>some []
 |_+1,[]=>none
 |n+1,o::Z=>match aw k o with
  |true=>match GW k n Z with
   |some r=>some (o::r)
   |none=>none
  |false=>none
theorem HX:∀{n:Nat} {Z r:Mh},GW k n Z=some r->(∃g,Z=r++g)/\List.length r=n/\∀o∈r,ClO k o
 |0,Z,r,h=>by cases h;exact⟨⟨Z,rfl⟩,rfl,λo ho=>by cases ho⟩
 |_+1,[],r,h=>by cases h
 |n+1,o::Z,r,h=>by
  unfold GW at h;split at h
  ·rename_i hc;split at h
   ·rename_i r' hr;cases h;obtain⟨⟨g,rfl⟩,h2,h3⟩:=HX hr;refine⟨⟨g,rfl⟩,by rw[AAI,h2],λp hp=>?_⟩;rcases AAJ.mp hp with rfl|hp
    ·exact Vr hc
    ·exact h3 p hp
   ·cases h
  ·cases h
noncomputable def Uw(Z:Mh)(hw:How)(d:D)(u9:Mh):Option (D×Mh):=match hw with
 | .all=>some (d,u9)
 | .drop=>match clB (List.length Z) d with
  |true=>match GW (List.length Z) (List.length Z) u9 with
   |some r=>some (d,r)
   |none=>none
  |false=>none
 | .frz=>match d with
  | .ref n=>match Nat.ble (List.length Z) n with
   |true=>match u9[n]? with
    |some (.lst ds)=>match Bm (List.length Z) ds with
     |true=>match GW (List.length Z) (List.length Z) u9 with
      |some r=>some (.lst ds,r)
      |none=>none
     |false=>none
    |_=>none
   |false=>none
  |d=>match clB (List.length Z) d with
   |true=>match GW (List.length Z) (List.length Z) u9 with
    |some r=>some (d,r)
    |none=>none
   |false=>none
theorem OY(h:Uw Z hw d' u9=some (d,Z')):(Z'=u9/\d=d')∨Mm Z u9 Z' d' d:=by
 have dr:∀{d' d:D} {Z':Mh},(match clB (List.length Z) d' with|true=>(match GW (List.length Z) (List.length Z) u9 with|some r=>some (d',r)|none=>none)|false=>none)=some (d,Z')->Mm Z u9 Z' d' d:=by
  intro d' d Z' h;split at h
  ·rename_i hc;split at h
   ·rename_i r hr;cases h;obtain⟨g,hl,ho⟩:=HX hr;exact⟨g,by rw[hl];exact AAF _,λn o e=>.inr (by rw[hl];exact ho o (AAU e)),.inl ⟨rfl,by rw[hl];exact TX hc⟩⟩
   ·cases h
  ·cases h
 unfold Uw at h;split at h
 ·cases h;exact .inl ⟨rfl,rfl⟩
 ·exact .inr (dr h)
 ·split at h
  ·split at h
   ·rename_i n hn;split at h
    ·rename_i ds hq;split at h
     ·rename_i hc;split at h
      ·rename_i r hr;cases h;obtain⟨g,hl,ho⟩:=HX hr;exact .inr ⟨g,by rw[hl];exact AAF _,λn o e=>.inr (by rw[hl];exact ho o (AAU e)),.inr ⟨_,ds,rfl,hq,by rw[hl];exact AAE hn,rfl,by rw[hl];exact Ct hc⟩⟩
      ·cases h
     ·cases h
    ·cases h
   ·cases h
  ·exact .inr (dr h)
noncomputable def Sm:Fl->Bool
 | .next=>true
 | .rt _=>true
 |_=>false
theorem ME(h:Sm f=true):f=.next∨∃d,f=.rt d:=by
 cases f with
 |next=>exact .inl rfl
 |rt d=>exact .inr ⟨d,rfl⟩
 |_=>cases h
noncomputable def Az(hw:How)(n ps:Nat)(mb:Sl->M (Fl×Sl)):List D->M D:=λds Z=>match Nat.beq (List.length ds) ps with
 |true=>match mb (BS n ds) Z with
  |some ((fl,_),u9)=>match Sm fl with
   |true=>Uw Z hw (Jf fl) u9
   |false=>none
  |none=>none
 |false=>none
theorem E7(h:Az hw n ps mb ds Z=some (d,Z')):
  ds.length=ps/\∃fl j4 u9,mb (BS n ds) Z=some ((fl,j4),u9)/\(fl=.next∨∃d,fl=.rt d)/\((Z'=u9/\d=Jf fl)∨Mm Z u9 Z' (Jf fl) d):=by
 unfold Az at h;split at h
 ·rename_i hl;split at h
  ·rename_i fl j4 u9 e;split at h
   ·rename_i hf;exact⟨Nat.eq_of_beq_eq_true hl,fl,j4,u9,e,ME hf,OY h⟩
   ·cases h
  ·cases h
 ·cases h
section
variable{P:Program}{w:World}{K:PySem.W.Frag}{mg:Str->Option Value}{base:Heap}
theorem F7(hw:How)(F:Fun K x qual st f fd)(S:Ab N ps (AR st))
  (body:∀(cdv:Value) (A:Around) (outer:List Env) (s:Shared) (H:Hp) (E:XK),Room k (A.deeper (PyProof.Rows.envOfC qual (AR st) s.heap.objs.size f cdv))->RSs (Fu CX0 P w K mg base N qual (AR st) f cdv A outer s H E).nox (Ch st) mb) :
  FnOk P w K mg base CX0 (k+1) f fd ps (spM ⟨K,w⟩ ps.length (Az hw N.length ps.length mb)):=by
 refine F.ok S (λvs H Q E h=>h.1) (λcdv A outer s H vs Q E hr h=>⟨_,(body cdv A outer s H E hr).pe,?_⟩);obtain⟨hl,Y,Z,ds,d,Z',R,i,e,q⟩:=h;obtain⟨_,fl,j4,u9,e2,hfl,t⟩:=E7 e;refine⟨Y,Z,_,fl,j4,u9,R,RelS.start i,e2,λv8 H2 E2 R2 k9 S2=>?_⟩;have z:Ext Y Z.length H v8 Z'.length H2/\RelH ⟨K,w⟩ v8 Z' H2/\∀v,Is ⟨K,w⟩ v8 u9.length H2 (Jf fl) v->Is ⟨K,w⟩ v8 Z'.length H2 d v:=by
  rcases t with ⟨rfl,rfl⟩|t
  ·exact⟨E2,R2,λv iv=>iv⟩
  ·exact Lb R E2 R2 t
 obtain⟨E3,R3,c⟩:=z;rcases hfl with rfl|⟨d0,rfl⟩
 ·exact q v8 H2 E3 R3 _ (c _ (by unfold Jf Is;rfl))
 ·exact λv iv=>q v8 H2 E3 R3 v (c v iv)
theorem Ap(hw:How)(F:Fun K x qual st f fd)(S:Ab N ps (AR st))(hm:mg x=some (.ref f))(hb:Binds K fd ps [])
  (body:∀(cdv:Value) (A:Around) (outer:List Env) (s:Shared) (H:Hp) (E:XK),Room k (A.deeper (PyProof.Rows.envOfC qual (AR st) s.heap.objs.size f cdv))->RSs (Fu CX0 P w K mg base N qual (AR st) f cdv A outer s H E).nox (Ch st) mb) :
  Fn P w K mg base x ps (k+1) (Az hw N.length ps.length mb):=⟨λds Z r h=>(E7 (d:=r.1) (Z':=r.2) h).1,f,fd,F7 hw F S body,hm,F.kp,hb⟩
theorem J9(hw:How)(d:Dm K c m qual st C f fd)(S:Ab N ps (AR st))(hb:Binds K fd ps [])
  (body:∀(cdv:Value) (A:Around) (outer:List Env) (s:Shared) (H:Hp) (E:XK),Room k (A.deeper (PyProof.Rows.envOfC qual (AR st) s.heap.objs.size f cdv))->RSs (Fu CX0 P w K mg base N qual (AR st) f cdv A outer s H E).nox (Ch st) mb) :
  Mth P w K mg base c m ps (k+1) (Az hw N.length ps.length mb):=⟨λds Z r h=>(E7 (d:=r.1) (Z':=r.2) h).1,C,f,fd,d.ca,d.me,F7 hw d.F S body,hb⟩
theorem P7(hw:How)(d:Di K c qual st C f fd)(S:Ab N ps (AR st))(hm:mg c=some (.ref C))(hb:Binds K fd ps [])
  (body:∀(cdv:Value) (A:Around) (outer:List Env) (s:Shared) (H:Hp) (E:XK),Room k (A.deeper (PyProof.Rows.envOfC qual (AR st) s.heap.objs.size f cdv))->RSs (Fu CX0 P w K mg base N qual (AR st) f cdv A outer s H E).nox (Ch st) mb) :
  Ini P w K mg base c ps (k+1) (Az hw N.length ps.length mb):=⟨λds Z r h=>(E7 (d:=r.1) (Z':=r.2) h).1,C,f,fd,d.at_,hm,d.mak,F7 hw d.F S body,hb⟩
end
end Mi
namespace Xc
open PySem L2 Mi
open PyProof.Rows (AllBare)
noncomputable def plX:List Str:=["NoMaking"]
def Nw(X:Cx)(w6:List (Addr×Obj))(H:Hp)(b:Addr):Prop:=X.s₀.heap.get? b=none/\H b=none/\∀p∈X.pn++w6,p.1≠b
structure Lies(X:Cx)(w6:List (Addr×Obj))(x:Exn)(O:St)(H:Hp)(a:Addr)(s:Shared):Prop where
 inv:Inv X w6 O H s
 ex:∃C dx tb f,ClsAt X.K x.1 C/\Fly s.heap a (.ref C) dx tb f (x.1∈plX)/\(f=.none∨f=rawInt X.env.locals)/\Nw X w6 H a/\(∀T,tb=some T->Nw X w6 H T)/\V2 H x.2 dx
def XP(X:Cx)(w6:List (Addr×Obj))(W:Exn->St->Hp->Prop)(e:Value)(s:Shared):Prop:=∃x a O H,e=.ref a/\Lies X w6 x O H a s/\W x O H
noncomputable def CX1(K:PySem.W.Frag)(P:Program)(w:World):CXT:=λouter H s E e s'=>∃(x:Exn) (a C:Addr) (dx tb:Option Addr) (H':Hp),e=.ref a/\s'.os=s.os/\AllBare s'.gens/\Un (frs outer) [] H H' s.heap s'.heap/\HOk P w H' s'.heap /\
 ClsAt K x.1 C/\Fly s'.heap a (.ref C) dx tb .none (x.1∈plX)/\(s.heap.get? a=none/\H' a=none)/\(∀T,tb=some T->s.heap.get? T=none/\H' T=none)/\V2 H' x.2 dx/\E (.str x.1 0) x.2 H'
noncomputable def wsh(W:Exn->Hp->Prop):XK:=λv n H=>∃c,v=.str c 0/\W (c,n) H
section
variable{X:Cx}{w6:List (Addr×Obj)}{O:St}{H H':Hp}{s s':Shared}{a b:Addr}{x:Exn}{W:Exn->St->Hp->Prop}
theorem Inv.was(I:Inv X w6 O H s)(hx:X.ex=[])(h:s.heap.get? b=none):X.s₀.heap.get? b=none:=by
 cases e:X.s₀.heap.get? b with
 |none=>rfl
 |some o=>
  obtain⟨o',q⟩:=I.base.there b o e (by rw[hx];simp);rw[h] at q;cases q
theorem Inv.nw(I:Inv X w6 O H s)(hx:X.ex=[])(h:s.heap.get? b=none)(hH:H' b=none):Nw X w6 H' b:=⟨Inv.was I hx h,hH,λp z q=>by
 have:=(I.pin p z).1;rw[q,h] at this;cases this⟩
theorem Nw.mono(h:Nw X w6 H b)(hp:∀p∈pins',p∈w6):Nw X pins' H b:=⟨h.1,h.2.1,λp z=>h.2.2 p ((List.mem_append.mp z).elim (λq=>AAZ _ q) λq=>AAY _ (hp p q))⟩
theorem Inv.less(I:Inv X w6 O H s)(hp:∀p∈pins',p∈w6):Inv X pins' O H s:=I.pins_of λp z=>I.pin p (AAY _ (hp p z))
theorem XP.less(h:XP X w6 W e s)(hp:∀p∈pins',p∈w6):XP X pins' W e s:=by
 obtain⟨x,a,O,H,e,⟨I,C,dx,tb,f,h1,h2,hf,h3,h4,h5⟩,w⟩:=h;exact⟨x,a,O,H,e,⟨Inv.less I hp,C,dx,tb,f,h1,h2,hf,h3.mono hp,λT z=>(h4 T z).mono hp,h5⟩,w⟩
theorem XP.call(hx:X.ex=[])(I:Inv X w6 O H s)(h:CX1 X.K X.prog X.w X.stack H s (wsh W') e s')(hw:∀x H',W' x H'->W x O H'):XP X w6 W e s':=by
 obtain⟨⟨c,n⟩,a,C,dx,tb,H',rfl,os,bare,un,hok,hC,fl,fa,ft,sy,w⟩:=h;obtain⟨hh,g,d,t,os'⟩:=s';obtain rfl:os'=s.os:=os;have I':=I.call (h':=hh) (g':=g) (d':=d) (t':=t) (ch:=[]) un hok bare (λb z=>absurd z (by simp));have nw:∀b,s.heap.get? b=none->H' b=none->Nw X w6 H' b:=λb h1 h2=>Inv.nw I hx h1 h2;obtain⟨c',e',w⟩:=w;cases e';exact⟨_,a,O,H',rfl,⟨I',C,dx,tb,_,hC,fl,.inl rfl,nw a fa.1 fa.2,λT z=>nw T (ft T z).1 (ft T z).2,sy⟩,hw _ _ w⟩
theorem So{g':Array GenState}{t':Nat}{ch:List Addr}(I:Inv X w6 O H s)
  (hch:∀b∈ch,X.s₀.heap.get? b=none/\b≠X.env.locals/\(∀x c,X.env.cells.lookup x=some c->c≠b)/\∀p∈X.pn++w6,p.1≠b)
  (keep:∀b o,b≠X.env.locals->b∉X.fs->b∉ch->s.heap.get? b=some o->H b=none->h'.get? b=some o)
  (slot:∀b o,b≠X.env.locals->b∈X.fs->b∉ch->s.heap.get? b=some o->H b=none->∃sl,h'.get? b=some { o with slots:=sl }) (free:∀b o,b∉ch->s.heap.get? b=some o->H b=none->H' b=none)
  (there:∀b o,b∉ch->s.heap.get? b=some o->∃o',h'.get? b=some o')
  (tups:∀b xs,H b=some (.tup xs)->H' b=some (.tup xs)) (frzs:∀b o u,H b=some (.frz o u)->H' b=some (.frz o u)) (tbls:∀b ps,H b=some (.tbl ps)->∃more,H' b=some (.tbl (ps++more)))
  (ns:∀m,s.heap.Ns X.env.locals m->h'.Ns X.env.locals m) (hok:HOk X.prog X.w H' h') (hg:AllBare g') :
  Inv X w6 O H' { s with heap:=h',gens:=g',drawn:=d',toks:=t' }:=by
 have neL:∀b o,X.s₀.heap.get? b=some o->b≠X.env.locals:=λb o e=>AAb (AAM (Heap.lt_size e) I.ok.above);have neC:∀b o,X.s₀.heap.get? b=some o->b∉X.ex->b∉ch:=λb o e hx hb=>by
  rw[(hch b hb).1] at e;cases e
 have cellK:∀x c,X.env.cells.lookup x=some c->∀v,s.heap.IsCell c v->h'.IsCell c v:=λx c e v ⟨o,ho,hd⟩=>by
  have nch:c∉ch:=λz=>(hch c z).2.2.1 x c e rfl;by_cases hc:c∈X.fs
  ·obtain⟨sl,q⟩:=slot c o (I.cne x c e) hc nch ho (I.freeC x c e);exact⟨_,q,hd⟩
  ·exact⟨o,keep c o (I.cne x c e) hc nch ho (I.freeC x c e),hd⟩
 refine⟨I.ok,I.os,hg,⟨λb o e n hb hx=>?_,λb o e n hb hx=>?_,λb o e n hx=>?_,λb o e hx=>?_,λb xs e=>tups b xs (I.base.tups b xs e),λb o xs e=>frzs b o xs (I.base.frzs b o xs e),λb ps e=>?_⟩,?_,λx c e=>?_,?_,λx c e=>?_,λp hp=>?_,hok,I.len⟩
 ·exact keep b o (neL b o e) hb (neC b o e hx) (I.base.keep b o e n hb hx) (I.base.free b o e n hx)
 ·obtain⟨sl,e1⟩:=I.base.slot b o e n hb hx;obtain⟨sl',e2⟩:=slot b _ (neL b o e) hb (neC b o e hx) e1 (I.base.free b o e n hx);exact⟨sl',e2⟩
 ·obtain⟨o',e1⟩:=I.base.there b o e hx;exact free b o' (neC b o e hx) e1 (I.base.free b o e n hx)
 ·obtain⟨o',e1⟩:=I.base.there b o e hx;exact there b o' (neC b o e hx) e1
 ·obtain⟨m1,e1⟩:=I.base.tbls b ps e;obtain⟨m2,e2⟩:=tbls b _ e1;exact⟨m1++m2,by rw[e2,Array.append_assoc]⟩
 ·obtain⟨m,hn,hl⟩:=I.loc;refine⟨m,ns m hn,λi x v e1 e2 e3=>?_⟩;obtain⟨u,r,l⟩:=hl i x v e1 e2 e3;refine⟨u,r,?_⟩;rcases l with l|⟨k,c,e,z⟩
  ·exact .inl l
  ·exact .inr ⟨k,c,e,cellK x c e _ z⟩
 ·obtain⟨v,z⟩:=I.cell x c e;exact⟨v,cellK x c e v z⟩
 ·obtain⟨m,⟨o,_,_,ho,_⟩,_⟩:=I.loc;exact free _ o (λz=>(hch _ z).2.1 rfl) ho I.free
 ·obtain⟨v,o,ho,hd⟩:=I.cell x c e;exact free c o (λz=>(hch c z).2.2.1 x c e rfl) ho (I.freeC x c e)
 ·obtain⟨e,n,ne,nf,d⟩:=I.pin p hp;have nch:p.1∉ch:=λz=>(hch p.1 z).2.2.2 p hp rfl;exact⟨keep p.1 p.2 ne nf nch e n,free p.1 p.2 nch e n,ne,nf,d⟩
theorem Inv.rec_ne(I:Inv X w6 O H s)(h:s.heap.get? b=some o)(hd:o.data=.fields vs):b≠X.env.locals/\∀y c,X.env.cells.lookup y=some c->c≠b:=by
 refine⟨λz=>?_,λy c e z=>?_⟩
 ·obtain⟨m,⟨o',es,ep,ho,hd',_⟩,_⟩:=I.loc;rw[z,ho] at h;cases h;rw[hd'] at hd;cases hd
 ·obtain⟨v,o',ho,hd'⟩:=I.cell y c e;rw[z,h] at ho;cases ho;rw[hd'] at hd;cases hd
theorem Inv.left(hx:X.ex=[]){h':Heap}{cls:Value}{f:Value}{p:Prop}(I:Inv X w6 O H s)(fl:Fly s.heap a cls dx tb f p)(na:Nw X w6 H a)(nt:∀T,tb=some T->Nw X w6 H T)
  (k:Lft s.heap h' (frs X.stack) a tb):Inv X w6 O H { s with heap:=h' }:=by
 obtain⟨⟨oe,vs,he,_,_,hd,_⟩,ft⟩:=id fl
 let ch:List Addr:=a::tb.toList
 have nch:∀b,b∉ch->b≠a/\tb≠some b:=λb hb=>⟨λz=>hb (by rw[z];exact AAP),λz=>hb (AAQ _ (by rw[z];simp))⟩;have inch:∀b∈ch,b=a∨tb=some b:=λb hb=>by
  rcases AAJ.mp hb with z|z
  ·exact .inl z
  ·cases tb with
   |none=>simp at z
   |some T=>exact .inr (by simp at z;rw[z])
 have stk:∀b,b≠X.env.locals->b∉X.fs->b∉frs X.stack:=λb h1 h2 z=>(AAJ.mp (I.stkSub b z)).elim h1 h2;have any:∀b o,b∉ch->s.heap.get? b=some o->∃sl,h'.get? b=some { o with slots:=sl }:=λb o hb e=>by
  by_cases hf:b∈frs X.stack
  ·exact k.slot b o hf e
  ·exact⟨o.slots,k.keep b o hf (nch b hb).1 (nch b hb).2 e⟩
 refine So (H':=H) (ch:=ch) I (λb hb=>?_) (λb o h1 h2 h3 e _=>k.keep b o (stk b h1 h2) (nch b h3).1 (nch b h3).2 e) (λb o _ _ h3 e _=>any b o h3 e) (λ_ _ _ _ n=>n) (λb o _ e=>k.there b o e) (λ_ _ e=>e) (λ_ _ _ e=>e) (λb ps e=>⟨#[],by rw[e];simp⟩) (λm hm=>?_) (λb u e=>?_) I.bare
 ·rcases inch b hb with rfl|z
  ·exact⟨na.1,(Inv.rec_ne I he hd).1,(Inv.rec_ne I he hd).2,na.2.2⟩
  ·obtain⟨_,oT,ts,hT,dT,_⟩:=ft b z;exact⟨(nt b z).1,(Inv.rec_ne I hT dT).1,(Inv.rec_ne I hT dT).2,(nt b z).2.2⟩
 ·obtain⟨o,es,ep,ho,r⟩:=hm;have hL:X.env.locals∉ch:=λz=>by
   rcases inch _ z with q|q
   ·exact(Inv.rec_ne I he hd).1 q.symm
   ·obtain⟨_,oT,ts,hT,dT,_⟩:=ft _ q;exact(Inv.rec_ne I hT dT).1 rfl
  obtain⟨sl,e⟩:=any _ o hL ho;exact⟨_,es,ep,e,r⟩
 ·refine(I.hok b u e).stay (λc v hc q=>?_) (λ_ q=>q) λ_ _ q=>q;have hn:H c≠none:=by
   rcases hc with rfl|hc
   ·rw[e];simp
   ·rw[hc];simp
  refine k.keep c v (λz=>hn (I.stkFree c z)) (λz=>hn (by rw[z];exact na.2.1)) (λz=>hn (nt c z).2.1) q
theorem Lies.left(hx:X.ex=[])(I:Inv X w6 O H s)(hC:ClsAt X.K x.1 C)(fl:Fly s.heap a (.ref C) dx tb f (x.1∈plX))(na:Nw X w6 H a)(nt:∀T,tb=some T->Nw X w6 H T)(sy:V2 H x.2 dx)
  (k:Lft s.heap h' (frs X.stack) a tb) (hT:s.heap.objs.size<=T∨tb=some T) (fl':Fly h' a (.ref C) dx (some T) f' (x.1∈plX)) (hf':f'=.none∨f'=rawInt X.env.locals):Lies X w6 x O H a { s with heap:=h' }:=by
 have I':=Inv.left hx I fl na nt k;have nT:Nw X w6 H T:=by
  rcases hT with hT|hT
  ·exact Inv.nw I hx (Heap.get?_none_of_le hT) (I.hok.fresh hT)
  ·exact nt T hT
 exact⟨I',C,dx,some T,f',hC,fl',hf',na,λT' z=>by cases z;exact nT,sy⟩
abbrev Own(X:Cx):Prop:=X.stack=X.env::X.outer/\X.env.frame=some X.env.locals/\X.ex=[]
section
variable{A:Around}{E:Value->Shared->Prop}{M:Model}{Q:Unit->Shared->Prop}
theorem Lies.note(ow:Own X)(hA:A.frames=some X.stack)(l:Lies X w6 x O H a s)(q:∀h',Lies X w6 x O H a { s with heap:=h' }->(∃C dx T,ClsAt X.K x.1 C/\Fly h' a (.ref C) dx (some T) (rawInt X.env.locals) (x.1∈plX))->Q () { s with heap:=h' }):wpAny M A (noteFrame (.ref a) X.env) Q E s:=by
 obtain⟨I,C,dx,tb,f,hC,fl,hf,na,nt,sy⟩:=l;rw[ow.1] at hA;have st:=I.stack;rw[ow.1] at st;exact VD hA st ow.2.1 fl hf λh' T k hT fl'=>q h' (Lies.left ow.2.2 I hC fl na nt sy (by rw[ow.1];exact k) hT fl' (.inr rfl)) ⟨C,dx,T,hC,fl'⟩
theorem Lies.flight(ow:Own X)(l:Lies X w6 x O H a s)(ht:∃C dx T f,ClsAt X.K x.1 C/\Fly s.heap a (.ref C) dx (some T) f (x.1∈plX))(hfr:fr=none∨fr=some X.env.locals)
  (q:∀h',Lies X w6 x O H a { s with heap:=h' }->(∃C dx T,ClsAt X.K x.1 C/\Fly h' a (.ref C) dx (some T) (fr.elim .none λz=>rawInt z) (x.1∈plX))->Q () { s with heap:=h' }):wpAny M A (setFlight (.ref a) fr) Q E s:=by
 obtain⟨I,C,dx,tb,f,hC,fl,hf,na,nt,sy⟩:=l;obtain⟨C',dx',T,f',hC',fl'⟩:=ht;have e1:tb=some T:=by
  obtain⟨⟨oe,vs,he,_,_,hd,h1,_⟩,_⟩:=fl;obtain⟨⟨oe',vs',he',_,_,hd',h1',_⟩,_⟩:=fl';rw[he] at he';cases he';rw[hd] at hd';cases hd';rw[h1] at h1';cases tb with
  |none=>cases h1'
  |some T'=>cases h1';rfl
 subst e1;exact QF I.stack fl λh' k fl''=>q h' (Lies.left ow.2.2 I hC fl na nt sy k (.inr rfl) fl'' (by
  rcases hfr with rfl|rfl
  ·exact .inl rfl
  ·exact .inr rfl)) ⟨C,dx,T,hC,fl''⟩
theorem Xy(ow:Own X)(hA:A.frames=some X.stack):PassesOwn M A X.env (XP X w6 W):=by
 rintro e s ⟨x,a,O,H,rfl,l,w⟩;refine Lies.note ow hA l λh' l' ⟨C,dx,T,hC,fl⟩=>?_;obtain⟨oe,vs,he,_,_,hd,h1,_⟩:=fl.ob;unfold cameBackBy;refine AAA (AAs he hd h1 ?_);rw[if_neg (by simp)];rw[ow.2.1];exact Lies.flight ow l' ⟨C,dx,T,_,hC,fl⟩ (.inr rfl) λh'' l'' _=>⟨x,a,O,H,rfl,l'',w⟩
end
end
end Xc
namespace Xc
open PySem L2 Mi
noncomputable def FlX(K:KW)(Dn:LQ)(W:Exn->St->Hp->Prop)(Y':Nat->Addr)(k:Nat)(H':Hp)(B':Sl)(v7:St):Fl->Prop
 | .xc x=>W x v7 H'
 |f=>FlP K Dn Y' k H' B' v7 f
def tSx(K:KW)(m:Sl->M (Fl×Sl))(Dn:LQ)(W:Exn->St->Hp->Prop)(O:St)(H:Hp):Prop:=∃Y Z B f B' Z',RelH K Y Z H/\RelS K Y Z.length H B O/\m B Z=some ((f,B'),Z') /\
 Aft K Y Z H Z' λY' H'=>∀v7,RelS K Y' Z'.length H' B' v7->FlX K Dn W Y' Z'.length H' B' v7 f
structure XS(X:Cx)(st:Stmt)(m:Sl->M (Fl×Sl)):Prop where
 pe:∀w6 s O H Dn W,Inv X w6 O H s->tSx X.kw m Dn W O H->wpAny (model X.prog X.w) X.A (exec st X.env) (SP X w6 Dn) (XP X w6 W) s
structure XSs(X:Cx)(st:List Stmt)(m:Sl->M (Fl×Sl)):Prop where
 pe:∀w6 s O H Dn W,Inv X w6 O H s->tSx X.kw m Dn W O H->wpAny (model X.prog X.w) X.A (execs st X.env) (SP X w6 Dn) (XP X w6 W) s
def NoX(m:Sl->M (Fl×Sl)):Prop:=∀B Z x B' Z',m B Z≠some ((.xc x,B'),Z')
theorem NJ{m:Sl->M D}{g:D->Sl->M (Fl×Sl)}(h:∀d B Z x B' Z',g d B Z≠some ((.xc x,B'),Z')):NoX λB=>bnd (m B) λd=>g d B:=λB Z x B' Z' e=>by
 obtain⟨d,w9,_,e⟩:=AH e;exact h _ _ _ _ _ _ e
theorem VB{m:Sl->M D}:NoX (Cm m):=NJ λ_ _ _ _ _ _ e=>by cases e
theorem YD{m:Sl->M D}:NoX (Ao m):=NJ λ_ _ _ _ _ _ e=>by cases e
theorem YE{m:Sl->M D}{bf:D->Sl->M Sl}:NoX (AX m bf):=NJ λd B Z x B' Z' e=>by
 obtain⟨_,_,_,e⟩:=AH e;cases e
theorem VC:NoX (Do mo mi mv):=λB Z x B' Z' e=>by
 obtain⟨_,_,_,e⟩:=AH e;obtain⟨_,_,_,e⟩:=AH e;obtain⟨_,_,_,e⟩:=AH e;obtain⟨r,_,_,e⟩:=AH e;split at e
 ·split at e
  ·cases e
  ·cases e
 ·cases e
section
variable{Y_:Cx}{st:Stmt}{rest body:List Stmt}{m m1 m2:Sl->M (Fl×Sl)}{mc:Sl->M Bool}{c:Expr}{pos:Pos}
theorem B5(h:RS Y_.nox st m)(nx:NoX m:=by first|exact YE|exact VB|exact YD|exact nx_nil|exact nx_retN|exact VC):XS Y_.nox st m:=⟨λw6 s O H Dn W I h0=>by
 refine AAg (h.pe w6 s O H Dn I ?_) (λ_ _ q=>q) λ_ _ z=>False.elim z;obtain⟨Y,Z,B,f,B',Z',R,S,e,q⟩:=h0;refine⟨Y,Z,B,f,B',Z',R,S,e,λY' H' E' R' v7 S'=>?_⟩;have q:=q Y' H' E' R' v7 S';cases f with
 |xc x=>exact absurd e (nx _ _ _ _ _)
 |_=>exact q⟩
theorem EB:XSs Y_.nox [] A6:=⟨λw6 s O H Dn W I h0=>by
 obtain⟨Y,Z,B,f,B',Z',R,S,e,q⟩:=h0;cases e;exact wpAny_execs_nil ⟨O,H,I,q Y H R.ext0 R O S⟩⟩
theorem A2(h:XS Y_.nox st m):XSs Y_.nox [st] m:=⟨λw6 s O H Dn W I h0=>by
 refine wpAny_execs_cons (thn (h.pe w6 s O H Dn W I h0) λf s1 q=>?_);cases f with
 |next=>exact wpAny_execs_nil q
 |_=>exact q⟩
theorem Ae(h1:XS Y_.nox st m1)(h2:XSs Y_.nox rest m2):XSs Y_.nox (st::rest) (AO m1 m2):=⟨λw6 s O H Dn W I h0=>by
 obtain⟨Y,Z,B,f,B',Z',R,S,e,q⟩:=h0;obtain⟨⟨f1,v9⟩,w9,e1,e⟩:=AH e;refine wpAny_execs_cons (thn (h1.pe w6 s O H { Dn with nx:=λv7 H'=>tSx Y_.nox.kw m2 Dn W v7 H' } W I ⟨Y,Z,B,f1,v9,w9,R,S,e1,λv5 H1 E1 R1 j8 S1=>?_⟩) λf s1 q=>?_)
 ·cases f1 with
  |next=>exact⟨v5,w9,v9,f,B',Z',R1,S1,e,λv8 H2 E2 R2=>q v8 H2 (E1.trans E2) R2⟩
  |brk=>cases e;exact q v5 H1 E1 R1 j8 S1
  |cont=>cases e;exact q v5 H1 E1 R1 j8 S1
  |rt d=>cases e;exact q v5 H1 E1 R1 j8 S1
  |xc x=>cases e;exact q v5 H1 E1 R1 j8 S1
 ·cases f with
  |next=>
   obtain⟨v7,H',I',q⟩:=q;exact h2.pe w6 s1 v7 H' Dn W I' q
  |_=>exact q⟩
theorem Gb(hc:RT Y_.nox c mc)(h1:XSs Y_.nox body m1)(h2:XSs Y_.nox rest m2):XS Y_.nox (.If c body rest pos) (sIf mc m1 m2):=⟨λw6 s O H Dn W I h0=>by
 obtain⟨Y,Z,B,f,B',Z',R,S,e,q⟩:=h0;obtain⟨x,w9,e1,e⟩:=AH e;refine wpAny_If (AAg (hc.pe w6 s O H (λb H1=>if b=true then tSx Y_.nox.kw m1 Dn W O H1 else tSx Y_.nox.kw m2 Dn W O H1) I ⟨Y,Z,B,x,w9,R,S,e1,λv5 H1 E1 R1=>?_⟩) (λd s1 ⟨H1,I1,q1⟩=>?_) λ_ _ z=>False.elim z)
 ·cases x with
  |true=>exact⟨v5,w9,B,f,B',Z',R1,S.ext E1,e,λv8 H2 E2 R2=>q v8 H2 (E1.trans E2) R2⟩
  |false=>exact⟨v5,w9,B,f,B',Z',R1,S.ext E1,e,λv8 H2 E2 R2=>q v8 H2 (E1.trans E2) R2⟩
 ·cases d with
  |true=>exact h1.pe w6 s1 O H1 Dn W I1 q1
  |false=>exact h2.pe w6 s1 O H1 Dn W I1 q1⟩
end
noncomputable abbrev Dx:=Sum D Exn
noncomputable def spX(K:KW)(n:Nat)(φ:List D->M Dx):Sp:=λvs H Q E=>vs.length=n/\∃Y Z ds r Z',RelH K Y Z H/\IsL K Y Z.length H ds vs/\φ ds Z=some (r,Z')/\Aft K Y Z H Z' λY' H'=>match r with
 | .inl d=>∀v,Is K Y' Z'.length H' d v->Q v H'
 | .inr x=>E (.str x.1 0) x.2 H'
structure FnX(P:Program)(w:World)(K:PySem.W.Frag)(mg:Str->Option Value)(base:Heap)(x:Str)(ps:List Str)(k:Nat)(φ:List D->M Dx):Prop where
 len:∀ds Z r,φ ds Z=some r->ds.length=ps.length
 ex:∃f fd,FnOk P w K mg base (CX1 K P w) k f fd ps (spX ⟨K,w⟩ ps.length φ)/\mg x=some (.ref f)/\PySem.W.keepIn K (.ref f)=true/\Binds K fd ps []
noncomputable def Ad(φ:List D->M Dx)(m:Sl->M (List D)):Sl->M Dx:=λB=>bnd (m B) φ
structure XE(X:Cx)(e:Expr)(m:Sl->M Dx):Prop where
 pe:∀w6 s O H (Q:VK) (W:Exn->St->Hp->Prop),Inv X w6 O H s->(∃Y Z B r Z',RelH X.kw Y Z H/\RelS X.kw Y Z.length H B O/\m B Z=some (r,Z')/\Aft X.kw Y Z H Z' λY' H'=>match r with
  | .inl d=>∀v,Is X.kw Y' Z'.length H' d v->Q v H'
  | .inr x=>W x O H')->wpAny (model X.prog X.w) X.A (eval e X.env) (EP X w6 O Q) (XP X w6 W) s
section
variable{Y_:Cx}{e:Expr}{es:List Expr}{pos p:Pos}
theorem XI(F:FnOk X.prog X.w X.K X.mg X.base (CX1 X.K X.prog X.w) k f fd ps sp)(hr:Room k X.A)(hb:Binds X.K fd ps [])(hx:X.ex=[])
  (I:Inv X w6 O H s) (r:Vals vs us) (h:sp vs H Q (wsh λx H'=>W x O H')):wpAny (model X.prog X.w) X.A (call (.ref f) us) (EP X w6 O Q) (XP X w6 W) s:=by
 have hl:(us++[]).length=ps.length:=by rw[AAX,←r.length];exact F.len _ _ _ _ h
 have b:=hb s us I.kIn hl;rw[AAX] at b;refine wpAny_call (codeAny_mono (F.run X.A X.stack s H ⟨us,[]⟩ us vs Q _ hr I.env0 b r h) λr s' hq=>?_);cases r with
 |error e=>exact XP.call hx I hq λ_ _ z=>z
 |ok fl=>
  cases fl with
  |ret u=>exact I.after hq
  |_=>exact False.elim hq
theorem BU(F:FnX Y_.nox.prog Y_.nox.w Y_.nox.kw Y_.nox.mg Y_.nox.base x ps k φ)(hr:Room j Y_.nox.A)(ha:RA Y_.nox (e::es) m)(hkj:k<=j:=by decide)(hg:Gl Y_.nox x:=by rfl)(hdb:(x==("__debug__" : Str))=false:=by decide)
  (he:starEach (e::es) Y_.nox.env=(false,eval e Y_.nox.env)::starEach es Y_.nox.env:=by exact Ak rfl) (hpl:(backTo pos (starEach es Y_.nox.env)).any (·.1)=false:=by exact A5 rfl) (hx:Y_.nox.ex=[]:=by rfl):XE Y_.nox (.Call (.Name x p) (e::es) [] pos) (Ad φ m):=⟨λw6 s O H Q W I h0=>by
 obtain⟨len,f,fd,F,hm,hk,hb⟩:=F;obtain⟨Y,Z,B,r,Z',R,S,e0,q⟩:=h0;obtain⟨ds,w9,e1,e2⟩:=AH e0;refine wpAny_Call_Name_kw (EF I hg hm ?_ hdb);refine PySem.W.callWith_K (h₀:=Y_.nox.base) I.ok.mod.kin hk (AAg (ha.pe pos w6 s O H (λvs H1=>spX Y_.nox.kw ps.length φ vs H1 Q (wsh λx H'=>W x O H')) I ⟨Y,Z,B,ds,w9,R,S,e1,λv5 H1 E1 R1 vs iv=>?_⟩) (λus s1 ⟨vs,H1,I1,r1,q1⟩=>⟨I1.kIn,?_⟩) λ_ _ z=>False.elim z) he hpl
 ·refine⟨by rw[iv.length];exact len _ _ _ e2,v5,w9,ds,r,Z',R1,iv,e2,λv8 H2 E2 R2=>?_⟩;have q:=q v8 H2 (E1.trans E2) R2;cases r with
  |inl d=>exact q
  |inr x=>exact⟨x.1,rfl,q⟩
 ·exact XI F (hr.mono hkj) hb hx I1 r1 q1⟩
noncomputable def Am(m:Sl->M Dx):Sl->M (Fl×Sl):=λB=>bnd (m B) λr=>match r with
 | .inl _=>ret (.next,B)
 | .inr x=>ret (.xc x,B)
theorem Av(h:XE Y_.nox e m)(hs:swapsWith e none pos.line Y_.nox.env=pure false:=by rfl):XS Y_.nox (.Expr e pos) (Am m):=⟨λw6 s O H Dn W I h0=>by
 obtain⟨Y,Z,B,f,B',Z',R,S,e0,q⟩:=h0;obtain⟨r,w9,e1,e2⟩:=AH e0;refine wpAny_Expr_any (thn (h.pe w6 s O H (λ_ H1=>Dn.nx O H1) W I ⟨Y,Z,B,r,w9,R,S,e1,λv5 H1 E1 R1=>?_⟩) λv s1 ⟨x,H1,I1,r1,q1⟩=>⟨O,H1,I1,q1⟩) I.quiet hs;cases r with
 |inl d=>cases e2;exact λv _=>q v5 H1 E1 R1 O (S.ext E1)
 |inr x=>cases e2;exact q v5 H1 E1 R1 O (S.ext E1)⟩
noncomputable def vals(φ:List D->M Dx):List D->M D:=λds Z=>match φ ds Z with
 |some (.inl d,Z')=>some (d,Z')
 |_=>none
theorem PH(h:vals φ ds Z=some (d,Z')):φ ds Z=some (.inl d,Z'):=by
 unfold vals at h;split at h
 ·rename_i d' w9 e;cases h;exact e
 ·cases h
theorem Ri(F:FnX X.prog X.w X.kw X.mg X.base x ps k φ)(hr:Room j X.A)(ha:RA X (e::es) m)(hkj:k<=j:=by decide)(hg:Gl X x:=by rfl)(hdb:(x==("__debug__" : Str))=false:=by decide)
  (he:starEach (e::es) X.env=(false,eval e X.env)::starEach es X.env:=by exact Ak rfl) (hpl:(backTo pos (starEach es X.env)).any (·.1)=false:=by exact A5 rfl):RE X (.Call (.Name x p) (e::es) [] pos) (AG (vals φ) m):=by
 obtain⟨len,f,fd,F,hm,hk,hb⟩:=F;refine RE.wk (OW (E:=λ_ _ _=>False) F (hr.mono hkj) hg hm hk hb .nil (λ_ _ _ _ _ _ _ h=>?_) ha.pe hdb he hpl) λ_ _ _ q=>EC q λY Z Z' H ds vs d R i e q=>?_
 ·obtain⟨x,a,C,dx,tb,H',_,_,_,_,_,_,_,_,_,_,z⟩:=h;exact False.elim z
 ·rw[AAX];have e':=PH e;exact⟨by rw[i.length];exact len ds Z _ e',Y,Z,ds,.inl d,Z',R,i,e',q⟩
end
open PyProof.Rows (AllBare)
section
variable{Y_:Cx}{body:List Stmt}{e tg iter:Expr}{pos:Pos}
theorem XY{X:Cx}{wi:TI}(ow:Own X)(hc:X.calm=true)(hx:∀e s,X.xe e s->False)(hi:PI X tg iter wi)(hg:PG X tg g){tb:LQ->(Exn->St->Hp->Prop)->St->Hp->Prop}
  (hb:∀w6 s O H D W,Inv X w6 O H s->tb D W O H->wpAny (model X.prog X.w) X.A (execs body X.env) (SP X w6 D) (XP X w6 W) s) (hs:∀x,foldedSetIterable iter X.env x=pure x) {w6:List (Addr×Obj)} {s:Shared} {O:St} {H:Hp} {D:LQ} {W:Exn->St->Hp->Prop} (I:Inv X w6 O H s)
  (h:ZV wi g (λD' v7 H'=>tb D' W v7 H') D O H):wpAny (model X.prog X.w) X.A (exec (.For tg iter body [] pos) X.env) (SP X w6 D) (XP X w6 W) s:=by
 have hp:PassesOwn (model X.prog X.w) X.A X.env (XP X w6 W):=Xy ow I.ok.frames;have no:∀{α:Type} {t:Sem α} {Q:α->Shared->Prop} {s:Shared},wpAny (model X.prog X.w) X.A t Q X.xe s->wpAny (model X.prog X.w) X.A t Q (XP X w6 W) s:=λh=>AAg h (λ_ _ q=>q) λe s z=>(hx e s z).elim;refine wpAny_For (no (thn (hi w6 s O H _ I h) λv s1 h1=>h1) |> λz=>AAg z (λv s1 h1=>no (thn h1 λitv s2 h2=>h2) |> λz=>AAg z (λitv s2 h2=>?_) λ_ _ q=>q) λ_ _ q=>q) hs;obtain⟨it,fp,tn,J,H2,e,I2,T,st2,f2,Wt,⟨m0,w0⟩,turn⟩:=h2;subst e;have stat:∀{H':Hp},(∀b∈fp,H' b=none)->∀b∈fp,Fy X w6 H' b:=λhn b hb=>⟨hn b hb,(f2 b hb).2⟩;refine codeAny_forLoop_any (λn s'=>∃i v7 H',Inv X w6 v7 H' s'/\tn i s'.heap/\(∀b∈fp,H' b=none)/\Wt i n v7 H') ?_ m0 ⟨0,O,H2,I2,st2,λb hb=>(f2 b hb).1,w0⟩;rintro n s3 ⟨i,m5,H3,I3,st3,fr3,w3⟩;rcases turn i n m5 H3 w3 with ⟨stop,qn⟩|⟨go,N,hN,step⟩
 ·refine wpAny_passesOwn hp (thn (T.done X rfl rfl rfl hc i w6 s3 m5 H3 _ I3 (stat fr3) st3 stop) λr s4 ⟨hr,I4⟩=>?_);subst hr;exact wpAny_execs_nil ⟨m5,H3,I4,qn⟩
 ·refine wpAny_passesOwn hp (thn (T.item X rfl rfl rfl hc i w6 s3 m5 H3 _ I3 (stat fr3) st3 go) λr s4 ⟨u,hr,h4⟩=>?_);subst hr;refine wpAny_passesOwn hp (thn h4 λ_ s5 ⟨x,H5,I5,r5,y5,st5,fr5⟩=>?_);have I5':=I5.pinned (stat fr5) (T.obj _ _ st5);refine wpAny_passesOwn hp (AAg (no (hg _ s5 m5 H5 x u _ I5' r5 (step x H5 y5))) (λ_ s6 ⟨m6,H6,I6,q6⟩=>?_) λ_ _ z=>z);refine wpAny_passesOwn hp (AAg (hb _ s6 m6 H6 _ W I6 q6) (λf s7 q7=>?_) λ_ _ z=>z.less λp hp=>AAZ _ hp);have again:∀{k8:St} {H7:Hp},Inv X (w6++Ip fp s5.heap) k8 H7 s7->N k8 H7->∃m,m<n/\∃i v7 H',Inv X w6 v7 H' s7/\tn i s7.heap/\(∀b∈fp,H' b=none)/\Wt i m v7 H':=λ{k8 H7} I7 n7=>by
   obtain⟨m',hm,w7⟩:=hN k8 H7 n7;refine⟨m',hm,i+1,k8,H7,I7.unpinned,T.keep _ _ _ st5 λb hb o e=>(I7.pin (b,o) (AAY _ (AAY _ (CQ hb e)))).1,λb hb=>?_,w7⟩;obtain⟨o,e,d⟩:=T.obj _ _ st5 b hb;exact(I7.pin (b,o) (AAY _ (AAY _ (CQ hb e)))).2.1
  cases f with
  |next=>obtain⟨k8,H7,I7,n7⟩:=q7;exact again I7 n7
  |cont=>obtain⟨k8,H7,I7,n7⟩:=q7;exact again I7 n7
  |brk=>obtain⟨k8,H7,I7,q7⟩:=q7;exact⟨k8,H7,I7.unpinned,q7⟩
  |ret v=>obtain⟨x7,k8,H7,I7,r7,q7⟩:=q7;exact⟨x7,k8,H7,I7.unpinned,r7,q7⟩
theorem FP{src:Sl->M (List D)}{mb:Sl->M (Fl×Sl)}(hi:RI Y_.nox tg iter src)(hg:RG Y_.nox tg bf)(hb:XSs Y_.nox body mb)(hc:Y_.nox.calm=true:=by rfl)(ow:Own Y_.nox:=by exact⟨rfl,rfl,rfl⟩)
  (hs:∀x,foldedSetIterable iter Y_.nox.env x=pure x:=by intro _;rfl):XS Y_.nox (.For tg iter body [] pos) (B3 src bf mb):=⟨λw6 s O H Dn Wx I h0=>by
 refine XY (X:=Y_.nox) ow hc (λ_ _ z=>z) hi.pe hg.pe (tb:=λD W O H=>tSx Y_.nox.kw mb D W O H) (λw6 s O H D W I h=>hb.pe w6 s O H D W I h) hs I ?_;obtain⟨Y,Z,B,f,B',Z',R,S,e,q⟩:=h0;obtain⟨ds,w9,e1,e⟩:=AH e;refine⟨Y,Z,B,ds,w9,R,S,e1,λv5 H1 E1 R1 J it=>?_⟩
 let W:Nat->Nat->St->Hp->Prop:=λi m O H=>m=ds.length-i/\i<=ds.length/\∃Y Z B f B' Z',RelH Y_.nox.kw Y Z H/\RelS Y_.nox.kw Y Z.length H B O/\ItM Y_.nox.kw J ds Y Z H/\FJ bf mb (ds.drop i) B Z=some ((f,B'),Z') /\
  Aft Y_.nox.kw Y Z H Z' λY' H'=>∀v7,RelS Y_.nox.kw Y' Z'.length H' B' v7->FlX Y_.nox.kw Dn Wx Y' Z'.length H' B' v7 f
 refine⟨W,⟨ds.length,by simp,AAh _,v5,w9,B,f,B',Z',R1,S.ext E1,it,e,λv8 H2 E2 R2=>q v8 H2 (E1.trans E2) R2⟩,?_⟩;rintro i m O H ⟨hm,hil,Y,Z,B,f,B',Z',R,S,it,e,q⟩;obtain⟨go,stop,yl⟩:=it Y Z H R.ext0 R;by_cases hlt:i<ds.length
 ·refine .inr ⟨go i hlt,λv7 H'=>W (i+1) (ds.length-(i+1)) v7 H',λv7 H' z=>⟨_,by omega,z⟩,λx H2 y=>?_⟩;have hd:ds[i]?=some ds[i]:=by simp[hlt]
  obtain⟨E2,R2,ix⟩:=yl i x H2 _ hd y;rw[List.drop_eq_getElem_cons hlt] at e;obtain⟨v9,w9,e1,e⟩:=AH e;obtain⟨⟨f2,j4⟩,u9,e2,e⟩:=AH e;refine⟨Y,Z,B,_,v9,w9,R2,S.ext E2,ix,e1,λj7 H3 E3 R3 m5 S3=>?_⟩;refine⟨j7,w9,v9,f2,j4,u9,R3,S3,e2,λj9 H4 E4 R4 n0 S4=>?_⟩;have E14:=(E2.trans E3).trans E4;cases f2 with
  |next=>exact⟨rfl,hlt,j9,u9,j4,f,B',Z',R4,S4,it.ext E14,e,λm4 H5 E5 R5=>q m4 H5 (E14.trans E5) R5⟩
  |cont=>exact⟨rfl,hlt,j9,u9,j4,f,B',Z',R4,S4,it.ext E14,e,λm4 H5 E5 R5=>q m4 H5 (E14.trans E5) R5⟩
  |brk=>cases e;exact q j9 H4 E14 R4 n0 S4
  |rt d=>cases e;exact q j9 H4 E14 R4 n0 S4
  |xc x=>cases e;exact q j9 H4 E14 R4 n0 S4
 ·have hi':i=ds.length:=by omega
  subst hi';rw[List.drop_length] at e;cases e;exact .inl ⟨stop,q Y H R.ext0 R O S⟩⟩
end
noncomputable def CZ(hw:How)(n ps:Nat)(mb:Sl->M (Fl×Sl)):List D->M Dx:=λds Z=>match Nat.beq (List.length ds) ps with
 |true=>match mb (BS n ds) Z with
  |some ((.xc x,_),u9)=>some (.inr x,u9)
  |some ((fl,_),u9)=>match Sm fl with
   |true=>match Uw Z hw (Jf fl) u9 with
    |some (d,Z')=>some (.inl d,Z')
    |none=>none
   |false=>none
  |none=>none
 |false=>none
theorem JP(h:CZ hw n ps mb ds Z=some (r,Z')):
  ds.length=ps/\((∃x j4,r=.inr x/\mb (BS n ds) Z=some ((.xc x,j4),Z'))∨∃d fl j4 u9,r=.inl d/\mb (BS n ds) Z=some ((fl,j4),u9)/\(fl=.next∨∃d,fl=.rt d)/\((Z'=u9/\d=Jf fl)∨Mm Z u9 Z' (Jf fl) d)):=by
 unfold CZ at h;split at h
 ·rename_i hl;refine⟨Nat.eq_of_beq_eq_true hl,?_⟩;split at h
  ·rename_i x j4 u9 e;cases h;exact .inl ⟨x,j4,rfl,e⟩
  ·rename_i fl j4 u9 _ e;split at h
   ·rename_i hf;split at h
    ·rename_i d j6 ho;cases h;exact .inr ⟨d,fl,j4,u9,rfl,e,ME hf,OY ho⟩
    ·cases h
   ·cases h
  ·cases h
 ·cases h
section
variable{P:Program}{w:World}{K:PySem.W.Frag}{mg:Str->Option Value}{base:Heap}
theorem YL
  (h:XP (Fu (CX1 K P w) P w K mg base N qual scope f cd A outer s H E) [] W e s') (hw:∀x O H',W x O H'->E (.str x.1 0) x.2 H'):(Fu (CX1 K P w) P w K mg base N qual scope f cd A outer s H E).xe e s':=by
 obtain⟨x,a,O,H',rfl,l,wx⟩:=h;show wpAny _ _ (leaving _ _) _ _ s';unfold leaving;have fr:=l.inv.ok.frames;refine AAA (Lies.note (X:=Fu (CX1 K P w) P w K mg base N qual scope f cd A outer s H E) ⟨rfl,rfl,rfl⟩ fr l λh1 l1 ⟨C,dx,T,hC,fl⟩=>?_);refine Lies.flight (X:=Fu (CX1 K P w) P w K mg base N qual scope f cd A outer s H E) (s:={ s' with heap:=h1 }) ⟨rfl,rfl,rfl⟩ l1 ⟨C,dx,T,_,hC,fl⟩ (.inl rfl) λh2 l2 ⟨C',dx',T',hC',fl'⟩=>?_;obtain⟨I,C2,dx2,tb,f2,hC2,fl2,_,na,nt,sy⟩:=l2;have same:tb=some T'/\dx2=dx'/\C2=C':=by
  obtain⟨⟨oe,vs,he,c1,d1,hd,h1,_⟩,_⟩:=fl2;obtain⟨⟨oe',vs',he',c2,d2,hd',h1',_⟩,_⟩:=fl';rw[he] at he';cases he';rw[hd] at hd';cases hd';rw[h1] at h1';rw[c1] at c2;refine⟨?_,d1.symm.trans d2,by cases c2;rfl⟩;cases tb with
  |none=>cases h1'
  |some T'=>cases h1';rfl
 obtain⟨rfl,rfl,rfl⟩:=same;exact⟨x,a,C2,dx2,some T',H',rfl,I.os,I.bare,I.base,I.hok,hC',fl',⟨na.1,na.2.1⟩,λT z=>⟨(nt T z).1,(nt T z).2.1⟩,sy,hw _ _ _ wx⟩
theorem XP.unwish(h:XP (X.wish F) w6 W e s):XP X w6 W e s:=by
 obtain⟨x,a,O,H,e,⟨I,r⟩,w⟩:=h;exact⟨x,a,O,H,e,⟨I.unwish,r⟩,w⟩
theorem CW(hw:How)(F:Fun K x qual st f fd)(S:Ab N ps (AR st))(hm:mg x=some (.ref f))(hb:Binds K fd ps [])
  (body:∀(cdv:Value) (A:Around) (outer:List Env) (s:Shared) (H:Hp) (E:XK),Room k (A.deeper (PyProof.Rows.envOfC qual (AR st) s.heap.objs.size f cdv))->XSs (Fu CX0 P w K mg base N qual (AR st) f cdv A outer s H E).nox (Ch st) mb) :
  FnX P w K mg base x ps (k+1) (CZ hw N.length ps.length mb):=by
 refine⟨λds Z r h=>(JP (r:=r.1) (Z':=r.2) h).1,f,fd,?_,hm,F.kp,hb⟩;obtain⟨oc,od,kV,doc,pm,an,cdv,ct,osl,rfl,lk,hcd⟩:=F.ex;refine We lk hcd S (λvs H Q E h=>h.1) λA outer s H vs Q E hr h=>?_;obtain⟨hl,Y,Z,ds,r,Z',R,i,e,q⟩:=h;refine⟨λD O H'=>tSx ⟨K,w⟩ mb D (λx _ H'=>E (.str x.1 0) x.2 H') O H',λw6 s1 O H' D I h1=>?_,?_⟩
 ·exact AAg ((body cdv A outer s H E hr).pe w6 s1 O H' D _ (I.wish _) h1) (λ_ _ z=>SP.unwish (X:=Fu (CX1 K P w) P w K mg base N qual (AR st) f cdv A outer s H E) z) λe s' z=>YL ((XP.unwish (X:=Fu (CX1 K P w) P w K mg base N qual (AR st) f cdv A outer s H E) z).less λp hp=>nomatch hp) λ_ _ _ q=>q
 ·obtain⟨_,⟨x,j4,rfl,e2⟩|⟨d,fl,j4,u9,rfl,e2,hfl,t⟩⟩:=JP e
  ·exact⟨Y,Z,_,.xc x,j4,Z',R,RelS.start i,e2,λv8 H2 E2 R2 k9 S2=>q v8 H2 E2 R2⟩
  ·refine⟨Y,Z,_,fl,j4,u9,R,RelS.start i,e2,λv8 H2 E2 R2 k9 S2=>?_⟩;have z:Ext Y Z.length H v8 Z'.length H2/\RelH ⟨K,w⟩ v8 Z' H2/\∀v,Is ⟨K,w⟩ v8 u9.length H2 (Jf fl) v->Is ⟨K,w⟩ v8 Z'.length H2 d v:=by
    rcases t with ⟨rfl,rfl⟩|t
    ·exact⟨E2,R2,λv iv=>iv⟩
    ·exact Lb R E2 R2 t
   obtain⟨E3,R3,c⟩:=z;rcases hfl with rfl|⟨d0,rfl⟩
   ·exact q v8 H2 E3 R3 _ (c _ (by unfold Jf Is;rfl))
   ·exact λv iv=>q v8 H2 E3 R3 v (c v iv)
end
end Xc
namespace Xc
open PySem L2 Mi
abbrev bmV:List Value:=[.type "ValueError",.type "Exception",.type "BaseException",.type "object"]
structure Ec(K:PySem.W.Frag)(c:Str)(C:Addr):Prop where
 at_:ClsAt K c C
 ex:PySem.W.excIn K C bmV "ValueError.__new__" = true
theorem Ec.obj(e:Ec K c C)(X:K.In h):∃bm N nm q bs hdct sn sub ab col dd k0 k1 k2 k3 k5 mN,mN "__init__" = none/\∀h',K.In h'->h'.get? C=some (excClassObj nm q C N bs bm hdct sn sub ab col dd k0 k1 k2 k3 k5 "ValueError.__new__")/\h'.Ns N mN/\OwnTail h' bmV bm:=by
 have q:=e.ex;unfold PySem.W.excIn at q;cases l:K.lookup C with
 |none=>rw[l] at q;cases q
 |some o=>
  rw[l] at q;split at q
  ·rename_i dd cd sl w;cases w;split at q
   ·rename_i C' bm k0 k1 k2 k3 n k5 h1 h2;simp only[Bool.and_eq_true,beq_iff_eq,Bool.not_eq_true'] at q;obtain⟨⟨⟨⟨⟨z1,z2⟩,z3⟩,z4⟩,z5⟩,z6⟩:=q;have hsl:sl=#[k0,k1,k2,k3,some (.builtin "ValueError.__new__"),k5]:=by
     rw[←z2];exact Array.toList_inj.mp h2
    refine⟨bm,cd.ns,cd.name,cd.qualname,cd.bases,cd.hasDict,cd.slotNames,cd.subclasses,cd.abstract,cd.collection,dd,k0,k1,k2,k3,k5,_,PySem.W.nsMap_none_of_in X z5 z6,λh' X'=>⟨?_,?_,PySem.W.tail_of_in X' z4⟩⟩
    ·rw[X' _ _ l,hsl];cases cd;dsimp only at h1 z3;subst h1 z3 z1;rfl
    ·obtain⟨o,es,ep,ho,r⟩:=(Heap.Ns.of_isNs (PySem.W.isNs_of_in X z5):h.Ns cd.ns _);unfold PySem.W.nsOkIn at z5;cases l2:K.lookup cd.ns with
     |none=>rw[l2] at z5;cases z5
     |some o2=>
      have:=X _ _ l2;rw[ho] at this;cases this;exact⟨o,es,ep,X' _ _ l2,r⟩
   ·cases q
  ·cases q
theorem Iq(x:ObjOk P w H h a o):∃u,h.get? a=some u:=by
 cases o with
 |lst xs=>obtain⟨_,_,_,_,e⟩:=x;exact⟨_,e⟩
 |tup xs=>obtain⟨_,_,_,o,e,_⟩:=x;exact⟨o,e⟩
 |dK kvs=>obtain⟨_,_,_,_,o,_,_,e,_⟩:=x;exact⟨o,e⟩
 |dT kvs=>obtain⟨_,_,_,_,o,_,_,e,_⟩:=x;exact⟨o,e⟩
 |set S n=>obtain⟨o,_,_,_,e,_⟩:=x;exact⟨o,e⟩
 |ins C dx fs=>obtain⟨_,_,_,e,_⟩:=x;exact⟨_,e⟩
 |own y=>exact x
 |xd fs=>obtain⟨_,⟨o,_,_,e,_⟩,_⟩:=x;exact⟨o,e⟩
 |rng lo hi=>obtain⟨_,_,_,e⟩:=x;exact⟨_,e⟩
 |frz ob u=>exact⟨ob,x.1⟩
 |tbl ps=>exact⟨_,x⟩
 |met f y=>exact⟨_,x⟩
 |ext φ=>exact x.2.1
noncomputable def GQ(c:Str)(m:Sl->M (List D)):Sl->M (Fl×Sl):=λB=>bnd (m B) λds=>bnd (lim ds.length) λ_=>ret (.xc (c,none),B)
section
variable{Y_:Cx}{x:Str}{C:Addr}{e:Expr}{es:List Expr}{np cpos pos:Pos}{m:Sl->M (List D)}
theorem FO(cl:Ec Y_.nox.K x C)(hm:Y_.nox.mg x=some (.ref C))(ha:RA Y_.nox (e::es) m)(hg:Gl Y_.nox x:=by rfl)(hdb:(x==("__debug__" : Str))=false:=by decide)(hc:Y_.nox.calm=true:=by rfl)(hx:Y_.nox.ex=[]:=by rfl)
  (he:starEach (e::es) Y_.nox.env=(false,eval e Y_.nox.env)::starEach es Y_.nox.env:=by exact Ak rfl) (hpl:(backTo cpos (starEach (e::es) Y_.nox.env)).any (·.1)=false:=by exact A5 rfl) :
  XS Y_.nox (.Raise (some (.Call (.Name x np) (e::es) [] cpos)) none pos) (GQ x m):=⟨λw6 s O H Dn W I h0=>by
 obtain⟨Y,Z,B,f,B',Z',R,S,e0,q⟩:=h0;obtain⟨ds,w9,e1,e2⟩:=AH e0;obtain⟨_,u9,e3,e4⟩:=AH e2;obtain⟨hl,rfl⟩:=DC e3;cases e4;obtain⟨bm,N,nm,q',bs,hdct,sn,sub,ab,col,dd,k0,k1,k2,k3,k5,mN,hni,ob⟩:=cl.obj I.kIn;refine wpAny_Raise_call_subT (C:=C) (nm:=nm) (q:=q') (N:=N) (bs:=bs) (bm:=bm) (bmB:=bmV) (hdct:=hdct) (sn:=sn) (sub:=sub) (ab:=ab) (col:=col) (dd:=dd) (k0:=k0) (k1:=k1) (k2:=k2) (k3:=k3) (k5:=k5) PySem.F.excBase_ValueError (mN:=mN) ((ob _ I.kIn).2.2.hasType (by decide +kernel)) (I.ok.hd hc) hpl hni
  (EF I hg hm ⟨rfl,?_⟩ hdb)
 have hb:backTo cpos (starEach (e::es) Y_.nox.env)=(false,(backTo cpos (starEach (e::es) Y_.nox.env)).head!.2)::(backTo cpos (starEach es Y_.nox.env)):=by rw[he];rfl
 rw[hb];refine PySem.Calls.evalArgs_plain ?_;rw[←hb];refine AAg (ha.pe cpos w6 s O H (λvs H1=>vs.length<=sizeLine/\W (x,none) O H1) I ⟨Y,Z,_,ds,_,R,S,e1,λv5 H1 E1 R1 vs iv=>⟨by rw[iv.length];exact hl,q v5 H1 E1 R1 O (S.ext E1)⟩⟩) (λus s1 ⟨vs,H1,I1,r1,q1,q2⟩=>?_) λ_ _ z=>False.elim z;obtain⟨hC,hN,T⟩:=ob _ I1.kIn;refine⟨rfl,by rw[←r1.length];exact q1,hC,hN,T,λh' a hm=>?_⟩;obtain⟨t,h1,h2,h3⟩:=hm.there;have hH:H1 a=none:=by
  cases z:H1 a with
  |none=>rfl
  |some u=>
   obtain⟨o,w⟩:=Iq (I1.hok a u z);rw[hm.new] at w;cases w
 exact⟨(x,none),a,O,H1,rfl,⟨I1.kept (t':=s1.toks) hm.keeps,C,none,none,.none,cl.at_,⟨⟨_,_,h1,rfl,rfl,rfl,rfl,λ_=>rfl⟩,(λT z=>nomatch z)⟩,.inl rfl,Inv.nw I1 hx hm.new hH,(λT z=>nomatch z),rfl⟩,q2⟩⟩
end
structure Cd(K:PySem.W.Frag)(d:Str)(Da:Addr):Prop where
 at_:ClsAt K d Da
 ty:PySem.W.typeIn K (.ref Da)=some (.type "type")
 cl:(PySem.W.clsIn K Da).isSome=true
 ex:PySem.W.subIn K (.ref Da) (.type "BaseException")=some true
section
variable{K:PySem.W.Frag}{M:Model}{A:Around}{E:Value->Shared->Prop}{s:Shared}{Q:Bool->Shared->Prop}{a C Da:Addr}{oe:Obj}{d:Str}{b:Bool}
theorem Gu(X:K.In h)(z:(PySem.W.clsIn K Da).isSome=true):PySem.W.Looks M h (isType (.ref Da)) true:=by
 obtain⟨cd,e⟩:∃cd:ClassData,∃c d sl,K.lookup Da=some ⟨c,d,.cls cd,sl⟩:=by
  revert z
  unfold PySem.W.clsIn;split<;>intro z
  ·next o=>exact⟨_,_,_,_,o⟩
  ·cases z
 obtain⟨_,_,_,o⟩:=e;rintro _ _ _ ⟨_,_,_,_,_⟩ same fits;exact PySem.ks_wpAny_isType_cls (same _ _ (X _ _ o)) rfl fits
theorem Iu(X:K.In s.heap)(cd:Cd K d Da)(he:s.heap.get? a=some oe)(hc:oe.cls=.ref C)(hs:PySem.W.subIn K (.ref C) (.ref Da)=some b)(q:Q b s):wpAny M A (excMatches (.ref a) (.ref Da)) Q E s:=by
 obtain⟨h,g,dr,tk,os⟩:=s;have l1:=PySem.W.looks_typeIn (M:=M) X cd.ty;have l2:=Gu (M:=M) X cd.cl;have l3:=PySem.W.looks_subIn (M:=M) X cd.ex;have l4:=PySem.W.looks_subIn (M:=M) X hs;have l5:PySem.W.Looks M h (typeOf (.ref a)) (.ref C):=hc ▸ (PySem.W.Looks.ld he).andThen .now;have t0:=tc_notTuple;unfold excMatches isInstance;refine AAA (AAA (l1.at ?_));rw[t0];refine AAB ?_;simp only[Bool.false_eq_true,if_false];refine AAA (AAB ?_);unfold isExcClass;simp only[List.forIn_cons,List.forIn_nil];refine AAA (AAA (AAA (AAA (l2.at ?_))));rw[if_pos rfl];refine l3.at ?_;rw[if_neg (by decide)];refine AAB (AAB (AAA (l5.at (AAA (AAA (AAA (l4.at ?_)))))));cases b with
 |true=>
  rw[if_pos rfl];exact AAB (AAB (AAB q))
 |false=>
  rw[if_neg (by decide)];exact AAB (AAB (AAB q))
end
noncomputable abbrev hnd(X:Cx)(e:Value):Cx:={ X with A:=X.A.mark (some e),calm:=false,xe:=λ_ _=>False }
theorem X9(ok:X.Ok)(e:Value):(hnd X e).Ok:=
 ⟨ok.mod,ok.kind,ok.glob,ok.blt,ok.above,ok.inj,ok.has,ok.cab,(λh=>nomatch h),ok.frames,ok.stk,ok.exf,ok.bs,ok.bsz,ok.noex,ok.exfs,ok.funs,ok.frf⟩
section
variable{X:Cx}{w6:List (Addr×Obj)}{O:St}{H:Hp}{s:Shared}{e:Value}
theorem Inv.hnd(I:Inv X w6 O H s)(e:Value):Inv (hnd X e) w6 O H s:=⟨X9 I.ok e,I.os,I.bare,I.base,I.loc,I.cell,I.free,I.freeC,I.pin,I.hok,I.len⟩
theorem Inv.unhnd(ok:X.Ok)(I:Inv (Xc.hnd X e) w6 O H s):Inv X w6 O H s:=⟨ok,I.os,I.bare,I.base,I.loc,I.cell,I.free,I.freeC,I.pin,I.hok,I.len⟩
theorem Inv.track(I:Inv X w6 O H s)(nw:Nw X w6 H a)(hr:∃ob vs,s.heap.get? a=some ob/\ob.data=.fields vs)(new:ObjOk X.prog X.w (upd H a o) s.heap a o):Inv X w6 O (upd H a o) s:=by
 obtain⟨ob,vs,ha,hd⟩:=hr;obtain⟨nL,nC⟩:=Inv.rec_ne I ha hd;have ne:∀b u,X.s₀.heap.get? b=some u->b≠a:=λb u e z=>by rw[z,nw.1] at e;cases e
 refine⟨I.ok,I.os,I.bare,⟨I.base.keep,I.base.slot,λb u e n hx=>?_,I.base.there,λb xs e=>?_,λb u v e=>?_,λb ps e=>?_⟩,I.loc,I.cell,?_,λx c e=>?_,λp hp=>?_,λb u e=>?_,I.len⟩
 ·rw[Aw (ne b u e)];exact I.base.free b u e n hx
 ·have:=I.base.tups b xs e;rw[Aw (BZ this nw.2.1)];exact this
 ·have:=I.base.frzs b u v e;rw[Aw (BZ this nw.2.1)];exact this
 ·obtain⟨m,this⟩:=I.base.tbls b ps e;exact⟨m,by rw[Aw (BZ this nw.2.1)];exact this⟩
 ·rw[Aw (Ne.symm nL)];exact I.free
 ·rw[Aw (nC x c e)];exact I.freeC x c e
 ·obtain⟨e1,e2,e3⟩:=I.pin p hp;exact⟨e1,by rw[Aw (nw.2.2 p hp)];exact e2,e3⟩
 ·by_cases hb:b=a
  ·subst hb;rw[BK] at e;cases e;exact new
  ·rw[Aw hb] at e;exact(I.hok b u e).stay (λc v _ q=>q) (λc q=>by rw[Aw (BZ q nw.2.1)];exact q) λc xs q=>by rw[Aw (BZ q nw.2.1)];exact q
theorem F5{M:Model}{A:Around}{E:Value->Shared->Prop}(I:Inv X w6 O H s)(hN:X.N.Nodup)(hi:X.N[i]?=some n)(hl:X.env.scope.names.lookup n=some .local)
  (q:∀s',Inv X w6 (O.set i none) H s'->Q () s'):wpAny M A (do bindName X.env n .none;unbindBehindTheSuite X.env n pos) Q E s:=by
 obtain⟨m,hn,hlc⟩:=id I.loc;have hcls:(X.env.scope.kind==.class||(X.env.scope.kind==.module&&X.env.locals != X.env.globals))=false:=by rw[I.ok.kind];rfl
 refine wpAny_nameGoes_keeps hl hn hcls λh' v hn' hs=>q _ ?_;have I0:Inv X w6 (O.set i none) H s:=I.weak (by simp) λj w e=>by
  by_cases hj:j=i
  ·subst hj;rw[List.getElem?_set] at e;simp at e
  ·rw[AAk (Ne.symm hj)] at e;exact e
 have nL:∀b,H b≠none->b≠X.env.locals:=λb z w=>z (by rw[w];exact I.free);have kp:∀b o,b≠X.env.locals->s.heap.get? b=some o->h'.get? b=some o:=λb o hb e=>(hs.2 b hb).trans e;refine⟨I.ok,I.os,I.bare,⟨λb o e n hb hx=>?_,λb o e n hb hx=>?_,I.base.free,λb o e hx=>?_,I.base.tups,I.base.frzs,I.base.tbls⟩,⟨_,hn',λj y w e1 e2 e3=>?_⟩,λy c e=>?_,I.free,I.freeC,λp hp=>?_,λb u e=>?_,by simpa using I.len⟩
 ·exact kp b o (AAb (AAM (Heap.lt_size e) I.ok.above)) (I.base.keep b o e n hb hx)
 ·obtain⟨sl,e1⟩:=I.base.slot b o e n hb hx;exact⟨sl,kp b _ (AAb (AAM (Heap.lt_size e) I.ok.above)) e1⟩
 ·obtain⟨o',e1⟩:=I.base.there b o e hx;exact⟨o',kp b _ (AAb (AAM (Heap.lt_size e) I.ok.above)) e1⟩
 ·by_cases hj:j=i
  ·subst hj;rw[List.getElem?_set] at e2;simp at e2
  ·rw[AAk (Ne.symm hj)] at e2;obtain⟨u,r,lk⟩:=hlc j y w e1 e2 e3;refine⟨u,r,?_⟩;have hy:y≠n:=λz=>hj (Ir hN e1 (z ▸ hi));rcases lk with ⟨k,e⟩|⟨k,c,e,z⟩
   ·exact .inl ⟨k,by simp[hy,e]⟩
   ·exact .inr ⟨k,c,e,z.sameBut hs (I.cne y c e)⟩
 ·obtain⟨w,z⟩:=I.cell y c e;exact⟨w,z.sameBut hs (I.cne y c e)⟩
 ·obtain⟨e,n,ne,nf,d⟩:=I.pin p hp;exact⟨kp p.1 p.2 ne e,n,ne,nf,d⟩
 ·refine(I.hok b u e).stay (λc v hc q=>kp c v (nL c ?_) q) (λ_ q=>q) λ_ _ q=>q;rcases hc with rfl|hc
  ·rw[e];simp
  ·rw[hc];simp
end
noncomputable def RN(i:Nat)(mh:Sl->M (Fl×Sl))(x:Exn)(B:Sl):M (Fl×Sl):=λZ=>bnd (mh (B.set i (some (.ref (List.length Z))))) (λr=>ret (r.1,r.2.set i none)) (Z++[.exc x.1 x.2])
noncomputable def UJ(mb:Sl->M (Fl×Sl))(i:Nat)(ok:List Str)(mh:Sl->M (Fl×Sl)):Sl->M (Fl×Sl):=λB=>bnd (mb B) λr=>match r.1 with
 | .xc x=>if x.1∈ok then RN i mh x r.2 else BD
 |_=>ret r
theorem RelS.clear(S:RelS K Y k H B O)(i:Nat):RelS K Y k H (B.set i none) (O.set i none):=by
 refine⟨by simpa using S.len,λj d e=>?_⟩;by_cases hj:i=j
 ·subst hj;rw[List.getElem?_set] at e;simp at e
 ·rw[AAk hj] at e ⊢;exact S.get j d e
def Ms(K:PySem.W.Frag)(ok:List Str)(Da:Addr):Prop:=∀c∈ok,∀C,ClsAt K c C->PySem.W.subIn K (.ref C) (.ref Da)=some true
section
variable{Y_:Cx}{body suite:List Stmt}{b₀:Stmt}{d n:Str}{Da:Addr}{np hpos pos:Pos}{mb mh:Sl->M (Fl×Sl)}{ok:List Str}{i:Nat}
theorem UL(cd:Cd Y_.nox.K d Da)(hm:Y_.nox.mg d=some (.ref Da))(bl:Ms Y_.nox.K ok Da)(hN:Y_.nox.N.Nodup)(hb:XSs Y_.nox body mb)(hh:∀e:Value,RSs (hnd Y_.nox e) (b₀::suite) mh)(hi:Y_.nox.N[i]?=some n:=by rfl)(hl:Y_.nox.env.scope.names.lookup n=some .local:=by rfl)
  (hg:Gl Y_.nox d:=by rfl) (hdb:(d==("__debug__" : Str))=false:=by decide) (ow:Own Y_.nox:=by exact⟨rfl,rfl,rfl⟩) (hfn:Y_.nox.fn n=true:=by rfl) :
  RS Y_.nox (.Try body [.ExceptHandler (some (.Name d np)) (some n) (b₀::suite) hpos] [] [] pos) (UJ mb i ok mh):=⟨λw6 s O H Dn I h0=>by
 obtain⟨Y,Z,B,f,B',Z',R,S,e0,q⟩:=h0;obtain⟨⟨f1,v9⟩,w9,e1,e2⟩:=AH e0
 let W:Exn->St->Hp->Prop:=λx j8 H1=>f1=.xc x/\∃v5,Ext Y Z.length H v5 w9.length H1/\RelH Y_.nox.kw v5 w9 H1/\RelS Y_.nox.kw v5 w9.length H1 v9 j8
 refine wpAny_Try_except (AAg (hb.pe w6 s O H Dn W I ⟨Y,Z,B,f1,v9,w9,R,S,e1,λv5 H1 E1 R1 j8 S1=>?_⟩) (λfl s1 q1=>?_) λe s1 z=>?_)
 ·cases f1 with
  |xc x=>exact⟨rfl,v5,E1,R1,S1⟩
  |next=>cases e2;exact q v5 H1 E1 R1 j8 S1
  |brk=>cases e2;exact q v5 H1 E1 R1 j8 S1
  |cont=>cases e2;exact q v5 H1 E1 R1 j8 S1
  |rt d=>cases e2;exact q v5 H1 E1 R1 j8 S1
 ·cases fl with
  |next=>exact wpAny_execs_nil q1
  |_=>exact q1
 ·obtain⟨x,a,j8,H1,rfl,l,rfl,v5,E1,R1,S1⟩:=z;have e2:(if x.1∈ok then RN i mh x v9 else BD) w9=some ((f,B'),Z'):=e2;by_cases hx:x.1∈ok
  ·rw[if_pos hx] at e2;obtain⟨⟨f2,j4⟩,u9,e3,e4⟩:=AH e2;cases e4;refine Lies.note ow I.ok.frames l λh1 l1 ⟨C,dx,T,hC,fl1⟩=>?_;refine Lies.flight ow l1 ⟨C,dx,T,_,hC,fl1⟩ (.inl rfl) λh2 l2 ⟨C2,dx2,T2,hC2,fl2⟩=>?_;obtain⟨oe,vs,he,hc,hdx,hd,hv⟩:=id fl2.ob;refine wpAny_handleBy_cons (codeAny_handlers_test ?_) (by intro w;cases w);refine EF (X:=hnd Y_.nox (.ref a)) (Inv.hnd l2.inv (.ref a)) hg hm ?_ hdb;refine Iu (l2.inv.kIn) cd he hc (bl _ hx _ hC2) ?_;rw[if_pos rfl];refine codeAny_handlers_suite_as ?_;refine Lies.flight ow l2 ⟨C2,dx2,T2,_,hC2,fl2⟩ (.inl rfl) λh3 l3 ⟨C3,dx3,T3,hC3,fl3⟩=>?_;obtain⟨I3,C4,dx4,tb4,f4,hC4,fl4,_,na,nt,sy⟩:=l3;obtain⟨oe4,vs4,he4,hc4,hdx4,hd4,_⟩:=id fl4.ob;have I4:=Inv.track I3 na ⟨oe4,vs4,he4,hd4⟩ (o:=Yn a C4 dx4) ⟨⟨oe4,vs4,he4,hc4,hdx4,hd4⟩,⟨oe4,he4⟩,λg1 g2 ⟨o,v,w1,w2⟩ k=>⟨o,v,k _ w1,w2⟩⟩;obtain⟨m4,E5,R5,e5⟩:=R1.grown (m:=.exc x.1 x.2) na.2.1 ⟨C4,dx4,rfl,hC4,sy⟩;refine Ge (X:=hnd Y_.nox (.ref a)) (Inv.hnd I4 (.ref a)) hN hi (.inl hl) (v:=.ref a) (u:=.ref a) rfl (λs5 I5=>?_) (.inl hfn);have S5:RelS Y_.nox.kw m4 (w9++[MO.exc x.1 x.2]).length (upd H1 a (Yn a C4 dx4)) (v9.set i (some (.ref w9.length))) (j8.set i (some (.ref a))):=(S1.ext E5).set i (by unfold Is;exact⟨by simp,by rw[e5]⟩);refine AAg ((hh (.ref a)).pe w6 s5 _ _ { nx:=λv7 H'=>Dn.nx (v7.set i none) H',rt:=Dn.rt,bk:=λv7 H'=>Dn.bk (v7.set i none) H',ct:=λv7 H'=>Dn.ct (v7.set i none) H' } I5 ⟨m4,_,_,f2,j4,Z',R5,S5,e3,λι6 H6 E6 R6 m6 S6=>?_⟩) (λfl s6 q6=>?_) λ_ _ z=>False.elim z
   ·have z:=q ι6 H6 ((E1.trans E5).trans E6) R6 (m6.set i none) (RelS.clear S6 i);cases f2 with
    |next=>exact z
    |brk=>exact z
    |cont=>exact z
    |rt d=>exact z
    |xc x=>exact z
   ·have ok0:=I.ok;cases fl with
    |next=>obtain⟨m6,H6,I6,q6⟩:=q6;exact F5 (Inv.unhnd ok0 I6) hN hi hl λs7 I7=>⟨_,H6,I7,q6⟩
    |brk=>obtain⟨m6,H6,I6,q6⟩:=q6;exact F5 (Inv.unhnd ok0 I6) hN hi hl λs7 I7=>⟨_,H6,I7,q6⟩
    |cont=>obtain⟨m6,H6,I6,q6⟩:=q6;exact F5 (Inv.unhnd ok0 I6) hN hi hl λs7 I7=>⟨_,H6,I7,q6⟩
    |ret u=>obtain⟨v,m6,H6,I6,r6,q6⟩:=q6;exact F5 (Inv.unhnd ok0 I6) hN hi hl λs7 I7=>⟨v,_,H6,I7,r6,q6⟩
  ·rw[if_neg hx] at e2;cases e2⟩
end
structure Ea(K:PySem.W.Frag)(C:Addr):Prop where
 ga:PySem.W.findIn K (.ref C) "__getattribute__" = some (some (.builtin "BaseException.__getattribute__"))
 gh:PySem.W.findIn K (.ref C) "__getattr__" = some none
 cl:PySem.W.findIn K (.ref C) "__class__" = some (some (.builtin "object.__class__"))
 dg:PySem.W.specialIn K (.builtin "object.__class__") "__get__" = some (some (.builtin "getset_descriptor.__get__"))
 tk:PySem.W.takesIn K (.builtin "object.__class__")=some true
 mo:PySem.W.mroIn K C (.type "object")=some true
 mb:PySem.W.subIn K (.ref C) (.type "BaseException")=some true
 cs:(PySem.W.clsIn K C).isSome=true
section
variable{prog:Program}{w:World}{A:Around}{E:Value->Shared->Prop}{s:Shared}{K:PySem.W.Frag}{a C:Addr}{ox:Obj}{od:Option Obj}
open PySem.W in
theorem QN(f:Ea K C):findObj K C od "__class__" = some (.bind (.builtin "getset_descriptor.__get__") (.builtin "object.__class__")):=by
 cases e:PySem.W.clsIn K C with
 |none=>exact absurd f.cs (by rw[e];decide)
 |some cd=>simp only[findObj,e,f.cl,Option.bind_some,f.dg,f.tk]
open PySem.W in
theorem Nq(X:K.In s.heap)(I:InstAt s.heap a ox C od)(f:Ea K C)(q:Q (.ref C) s):wpAny (model prog w) A (call (.builtin "BaseException.__getattribute__") [.ref a,.str "__class__" n]) Q E s:=by
 have hty:=I.type (M:=model prog w);have hsb:=looks_subIn (M:=model prog w) X f.mb;have hfd:=looks_find (M:=model prog w) X I (QN f);refine wpAny_call (codeAny_call_builtin PySem.F.attr_ValueError.ga.plain PySem.F.entry_bexc_ga ?_);simp only[checkBuiltinCall,show builtinKind "BaseException.__getattribute__" = some .slot by decide +kernel,show splitId "BaseException.__getattribute__" = some ("BaseException", "__getattribute__") by decide +kernel,isInstance]
 repeat (any_goals (first|assumption|with_reducible refine hfd.at ?_|with_reducible refine hty.at ?_|with_reducible refine hsb.at ?_|with_reducible refine AAr (a:=()) (PySem.F.args_bexc_ga (.ref a) (.str "__class__" n)) ?_|wp_step))
 refine class_get (ox:=ox) (od:=od) X I f.mo ?_;exact AAB q
open PySem.W in
theorem QG(X:K.In s.heap)(I:InstAt s.heap a ox C od)(f:Ea K C)(h:Q (some (.ref C)) { s with toks:=s.toks+1 }):wpAny (model prog w) A (getAttr? (.ref a) "__class__") Q E s:=by
 cases s with|mk hp gs dr tk out=>
 have hty:=I.type (M:=model prog w);have hga:=looks_findIn (M:=model prog w) X f.ga;have hgh:=looks_findIn (M:=model prog w) X f.gh;simp only[getAttr?,getAttrBy?,getAttrBy]
 repeat (first|with_reducible refine hty.at ?_|with_reducible refine hga.at ?_|with_reducible refine hgh.at ?_|wp_step)
 rw[PySem.F.attr_ValueError.ga.bind (.ref a)];refine AAB (Nq (s:=⟨hp,gs,dr,tk+1,out⟩) X I f ?_);exact handed_on rfl (AAB h)
theorem K7(f:Ea K C):PySem.W.KitX K (.ref a) (.ref C) (λh=>∃ox od,PySem.W.InstAt h a ox C od) where
 ty:=λ_ _ _ ⟨_,_,I⟩=>I.type
 it:=λ_ _ X _=>Gu X f.cs
 ne:=λh tp dd its n sl X htp=>by
  have z:=f.cs;unfold PySem.W.clsIn at z;split at z
  ·rename_i ho;have e:=X _ _ ho;refine Bool.eq_false_iff.mpr λq=>?_;have q:Value.ref C=.ref tp:=beq_iff_eq.mp q;cases q;rw[htp] at e;cases e
  ·cases z
 ca:=λX ⟨_,_,I⟩ k=>QG X I f k
end
noncomputable def NT(tab:List (Str×Bool))(ma:Sl->M D):Sl->M D:=λB=>bnd (ma B) λd Z=>match d with
 | .ref n=>match Z[n]? with
  |some (.exc c _)=>match tab.lookup c with
   |some b=>some (.bl b,Z)
   |none=>none
  |_=>none
 |_=>none
theorem HP(h:NT tab ma B Z=some (d,Z')):∃n c k b,ma B Z=some (.ref n,Z')/\Z'[n]?=some (.exc c k)/\tab.lookup c=some b/\d=.bl b:=by
 obtain⟨x,w9,e1,e⟩:=AH h;split at e
 ·rename_i n;split at e
  ·rename_i c k hq;split at e
   ·rename_i b hb;cases e;exact⟨n,c,k,b,e1,hq,hb,rfl⟩
   ·cases e
  ·cases e
 ·cases e
structure Tb(K:PySem.W.Frag)(tab:List (Str×Bool))(vs:List Value):Prop where
 ok:∀c b,tab.lookup c=some b->∀C,ClsAt K c C->Ea K C/\PySem.W.kitAny K (.ref C) vs=some b
section
variable{X:Cx}{e:Expr}{p q pos:Pos}{tab:List (Str×Bool)}{ma:Sl->M D}{x:Str}
theorem K9(R:RelH ⟨K,w⟩ Y Z H)(hok:HOk P w H h)(hq:Z[n]?=some (.exc c k)):∃C,ClsAt K c C/\∃ox od,PySem.W.InstAt h (Y n) ox C od:=by
 obtain⟨u,h1,C,dx,rfl,hC,sy⟩:=R.obj n _ hq;obtain⟨⟨oe,vs,e1,e2,e3,e4⟩,_⟩:=hok _ _ h1;refine⟨C,hC,oe,?_⟩;have no:PySem.W.notCls oe=true:=by unfold PySem.W.notCls;rw[e4]
 cases k with
 |none=>exact⟨none,e1,e2,no,by rw[e3,show dx=none from sy];trivial⟩
 |some i=>
  obtain⟨d,rfl,hd⟩:=sy;obtain⟨o,ho⟩:=Iq (hok _ _ hd);exact⟨some o,e1,e2,no,by rw[e3];exact ho⟩
theorem Oq(h:PySem.W.kitAny K t [v]=some b):PySem.W.kitOne K t v=some b:=by
 unfold PySem.W.kitAny at h;cases e:PySem.W.kitOne K t v with
 |none=>rw[e] at h;cases h
 |some z=>
  rw[e] at h;cases z with
  |true=>exact h
  |false=>exact h
theorem XT(hy:X.mg "isinstance" = none)(ha:RE X e ma)(hm:X.mg x=some (.ref Da))(tb:Tb X.K tab [.ref Da])(hg:Gl X x:=by rfl)(hgi:Gl X "isinstance" := by rfl)(hdb:(x==("__debug__" : Str))=false:=by decide)
  (h1:starEach [e,.Name x q] X.env=(false,eval e X.env)::starEach [.Name x q] X.env:=by exact Ak rfl):RE X (.Call (.Name "isinstance" p) [e,.Name x q] [] pos) (NT tab ma):=by
 refine RE.wk (Eb (r:=λxs H Q=>∃a b,xs=[.ref a,.ref Da]/\(∀h,HOk X.prog X.w H h->∃C,Ea X.K C/\PySem.W.kitOne X.K (.ref C) (.ref Da)=some b/\∃ox od,PySem.W.InstAt h a ox C od)/\Q (.bl b) H) (λw6 s O H xs us Q I r h=>?_) hgi hy Mi.BG (B7 ha.pe (B7 (F4 hg hm (v:=.ref Da) rfl hdb) Dr rfl) h1) (by decide) (by decide) h1 (A5 rfl)) λO H Q h=>?_
 ·obtain⟨a,b,rfl,hi,q⟩:=h;obtain⟨u1,u2,rfl,r1,r2⟩:=Vals.two r;cases r1;cases r2;obtain⟨C,f,kit,I'⟩:=hi _ I.hok;exact PySem.W.kia_one (K7 f) I.kIn I' kit (λz=>nomatch z) λtk=>⟨.bl b,H,I.tok _,rfl,q⟩
 ·obtain⟨Y,Z,B,d,Z',R,S,e,q⟩:=h;obtain⟨n,c,k,b,e1,hq,hb,rfl⟩:=HP e;refine⟨Y,Z,B,.ref n,Z',R,S,e1,λv5 H1 E1 R1 v iv=>?_⟩;unfold Is at iv;obtain⟨_,rfl⟩:=iv;refine⟨v5 n,b,rfl,λh hok=>?_,q v5 H1 E1 R1 _ (by unfold Is;rfl)⟩;obtain⟨C,hC,I'⟩:=K9 R1 hok hq;obtain⟨f,kit⟩:=tb.ok c b hb C hC;exact⟨C,f,Oq kit,I'⟩
end
section
variable{X:Cx}{e:Expr}{es:List Expr}{p q pos:Pos}{tab:List (Str×Bool)}{ma:Sl->M D}{x:Str}
theorem UT(hy:X.mg "isinstance" = none)(ha:RE X e ma)(hb:RE X (.Name x q) (mC (.ty T)))(tb:Tb X.K tab [.type T])(hgi:Gl X "isinstance" := by rfl)
  (h1:starEach [e,.Name x q] X.env=(false,eval e X.env)::starEach [.Name x q] X.env:=by exact Ak rfl):RE X (.Call (.Name "isinstance" p) [e,.Name x q] [] pos) (NT tab ma):=by
 refine RE.wk (Eb (r:=λxs H Q=>∃a b,xs=[.ref a,.ty T]/\(∀h,HOk X.prog X.w H h->∃C,Ea X.K C/\PySem.W.kitOne X.K (.ref C) (.type T)=some b/\∃ox od,PySem.W.InstAt h a ox C od)/\Q (.bl b) H) (λw6 s O H xs us Q I r h=>?_) hgi hy Mi.BG (B7 ha.pe (B7 hb.pe Dr rfl) h1) (by decide) (by decide) h1 (A5 rfl)) λO H Q h=>?_
 ·obtain⟨a,b,rfl,hi,q⟩:=h;obtain⟨u1,u2,rfl,r1,r2⟩:=Vals.two r;cases r1;cases r2;obtain⟨C,f,kit,I'⟩:=hi _ I.hok;exact PySem.W.kia_one (K7 f) I.kIn I' kit (λz=>nomatch z) λtk=>⟨.bl b,H,I.tok _,rfl,q⟩
 ·obtain⟨Y,Z,B,d,Z',R,S,e,q⟩:=h;obtain⟨n,c,k,b,e1,hq,hb,rfl⟩:=HP e;refine⟨Y,Z,B,.ref n,Z',R,S,e1,λv5 H1 E1 R1 v iv=>⟨v5,Z',B,.ty T,Z',R1,S.ext E1,rfl,λv8 H2 E2 R2 v2 iv2=>?_⟩⟩;have iv:=iv.ext E2;unfold Is at iv iv2;obtain⟨_,rfl⟩:=iv;subst iv2;refine⟨v8 n,b,rfl,λh hok=>?_,q v8 H2 (E1.trans E2) R2 _ (by unfold Is;rfl)⟩;obtain⟨C,hC,I'⟩:=K9 R2 hok hq;obtain⟨f,kit⟩:=tb.ok c b hb C hC;exact⟨C,f,Oq kit,I'⟩
structure NM(X:Cx)(es:List Expr)(Ds:List Addr):Prop where
 pe:PA X es (λ_ H Q=>Q (Ds.map V.ref) H)
theorem YH:NM X [] []:=⟨Dr⟩
theorem Er(hm:X.mg x=some (.ref Da))(h:NM X es Ds)(hg:Gl X x:=by rfl)(hdb:(x==("__debug__" : Str))=false:=by decide):NM X (.Name x q::es) (Da::Ds):=
 ⟨PA.wk (B7 (F4 hg hm (v:=.ref Da) rfl hdb) h.pe (Ak rfl)) λ_ _ _ z=>z⟩
theorem OQ:∀{Ds:List Addr} {us:List Value},Vals (Ds.map V.ref) us->us=Ds.map Value.ref
 |[],_,.nil=>rfl
 |_::_,_,.cons r t=>by cases r;rw[OQ t];rfl
theorem US(hy:X.mg "isinstance" = none)(ha:RE X e ma)(nm:NM X es Ds)(tb:Tb X.K tab (Ds.map Value.ref))(hl:Ds.length<=100:=by exact AAE rfl)(hgi:Gl X "isinstance" := by rfl)
  (h1:starEach [e,.Tuple es x1 q] X.env=(false,eval e X.env)::starEach [.Tuple es x1 q] X.env:=by exact Ak rfl):RE X (.Call (.Name "isinstance" p) [e,.Tuple es x1 q] [] pos) (NT tab ma):=by
 refine RE.wk (Eb (r:=λxs H Q=>∃a t b,xs=[.ref a,.ref t]/\H t=some (.tup (Ds.map V.ref))/\(∀h,HOk X.prog X.w H h->∃C,Ea X.K C/\PySem.W.kitAny X.K (.ref C) (Ds.map Value.ref)=some b/\∃ox od,PySem.W.InstAt h a ox C od)/\Q (.bl b) H) (λw6 s O H xs us Q I r h=>?_) hgi hy Mi.BG (B7 ha.pe (B7 (R7 nm.pe) Dr rfl) h1) (by decide) (by decide) h1 (A5 rfl)) λO H Q h=>?_
 ·obtain⟨a,t,b,rfl,ht,hi,q⟩:=h;obtain⟨u1,u2,rfl,r1,r2⟩:=Vals.two r;cases r1;cases r2;obtain⟨C,f,kit,I'⟩:=hi _ I.hok;obtain⟨_,its,r,⟨o,g1,g2,n,g3⟩⟩:=I.hok _ _ ht;rw[OQ r] at g3;obtain⟨oc,od,odt,osl⟩:=o;dsimp only at g2 g3;subst g2 g3;exact PySem.W.kia_tup (K7 f) I.kIn I' g1 kit (λz=>nomatch z) λtk=>⟨.bl b,H,I.tok _,rfl,q⟩
 ·obtain⟨Y,Z,B,d,Z',R,S,e,q⟩:=h;obtain⟨n,c,k,b,e1,hq,hb,rfl⟩:=HP e;refine⟨Y,Z,B,.ref n,Z',R,S,e1,λv5 H1 E1 R1 v iv=>⟨by rw[AAG];exact AAp hl (by decide),λt ht=>?_⟩⟩;obtain⟨E2,R2⟩:=R1.laid (.tup (Ds.map V.ref)) ht;unfold Is at iv;obtain⟨_,rfl⟩:=iv;refine⟨v5 n,t,b,rfl,BK,λh hok=>?_,q v5 _ (E1.trans E2) R2 _ (by unfold Is;rfl)⟩;obtain⟨C,hC,I'⟩:=K9 R2 hok hq;obtain⟨f,kit⟩:=tb.ok c b hb C hC;exact⟨C,f,kit,I'⟩
end
section
variable{K:PySem.W.Frag}{c d:Str}{C Da:Addr}{b:Bool}{vs:List Value}
theorem Ez(a:PySem.W.nsIn K mainGlobals c=some (some (.ref C)))(h:ClsAt K c C'):C'=C:=by
 unfold ClsAt at h;rw[a] at h;cases h;rfl
theorem cls_mk(a:PySem.W.nsIn K mainGlobals c=some (some (.ref C))):∃C,ClsAt K c C:=⟨C,a⟩
theorem ec_mk(a:PySem.W.nsIn K mainGlobals c=some (some (.ref C)))(q:PySem.W.excIn K C bmV "ValueError.__new__" = true):∀C,ClsAt K c C->Ec K c C:=λC' h=>by
 obtain rfl:=Ez a h;exact⟨h,q⟩
theorem cd_mk(a:PySem.W.nsIn K mainGlobals d=some (some (.ref Da)))(t:PySem.W.typeIn K (.ref Da)=some (.type "type"))(l:PySem.W.isClsIn K Da=true)(s:PySem.W.subIn K (.ref Da) (.type "BaseException")=some true):∀C,ClsAt K d C->Cd K d C:=λC' h=>by
 obtain rfl:=Ez a h;exact⟨h,t,l,s⟩
theorem bl_mk(a:PySem.W.nsIn K mainGlobals c=some (some (.ref C)))(e:PySem.W.nsIn K mainGlobals d=some (some (.ref Da)))(s:PySem.W.subIn K (.ref C) (.ref Da)=some true):∀D',ClsAt K d D'->Ms K [c] D':=λD' h c' hc C' h'=>by
 obtain rfl:=Ez e h;obtain rfl:=AAK.mp hc;obtain rfl:=Ez a h';exact s
theorem ea_mk(h1:PySem.W.findIn K (.ref C) "__getattribute__" = some (some (.builtin "BaseException.__getattribute__")))(h2:PySem.W.findIn K (.ref C) "__getattr__" = some none)(h3:PySem.W.findIn K (.ref C) "__class__" = some (some (.builtin "object.__class__")))
  (h4:PySem.W.specialIn K (.builtin "object.__class__") "__get__" = some (some (.builtin "getset_descriptor.__get__"))) (h5:PySem.W.takesIn K (.builtin "object.__class__")=some true) (h6:PySem.W.mroIn K C (.type "object")=some true) (h7:PySem.W.subIn K (.ref C) (.type "BaseException")=some true)
  (h8:PySem.W.isClsIn K C=true):Ea K C:=⟨h1,h2,h3,h4,h5,h6,h7,h8⟩
noncomputable def NsL(K:PySem.W.Frag):List Str->List Addr->Prop
 |[],Ds=>Ds=[]
 |c::cs,Ds=>∃C r,Ds=C::r/\ClsAt K c C/\NsL K cs r
theorem NsL.nil:NsL K [] []:=rfl
theorem NsL.cons(h:ClsAt K c C)(r:NsL K cs Ds):NsL K (c::cs) (C::Ds):=⟨C,Ds,rfl,h,r⟩
theorem tb_mk(a:PySem.W.nsIn K mainGlobals c=some (some (.ref C)))(f:Ea K C)(k:PySem.W.kitAny K (.ref C) vs=some b):Tb K [(c,b)] vs:=⟨λc' b' h C' h'=>by
 have e:c'=c/\b'=b:=by
  unfold List.lookup at h;split at h
  ·rename_i z;have z:c'=c:=eq_of_beq z;cases h;exact⟨z,rfl⟩
  ·cases h
 obtain⟨rfl,rfl⟩:=e;obtain rfl:=Ez a h';exact⟨f,k⟩⟩
noncomputable def NsV(K:PySem.W.Frag):List Str->List Value->Prop
 |[],vs=>vs=[]
 |c::cs,vs=>∃C r,vs=.ref C::r/\ClsAt K c C/\NsV K cs r
theorem NsV.nil:NsV K [] []:=rfl
theorem NsV.cons(h:PySem.W.nsIn K mainGlobals c=some (some (.ref C)))(r:NsV K cs vs):NsV K (c::cs) (.ref C::vs):=⟨C,vs,rfl,h,r⟩
theorem NsV.one:∀{cs:List Str} {vs:List Value} {Es:List Addr},NsV K cs vs->NsL K cs Es->Es.map Value.ref=vs
 |[],_,_,h,h'=>by rw[show _=[] from h,show _=[] from h'];rfl
 |_::_,_,_,⟨C,r,e,h,t⟩,⟨C',r',e',h',t'⟩=>by
  obtain rfl:=Ez h h';rw[e,e',AAW,NsV.one t t']
theorem tbT_mk(a:PySem.W.nsIn K mainGlobals c=some (some (.ref C)))(l:NsV K cs vs)(f:Ea K C)(k:PySem.W.kitAny K (.ref C) vs=some b):∀Es,NsL K cs Es->Tb K [(c,b)] (Es.map Value.ref):=λEs h=>by
 rw[NsV.one l h];exact tb_mk a f k
end
noncomputable def isS:D->Bool
 | .str _=>true
 |_=>false
noncomputable def a7:D->Bool
 | .non | .bl _ | .int _ | .str _ | .tup _ | .lst _=>true
 |_=>false
noncomputable def eqS(y:D)(v:Value):Bool:=match v,y with
 | .str x _,.str a=>x==a
 |_,_=>false
noncomputable def Sr(y d:D):M D:=bnd (ES d) λds=>λZ=>if ds.all isS=true/\a7 y=true then some (.bl (ds.any λz=>decide (z=y)),Z) else none
theorem LG:∀{ds:List D} {vs:List V} {us:List Value},IsL K Y k H ds vs->Vals vs us->ds.all isS=true->us.any (eqS y)=ds.any (λz=>decide (z=y))/\∀v∈us,∃x t,v=.str x t
 |[],_,_,h,r,_=>by
  unfold Mi.IsL at h;subst h;cases r;exact⟨rfl,λv hv=>nomatch hv⟩
 |d::ds,_,_,h,r,ha=>by
  unfold Mi.IsL at h;obtain⟨v,vs',rfl,h1,h2⟩:=h;rw[List.all_cons,Bool.and_eq_true] at ha;cases r with
  |cons r1 r2=>
   obtain⟨e,m⟩:=LG h2 r2 ha.2;cases d with
   |str x=>
    unfold Is at h1;subst h1;obtain⟨t,rfl⟩:=r1;refine⟨?_,λv hv=>(AAJ.mp hv).elim (λz=>⟨x,t,z⟩) (m v)⟩;rw[List.any_cons,List.any_cons,e];congr 1;cases y with
    |str a=>
     show (x==a)=decide (D.str x=D.str a);by_cases hx:x=a
     ·rw[hx,AAO rfl];exact beq_self_eq_true a
     ·rw[AAc.mpr hx,AAN λz=>hx (by cases z;rfl)]
    |_=>rfl
   |_=>cases ha.1
theorem TJ(hu:A.units<cLine)(I:Inv X w6 O H s)(iy:Is X.kw Y k H y v)(r:RelV v u)(hy:a7 y=true)(hw:∃x t,w=.str x t):SeqAt.EqAt A s w u (eqS y w):=by
 obtain⟨x,t,rfl⟩:=hw;cases y with
 |non=>unfold Is at iy;subst iy;cases r;exact SeqAt.EqAt.str_none x t
 |bl b=>unfold Is at iy;subst iy;cases r;exact SeqAt.EqAt.str_bool x t b
 |int i=>unfold Is at iy;subst iy;obtain⟨t',rfl⟩:=r;exact SeqAt.EqAt.str_int x t i t'
 |str a=>unfold Is at iy;subst iy;obtain⟨t',rfl⟩:=r;exact SeqAt.EqAt.str_str x t a t'
 |tup ds=>
  unfold Is at iy;obtain⟨p,vs,rfl,h1,_⟩:=iy;cases r;obtain⟨its,_,pl,_⟩:=I.tuple h1;exact SeqAt.EqAt.str_tuple x t pl hu
 |lst ds=>
  unfold Is at iy;obtain⟨p,vs,rfl,h1,_⟩:=iy;cases r;obtain⟨its,_,pl,_⟩:=I.list (SqL.of h1);exact SeqAt.EqAt.str_list x t pl.isList hu
 |_=>cases hy
theorem SN(hr:Room k X.A):OpR X (compareOp .In) (rM X.kw Sr):=λw6 s O H x y v u Q I rx ry h=>by
 obtain⟨Y,Z,a,b,d,Z',R,ia,ib,e,q⟩:=h;obtain⟨ds,w9,e1,e2⟩:=AH e;obtain⟨hm,p,vs,rfl,h1,h2⟩:=El R ib e1;subst hm;split at e2
 ·rename_i hz;cases e2;cases ry;have hu:X.A.in1.units<cLine:=AAo (Nat.le_add_right _ 8) (Zm hr);rcases h1 with h1|h1
  ·obtain⟨its,rv,pl,_⟩:=I.list h1;obtain⟨e3,hm⟩:=LG (y:=a) h2 rv hz.1;refine PySem.SeqAt.in_listAt (eqS a) pl.isList (λw hw=>TJ hu I ia rx hz.2 (hm w (by simpa using hw))) ⟨.bl _,H,I,rfl,?_⟩;rw[show its.toArray.any (eqS a)=its.any (eqS a) by simp,e3];exact q Y H R.ext0 R _ (ofB _)
  ·obtain⟨its,rv,pl,_⟩:=I.tuple h1;obtain⟨e3,hm⟩:=LG (y:=a) h2 rv hz.1;refine PySem.SeqAt.in_tupleAt (eqS a) pl (λw hw=>TJ hu I ia rx hz.2 (hm w (by simpa using hw))) ⟨.bl _,H,I,rfl,?_⟩;rw[show its.toArray.any (eqS a)=its.any (eqS a) by simp,e3];exact q Y H R.ext0 R _ (ofB _)
 ·cases e2
end Xc
namespace L2
open PySem PySem.Spec PyProof.Rows
section
variable{X:Cx}{scope:Scope}{tgs:List Str}{ix:List Nat}
noncomputable def LZ(P:Program)(w:World)(A:Around):Option Expr->Env->(Bool->Shared->Prop)->(Value->Shared->Prop)->Shared->Prop
 |none,_,Q,_,s=>Q true s
 |some c,env,Q,E,s=>wpAny (model P w) A (isTrue c env (eval c env)) Q E s
theorem Qt:∀{co:Option Expr},LZ P w A co env Q (λ_ _=>False) s->(∀b s,Q b s->Q' b s)->LZ P w A co env Q' E s
 |none,h,k=>k _ _ h
 |some _,h,k=>Nn h k
def W4(P:Program)(w:World)(A:Around)(tg elt:Expr)(co:Option Expr)(it acc:Value)(env:Env)(R:Result->Shared->Prop)(G:Shared->Prop)(r:Option Value)(s1:Shared):Prop:=match r with
 |none=>R (.ok .next) s1
 |some v=>wpAny (model P w) A (letOwnedTupleGo tg it v) (λ_ s0=>wpAny (model P w) A (assign tg env v) (λ_ s2=>
   LZ P w A co env (λok s3=>if ok=true then wpAny (model P w) A (eval elt env) (λx s4=>wpAny (model P w) A (call (.builtin "list.append") [acc,x]) (λ_ s5=>G s5) (notedBy (model P w) A env λe s'=>R (.error e) s') s4) (notedBy (model P w) A env λe s'=>R (.error e) s') s3 else G s3)
    (notedBy (model P w) A env λe s'=>R (.error e) s') s2) (notedBy (model P w) A env λe s'=>R (.error e) s') s0) (notedBy (model P w) A env λe s'=>R (.error e) s') s1
theorem SZ(I:Nat->Shared->Prop):∀(co:Option Expr),
  (∀n s,I n s->wpAny (model P w) A (pyNext it) (W4 P w A tg elt co it acc env R λs5=>∃m,m<n/\I m s5) (notedBy (model P w) A env λe s'=>R (.error e) s') s)->∀n,I n s->
  codeAny (model P w) A (.compLoop (.ListComp elt [⟨tg,iter,co.toList,0⟩] scope pos) 0 it acc env) R s
 |none,turn,n,h=>PySem.W.kcp_loop I (λn s hI=>AAg (turn n s hI) (λr s1 q=>match r,q with
   |none,q=>q
   |some v,q=>AAg q (λ_ _ q=>AAg q (λ_ _ q=>by
     have q':=q;dsimp only[LZ] at q';rw[if_pos rfl] at q';exact q') λ_ _ x=>x) λ_ _ x=>x) λ_ _ x=>x) n h
 |some c,turn,n,h=>PySem.W.kct_loop I (λn s hI=>AAg (turn n s hI) (λr s1 q=>match r,q with
   |none,q=>q
   |some v,q=>q) λ_ _ x=>x) n h
def Qe(X:Cx)(co:Option Expr)(tc:TT):Prop:=
 ∀(w6:List (Addr×Obj)) (s:Shared) (O:St) (H:Hp) (Q:Bool->Hp->Prop),Inv X w6 O H s->tc O H Q->LZ X.prog X.w X.A co X.env (TP X w6 O Q) X.xe s
theorem MK:∀{is:List Nat},(∀i∈is,i<n)->∀vs O H (Q:St->Hp->Prop),Mi.Fp is vs O H Q->Mi.Fp is vs O H λk9 H2=>Q k9 H2/\k9.length=O.length/\k9.drop n=O.drop n
 |[],_,vs,O,H,Q,h=>⟨h.1,h.2,rfl,rfl⟩
 |i::is,hi,vs,O,H,Q,h=>by
  obtain⟨v,vr,rfl,h⟩:=h;refine⟨v,vr,rfl,?_⟩;have z:=MK (is:=is) (λj hj=>hi j (AAQ _ hj)) vr _ H Q h;have e1:(O.set i (some v)).length=O.length:=by simp
  have e2:(O.set i (some v)).drop n=O.drop n:=by rw[List.drop_set_of_lt (hi i (by simp))]
  rw[e1,e2] at z;exact z
theorem Yh{n k:Nat}{K:PySem.W.Frag}(h:∀i∈is,i<n):GK n (Ve K k (Mi.Fp is)):=λx O H Q q=>by
 obtain⟨a,xs,e,h1,h2,h3⟩:=q;exact⟨a,xs,e,h1,h2,MK h _ _ _ _ h3⟩
theorem Hv{elt tg iter:Expr}{co:Option Expr}{pos:Pos}{g:TG}{tc:TT}{te:TE}{w6:List (Addr×Obj)}{fp:List Addr}{tn:Nat->Heap->Prop}{J:It}{Q:VK}
  (S:BScope X scope tgs ix) (hc:X.calm=true) (hg:∀fp C s H,PG (cxB X scope tgs fp C s H) tg g) (hgk:GK tgs.length g) (hi:∀fp C s H,Qe (cxB X scope tgs fp C s H) co tc) (he:∀fp C s H,PE (cxB X scope tgs fp C s H) elt te)
  (I2:Inv X w6 O H2 s2) (T:Jl X.prog X.w X.kw tg J fp it tn) (t0:tn 0 s2.heap) (hf:∀b∈fp,Fy X w6 H2 b)
  (W:Nat->Nat->List V->Hp->Prop) (w0:∃m,W 0 m [] H2)
  (turn:∀i m ys H,W i m ys H->(J.stop i H/\ys.length<=sizeLine/\∀p,H p=none->Q (.ref p) (upd H p (.lst ys))) ∨
   (J.go i H/\ys.length<sizeLine/\∃N:List V->Hp->Prop,(∀ys' H',N ys' H'->∃m',m'<m/\W (i+1) m' ys' H')/\∀x H',J.yld i H x H'->g x (DI tgs ix O) H' λk9 H2=>tc k9 H2 λb H3=>
    if b=true then te k9 H3 λv H4=>N (ys++[v]) H4 else N ys H3))
  {RR:Value->Addr->Result->Shared->Prop}
  (fin:∀(D C:Addr) (s':Shared) (H':Hp) (m:Str->Option Value),Inv X w6 O H' s'->Q (.ref D) H'->s'.heap.Ns C m->Fy X w6 H' C->RR (.ref D) C (.ok .next) s') :
  wpAny (model X.prog X.w) X.A (newList []) (λacc s₃=>wpAny (model X.prog X.w) X.A (newFunctionEnv scope X.env.globals (Fw X.env scope.names []) [] X.env.qual none .none (some X.env)) (λcenv s₄=>
   codeAny (model X.prog X.w) X.A (.compStart (.ListComp elt [⟨tg,iter,co.toList,0⟩] scope pos) 0 (.ref it) acc { cenv with scope:=relabel scope X.env }) (RR acc cenv.locals) s₄) X.xe s₃) X.xe s2:=by
 refine AAn (wpAny_newFunctionEnv S.nocell (by intro y hy;simp at hy) (λh₁ hns₁ hsb₁=>?_) S.kind);dsimp only at hns₁ hsb₁ ⊢;generalize hH2:s2.heap.push { cls:=.type "list",dict:=none,data:=.seq ([]:List Value).toArray }=G2 at hns₁ hsb₁ ⊢;have hC:G2.objs.size=s2.heap.objs.size+1:=by rw[←hH2,Heap.size_push]
 have hCle:s2.heap.objs.size<=G2.objs.size:=by rw[hC];exact Nat.le_succ _
 have hDC:s2.heap.objs.size≠G2.objs.size:=by rw[hC];exact AAb (Nat.lt_succ_self _)
 have below:∀b,b<s2.heap.objs.size->b≠G2.objs.size/\b≠s2.heap.objs.size:=λb hb=>⟨by rw[hC];exact AAb (AAe hb),AAb hb⟩;have old:∀b o,s2.heap.get? b=some o->h₁.get? b=some o:=λb o e=>hsb₁.extBut b o (below b (Heap.lt_size e)).1 (AAC _ (hH2 ▸ AAC _ e));have hacc:h₁.get? s2.heap.objs.size=some (K6 [] 0):=hsb₁.extBut _ _ hDC (AAC _ (hH2 ▸ AAD _ rfl));have hfo:∀b∈fp,b<s2.heap.objs.size:=λb hb=>let ⟨o,e,_⟩:=T.obj 0 _ t0 b hb;Heap.lt_size e
 have ok:=TN (tgs:=tgs) (ix:=ix) (C:=G2.objs.size) S I2 hf hfo hCle;have sub:∀x c,(Fw X.env scope.names []).lookup x=some c->X.env.cells.lookup x=some c:=Fv scope.names [] (λ_ _ z=>by simp at z);have nDfs:s2.heap.objs.size∉frs X.stack:=λhz=>by
  rcases AAJ.mp (I2.stkSub _ hz) with z|z
  ·exact absurd I2.lt (by rw[←z];exact AAv _)
  ·exact I2.nofs (AAF _) z
 have nDcell:∀x c,(Fw X.env scope.names []).lookup x=some c->c≠s2.heap.objs.size:=λx c e=>AAb (I2.cellLt (sub x c e));have ncell:∀(its:List Value) (k:Nat) (v:Option Value),(K6 its k).data≠.cell v:=λits k v z=>by cases z
 have stat:∀{Hx:Hp} {o:Obj},(∀b∈fp,Hx b=none)->∀b∈fp,Fy (cxB X scope tgs fp G2.objs.size s2 H2) [(s2.heap.objs.size,o)] Hx b:=λ{Hx o} hn b hb=>
  ⟨hn b hb,(ok.exf b hb).1,ok.exfs b hb,.inl hb,(ok.exf b hb).2,λp hp z=>by
   have e:p=(s2.heap.objs.size,o):=by simpa[cxB] using hp
   subst e;exact absurd (hfo b hb) (by rw[←z];exact AAv _)⟩
 have loop:∀s₃:Shared,s₃={ s2 with heap:=h₁,toks:=s2.toks+([]:List (Str×Value)).length }->
   codeAny (model X.prog X.w) X.A (.compLoop (.ListComp elt [⟨tg,iter,co.toList,0⟩] scope pos) 0 (.ref it) (.ref s2.heap.objs.size) (compEnvC scope (Fw X.env scope.names []) G2.objs.size X.env)) (RR (.ref s2.heap.objs.size) G2.objs.size) s₃:=by
  rintro s₃ rfl;obtain⟨m0,w0⟩:=w0;refine SZ (λn s=>∃i ys its k H,Inv (cxB X scope tgs fp G2.objs.size s2 H2) [(s2.heap.objs.size,K6 its k)] (DI tgs ix O) H s/\tn i s.heap/\(∀b∈fp,H b=none)/\Vals ys its/\W i n ys H) co ?_ m0
   ⟨0,[],[],0,H2,NZ S I2 hf hfo hCle (AAF _) hDC hns₁ old rfl rfl hacc (ncell _ _),T.keep 0 _ _ t0 λb _ o e=>old b o e,λb hb=>(hf b hb).1,.nil,w0⟩
  rintro n s ⟨i,ys,its,k,H,I,st,fr,rv,w⟩;rcases turn i n ys H w with ⟨stop,hz,q⟩|⟨go,hz8,N,hN,step⟩
  ·refine thn (T.done (cxB X scope tgs fp G2.objs.size s2 H2) rfl rfl rfl hc i _ s _ H _ I (stat fr) st stop) λr s1 ⟨hr,I1⟩=>?_;subst hr;obtain⟨pe,pn,_⟩:=I1.pin (s2.heap.objs.size,K6 its k) (AAY _ (by simp));have J0:Inv X w6 O H s1:=I2.call' I1.os I1.base I1.hok I1.bare λb hb=>⟨(hf b hb).2.2.2.1,(hf b hb).2.1,(hf b hb).2.2.2.2.1,(hf b hb).2.2.2.2.2⟩;have J1:Inv X w6 O (upd H s2.heap.objs.size (.lst ys)) s1:=J0.track (I2.fpOk (AAF _) pn) ⟨hz,its,k,rv,pe⟩;obtain⟨m,hn,_⟩:=I1.loc;exact fin _ _ s1 _ m J1 (q _ pn) hn (I2.fpOk hCle (by rw[Aw (Ne.symm hDC)];exact I1.free))
  ·refine thn (T.item (cxB X scope tgs fp G2.objs.size s2 H2) rfl rfl rfl hc i _ s _ H _ I (stat fr) st go) λr s1 ⟨u,hr,h1⟩=>?_;subst hr;refine thn h1 λ_ s5 ⟨x,H5,I5,r5,y5,st5,fr5⟩=>?_;have I5':=I5.pinned (stat fr5) (T.obj _ _ st5);refine Nn (hg fp G2.objs.size s2 H2 _ s5 _ H5 x u _ I5' r5 (hgk _ _ _ _ (step x H5 y5))) λ_ s6 ⟨m6,H6,I6,q6,l6,d6⟩=>?_;refine Qt (hi fp G2.objs.size s2 H2 _ s6 m6 H6 _ I6 q6) λokb s7 ⟨H7,I7,q7⟩=>?_;cases okb with
   |false=>
    rw[if_neg AAd] at q7 ⊢;obtain⟨m',hm,w7⟩:=hN _ _ q7;refine⟨m',hm,i+1,ys,its,k,H7,V7 I7.unpinned l6 d6,T.keep _ _ _ st5 λb hb o e=>(I7.pin (b,o) (AAY _ (AAY _ (CQ hb e)))).1,λb hb=>?_,rv,w7⟩;obtain⟨o,e,_⟩:=T.obj _ _ st5 b hb;exact(I7.pin (b,o) (AAY _ (AAY _ (CQ hb e)))).2.1
   |true=>
    rw[if_pos rfl] at q7 ⊢;refine Nn (he fp G2.objs.size s2 H2 _ s7 m6 H7 _ I7 q7) λxv s8 ⟨v,H8,I8,rv8,q8⟩=>?_;obtain⟨m',hm,w8⟩:=hN _ _ q8;obtain⟨pe,pn,_⟩:=I8.pin (s2.heap.objs.size,K6 its k) (AAY _ (AAZ _ (by simp)));have hlen:=rv.length;refine call_meets PySem.F.slot_list_append ⟨_,pe,rfl⟩ PySem.F.entry_list_append (PySem.F.args_list_append_2 _ _) (PySem.list_append s2.heap.objs.size its.toArray k xv (by rw[List.size_toArray];omega)) ⟨pe,?_⟩;have hp:its.toArray.push xv=(its++[xv]).toArray:=by simp
    have q':∃k',(s8.heap.update s2.heap.objs.size (Obj.mapSeq (λa=>a.push xv))).get? s2.heap.objs.size=some (K6 (its++[xv]) k'):=⟨_,by
     unfold K6;rw[←hp];exact PySem.IsL.update pe (λa=>a.push xv)⟩
    obtain⟨k',q'⟩:=q';have I9:Inv (cxB X scope tgs fp G2.objs.size s2 H2) [] m6 H8 { s8 with heap:=s8.heap.update s2.heap.objs.size (Obj.mapSeq (λa=>a.push xv)) }:=
     (I8.pins_of (pins':=[]) (λp hp=>absurd hp (by simp))).turned (t':=s8.toks) (λb o hb e=>(Heap.get?_update_other s8.heap (Obj.mapSeq (λa=>a.push xv)) (Ne.symm hb)).trans e) pn hDC (.inr (AAF _)) nDcell (λp hp=>absurd hp (by simp[cxB]))
    have I10:Inv (cxB X scope tgs fp G2.objs.size s2 H2) [(s2.heap.objs.size,K6 (its++[xv]) k')] m6 H8 { s8 with heap:=s8.heap.update s2.heap.objs.size (Obj.mapSeq (λa=>a.push xv)) }:=
     I9.pins_of λp hp=>by
      have e:p=(s2.heap.objs.size,K6 (its++[xv]) k'):=by simpa using hp
      subst e;exact⟨q',pn,hDC,nDfs,ncell _ _⟩
    refine⟨m',hm,i+1,ys++[v],its++[xv],k',H8,V7 I10 l6 d6,T.keep _ _ _ st5 λb hb o e=>?_,λb hb=>?_,rv.append (.cons rv8 .nil),w8⟩
    ·exact(Heap.get?_update_other s8.heap (Obj.mapSeq (λa=>a.push xv)) (Ne.symm (below b (hfo b hb)).2)).trans (I8.pin (b,o) (AAY _ (AAY _ (CQ hb e)))).1
    ·obtain⟨o,e,_⟩:=T.obj _ _ st5 b hb;exact(I8.pin (b,o) (AAY _ (AAY _ (CQ hb e)))).2.1
 exact codeAny_compStart_list (loop _ rfl) (T.self _ 0 _ _ _ (T.keep 0 _ _ t0 λb _ o e=>old b o e) (loop _ rfl))
theorem SG{elt tg iter:Expr}(co:Option Expr){pos:Pos}{wi:TI}{tc:TT}{te:TE}(S:BScope X scope tgs ix)(hc:X.calm=true)(hi:PI X tg iter wi)(hg:∀fp C s H,PG (cxB X scope tgs fp C s H) tg g)(hgk:GK tgs.length g)
  (hif:∀fp C s H,Qe (cxB X scope tgs fp C s H) co tc) (he:∀fp C s H,PE (cxB X scope tgs fp C s H) elt te) (hs:∀x,foldedSetIterable iter X.env x=pure x:=by intro _;rfl) :
  PE X (.ListComp elt [⟨tg,iter,co.toList,0⟩] scope pos) (Q1 tgs ix wi g tc te):=by
 intro w6 s O H Q I h;rw[eval_ListComp];refine wpAny_comprehension_free (use:=none) rfl hs (Ej (S.cells I.ok)) S.kind S.loc ?_;show wpAny _ _ (eval iter X.env) _ _ s;refine thn (hi w6 s O H _ I h) λv s1 h1=>thn h1 λitv s2 h2=>?_;obtain⟨it,fp,tn,J,H2,e,I2,T,t0,f2,W,w0,turn⟩:=h2;subst e;refine Hv (RR:=λacc C=>compPost (model X.prog X.w) X.A X.xe none (EP X w6 O Q) acc C) S hc hg hgk hif he I2 T t0 f2 W w0 turn ?_;intro D C s' H' m J1 q hn fC;obtain⟨f0,f1,f2,f3,f4,f5⟩:=fC;exact⟨m,hn,λh' sb=>⟨.ref D,H',J1.turned (t':=s'.toks) (λb o hb e=>(sb.2 b hb).trans e) f0 f1 f3 f4 f5,rfl,q⟩⟩
end
end L2
namespace Mi
open PySem L2
section
variable{X:Cx}
theorem A1{K:KW}:Qe X none (tT K BH):=λw6 s O H Q I h=>by
 obtain⟨Y,Z,B,b,Z',R,S,e,q⟩:=h;cases e;exact⟨H,I,q Y H R.ext0 R⟩
theorem Io{c:Expr}{mc:Sl->M Bool}(h:RT X c mc):Qe X (some c) (tT X.kw mc):=λw6 s O H Q I hq=>h.pe w6 s O H Q I hq
theorem W8{K:KW}{is:List Nat}{v:V}{O:St}{H:Hp}{Q:St->Hp->Prop}(h:tG K (Dh is) v O H Q):Ve K is.length (Fp is) v O H Q:=by
 obtain⟨Y,Z,B,d,B',Z',R,S,i1,e,q⟩:=h;cases d with
 |tup ds=>
  unfold Is at i1;obtain⟨p,vs,rfl,h1,h2⟩:=i1;have e':(if ds.length=is.length then E8 is ds B else BD) Z=some (B',Z'):=e;by_cases hl:ds.length=is.length
  ·rw[if_pos hl] at e';refine⟨p,vs,rfl,h1,by rw[h2.length,hl],HU R S h2 e' λz v7 S'=>?_⟩;subst z;exact q Y H R.ext0 R v7 S'
  ·rw[if_neg hl] at e';cases e'
 |_=>cases e
theorem Vz{is:List Nat}(d:D)(B B':Sl)(Z Z':Mh)(e:Dh is d B Z=some (B',Z')):Z'=Z:=by
 cases d with
 |tup ds=>
  have e':(if ds.length=is.length then E8 is ds B else BD) Z=some (B',Z'):=e;by_cases hl:ds.length=is.length
  ·rw[if_pos hl] at e';exact Ke e'
  ·rw[if_neg hl] at e';cases e'
 |_=>cases e
end
end Mi
namespace K4
open PySem L2 Mi K1 Xc
noncomputable def CB(cq:List D->M D)(cr:List D->M D)(cm:List D->M D):Sl->M (Fl×Sl):=
  (AO (sIf (mOr (AS (mOp NC (AD 1) (mC (.int 1)))) (mOr (Ce (AS (AG Hn (AB (AD 0) (AB (mC (.ty "tuple")) AI))))) (AS (mOp BO (AG Bc (AB (AD 0) AI)) (mC (.int 0)))))) (Ao (mC (.bl false))) A6)
  (AO (AX (mOp AM (AD 0) (mC (.int 0))) (AK 2))
  (AO (sIf (AS (mOp Sr (AD 2) (mC Ci))) (Ao (Dy (mOp BO (AG Bc (AB (AD 0) AI)) (mC (.int 3))) (Dy (AG cq (AB (mOp AM (AD 0) (mC (.int 1))) (AB (mOp Bq (AD 1) (mC (.int 1))) AI))) (AG cq (AB (mOp AM (AD 0) (mC (.int 2))) (AB (mOp Bq (AD 1) (mC (.int 1))) AI)))))) A6)
  (AO (sIf (AS (mOp Dd (AG Bc (AB (AD 0) AI)) (mC (.int 2)))) (Ao (mC (.bl false))) A6)
  (AO (sIf (AS (mOp BO (AD 2) (mC (.str "num")))) (Ao (AG cr (AB (mOp AM (AD 0) (mC (.int 1))) (AB (mC (.int 0)) (AB (mC DL) AI))))) A6)
  (AO (sIf (AS (mOp BO (AD 2) (mC (.str "var")))) (Ao (AG cm (AB (mOp AM (AD 0) (mC (.int 1))) AI))) A6)
  (Ao (Dy (mOp BO (AD 2) (mC (.str "not"))) (AG cq (AB (mOp AM (AD 0) (mC (.int 1))) (AB (mOp Bq (AD 1) (mC (.int 1))) AI)))))))))))
noncomputable def Ee(cq:List D->M D)(cr:List D->M D)(cm:List D->M D):Sl->M (Fl×Sl):=
  (AO (sIf (AS (mOp BO (AD 0) (mC (.str "expression")))) (Ao (AG cq (AB (AD 1) (AB (mC Dj) AI)))) A6)
  (AO (sIf (AS (mOp BO (AD 0) (mC (.str "target")))) (Ao (AG cr (AB (AD 1) (AB (mC (.int 0)) (AB (AD 2) AI))))) A6)
  (Ao (AG cm (AB (AD 1) AI)))))
noncomputable def Gr  : Sl->M (Fl×Sl):=
  (sIf (Ce (AS (AD 0))) (GQ "NoMaking" (AB (AD 1) AI)) A6)
noncomputable def CC(LE:List D->M Dx)(cr:List D->M D):Sl->M (Fl×Sl):=
  (AO (Am (Ad LE (AB (mOp Sr (AD 0) (mC GA)) (AB (mC (.str "a kind is safe, steady or whole")) AI))))
  (AO (Am (Ad LE (AB (AG cr (AB (AD 1) (AB (mC Ck) (AB (mC C9) AI)))) (AB (mC (.str "a size is a whole number from 2 to 10")) AI))))
  (Am (Ad LE (AB (AG cr (AB (AD 2) (AB (mC (.int 0)) (AB (mOp Bq (AD 1) (mC (.int 1))) AI)))) (AB (mC (.str "a begin is a worth of its box")) AI))))))
noncomputable def CV(LE:List D->M Dx)(OR:List D->M D)(cm:List D->M D)(cw:List D->M Dx)(cu:List D->M D):Sl->M (Fl×Sl):=
  (AO (Am (Ad LE (AB (AG OR (AB (AD 0) (AB (mC (.int 0)) (AB (mC B9) AI)))) (AB (mC (.str "boxes are a tuple of at most six")) AI))))
  (AO (B3 (BC (AD 0)) (AK 1) (AO (Am (Ad LE (AB (AG OR (AB (AD 1) (AB (mC (.int 5)) (AB (mC (.int 5)) AI)))) (AB (mC (.str "a box is a tuple of five parts")) AI))))
  (AO (Am (Ad LE (AB (AG cm (AB (mOp AM (AD 1) (mC (.int 0))) AI)) (AB (mC (.str "a box has a name")) AI))))
  (Am (Ad cw (AB (mOp AM (AD 1) (mC (.int 1))) (AB (mOp AM (AD 1) (mC (.int 2))) (AB (mOp AM (AD 1) (mC (.int 3))) AI))))))))
  (Am (Ad LE (AB (AG cu (AB (A7 1 [] (BC (AD 0)) (AK 0) BH (mOp AM (AD 0) (mC (.int 0))) A0) AI)) (AB (mC (.str "two boxes have one name")) AI))))))
noncomputable def CU(LE:List D->M Dx)(OR:List D->M D)(cm:List D->M D)(cr:List D->M D)(cu:List D->M D):Sl->M (Fl×Sl):=
  (AO (Am (Ad LE (AB (AG OR (AB (AD 0) (AB (mC CK) (AB (mC Cj) AI)))) (AB (mC (.str "hands are a tuple of two to four")) AI))))
  (AO (B3 (BC (AD 0)) (AK 1) (AO (Am (Ad LE (AB (AG OR (AB (AD 1) (AB (mC (.int 3)) (AB (mC (.int 3)) AI)))) (AB (mC (.str "a hand is a tuple of three parts")) AI))))
  (AO (Am (Ad LE (AB (AG cm (AB (mOp AM (AD 1) (mC (.int 0))) AI)) (AB (mC (.str "a hand has a name")) AI))))
  (AO (Am (Ad LE (AB (AG cr (AB (mOp AM (AD 1) (mC (.int 1))) (AB (mC (.int 0)) (AB (mC CJ) AI)))) (AB (mC (.str "a told count is a whole number from 0 to 400")) AI))))
  (Am (Ad LE (AB (AG OR (AB (mOp AM (AD 1) (mC (.int 2))) (AB (mC (.int 0)) (AB (mC DA) AI)))) (AB (mC (.str "rows are a tuple of at most sixty")) AI))))))))
  (Am (Ad LE (AB (AG cu (AB (A7 1 [] (BC (AD 0)) (AK 0) BH (mOp AM (AD 0) (mC (.int 0))) A0) AI)) (AB (mC (.str "two hands have one name")) AI))))))
noncomputable def CF(LE:List D->M Dx):Sl->M (Fl×Sl):=
  (sIf (AS (AD 1)) (Am (Ad LE (AB (mOp Dd (AD 0) (mC (.str "tell"))) (AB (mC (.str "the writer tells nothing")) AI)))) (Am (Ad LE (AB (mOp Dd (AD 0) (mC (.str "done"))) (AB (mC (.str "a reader ends by telling")) AI)))))
noncomputable def Cq(LE:List D->M Dx)(OR:List D->M D)(dk:List D->M D):Sl->M (Fl×Sl):=
  (AO (Am (Ad LE (AB (AG OR (AB (AD 0) (AB (mC (.int 1)) (AB (mC (.int 3)) AI)))) (AB (mC (.str "a row is a tuple of one to three parts")) AI))))
  (AO (Am (Ad LE (AB (Dy (AG Hn (AB (mOp AM (AD 0) (mC (.int 0))) (AB (mC (.ty "str")) AI))) (mUn (YQ DZ) (mOp AM (AD 0) (mC (.int 0))))) (AB (mC (.str "a row begins with one of seven words")) AI))))
  (AO (AX (mUn (Os DZ) (mOp AM (AD 0) (mC (.int 0)))) (AK 2))
  (AO (Am (Ad LE (AB (mOp BO (AG Bc (AB (AD 0) AI)) (mOp Ah (mC (.int 1)) (AG Bc (AB (AD 2) AI)))) (AB (mC (.str "a row has the parts of its word")) AI))))
  (B3 (VJ (AB (AD 2) (AB (Cw (AD 0) (BV (mC (.int 1))) BJ) AI))) (Dh [3,4]) (Am (Ad LE (AB (AG dk (AB (AD 3) (AB (AD 4) (AB (AD 1) AI)))) (AB (WX [(mC (.str "a row has another thing than its ")),(aQ (AD 3))]) AI)))))))))
noncomputable def Bh(c6:List D->M D)(LE:List D->M Dx):Sl->M (Fl×Sl):=
  (AO (B3 (BC (AG c6 (AB (AD 0) AI))) (AK 2) (AO (Am (Ad LE (AB (mOp (NE true) (AD 2) (mC Bl)) (AB (mC (.str "a variable is called like a word of expressions")) AI))))
  (Am (Ad LE (AB (aP (AD 1) (mOp Dd (AD 2) (mC (.str "v")))) (AB (mC (.str "a reader has no variable v")) AI))))))
  (sIf (AS (mOp (NE false) (mOp AM (AD 0) (mC (.int 0))) (AG A4 (AB (mC (.str "get")) (AB (mC (.str "let")) AI))))) (Am (Ad LE (AB (mOp Dd (mOp AM (AD 0) (mC (.int 1))) (mC (.str "v"))) (AB (mC (.str "the variable v is set by no row")) AI)))) A6))
noncomputable def Co(dX:List D->M Dx)(dM:List D->M Dx)(dG:List D->M Dx)(LE:List D->M Dx):Sl->M (Fl×Sl):=
  (B3 (BC (mOp AM (AD 0) (mC (.int 2)))) (AK 3) (AO (Am (Ad dX (AB (AD 3) (AB (AG Bc (AB (mOp AM (AD 0) (mC (.int 2))) AI)) AI))))
  (AO (Am (Ad dM (AB (mOp AM (AD 3) (mC (.int 0))) (AB (AD 1) AI))))
  (AO (Am (Ad dG (AB (AD 3) (AB (AD 1) AI))))
  (AO (sIf (AS (mOp BO (mOp AM (AD 3) (mC (.int 0))) (mC (.str "put")))) (Am (Ad LE (AB (mOp BO (SY (AD 2) (mOp AM (AD 3) (mC (.int 1)))) (mOp AM (AD 0) (mC (.int 0)))) (AB (mC (.str "a hand puts a box that it does not write")) AI)))) A6)
  (sIf (AS (mOp BO (mOp AM (AD 3) (mC (.int 0))) (mC (.str "get")))) (Am (Ad LE (AB (mOp (QI false) (mOp AM (AD 3) (mC (.int 2))) (AD 2)) (AB (mC (.str "a hand gets a box that is none")) AI)))) A6))))))
noncomputable def CD(LE:List D->M Dx)(OR:List D->M D)(cw:List D->M Dx)(dU:List D->M Dx)(dW:List D->M Dx)(c9:List D->M Dx):Sl->M (Fl×Sl):=
  (AO (Am (Ad LE (AB (AG OR (AB (AD 0) (AB (mC (.int 5)) (AB (mC (.int 5)) AI)))) (AB (mC (.str "a making is a tuple of five parts")) AI))))
  (AO (Am (Ad cw (AB (mOp AM (AD 0) (mC (.int 0))) (AB (mOp AM (AD 0) (mC (.int 1))) (AB (mOp AM (AD 0) (mC (.int 2))) AI)))))
  (AO (Am (Ad dU (AB (mOp AM (AD 0) (mC (.int 3))) AI)))
  (AO (Am (Ad dW (AB (mOp AM (AD 0) (mC (.int 4))) AI)))
  (AO (AX (A7 1 [] (BC (mOp AM (AD 0) (mC (.int 4)))) (AK 0) BH (mOp AM (AD 0) (mC (.int 0))) A0) (AK 1))
  (AO (AX NN (AK 2))
  (AO (B3 (BC (mOp AM (AD 0) (mC (.int 3)))) (AK 3) (AO (Am (Ad LE (AB (mOp Sr (mOp AM (AD 3) (mC (.int 4))) (AD 1)) (AB (mC (.str "the hand of a box is none")) AI))))
  (Do (AD 2) (mOp AM (AD 3) (mC (.int 0))) (mOp AM (AD 3) (mC (.int 4))))))
  (B3 (Eu (AB (mOp AM (AD 0) (mC (.int 4))) AI)) (Dh [4,5]) (Am (Ad c9 (AB (AD 5) (AB (mOp BO (AD 4) (mC (.int 0))) (AB (AD 2) AI)))))))))))))
end K4
namespace Xc
open PySem L2 Mi
theorem Jj:entryFor table "proto.unchain" = some Builtin.«proto.unchain»:=by rfl
section
variable{P:Program}{w:World}{A:Around}{E:Value->Shared->Prop}{s:Shared}
theorem Mw(ho:s.heap.get? h=some oh)(hd:oh.data=.fields vs)(h2:vs[2]?=some .none)(q:Q .none s):wpAny (model P w) A (runValue (Code.builtin "proto.unchain" { pos:=[.ref e,.ref h,.ref h,.bool false] })) Q E s:=by
 refine wpAny_runValue (codeAny_builtin Jj ?_);show wpAny _ _ (Builtin.«proto.unchain» _) _ _ _;unfold Builtin.«proto.unchain»;refine AAA (AAs ho hd h2 ?_);rw[if_pos (by decide)];exact AAB q
theorem Nj(he:s.heap.get? e=some oe)(hd:oe.data=.fields vs)(h2:2<vs.size)(q:∀h',bD s.heap h' e 2 x->Q () { s with heap:=h' }):wpAny (model P w) A (updateField e 2 x) Q E s:=by
 have:updateField e 2 x=setField (.ref e) 2 x:=rfl;rw[this];exact F0 he hd h2 q
theorem M9(cd:Cd K d C)
  (hA:A.handled=some (.ref h))
  (hx:wpAny (model P w) A x (λv s1=>∃e oe vs oh v1,v=.ref e/\K.In s1.heap/\K.lookup e=none/\s1.heap.get? e=some oe/\oe.cls=.ref C/\oe.data=.fields vs/\vs.size=6/\vs[1]?=some .none/\e≠h/\s1.heap.get? h=some oh/\oh.data=.fields v1/\v1[2]?=some .none /\
   wpAny (model P w) A c (λu s2=>u=.none/\s2=s1/\∀h' o',(∀b,b≠e->h'.get? b=s1.heap.get? b)->h'.objs.size=s1.heap.objs.size->h'.get? e=some o'->o'.cls=oe.cls->o'.dict=oe.dict->(∃vs',o'.data=.fields vs'/\vs'[1]?=some .none)->E (.ref e) { s1 with heap:=h' }) E s1) E s) :
  wpAny (model P w) A (raiseStmt env (some x) (some c)) Q E s:=by
 unfold raiseStmt;refine AAA (AAg hx ?_ λ_ _ z=>z);rintro _ ⟨hh,gg,dr,tk,os⟩ ⟨e,oe,vs,oh,v1,rfl,KI,nk,he,hc,hd,h6,hv1,ne,ho,hd1,h2,hcz⟩;refine AAA (AAl (AAg hcz ?_ λ_ _ z=>z));rintro _ _ ⟨rfl,rfl,q⟩;refine AAA (AAB (AAA (AAl ?_)));unfold excFromValue isExcClass;refine AAA (AAA (ks_wpAny_isType_inst he (λc z=>by rw[hd] at z;cases z) ?_));rw[if_neg (by decide)];refine AAB ?_;rw[if_neg (by decide)];unfold isInstance;refine AAA (AAA (wpAny_typeOf_ref he ?_));rw[hc];refine(PySem.W.looks_subIn (M:=model P w) KI cd.ex).at ?_;rw[if_pos rfl];refine AAB ?_;dsimp only;rw[if_pos (by decide)];refine AAA (AAB (AAA (F0 he hd (by omega) λg1 s1=>?_)));obtain⟨o1,e1,c1,d1,w1⟩:=s1.self _ _ he hd;refine AAA (F0 e1 w1 (by simp;omega) λg2 s2=>?_);obtain⟨o2,e2,c2,d2,w2⟩:=s2.self _ _ e1 w1;have oth:∀b,b≠e->g2.get? b=hh.get? b:=λb hb=>(s2.other b hb).trans (s1.other b hb);have K2:K.In g2:=λb o z=>by
  have hb:b≠e:=λy=>by rw[y,nk] at z;cases z
  rw[oth b hb];exact KI b o z
 refine AAA (ks_wpAny_isType_inst e2 (λc z=>by rw[w2] at z;cases z) ?_);rw[if_neg (by decide)];unfold raisedInstance;refine AAA (AAA (wpAny_typeOf_ref e2 ?_));rw[c2,c1,hc];refine AAA ((PySem.W.looks_typeIn (M:=model P w) K2 cd.ty).at ?_);rw[if_pos (by decide)];refine AAB ?_;have hv2:((vs.setIfInBounds 3 Value.none).setIfInBounds 4 (.bool true))[1]?=some .none:=by
  rw[Array.getElem?_setIfInBounds_ne (by decide),Array.getElem?_setIfInBounds_ne (by decide)];exact hv1
 unfold setFlight;refine AAA (AAA (AAs e2 w2 hv2 ?_));rw[if_neg (by decide)];refine AAB ?_;unfold raiseNew;refine AAA (wpAny_handled ?_);rw[hA];dsimp only;rw[if_pos (by simp;exact Ne.symm ne)];refine AAA (AAl (Mw ((oth h (Ne.symm ne)).trans ho) hd1 h2 ?_));refine AAA (Nj e2 w2 (by simp;omega) λg3 s3=>?_);obtain⟨o3,e3,c3,d3,w3⟩:=s3.self _ _ e2 w2;refine wpAny_throw (q g3 o3 (λb hb=>(s3.other b hb).trans (oth b hb)) (s3.size.trans (s2.size.trans s1.size)) e3 (c3.trans (c2.trans c1)) (d3.trans (d2.trans d1)) ⟨_,w3,?_⟩);rw[Array.getElem?_setIfInBounds_ne (by decide)];exact hv2
end
noncomputable def Fa(mb:Sl->M (Fl×Sl))(ok:List Str)(c:Str):Sl->M (Fl×Sl):=λB=>bnd (mb B) λr=>match r.1 with
 | .xc x=>if x.1∈ok then ret (.xc (c,none),r.2) else BD
 |_=>ret r
section
variable{Y_:Cx}{body:List Stmt}{d x tx:Str}{Da C:Addr}{np np2 p1 p2 p3 p4 hpos pos:Pos}{k1 k3:Nat}{mb:Sl->M (Fl×Sl)}{ok:List Str}
theorem Tp(cd:Cd Y_.nox.K d Da)(hm:Y_.nox.mg d=some (.ref Da))(bl:Ms Y_.nox.K ok Da)(cl:Ec Y_.nox.K x C)(cx:Cd Y_.nox.K x C)(kp:PySem.W.keepIn Y_.nox.K (.ref C)=true)(hmx:Y_.nox.mg x=some (.ref C))(hb:XSs Y_.nox body mb)(pl:∀c∈ok,c∈plX:=by decide)(nx:x∉plX:=by decide)
  (hg:Gl Y_.nox d:=by rfl) (hgx:Gl Y_.nox x:=by rfl) (hdb:(d==("__debug__" : Str))=false:=by decide) (hdx:(x==("__debug__" : Str))=false:=by decide) (ow:Own Y_.nox:=by exact⟨rfl,rfl,rfl⟩) :
  XS Y_.nox (.Try body [.ExceptHandler (some (.Name d np)) none [.Raise (some (.Call (.Name x np2) [.Constant (.str tx) k1 p1] [] p2)) (some (.Constant .none k3 p3)) p4] hpos] [] [] pos) (Fa mb ok x):=⟨λw6 s O H Dn W I h0=>by
 obtain⟨Y,Z,B,f,B',Z',R,S,e0,q⟩:=h0;obtain⟨⟨f1,v9⟩,w9,e1,e2⟩:=AH e0
 let V:Exn->St->Hp->Prop:=λx j8 H1=>f1=.xc x/\∃v5,Ext Y Z.length H v5 w9.length H1/\RelH Y_.nox.kw v5 w9 H1/\RelS Y_.nox.kw v5 w9.length H1 v9 j8
 refine wpAny_Try_except (AAg (hb.pe w6 s O H Dn V I ⟨Y,Z,B,f1,v9,w9,R,S,e1,λv5 H1 E1 R1 j8 S1=>?_⟩) (λfl s1 q1=>?_) λe s1 z=>?_)
 ·cases f1 with
  |xc x=>exact⟨rfl,v5,E1,R1,S1⟩
  |next=>cases e2;exact q v5 H1 E1 R1 j8 S1
  |brk=>cases e2;exact q v5 H1 E1 R1 j8 S1
  |cont=>cases e2;exact q v5 H1 E1 R1 j8 S1
  |rt d=>cases e2;exact q v5 H1 E1 R1 j8 S1
 ·cases fl with
  |next=>exact wpAny_execs_nil q1
  |_=>exact q1
 ·obtain⟨y,a,j8,H1,rfl,l,rfl,v5,E1,R1,S1⟩:=z;have e2:(if y.1∈ok then ret (Fl.xc (x,none),v9) else BD) w9=some ((f,B'),Z'):=e2;by_cases hy:y.1∈ok
  ·rw[if_pos hy] at e2;cases e2;have q:=q v5 H1 E1 R1 j8 S1;refine Lies.note ow I.ok.frames l λh1 l1 ⟨C1,dx,T,hC,fl1⟩=>?_;refine Lies.flight ow l1 ⟨C1,dx,T,_,hC,fl1⟩ (.inl rfl) λh2 l2 ⟨C2,dx2,T2,hC2,fl2⟩=>?_;obtain⟨oe,vs,he,hc,_,hd,hv⟩:=id fl2.ob;refine wpAny_handleBy_cons (codeAny_handlers_test ?_) (by intro w;cases w);refine EF (X:=hnd Y_.nox (.ref a)) (Inv.hnd l2.inv (.ref a)) hg hm ?_ hdb;refine Iu (l2.inv.kIn) cd he hc (bl _ hy _ hC2) ?_;rw[if_pos rfl];refine codeAny_handlers_suite ?_;refine Lies.flight ow l2 ⟨C2,dx2,T2,_,hC2,fl2⟩ (.inl rfl) λh3 l3 ⟨C3,dx3,T3,hC3,fl3⟩=>?_;obtain⟨o3,v3,he3,hc3,_,hd3,_,h23⟩:=id fl3.ob;refine wpAny_execs_cons ?_;rw[arm_exec_Raise];refine AAA (wpAny_standAt ?_);refine M9 cx (h:=a) rfl ?_;refine AAA (wpAny_Call_Name_kw (EF (X:=hnd Y_.nox (.ref a)) (Inv.hnd l3.inv (.ref a)) hgx hmx ?_ hdx));have I3:=l3.inv;obtain⟨bm,N,nm,q',bs,hdct,sn,sub,ab,col,dd,j0,j1,j2,j3,j5,mN,hni,ob⟩:=cl.obj I3.kIn;refine PySem.W.callWith_K (h₀:=Y_.nox.base) I.ok.mod.kin kp ?_ (Ak rfl) (A5 rfl);show wpAny _ _ (spliced ((false,eval (.Constant (.str tx) k1 p1) Y_.nox.env)::backTo p2 (starEach [] Y_.nox.env))) _ _ _;refine Calls.spliced_cons (wpAny_Constant_str (Calls.spliced_nil ⟨I3.kIn,?_⟩));obtain⟨hC',hN,T'⟩:=ob _ I3.kIn;refine wpAny_call_exc_subT PySem.F.excBase_ValueError T' hC' hN hni (λh4 a2 hm4=>?_) (by simp[sizeLine]);refine AAA (wpAny_standAt (AAB ?_));obtain⟨t,g1,g2,g3⟩:=hm4.there;have new:h3.get? a2=none:=hm4.new;have ne:a2≠a:=λz=>by rw[z,he3] at new;cases new
   have nk:Y_.nox.K.lookup a2=none:=by
    cases z:Y_.nox.K.lookup a2 with
    |none=>rfl
    |some o=>rw[I3.kIn _ _ z] at new;cases new
   have I4:=I3.kept (t':=s1.toks+1) hm4.keeps;have hH:H1 a2=none:=by
    cases z:H1 a2 with
    |none=>rfl
    |some u=>
     obtain⟨o,w⟩:=Iq (I3.hok a2 u z);rw[new] at w;cases w
   have na:Nw Y_.nox w6 H1 a2:=Inv.nw I3 ow.2.2 new hH;have fl4:Fly h4 a2 (.ref C) none none .none (x∈plX):=⟨⟨_,_,g1,rfl,rfl,rfl,rfl,λ_=>rfl⟩,(λT z=>nomatch z)⟩;refine⟨a2,_,_,o3,v3,rfl,I4.kIn,nk,g1,rfl,rfl,rfl,rfl,ne,hm4.keeps _ _ he3,hd3,h23 (pl _ hy),AAA (wpAny_Constant_none (AAA (wpAny_standAt (AAB ⟨rfl,rfl,λh5 o5 oth sz e5 c5 d5 ⟨vs5,w5,n5⟩=>?_⟩))))⟩;have nf:=Gp I4.stack g1 rfl;have l5:Lies Y_.nox w6 (x,none) j8 H1 a2 { heap:=h5,gens:=s1.gens,drawn:=s1.drawn,toks:=s1.toks+1,os:=s1.os }:=by
    refine⟨Inv.left ow.2.2 I4 fl4 na (λT z=>nomatch z) ⟨λb o _ hb _ z=>(oth b hb).trans z,λb o hb z=>⟨o.slots,(oth b λy=>nf (y ▸ hb)).trans z⟩,λb o z=>?_⟩,C,none,none,.none,cl.at_,⟨⟨o5,vs5,e5,c5,d5,w5,n5,λz=>absurd z nx⟩,(λT z=>nomatch z)⟩,.inl rfl,na,(λT z=>nomatch z),rfl⟩;by_cases hb:b=a2
    ·exact⟨o5,by rw[hb];exact e5⟩
    ·exact⟨o,(oth b hb).trans z⟩
   refine Lies.note ow I.ok.frames l5 λh6 l6 ⟨C6,dx6,T6,hC6,fl6⟩=>?_;obtain⟨o6,v6,he6,_,_,hd6,h16,_⟩:=fl6.ob;show cameBackBy _ _ _ _ _ _;unfold cameBackBy;refine AAA (AAs he6 hd6 h16 ?_);rw[if_neg (by simp)];rw[ow.2.1];exact Lies.flight ow l6 ⟨C6,dx6,T6,_,hC6,fl6⟩ (.inr rfl) λh7 l7 _=>⟨(x,none),a2,j8,H1,rfl,l7,q⟩
  ·rw[if_neg hy] at e2;cases e2⟩
end
noncomputable def J2(i:Nat)(m:Sl->M Dx):Sl->M (Fl×Sl):=λB=>bnd (m B) λr=>match r with
 | .inl d=>ret (.next,B.set i (some d))
 | .inr x=>ret (.xc x,B)
section
variable{Y_:Cx}{e:Expr}{pos pos':Pos}{x:Str}
theorem Wj(i:Nat)(hN:Y_.nox.N.Nodup)(h:XE Y_.nox e m)(hi:Y_.nox.N[i]?=some x:=by rfl)(hx:Loc Y_.nox.env.scope x:=by first|exact Or.inl rfl|exact Or.inr rfl)(hs:swapsWith e (some (.Name x pos')) pos.line Y_.nox.env=pure false:=by rfl)
  (hf:Y_.nox.fn x=true∨Y_.nox.env.scope.names.lookup x=some .local:=by first|exact .inl rfl|exact .inr rfl):XS Y_.nox (.Assign [.Name x pos'] e pos) (J2 i m):=⟨λw6 s O H Dn W I h0=>by
 obtain⟨Y,Z,B,f,B',Z',R,S,e0,q⟩:=h0;obtain⟨r,w9,e1,e2⟩:=AH e0;refine wpAny_Assign_Name (thn (h.pe w6 s O H (λv H1=>Dn.nx (O.set i (some v)) H1) W I ⟨Y,Z,B,r,w9,R,S,e1,λv5 H1 E1 R1=>?_⟩) λv s1 ⟨y,H1,I1,r1,q1⟩=>?_) hs
 ·cases r with
  |inl d=>cases e2;exact λv iv=>q v5 H1 E1 R1 _ ((S.ext E1).set i iv)
  |inr x=>cases e2;exact q v5 H1 E1 R1 O (S.ext E1)
 ·exact Ge I1 hN hi hx r1 (λs2 I2=>⟨_,H1,I2,q1⟩) hf⟩
end
end Xc
namespace Mi
open PySem L2
noncomputable def WF(c f:Str)(mo:Sl->M D)(j:Int):Sl->M (Fl×Sl):=λB=>bnd (mo B) λx=>bnd (Mj c x) λr=>match r.2.lookup f with
 |some (.int i)=>λZ=>if r.2.length<1000 then some ((Fl.next,B),List.set Z r.1 (MO.ins c (Gn f (.int (i+j)) r.2))) else none
 |_=>BD
section
variable{X:Cx}{o:Expr}{pos tpos p:Pos}{c f:Str}{C:Addr}{k:Nat}{j:Int}
theorem XJ(ca:CA X.kw c C)(na:NoAttr X.kw C f)(ho:RE X o mo):RS X (.AugAssign (.Attribute o f tpos) .Add (.Constant (.int j) k p) pos) (WF c f mo j):=RS.wk (Pg ho.pe SB YZ) λDn O H h=>by
 obtain⟨Y,Z,B,fl,B',Z',R,S,ev,q⟩:=h;obtain⟨x,w9,e1,ee1⟩:=AH ev;obtain⟨r,u9,e2,e3⟩:=AH ee1;refine⟨Y,Z,B,x,w9,R,S,e1,λv5 H1 E1 R1 v1 i1=>?_⟩;obtain⟨hm,_,g1,rfl,C',dx,fs,g2,g3,g4,g5⟩:=D8 R1 i1 e2;subst hm;cases ca.at_.eq g3;cases hl:r.2.lookup f with
 |none=>rw[hl] at e3;cases e3
 |some x0=>
  rw[hl] at e3;cases x0 with
  |int i=>
   obtain⟨v,hv,iv⟩:=g5.lookup hl;cases Bj iv;have e3:(if r.2.length<1000 then some ((Fl.next,B),List.set u9 r.1 (MO.ins c (Gn f (.int (i+j)) r.2))) else none)=some ((fl,B'),Z'):=e3;split at e3
   ·rename_i h1;cases e3;have hlt:r.1<List.length u9:=(AAT.mp g1).1;obtain⟨E4,R4⟩:=R1.changed (m:=.ins c (Gn f (.int (i+j)) r.2)) (o:=.ins C dx (EN f (.int (i+j)) fs)) hlt ⟨C,dx,_,rfl,ca.at_,g4,FVs.put (ofI _) g5⟩;exact⟨_,C,dx,fs,_,rfl,g2,ca.cl,na,hv,i,j,rfl,rfl,dx,fs,g2,by rw[g5.len];exact h1,q v5 _ (E1.trans E4) R4 O (S.ext (E1.trans E4))⟩
   ·cases e3
  |_=>cases e3
end
end Mi
set_option maxHeartbeats 2000000
namespace Xt
open PySem PySem.Spec PyProof.Rows Sem L2 Ht
theorem HH:∀{vs us:List Value},vs.Perm us->∀{ks:List Str},StrsAre us ks->∃ms,StrsAre vs ms/\ms.Perm ks:=by
 intro vs us p
 induction p with
 |nil=>exact λh=>⟨_,h,.refl _⟩
 |cons x _ ih=>
  intro ks h;cases h with
  |cons y t h=>exact(ih h).elim λm z=>⟨y::m,.cons y t z.1,z.2.cons y⟩
 |swap x y l=>
  intro ks h;cases h with
  |cons a t h=>
   cases h with
   |cons b u h=>exact⟨_,.cons b u (.cons a t h),.swap a b _⟩
 |trans _ _ i1 i2=>
  intro ks h;obtain⟨m,a,b⟩:=i2 h;obtain⟨n,c,d⟩:=i1 a;exact⟨n,c,d.trans b⟩
theorem Q7(t:SetTable)(n:Nat):(t.orStandIn n).led=t.led:=by
 unfold SetTable.orStandIn SetTable.standIn;split<;>rfl
theorem M3(t:SetTable)(n:Nat)(h:t.plain=false):(t.orStandIn n).plain=false:=by
 unfold SetTable.orStandIn SetTable.standIn;split
 ·exact h
 ·rfl
theorem VN(t:SetTable)(es:Array (Int×Value))(h:Int)(x:Value):(layNew t es h x).2.1.led=t.led/\(t.plain=false->(layNew t es h x).2.1.plain=false):=by
 unfold layNew;split
 ·exact⟨Q7 _ _,λz=>M3 _ _ z⟩
 ·exact⟨rfl,λ_=>rfl⟩
theorem PZ(t:SetTable)(es:Array (Int×Value))(n:Nat):(relayAll t es n).2.1.led=t.led/\(t.plain=false->(relayAll t es n).2.1.plain=false):=by
 unfold relayAll;split
 ·rename_i t' order e;have f:t'.led=t.led/\t'.plain=t.plain:=by
   unfold SetTable.relaid SetTable.laid at e;simp only[Option.bind_eq_bind,Option.bind_eq_some_iff] at e;obtain⟨a,_,e⟩:=e;cases e;exact⟨rfl,rfl⟩
  dsimp only;split
  ·exact⟨f.1,λz=>f.2.trans z⟩
  ·exact⟨rfl,λ_=>rfl⟩
 ·exact⟨rfl,λ_=>rfl⟩
def SetT(prog:Program)(w:World)(h:Heap)(a:Addr)(ks:List Str):Prop:=
 ∃o es ep t,h.get? a=some o/\o.ExactSet/\o.data=.set es ep t/\ElemsOf (PySem.strKind prog w) es.toList/\(∃ns,StrsAre (es.toList.map (·.2)) ns/\ns.Perm ks)/\t.fits es.size=true/\t.led=!(w.params.followText "set-order")/\(es.size≠0->t.plain=false)
theorem SetT.at(z:SetT prog w h a ks)(k:∀o,h.get? a=some o->h'.get? a=some o):SetT prog w h' a ks:=by
 obtain⟨o,es,ep,t,e,rest⟩:=z;exact⟨o,es,ep,t,k o e,rest⟩
theorem Jq{l:Array (Int×Value)}(h:StrsAre (l.toList.map (·.2)) ns)(p:ns.Perm ks):l.size=ks.length:=by
 rw[←p.length_eq,←h.length,AAG,Array.length_toList]
theorem UB(prog:Program)(w:World):∀{l:List (Int×Value)},StrsAre (l.map (·.2)) ks->∀k:Str,(∃e∈l,(PySem.strKind prog w).is k e.2=true)↔k∈ks:=by
 intro l
 induction l generalizing ks with
 |nil=>intro h k;cases h;simp
 |cons e l ih=>
  intro h k;obtain⟨a,v⟩:=e;have h0:StrsAre (v::l.map (·.2)) _:=h;clear h;cases h0 with
  |cons y t h1=>
   have:=ih h1 k;have hy:(PySem.strKind prog w).is k (.str y t)=true↔k=y:=by
    rw[KeyKind.is_eq_decide (strKind_is prog w y t) k,decide_eq_true_iff]
   rw[AAJ,←this];constructor
   ·rintro⟨e,he,q⟩;rcases AAJ.mp he with rfl|he
    ·exact .inl (hy.mp q)
    ·exact .inr ⟨e,he,q⟩
   ·rintro(z|⟨e,he,q⟩)
    ·exact⟨_,AAP,hy.mpr z⟩
    ·exact⟨e,AAQ _ he,q⟩
section
variable{prog:Program}{w:World}{A:Around}{E:Value->Shared->Prop}{s:Shared}
set_option hygiene false in
local macro_rules | `(tactic| wtm_at "o")=>`(tactic| (
 refine AAA (wpAny_storeSet_of (s:={ s with toks:=s.toks+1 }) ho hd ?_ (by rw[sizeLine_eq];unfold scanBound at room;omega));have ho1:=Oy ho hd es1 t2;have sb1:=Heap.SameBut.update s.heap a (Obj.putSet es1 t2);by_cases hf:(!wd&&t2.tooFull)=true
 ·rw[if_pos hf];have rp:=relayAll_perm t2 es1 (SetTable.grown es1.size);have rf:=relayAll_fits t2 es1 (SetTable.grown es1.size);have rl:=PZ t2 es1 (SetTable.grown es1.size);generalize relayAll t2 es1 (SetTable.grown es1.size)=ry at rp rf rl;obtain⟨es3,t3,gv3⟩:=ry;dsimp only at rp rf rl ⊢;have s3:es3.size=es1.size:=by simpa using rp.length_eq
  cases gv3
  all_goals
   first
    |refine AAA (AAB ?_)
    |refine AAA (wpAny_rule ?_)
   refine AAA (wpAny_storeSet_of (s:={ s with heap:=s.heap.update a (Obj.putSet es1 t2),toks:=s.toks+1 }) ho1 rfl ?_ (by rw[sizeLine_eq];unfold scanBound at room;omega));exact AAB (AAB (wrap es3 t3 _ o _ _ (sb1.trans (Heap.SameBut.update _ a _)) (Oy ho1 rfl es3 t3) rp rf (rl.1.trans fl.2.1) (rl.2 fl.2.2)))
 ·rw[if_neg hf];exact AAB (AAB (wrap es1 t2 _ o _ _ sb1 ho1 (.refl _) fl.1 fl.2.1 fl.2.2))))
theorem RF(hS:SetT prog w s.heap a ks)(room:ks.length+1<scanBound)
  (q:∀b h' tk,Heap.SameBut a s.heap h'->SetT prog w h' a (if x∈ks then ks else ks++[x])->Q b { s with heap:=h',toks:=tk }) :
  wpAny (model prog w) A (setAdd a (.str x tk)) Q E s:=by
 obtain⟨o,es,ep,t,ho,hex,hd,hel,⟨ns,hen,hp⟩,hfit,hled,hpl⟩:=hS;have hsz:=Jq hen hp;have hb:es.size<scanBound:=by omega
 have kx:=strKind_is prog w x tk;unfold setAdd;refine AAl (AAA ((PySem.strKind prog w).pyHash kx ?_));unfold setAddHashed setAddHashedIn;refine AAl (AAA (AAf (s:={ s with toks:=s.toks+1 }) ho hd hfit ?_));dsimp only;rw[byScan_of (knd:=PySem.strKind prog w) rfl hb hel];simp only[↓reduceIte];unfold setAddByScan;refine AAA ?_;refine AAA (wpAny_rule ?_);refine AAA (wpAny_setScan_of (knd:=PySem.strKind prog w) (s:={ s with toks:=s.toks+1 }) kx ho hd hfit hel ?_);have mem:=UB prog w hen x;rw[hp.mem_iff] at mem;cases hr:List.findIdx? (λe=>(PySem.strKind prog w).is x e.2) es.toList with
 |some j=>
  dsimp only;obtain⟨hj,hpj,_⟩:=List.findIdx?_eq_some_iff_getElem.mp hr;rw[if_pos (mem.mp ⟨_,List.getElem_mem hj,hpj⟩)] at q;exact AAB (AAB (q _ s.heap _ (Heap.SameBut.refl a s.heap) ⟨o,es,ep,t,ho,hex,hd,hel,⟨ns,hen,hp⟩,hfit,hled,hpl⟩))
 |none=>
  dsimp only;have hm:x∉ks:=λz=>by
   obtain⟨e,he,hq⟩:=mem.mpr z;rw[List.findIdx?_eq_none_iff.mp hr e he] at hq;cases hq
  rw[if_neg hm] at q;have lp:=layNew_perm t es ((PySem.strKind prog w).hash x) (.str x tk);have lf:=layNew_fits t es ((PySem.strKind prog w).hash x) (.str x tk);have ll:=(VN t es ((PySem.strKind prog w).hash x) (.str x tk)).1;generalize layNew t es ((PySem.strKind prog w).hash x) (.str x tk)=lay at lp lf ll;obtain⟨es1,t1,wd,gv⟩:=lay;dsimp only at lp lf ll ⊢;have s1:es1.size=es.size+1:=by simpa using lp.length_eq
  rw[Array.toList_push] at lp;have hel1:ElemsOf (PySem.strKind prog w) es1.toList:=(hel.push kx rfl).perm lp;have hen0:StrsAre ((es.toList++[((PySem.strKind prog w).hash x,Value.str x tk)]).map (·.2)) (ns++[x]):=by
   rw[List.map_append];exact StrsAre.append' hen (.cons x tk .nil)
  obtain⟨ms,hen1,hp1⟩:=HH (lp.map (·.2)) hen0;have hp2:ms.Perm (ks++[x]):=hp1.trans (hp.append_right [x]);have wrap:∀(es2:Array (Int×Value)) (t2:SetTable) (h':Heap) (o2:Obj) (ep2:Nat) (n2:Nat),Heap.SameBut a s.heap h'->h'.get? a=some { o with data:=.set es2 ep2 t2 }->es2.toList.Perm es1.toList->t2.fits es2.size=true->t2.led=t.led->t2.plain=false->Q true { s with heap:=h',toks:=n2 }:=λes2 t2 h' o2 ep2 n2 sb g pm f l pl=>by
   obtain⟨ls,hen2,hp3⟩:=HH (pm.map (·.2)) hen1;exact q _ _ _ sb ⟨_,es2,ep2,t2,g,hex,rfl,hel1.perm pm,⟨ls,hen2,hp3.trans hp2⟩,f,l.trans hled,λ_=>pl⟩
  have off:∀n,t1.fits n=true->({ t1 with plain:=false }:SetTable).fits n=true:=λn h=>SetTable.fits_plain_off h;cases gv
  all_goals
   first
    |refine AAA (AAB ?_)
    |refine AAA (wpAny_rule ?_)
   by_cases e:t1.plain=true
   ·rw[if_pos e,hashByValue_scannable 8 (x:=.str x tk) rfl];refine AAA (AAB ?_);have pk:plainKind (.str x tk)=false:=rfl;rw[pk];simp only[Bool.false_eq_true,↓reduceIte];have fl:({ t1 with plain:=false }:SetTable).fits es1.size=true/\({ t1 with plain:=false }:SetTable).led=t.led/\({ t1 with plain:=false }:SetTable).plain=false:=⟨off _ lf,ll,rfl⟩;generalize ({ t1 with plain:=false }:SetTable)=t2 at fl;wtm_at "o"
   ·rw[if_neg e];refine AAA (AAB ?_);simp only[↓reduceIte];have fl:t1.fits es1.size=true/\t1.led=t.led/\t1.plain=false:=⟨lf,ll,by simpa using e⟩;generalize t1=t2 at fl;wtm_at "o"
end
end Xt
set_option maxHeartbeats 2000000
namespace Xt
open PySem PySem.Spec PyProof.Rows Sem L2 Ht
section
variable{prog:Program}{w:World}{A:Around}{E:Value->Shared->Prop}{s:Shared}
theorem PR(hh:A.in1.handled=none)(hlI:l≠I)(hSI:S≠I)(hSl:S≠l)(rv:StrsAre its ss)(room:ss.length+1<scanBound):
  ∀(m i:Nat) (s:Shared),ss.length-i=m->i<=ss.length->s.heap.IsListIter I l i->s.heap.IsList l its.toArray->SetT prog w s.heap S (Bg (ss.take i))->
   (∀h' tk,(∀c o,c≠S->c≠I->s.heap.get? c=some o->h'.get? c=some o)->SetT prog w h' S (Bg ss)->R (.ok (.ret .none)) { s with heap:=h',toks:=tk })->
   codeAny (model prog w) A (.builtin "set.update.loop" ⟨[.ref S,.ref I],[]⟩) R s:=by
 have hl:its.toArray.size=ss.length:=by rw[List.size_toArray];exact rv.length
 have W:=Walks.list (prog:=prog) (w:=w) hh I l hlI its.toArray;rw[hl] at W;intro m
 induction m with
 |zero=>
  intro i s hm hi hit hls hS q;cases (show i=ss.length by omega);refine codeAny_builtin PyProof.Rows.F.entry_set_update_loop ?_;rw[Around.under_plainId PyProof.Rows.F.plain_set_update_loop _];refine AAA (m:=pyNext (.ref I)) (W.done s _ _ ⟨hit,hls⟩ λh' tk kp=>AAB ?_);rw[List.take_length] at hS;exact q h' tk (λc o _ c2 e=>kp c o (by simpa using c2) e) (hS.at λo e=>kp S o (by simpa using hSI) e)
 |succ m ih=>
  intro i s hm hi hit hls hS q;have lt:i<ss.length:=by omega
  refine codeAny_builtin PyProof.Rows.F.entry_set_update_loop ?_;rw[Around.under_plainId PyProof.Rows.F.plain_set_update_loop _];refine AAA (m:=pyNext (.ref I)) (W.item i s _ _ lt ⟨hit,hls⟩ λv h' tk hv st kp=>?_);obtain⟨t,e⟩:=StrsAre.at rv (AAq lt);have hv':its[i]?=some v:=by simpa using hv
  cases e.symm.trans hv';have nb:(if ss[i]∈Bg (ss.take i) then Bg (ss.take i) else Bg (ss.take i)++[ss[i]])=Bg (ss.take (i+1)):=by
   rw[List.take_succ,AAq lt,Option.toList_some,HK]
  have le:=Ob (ss.take i);rw[List.length_take] at le;refine AAA (AAl (RF (s:={ s with heap:=h',toks:=tk }) (hS.at λo e=>kp S o (by simpa using hSI) e) (by omega) λb h2 t2 sb hS2=>?_));rw[nb] at hS2;have k2:∀c o,c≠S->h'.get? c=some o->h2.get? c=some o:=λc o hc e=>(sb.2 c hc).trans e;refine AAB ⟨plainId_quiet PyProof.Rows.F.plain_set_update_loop _,ih (i+1) _ (by omega) lt (st.1.at λo e=>k2 I o hSI.symm e) (st.2.at λo e=>k2 l o hSl.symm e) hS2 λh3 t3 kp3 hS3=>?_⟩;exact q h3 t3 (λc o c1 c2 e=>kp3 c o c1 c2 (k2 c o c1 (kp c o (by simpa using c2) e))) hS3
theorem call_setX(hh:A.handled=none)(hl:s.heap.IsList l its.toArray)(rv:StrsAre its ss)(room:ss.length+1<scanBound)
  (q:∀h' tk,(∀c o,s.heap.get? c=some o->h'.get? c=some o)->SetT prog w h' s.heap.objs.size (Bg ss)->Q (.ref s.heap.objs.size) { s with heap:=h',toks:=tk }) :
  wpAny (model prog w) A (call (.type "set") [.ref l]) Q E s:=by
 refine Of PySem.F.called_set (PySem.F.typeCall_set_1 _) (UF (.ref l) (Q:=λx s₁=>x=.ref s.heap.objs.size/\s₁={ s with heap:=s.heap.push (A9 !(w.params.followText "set-order")) }) ⟨rfl,rfl⟩) ?_;rintro x s₁ ⟨rfl,rfl⟩;generalize hled:(!(w.params.followText "set-order"))=led;have at_S:(s.heap.push (A9 led)).get? s.heap.objs.size=some (A9 led):=AAD _ rfl;have ty:Shared.TypeIs { s with heap:=s.heap.push (A9 led) } (.ref s.heap.objs.size) "set" := ⟨_,at_S,rfl⟩;have lt:l<s.heap.objs.size:=by
  obtain⟨o,e,_⟩:=hl;exact Heap.lt_size e
 have hl1:(s.heap.push (A9 led)).IsList l its.toArray:=hl.push _;have tyl:Shared.TypeIs { s with heap:=s.heap.push (A9 led) } (.ref l) "list" := hl1.typeIs;refine⟨ty,codeAny_call_builtin PySem.F.called_set.init.plain PySem.F.entry_set_init (check_set_init_1 ty ?_)⟩;have c1:=PySem.F.sub_list_set;have c2:=PySem.F.sub_list_frozenset;unfold Builtin.«set.__init__» noKeywords Builtin.Frozenset.updateFrom;have walk:∀(A:Around) (E:Value->Shared->Prop) (Q:Value->Shared->Prop),Q (.ref (s.heap.push (A9 led)).objs.size) { s with heap:=(s.heap.push (A9 led)).push { cls:=.type "list_iterator",data:=.fields #[.ref l,.int 0 0] } }->wpAny (model prog w) A (pyIter (.ref l)) Q E { s with heap:=s.heap.push (A9 led) }:=λA E Q z=>wpAny_pyIter_list hl1 z
 wp_walk using walk
 have sz:(s.heap.push (A9 led)).objs.size=s.heap.objs.size+1:=Heap.size_push ..;have far:∀{c:Addr},c<s.heap.objs.size->c≠(s.heap.push (A9 led)).objs.size:=λz=>by rw[sz];exact AAb (AAe z)
 refine PR (l:=l) (ss:=ss) (A:=A.in1.in1) (by simp[hh]) (far lt) (by rw[sz];exact AAb (Nat.lt_succ_self _)) (Nat.ne_of_gt lt) rv room ss.length 0 _ (Nat.sub_zero _) (AAh _) ⟨_,AAD _ rfl,rfl,rfl⟩ (hl1.push _) ?start λh' tk kp hS=>?fin
 case start=>
  refine⟨_,#[],0,_,AAC _ at_S,⟨rfl,rfl,rfl⟩,rfl,?_,⟨[],.nil,.refl _⟩,(PP led).fits,hled.symm,λz=>absurd rfl z⟩;intro e he;cases he
 case fin=>
  exact AAB (AAB ⟨rfl,q h' tk (λc o e=>kp c o (AAb (Heap.lt_size e)) (far (Heap.lt_size e)) (AAC _ (AAC _ e))) hS⟩)
end
end Xt
set_option maxHeartbeats 2000000
namespace Xt
open PySem PySem.Spec PyProof.Rows Sem L2 Ht
noncomputable def itD(T S:Addr)(i n ep:Nat):Obj:={ cls:=.type "set_iterator",data:=.fields #[.ref T,.int i 0,.ref S,.int n 0,.int ep 0] }
noncomputable def plO(ord:List Nat):Obj:={ cls:=.type "tuple",data:=.seq (ord.map λ(i:Nat)=>rawInt i).toArray }
section
variable{prog:Program}{w:World}{A:Around}{E:Value->Shared->Prop}{s:Shared}
theorem QH(hn:n≠0)(h:∀i d,i<n->Q i { s with drawn:=d }):wpAny (model prog w) A (choose src n) Q E s:=λΓ p _=>⟨hn,h _ _ (Nat.mod_lt _ (Nat.pos_of_ne_zero hn))⟩
theorem MS:∀(n:Nat) (xs:List α) (s:Shared) {Q:List α->Shared->Prop},xs.length<=n->(∀ys d,ys.Perm xs->Q ys { s with drawn:=d })->wpAny (model prog w) A (drawOrder n xs) Q E s
 |0,xs,s,Q,h,q=>by
  cases xs with
  |nil=>unfold drawOrder;exact AAB (q [] s.drawn (.refl _))
  |cons x xs=>simp at h
 |n+1,[],s,Q,_,q=>by unfold drawOrder;exact AAB (q [] s.drawn (.refl _))
 |n+1,x::xs,s,Q,h,q=>by
  unfold drawOrder;refine AAA (QH (by simp) λi d hi=>?_);have e:(x::xs)[i]?=some (x::xs)[i]:=AAq hi;rw[e];dsimp only;refine AAA (MS n ((x::xs).eraseIdx i) _ (by rw[List.length_eraseIdx_of_lt hi];simp at h ⊢;omega) λys d2 p=>AAB ?_);exact q _ d2 ((p.cons _).trans (GX _ _ _ e))
theorem Sg(hI:s.heap.get? I=some (itD T S i n ep))(h:Q (.ref I) s):wpAny (model prog w) A (pyIter (.ref I)) Q E s:=by
 have hT:s.TypeIs (.ref I) "set_iterator" := ⟨_,hI,rfl⟩;refine wpAny_pyIter_slot hT IG (AAa IG hT MQ ?_ (Ml _));exact AAB ⟨_,rfl, "set_iterator",_,hT,si_next.lookup,h⟩
theorem VX(ho:s.heap.get? S=some o)(hex:o.ExactSet)(hd:o.data=.set es ep t)(hf:t.fits es.size=true)(nf:w.params.followText "set-order" = false)(np:t.plain=false)(n1:1<es.size)(n2:es.size<=1000)
  (h:∀ord d,ord.Perm (List.range es.size)->Q (.ref (s.heap.objs.size+1)) { s with drawn:=d,heap:=(s.heap.push (plO ord)).push (itD s.heap.objs.size S 0 es.size ep) }):wpAny (model prog w) A (pyIter (.ref S)) Q E s:=by
 have hT:s.TypeIs (.ref S) "set" := ⟨_,ho,hex.1⟩;refine wpAny_pyIter_slot hT PySem.F.slot_set_iter (AAa PySem.F.slot_set_iter hT MR ?_ (PySem.F.args_set_iter_1 _));unfold Builtin.«frozenset.__iter__» Builtin.Frozenset.slot0 Builtin.Frozenset.sizeOf setEntries setDrawn setsByText;refine AAA (AAA (AAr (a:=(Value.ref S,[])) rfl (AAB ?_)));refine AAA (AAA (AAA (AAf ho hd hf (AAB (AAB ?_)))));refine AAA (AAA (AAf ho hd hf ?_));dsimp only;refine AAA (AAA (wpAny_askSetting (AAB (AAB ?_))));dsimp only;have e0:(!(w.params.followText "set-order")&&(!t.plain&&decide (es.size > 1)))=true:=by rw[nf,np];simp[n1]
 split
 ·refine AAA (MS es.size (List.range es.size) s (by simp) λord d p=>?_);have ol:ord.length<=1000:=by rw[p.length_eq,List.length_range];exact n2
  refine AAA (wpAny_newTuple ?_ (by rw[AAG,sizeLine_eq];omega));refine AAA (wpAny_setEpoch_of (AAC _ ho) hd hf ?_);unfold newFields;refine AAA (AAn ?_);have sz:(s.heap.push (plO ord)).objs.size=s.heap.objs.size+1:=Heap.size_push ..;refine AAB ⟨_,rfl, "set_iterator",_,⟨_,AAD _ rfl,rfl⟩,si_next.lookup,?_⟩;have:=h ord d p;rw[←sz] at this;exact this
 ·rename_i z;exact absurd e0 z
theorem Sh(hI:s.heap.get? I=some (itD T S i es.size ep))(hT:s.heap.get? T=some (plO ord))(ho:s.heap.get? S=some o)(hd:o.data=.set es ep t)(hf:t.fits es.size=true)
  (hj:ord[i]?=some j) (hx:es[j]?=some x)
  (q:∀h',h'.get? I=some (itD T S (i+1) es.size ep)->Heap.SameBut I s.heap h'->Q (some x.2) { s with heap:=h' }) :
  wpAny (model prog w) A (pyNext (.ref I)) Q E s:=by
 have hTy:s.TypeIs (.ref I) "set_iterator" := ⟨_,hI,rfl⟩;unfold pyNext;refine AAA (AAu (wpAny_callSpecial?_slot (name:=Str.ofString "__next__") hTy si_next (AAa si_next hTy G1 ?_ (G8 _))));unfold Builtin.«set_iterator.__next__»;refine AAA (AAr (a:=(Value.ref I,[])) rfl ?_);refine AAA (wpAny_fieldsOf hI rfl ?_);dsimp only;unfold setEntries;refine AAA (AAA (AAf ho hd hf (AAB ?_)));dsimp only;have e0:((es.size:Int) != (es.size:Int))=false:=by simp
 rw[e0,if_neg AAd];simp only[Int.toNat_natCast];refine AAA (AAt hT rfl ?_);dsimp only;have pj:(ord.map λ(i:Nat)=>rawInt i).toArray[i]?=some (.int (j:Int) 0):=by simp[hj,rawInt]
 rw[pj];dsimp only;unfold setNextDrawn;refine AAA (AAA (AAf ho hd hf ?_));dsimp only;have e1:(ep != ep)=false:=by simp
 rw[e1,if_neg AAd,Int.toNat_natCast,hx];refine AAB ?_;refine AAA (AAm hI (by simp) λh1 g1 s1=>?_);refine AAB ⟨_,rfl,AAB (q h1 ?_ s1)⟩;rw[g1];simp[itD,rawInt]
theorem VY(hh:A.handled=none)(hI:s.heap.get? I=some (itD T S i es.size ep))(hT:s.heap.get? T=some (plO ord))(ho:s.heap.get? S=some o)(hd:o.data=.set es ep t)(hf:t.fits es.size=true)
  (hj:ord[i]?=none) (q:∀h',(∀b o,b≠I->s.heap.get? b=some o->h'.get? b=some o)->Q none { s with heap:=h' }) :
  wpAny (model prog w) A (pyNext (.ref I)) Q E s:=by
 have hTy:s.TypeIs (.ref I) "set_iterator" := ⟨_,hI,rfl⟩;unfold pyNext;refine AAA (AAu (wpAny_callSpecial?_slot (name:=Str.ofString "__next__") hTy si_next (AAa si_next hTy G1 ?_ (G8 _))));unfold Builtin.«set_iterator.__next__»;refine AAA (AAr (a:=(Value.ref I,[])) rfl ?_);refine AAA (wpAny_fieldsOf hI rfl ?_);dsimp only;unfold setEntries;refine AAA (AAA (AAf ho hd hf (AAB ?_)));dsimp only;have e0:((es.size:Int) != (es.size:Int))=false:=by simp
 rw[e0,if_neg AAd];simp only[Int.toNat_natCast];refine AAA (AAt hT rfl ?_);dsimp only;have pj:(ord.map λ(i:Nat)=>rawInt i).toArray[i]?=none:=by simp at hj ⊢;exact hj
 rw[pj];dsimp only;refine AAA (AAm hI (by simp) λh1 g1 s1=>?_);refine AAA (AAm g1 (by simp) λh2 g2 s2=>?_);refine Il (A:=A.in1) (s:={ s with heap:=h2 }) hh λa h' k ty=>?_;refine AAA (wpAny_isInstance (T := "StopIteration") (b:=true) ty isSubtype_stop ?_);exact AAB (q h' λb o hb e=>k b o (s2.extBut b o hb (s1.extBut b o hb e)))
theorem Wq(hh:A.handled=none)(hSI:S≠I)(hTI:T≠I)(hd:o.data=.set es ep t)(hf:t.fits es.size=true)(hp:ord.Perm (List.range es.size)):
  Walks prog w A I [I,S,T] [I] es.size (λi v=>∃j e,ord[i]?=some j/\es[j]?=some e/\v=e.2) (λi h=>h.get? I=some (itD T S i es.size ep)/\h.get? S=some o/\h.get? T=some (plO ord)) where
 sub:=λb hb=>by simp at hb;simp[hb]
 frame:=λi h h' st k=>⟨k I (by simp) _ st.1,k S (by simp) _ st.2.1,k T (by simp) _ st.2.2⟩
 item:=λi s Q E hi st q=>by
  have ol:ord.length=es.size:=by rw[hp.length_eq,List.length_range]
  have e1:ord[i]?=some (ord[i]'(by omega)):=by simp[ol,hi]
  have lt:ord[i]'(by omega)<es.size:=List.mem_range.mp (hp.mem_iff.mp (List.getElem_mem (by omega)));have e2:es[ord[i]'(by omega)]?=some (es[ord[i]'(by omega)]):=by simp[lt]
  refine Sh st.1 st.2.2 st.2.1 hd hf e1 e2 λh' g sb=>?_;exact q _ h' s.toks ⟨_,_,e1,e2,rfl⟩ ⟨g,(sb.2 S hSI).trans st.2.1,(sb.2 T hTI).trans st.2.2⟩ λb o hb e=>(sb.2 b (by simpa using hb)).trans e
 done:=λs Q E st q=>by
  have ol:ord.length=es.size:=by rw[hp.length_eq,List.length_range]
  refine VY hh st.1 st.2.2 st.2.1 hd hf (by simp[ol]) λh' k=>?_;exact q h' s.toks λb o hb e=>k b o (by simpa using hb) e
 self:=λi s Q E st h=>Sg st.1 h
end
end Xt
set_option maxHeartbeats 2000000
namespace Xt
open PySem PySem.Spec PyProof.Rows Sem L2 Ht
section
variable{prog:Program}{w:World}{A:Around}{E:Value->Shared->Prop}{s:Shared}
theorem NX{ord:List Nat}{es:Array (Int×Value)}{acc:Array Value}(it:ItemsOf (λi v=>∃j e,ord[i]?=some j/\es[j]?=some e/\v=e.2) acc es.size)(hp:ord.Perm (List.range es.size)):acc.toList.Perm (es.toList.map (·.2)):=by
 have ol:ord.length=es.size:=by rw[hp.length_eq,List.length_range]
 have e1:acc.toList=ord.map λj=>(es.toList.map (·.2)).getD j .none:=by
  refine List.ext_getElem? λi=>?_;by_cases hi:i<acc.size
  ·obtain⟨j,e,h1,h2,h3⟩:=it.2 i acc[i] (by simp[hi]);have e0:acc.toList[i]?=some acc[i]:=by simp[hi]
   rw[e0,AAV,h1];simp[h2,h3]
  ·have h1:=it.1;rw[List.getElem?_eq_none (by simp;omega),List.getElem?_eq_none (by simp;omega)]
 have e2:(List.range es.size).map (λj=>(es.toList.map (·.2)).getD j .none)=es.toList.map (·.2):=by
  refine List.ext_getElem? λi=>?_;by_cases hi:i<es.size
  ·simp[hi]
  ·rw[List.getElem?_eq_none (by simp;omega),List.getElem?_eq_none (by simp;omega)]
 rw[e1];exact(hp.map _).trans (by rw[e2])
theorem TV{S:Addr}{ep:Nat}{es:Array (Int×Value)}{t:SetTable}{o:Obj}{R:List Value->Shared->Prop}(hh:A.handled=none)(ho:s.heap.get? S=some o)(hex:o.ExactSet)(hd:o.data=.set es ep t)(hf:t.fits es.size=true)(nf:w.params.followText "set-order" = false)(np:t.plain=false)(n1:1<es.size)(n2:es.size<=1000)
  (q:∀h' tk d (acc:List Value),(∀b o,s.heap.get? b=some o->h'.get? b=some o)->acc.Perm (es.toList.map (·.2))->R acc { s with heap:=h',toks:=tk,drawn:=d }):wpAny (model prog w) A (collect (.ref S)) R E s:=by
 unfold collect;refine AAA (wpAny_runValue (codeAny_builtin entry_proto_collect' ?_));rw[Around.under_plainId PySem.F.plain_proto_collect _];unfold Builtin.«proto.collect»
 wp_walk
 refine⟨plainId_quiet PySem.F.plain_list_iadd _,codeAny_builtin entry_list_iadd' ?_⟩;rw[Around.under_plainId PySem.F.plain_list_iadd _];obtain⟨h1,e1⟩:∃h1,h1=s.heap.push { cls:=.type "list",data:=.seq #[] }:=⟨_,rfl⟩;have sz:h1.objs.size=s.heap.objs.size+1:=by rw[e1];exact Heap.size_push ..
 have hL:h1.get? s.heap.objs.size=some { cls:=.type "list",data:=.seq #[] }:=by rw[e1];exact AAD _ rfl
 have hS:h1.get? S=some o:=by rw[e1];exact AAC _ ho
 have old:∀b o,s.heap.get? b=some o->h1.get? b=some o:=λb o e=>by rw[e1];exact AAC _ e
 have ltS:=Heap.lt_size ho;rw[←e1];have tS:Shared.TypeIs { s with heap:=h1 } (.ref S) "set" := ⟨_,hS,hex.1⟩;have iter:∀(A:Around) (E:Value->Shared->Prop) (Q:Value->Shared->Prop),(∀ord d,ord.Perm (List.range es.size)->Q (.ref (h1.objs.size+1)) { s with drawn:=d,heap:=(h1.push (plO ord)).push (itD h1.objs.size S 0 es.size ep) })->wpAny (model prog w) A (pyIter (.ref S)) Q E { s with heap:=h1 }:=λA E Q z=>VX (s:={ s with heap:=h1 }) hS hex hd hf nf np n1 n2 z;unfold Builtin.«list.__iadd__»
 wp_walk using iter
 have ne:Builtin.List.listSameRef (.ref s.heap.objs.size) (.ref S)=false:=by
  simp[Builtin.List.listSameRef];exact λz=>absurd ltS (by rw[←z];exact AAv _)
 rw[ne,if_neg (by decide)];refine AAA (iter _ _ _ λord d p=>?_);have sz2:(h1.push (plO ord)).objs.size=h1.objs.size+1:=Heap.size_push ..;have up:∀b o,h1.get? b=some o->((h1.push (plO ord)).push (itD h1.objs.size S 0 es.size ep)).get? b=some o:=λb o e=>AAC _ (AAC _ e);have hI:((h1.push (plO ord)).push (itD h1.objs.size S 0 es.size ep)).get? (h1.objs.size+1)=some (itD h1.objs.size S 0 es.size ep):=by
  rw[←sz2];exact AAD _ rfl
 have hT:((h1.push (plO ord)).push (itD h1.objs.size S 0 es.size ep)).get? h1.objs.size=some (plO ord):=AAC _ (AAD _ rfl);generalize (h1.push (plO ord)).push (itD h1.objs.size S 0 es.size ep)=h2 at up hI hT;refine AAA (AAl (Lg (s:={ s with drawn:=d,heap:=h2 }) ⟨_,up _ _ hS,hex.1⟩ ?_));rw[if_pos (by decide +kernel)];refine AAA (wpAny_rule ?_);unfold Builtin.List.listTouch;have hL2:=up _ _ hL
 wp_walk
 have f1:=Heap.get?_update_self (Obj.mapSeq λx=>x.push Value.none) hL2 rfl;have f2:=Heap.get?_update_self (Obj.mapSeq λx=>x.pop) f1 rfl;have far:∀b o,b≠s.heap.objs.size->h2.get? b=some o->((h2.update s.heap.objs.size (Obj.mapSeq λx=>x.push Value.none)).update s.heap.objs.size (Obj.mapSeq λx=>x.pop)).get? b=some o:=λb o hb e=>(Heap.get?_update_other _ _ (Ne.symm hb)).trans ((Heap.get?_update_other _ _ (Ne.symm hb)).trans e);generalize (h2.update s.heap.objs.size (Obj.mapSeq λx=>x.push Value.none)).update s.heap.objs.size (Obj.mapSeq λx=>x.pop)=h3 at f2 far;have n1:S≠h1.objs.size+1:=AAb (by rw[sz];exact AAe (AAe ltS));have n2':h1.objs.size≠h1.objs.size+1:=AAb (Nat.lt_succ_self _);have n3:S≠s.heap.objs.size:=AAb ltS;have n4:h1.objs.size≠s.heap.objs.size:=Nat.ne_of_gt (by rw[sz];exact Nat.lt_succ_self _);have n5:h1.objs.size+1≠s.heap.objs.size:=Nat.ne_of_gt (by rw[sz];exact AAe (Nat.lt_succ_self _));have W:=Wq (prog:=prog) (w:=w) (A:=A.in1) (I:=h1.objs.size+1) (T:=h1.objs.size) (S:=S) (ep:=ep) (by simp[hh]) n1 n2' hd hf p;refine⟨plainId_quiet PySem.F.plain_extend_loop _,codeAny_extend_loopS W.toS (by rw[sizeLine_eq];omega) s.heap.objs.size (by simp[n3.symm,n4.symm,n5.symm]) _ es.size 0 _ #[] _ rfl (AAh _) ⟨far _ _ n5 hI,far _ _ n3 (up _ _ hS),far _ _ n4 hT⟩ f2 (ItemsOf.nil _) λs' acc' c' hm hS' hacc=>?_⟩;dsimp only;refine AAA (wpAny_load hS' (AAB ?_));rw[Moved.eq_with hm];refine q s'.heap s'.toks d acc'.toList (λb o e=>hm.heap b o (λz=>?_) (far _ _ (AAb (Heap.lt_size e)) (up _ _ (old b o e)))) (NX hacc p);have lt:=Heap.lt_size e;rcases AAJ.mp z with z|z
 ·rw[z] at lt;exact AAv _ lt
 ·rw[AAK.mp z,sz] at lt;exact absurd lt (Nat.not_lt.mpr (Nat.le_succ_of_le (Nat.le_succ _)))
end
end Xt
set_option maxHeartbeats 2000000
namespace Xt
open PySem PySem.Spec PyProof.Rows Sem L2 Ht
theorem UP{xs:Array Nat}(h:xs.size<=1):Ris xs.toList:=by
 obtain⟨l⟩:=xs
 match l,h with
 |[],_=>exact List.Pairwise.nil
 |[x],_=>exact List.pairwise_singleton _ _
 |_::_::_,h=>simp at h
section
variable{prog:Program}{w:World}{A:Around}{E:Value->Shared->Prop}{s:Shared}
theorem TU(hh:A.handled=none)(hS:SetT prog w s.heap S ks)(hk:ks.length<=1000)
  (q:∀h' tk d (acc:List Value) ms,(∀b o,s.heap.get? b=some o->h'.get? b=some o)->StrsAre acc ms->ms.Perm ks->R acc { s with heap:=h',toks:=tk,drawn:=d }):wpAny (model prog w) A (collect (.ref S)) R E s:=by
 obtain⟨o,es,ep,t,ho,hex,hd,hel,⟨ns,hen,hp⟩,hfit,hled,hpl⟩:=hS;have hsz:=Jq hen hp;have fin:∀h' tk d (acc:List Value),(∀b o,s.heap.get? b=some o->h'.get? b=some o)->acc.Perm (es.toList.map (·.2))->R acc { s with heap:=h',toks:=tk,drawn:=d }:=λh' tk d acc k p=>by
  obtain⟨ms,m1,m2⟩:=HH p hen;exact q h' tk d acc ms k m1 (m2.trans hp)
 by_cases dr:w.params.followText "set-order" = false/\1<es.size
 ·exact TV hh ho hex hd hfit dr.1 (hpl (by omega)) dr.2 (by omega) fin
 ·have pz:t.place.size=es.size:=by
   have z:=hfit;unfold SetTable.fits at z;simp only[Bool.and_eq_true,beq_iff_eq] at z;exact z.1
  have T:Wt w t es.size:=by
   refine⟨hfit,λnf=>?_⟩;have le:es.size<=1:=Nat.not_lt.mp λz=>dr ⟨nf,z⟩;exact⟨UP (by omega),by rw[AAN (by omega)];simp⟩
  refine PySem.W.kdu_collect (A:=A) (UC (S:=S) hex hd T hled) hh ho (by rw[sizeLine_eq];omega) λh1 t1 acc k1 it=>?_;have hacc:acc.toList=(wv w S ep es).toList.map (·.2):=by
   refine List.ext_getElem? λi=>?_;by_cases hi:i<acc.size
   ·obtain⟨e,h1,h2⟩:=it.2 i acc[i] (by simp[hi]);have:acc.toList[i]?=some acc[i]:=by simp[hi]
    rw[this,h2,AAV,Array.getElem?_toList,h1];rfl
   ·have h1:=it.1;have h2:=IF w S ep es;rw[List.getElem?_eq_none (by simp;omega),List.getElem?_eq_none (by simp;omega)]
  exact fin h1 t1 s.drawn acc.toList k1 (by rw[hacc];exact(N2 w S ep es).map _)
theorem Le(hh:A.handled=none)(h64:ks.length<64)(hS:SetT prog w s.heap S ks)
  (q:∀(h1 h':Heap) tk d c (out:Array Value) ms,(∀b o,s.heap.get? b=some o->h1.get? b=some o)->(∀b o,h1.get? b=some o->h'.get? b=some o)->h'.get? h1.objs.size=some (seqObj "list" out c)->StrsAre out.toList ms->ms.Perm ks->sortedS ms=true->Q (.ref h1.objs.size) { s with heap:=h',toks:=tk,drawn:=d }) :
  wpAny (model prog w) A (call (.builtin "sorted") [.ref S]) Q E s:=by
 refine Calls.call_function_entry kind_sorted plain_sorted entry_sorted (args_sorted1 _) ?_;unfold Builtin.«sorted»;refine AAA (AAr (a:=()) rfl ?_);refine AAA (TU (A:=A.in1) hh hS (by omega) λh1 t1 d acc ms k1 im pm=>?_);have hlen:acc.length<64:=by rw[im.length,pm.length_eq];exact h64
 refine AAA (wpAny_newList ?_ (by rw[sizeLine_eq];omega));have hL:(h1.push (seqObj "list" acc.toArray 0)).get? h1.objs.size=some (seqObj "list" acc.toArray 0):=AAD _ rfl;have kL:∀b o,h1.get? b=some o->(h1.push (seqObj "list" acc.toArray 0)).get? b=some o:=λb o e=>AAC _ e;refine AAA (AAl (AAa slot_list_sort ⟨_,hL,rfl⟩ entry_list_sort (list_sort_treeK strKind_oneLt hL im.keysOf (λv₁ v₂ rest e=>keyKind_strs (by rw[←e];exact im)) hlen λst' hp hs=>⟨_,rfl,?_⟩) (args_list_sort _)));obtain⟨ss',a1,a2,a3⟩:=sorted_out_str im hp hs;obtain⟨c,hc⟩:=sortedHeap_at (out:=(arrOf st').map (·.2)) hL;exact AAB ⟨_,rfl,q h1 _ _ d c _ ss' k1 (λb o e=>by rw[sortedHeap_old (AAb (Heap.lt_size e)) (Heap.lt_size (kL b o e))];exact kL b o e) hc a1 (a2.trans pm) a3⟩
end
noncomputable abbrev sl(x:Str):List Nat:=x.cps.toList
theorem XG(h:sl x=sl y):x=y:=by
 obtain⟨⟨a⟩⟩:=x;obtain⟨⟨b⟩⟩:=y;have h:a=b:=h;rw[h]
theorem Q6(h:¬sl x<sl y)(n:x≠y):sl y<sl x:=by
 refine Classical.byContradiction λz=>n (XG (List.le_antisymm ?_ ?_))
 ·exact List.not_lt.mp z
 ·exact List.not_lt.mp h
noncomputable def MH(x:Str):List Str->List Str
 |[]=>[x]
 |y::ys=>if sl x<sl y then x::y::ys else if x=y then y::ys else y::MH x ys
noncomputable def Hy(xs:List Str):List Str:=xs.foldr MH []
theorem JD(x k:Str):∀ys:List Str,k∈MH x ys↔k=x∨k∈ys
 |[]=>by simp[MH]
 |y::ys=>by
  unfold MH;split
  ·simp
  ·split
   ·rename_i e;subst e;simp
   ·rw[AAJ,JD x k ys,AAJ];constructor<;>(intro z;rcases z with z|z|z<;>simp[z])
theorem Ox(x:Str):∀{ys:List Str},ys.Pairwise (λa b=>sl a<sl b)->(MH x ys).Pairwise λa b=>sl a<sl b
 |[],_=>by simp[MH]
 |y::ys,h=>by
  obtain⟨h1,h2⟩:=AAw.mp h;unfold MH;split
  ·rename_i hx;exact AAw.mpr ⟨λz hz=>(AAJ.mp hz).elim (λe=>e ▸ hx) λm=>List.lt_trans hx (h1 z m),h⟩
  ·rename_i hx;split
   ·exact h
   ·rename_i ne;refine AAw.mpr ⟨λz hz=>?_,Ox x h2⟩;rcases(JD x z ys).mp hz with rfl|m
    ·exact Q6 hx ne
    ·exact h1 z m
theorem Q3(xs:List Str)(k:Str):k∈Hy xs↔k∈xs:=by
 unfold Hy
 induction xs with
 |nil=>simp
 |cons x xs ih=>rw[List.foldr_cons,JD,ih,AAJ]
theorem OG(xs:List Str):(Hy xs).Pairwise λa b=>sl a<sl b:=by
 unfold Hy
 induction xs with
 |nil=>exact .nil
 |cons x xs ih=>exact Ox x ih
theorem WN{α:Type}{r:α->α->Prop}(asym:∀x y,r x y->r y x->False):∀{xs ys:List α},xs.Pairwise r->ys.Pairwise r->xs.Perm ys->xs=ys
 |[],ys,_,_,p=>p.nil_eq
 |x::xs,[],_,_,p=>by cases p.length_eq
 |x::xs,y::ys,a,b,p=>by
  obtain⟨a1,a2⟩:=AAw.mp a;obtain⟨b1,b2⟩:=AAw.mp b;have e:x=y:=by
   rcases AAJ.mp (p.mem_iff.mp AAP) with z|z
   ·exact z
   ·rcases AAJ.mp (p.mem_iff.mpr AAP) with z2|z2
    ·exact z2.symm
    ·exact(asym x y (a1 y z2) (b1 x z)).elim
  subst e;rw[WN asym a2 b2 p.cons_inv]
theorem V8:∀(p:Str) (l:List Str),risingS p l=true->(p::l).Pairwise λa b=>¬sl b<sl a
 |p,[],_=>List.pairwise_singleton _ _
 |p,x::r,h=>by
  have h':(!ltCps x.cps.toList p.cps.toList&&risingS x r)=true:=h;rw[Bool.and_eq_true,ltCps_eq] at h';have h1:¬sl x<sl p:=by simpa using h'.1
  have ih:=V8 x r h'.2;refine AAw.mpr ⟨λz hz=>?_,ih⟩;rcases AAJ.mp hz with rfl|hz
  ·exact h1
  ·have h2:=(AAw.mp ih).1 z hz;exact List.not_lt.mpr (List.le_trans (List.not_lt.mp h1) (List.not_lt.mp h2))
theorem OH{ms ns:List Str}(nd:ms.Nodup)(hm:∀k,k∈ms↔k∈ns)(h:sortedS ms=true):ms=Hy ns:=by
 have up:ms.Pairwise λa b=>¬sl b<sl a:=by
  cases ms with
  |nil=>exact .nil
  |cons p l=>exact V8 p l h
 have lt:ms.Pairwise λa b=>sl a<sl b:=(List.pairwise_and_iff.mpr ⟨up,nd⟩).imp λz=>Q6 z.1 (Ne.symm z.2);have nd2:(Hy ns).Nodup:=(OG ns).imp λz e=>by
  rw[e] at z;exact List.lt_irrefl _ z
 refine WN (λx y a b=>List.lt_irrefl _ (List.lt_trans a b)) lt (OG ns) ((List.perm_ext_iff_of_nodup nd nd2).mpr λk=>?_);rw[hm,Q3]
theorem NL(xs:List Str):(Bg xs).Nodup/\∀k,k∈Bg xs↔k∈xs:=by
 suffices h:∀(xs ys:List Str),ys.Nodup->(xs.foldl (λys x=>if x∈ys then ys else ys++[x]) ys).Nodup/\∀k,k∈xs.foldl (λys x=>if x∈ys then ys else ys++[x]) ys↔k∈ys∨k∈xs by
  have:=h xs [] List.nodup_nil;exact⟨this.1,λk=>(this.2 k).trans (by simp)⟩
 intro xs
 induction xs with
 |nil=>intro ys nd;exact⟨nd,λk=>by simp⟩
 |cons x xs ih=>
  intro ys nd;rw[List.foldl_cons];by_cases z:x∈ys
  ·rw[if_pos z];obtain⟨a,b⟩:=ih ys nd;refine⟨a,λk=>(b k).trans ?_⟩;rw[AAJ];exact⟨λq=>q.elim .inl λq=>.inr (.inr q),λq=>q.elim .inl λq=>q.elim (λe=>.inl (e ▸ z)) .inr⟩
  ·rw[if_neg z];obtain⟨a,b⟩:=ih (ys++[x]) (List.nodup_append.mpr ⟨nd,by simp,λu hu v hv=>by rw[AAK.mp hv];exact λe=>z (e ▸ hu)⟩);refine⟨a,λk=>(b k).trans ?_⟩;rw[List.mem_append,AAK,AAJ,or_assoc]
end Xt
namespace L2
open PySem PySem.Spec PyProof.Rows Sem Ht Xt
noncomputable def UH(P:Program)(w:World)(p:Addr)(ks:List Str):HO:=.ext λh=>SetT P w h p ks
theorem Km:∀{ss:List Str} {us:List Value},Vals (ss.map V.str) us->StrsAre us ss
 |[],us,h=>by cases h;exact .nil
 |s::ss,us,h=>by
  rw[AAW] at h;cases h with
  |cons r h=>
   obtain⟨t,rfl⟩:=r;exact .cons s t (Km h)
theorem HE:∀{us:List Value} {ss:List Str},StrsAre us ss->Vals (ss.map V.str) us
 |_,_,.nil=>.nil
 |_,_,.cons y t h=>.cons ⟨t,rfl⟩ (HE h)
section
variable{X:Cx}
theorem Inv.draw(I:Inv X w6 O H s)(d:Drawn):Inv X w6 O H { s with drawn:=d }:=⟨I.ok,I.os,I.bare,I.base,I.loc,I.cell,I.free,I.freeC,I.pin,I.hok,I.len⟩
theorem call_setX(hc:X.calm=true):Bo X (.type "set") (λxs H Q=>∃a ss,xs=[.ref a]/\SqL X.kw H a (ss.map V.str)/\ss.length+1<scanBound/\∀p,H p=none->Q (.ref p) (upd H p (UH X.prog X.w p (Bg ss)))):=by
 intro w6 s O H xs us Q I r h;obtain⟨a,ss,rfl,ha,room,q⟩:=h;obtain⟨u,rfl,ru⟩:=Vals.one r;cases ru;obtain⟨its,rv,pl,hz⟩:=I.list ha;refine Xt.call_setX (I.ok.hd hc) pl.isList (Km rv) room λh' tk kp hS=>?_;refine⟨.ref s.heap.objs.size,_,I.laid (o:=UH X.prog X.w s.heap.objs.size (Bg ss)) kp (AAF _) ?_,rfl,q _ (I.hok.fresh (AAF _))⟩;obtain⟨o,es,ep,t,e,rest⟩:=id hS;exact⟨hS,⟨o,e⟩,λh1 h2 z k=>z.at k⟩
theorem No(hc:X.calm=true):Bo X (.builtin "sorted") (λxs H Q=>∃p ss,xs=[.ref p]/\H p=some (UH X.prog X.w p (Bg ss))/\(Bg ss).length<64/\∀l,H l=none->Q (.ref l) (upd H l (.lst ((Hy ss).map V.str)))):=by
 intro w6 s O H xs us Q I r h;obtain⟨p,ss,rfl,hp,h64,q⟩:=h;obtain⟨u,rfl,ru⟩:=Vals.one r;cases ru;obtain⟨hS,_⟩:=I.hok p _ hp;refine Le (I.ok.hd hc) h64 hS λh1 h' tk d c out ms k1 k2 e1 im pm sm=>?_;obtain⟨nd,mem⟩:=NL ss;have em:=OH (pm.nodup_iff.mpr nd) (λk=>pm.mem_iff.trans (mem k)) sm;subst em;have I1:=I.kept (t':=tk) k1;have rv:=HE im;have I2:=I1.laid (t':=tk) (o:=.lst ((Hy ss).map V.str)) k2 (AAF _) ⟨by rw[AAG,pm.length_eq,sizeLine_eq];omega,out.toList,c,rv,e1⟩;exact⟨.ref h1.objs.size,_,I2.draw d,rfl,q _ (I1.hok.fresh (AAF _))⟩
end
end L2
namespace Mi
open PySem L2 Ht Xt
noncomputable def Js(d:D):M D:=bnd (E9 d) λds=>λZ=>match Gd ds with
 |some ss=>if ss.length<=1000/\(Bg ss).length<64 then some (.lst ((Hy ss).map D.str),Z) else none
 |none=>none
theorem JC:∀ss:List Str,IsL K Y k H (ss.map D.str) (ss.map V.str)
 |[]=>IsL.nil
 |n::r=>by
  rw[AAW,AAW];unfold IsL;exact⟨_,_,rfl,ofS _,JC r⟩
section
variable{X:Cx}{e:Expr}{pos p p2 pos2:Pos}
theorem Lu(yl:X.mg "sorted" = none)(ys:X.mg "set" = none)(he:RE X e m)(hc:X.calm=true:=by rfl)(hgl:Gl X "sorted" := by rfl)(hgs:Gl X "set" := by rfl)(hst:GV e=false:=by rfl):
  RE X (.Call (.Name "sorted" p) [.Call (.Name "set" p2) [e] [] pos2] [] pos) (mUn Js m):=by
 have hs:PE X (.Call (.Name "set" p2) [e] [] pos2) _:=EZ (call_setX hc) hgs ys Mi.Me (B7 he.pe Dr (Ak hst)) (by decide) (by decide) (Ak hst) rfl;refine RE.wk (Eb (No hc) hgl yl PyProof.Rows.boot_sorted (B7 hs Dr (Ak rfl)) (by decide) (by decide) (Ak rfl) rfl) λO H Q h=>?_;obtain⟨Y,Z,B,d,Z',R,S,ev,q⟩:=h;obtain⟨x,w9,e1,e2⟩:=AH ev;obtain⟨ds,u9,e3,e4⟩:=AH e2;refine⟨Y,Z,B,x,w9,R,S,e1,λv5 H1 E1 R1 v1 i1=>?_⟩;obtain⟨hm,a,vs,rfl,h1,h2⟩:=CL R1 i1 e3;subst hm;cases hx:Gd ds with
 |none=>rw[hx] at e4;cases e4
 |some ss=>
  rw[hx] at e4;have e5:(if ss.length<=1000/\(Bg ss).length<64 then some (D.lst ((Hy ss).map D.str),u9) else none)=some (d,Z'):=e4;split at e5
  ·rename_i room;cases e5;have ev:=Gc h2 hx;subst ev;refine⟨a,ss,rfl,h1,by unfold scanBound;omega,λp hp=>?_⟩;obtain⟨E2,R2⟩:=R1.laid (UH X.prog X.w p (Bg ss)) hp;exact⟨p,ss,rfl,BK,room.2,λl hl=>On R2 (JC _) (λY' H' E' R'=>q Y' H' ((E1.trans E2).trans E') R') l hl⟩
  ·cases e5
end
end Mi
namespace Mi
open PySem L2 Ht
section
variable{X:Cx}{e tg iter:Expr}{body:List Stmt}{pos:Pos}
def tPk(K:KW)(ks:List Key)(m:Sl->M (List D))(O:St)(H:Hp)(Q:List (V×V)->Hp->Prop):Prop:=∃Y Z B ds Z',RelH K Y Z H/\RelS K Y Z.length H B O/\m B Z=some (ds,Z') /\
 Aft K Y Z H Z' λY' H'=>∀vs,IsL K Y' Z'.length H' ds vs->Q ((ks.map kV).zip vs) H'
structure RP(X:Cx)(pos:Pos)(keys:List (Option Expr))(values:List Expr)(ks:List Key)(m:Sl->M (List D)):Prop where
 pe:∃trs,PPs X pos keys values trs/\∀O H Q,tPk X.kw ks m O H Q->Kk trs O H Q
theorem XL:RP X pos [] [] [] AI:=⟨[],Uj,λO H Q h=>by
 obtain⟨Y,Z,B,ds,Z',R,S,e,q⟩:=h;cases e;exact q Y H R.ext0 R [] .nil⟩
theorem UN(h:RE X v mv)(r:RP X pos keys values ks m):RP X pos (some (.Constant (.str k) n p)::keys) (v::values) (.inr k::ks) (AB mv m):=by
 obtain⟨trs,pp,hh⟩:=r.pe;refine⟨(tC (.str k),tE X.kw mv)::trs,Rv R8 h.pe pp,λO H Q h=>?_⟩;obtain⟨Y,Z,B,ds,Z',R,S,e,q⟩:=h;obtain⟨x,w9,e1,e2⟩:=AH e;obtain⟨xs,u9,e3,e4⟩:=AH e2;cases e4;refine⟨Y,Z,B,x,w9,R,S,e1,λv5 H1 E1 R1 v1 i1=>hh _ _ _ ⟨v5,w9,B,xs,_,R1,S.ext E1,e3,λv8 H2 E2 R2 vs i2=>?_⟩⟩;exact q v8 H2 (E1.trans E2) R2 (v1::vs) (.cons (i1.ext E2) i2)
noncomputable def NU(ks:List Key)(m:Sl->M (List D)):Sl->M D:=λB Z=>match m B (Z++[.dK []]) with
 |some (ds,w9)=>match w9[Z.length]? with
  |some (.dK [])=>if ds.length=ks.length then some (.ref Z.length,w9.set Z.length (.dK (ks.zip ds))) else none
  |_=>none
 |none=>none
theorem Op:∀{ks:List Key} {ds:List D} {vs:List V},IsL K Y k H ds vs->ds.length=ks.length->KVs K Y k H (ks.zip ds) (ks.zip vs)
 |[],[],_,i,_=>by unfold IsL at i;subst i;rfl
 |[],_::_,_,_,h=>by simp at h
 |_::_,[],_,_,h=>by simp at h
 |_::ks,_::ds,_,i,h=>by
  unfold IsL at i;obtain⟨v,vs',rfl,i1,i2⟩:=i;exact⟨v,_,rfl,i1,Op i2 (by simpa using h)⟩
theorem Ua{kvs:List (Key×V)}(h:∀p∈kvs,p.1≠k):EM kvs k v=kvs++[(k,v)]:=by
 unfold EM;rw[if_neg];intro z;obtain⟨p,hp,e⟩:=List.any_eq_true.mp z;exact h p hp (of_decide_eq_true e)
theorem L7:∀{more kvs:List (Key×V)},((kvs++more).map (·.1)).Nodup->Fg kvs more=kvs++more
 |[],kvs,_=>by simp[Fg]
 |(k,v)::r,kvs,h=>by
  have hp:∀p∈kvs,p.1≠k:=λp hp z=>by
   rw[List.map_append,List.nodup_append] at h;exact h.2.2 p.1 (AAL.mpr ⟨p,hp,rfl⟩) k (by simp) z
  show Fg (EM kvs k v) r=_;rw[Ua hp,L7 (by simpa using h)];simp
theorem IL:∀{ks:List Key} {vs:List V},(ks.map kV).zip vs=(ks.zip vs).map λkv=>(kV kv.1,kv.2)
 |[],_=>rfl
 |_::_,[]=>rfl
 |k::ks,v::vs=>by simp[IL (ks:=ks) (vs:=vs)]
theorem Rj(h:RP X pos keys values ks m)(nd:ks.Nodup:=by decide +kernel)(hall:keys.all (·.isSome)=true:=by rfl)(hl:keys.length=values.length:=by rfl)(h0:keys≠[]:=by simp)(h15:keys.length<=15:=by simp)(hks:ks.length<=15:=by simp):RE X (.Dict keys values pos) (NU ks m):=by
 obtain⟨trs,pp,hh⟩:=h.pe;refine RE.wk (Us pp hall hl h0 h15) λO H Q h=>?_;obtain⟨Y,Z,B,d,Z',R,S,e,q⟩:=h;intro p hp;obtain⟨n9,E0,R0,e0⟩:=R.grown (m:=.dK []) (o:=.dK []) hp ⟨[],rfl,rfl⟩;unfold NU at e;split at e
 ·rename_i ds w9 em;split at e
  ·rename_i en;split at e
   ·rename_i hlen;cases e;refine hh _ _ _ ⟨n9,Z++[.dK []],B,ds,w9,R0,S.ext E0,em,λv5 H1 E1 R1 vs iv=>?_⟩;have hn:Z.length<w9.length:=(AAT.mp en).1;obtain⟨u,hu,r,rfl,hr⟩:=R1.obj Z.length _ en;have hr':r=[]:=hr;subst hr';have ei:v5 Z.length=p:=by rw[E1.agree Z.length (by simp),e0]
    rw[ei] at hu;have hvl:=iv.length;have hnd:((ks.zip vs).map (·.1)).Nodup:=by
     rw[List.map_fst_zip (by omega)];exact nd
    refine⟨hu,ks.zip vs,IL,by rw[List.length_zip];omega,?_⟩;rw[L7 (kvs:=[]) (by simpa using hnd),List.nil_append];obtain⟨E2,R2⟩:=R1.changed (n:=Z.length) (o:=.dK (ks.zip vs)) (m:=.dK (ks.zip ds)) hn ⟨_,rfl,Op iv hlen⟩;rw[ei] at E2 R2;have E01:Ext Y Z.length H v5 (w9.set Z.length (.dK (ks.zip ds))).length (upd H1 p (.dK (ks.zip vs))):=(E0.trans E1).trans E2;refine q v5 _ E01 R2 _ ?_;unfold Is;exact⟨by simpa using hn,by rw[ei]⟩
   ·cases e
  ·cases e
 ·cases e
noncomputable def Nh(n:Nat)(bf:D->Sl->M Sl)(mb:Sl->M (Fl×Sl)):Nat->Nat->Sl->M (Fl×Sl)
 |0,_,_=>BD
 |f+1,i,B=>λZ=>match Z[n]? with
  |some (.lst ds)=>match ds[i]? with
   |some x=>(bnd (bf x B) λv9=>bnd (mb v9) λr=>match r.1 with
    | .next=>Nh n bf mb f (i+1) r.2
    | .cont=>Nh n bf mb f (i+1) r.2
    | .brk=>ret (.next,r.2)
    | .rt d=>ret (.rt d,r.2)
    | .xc x=>ret (.xc x,r.2)) Z
   |none=>some ((.next,B),Z)
  |_=>none
noncomputable def RL(EO:Nat)(m:Sl->M D)(bf:D->Sl->M Sl)(mb:Sl->M (Fl×Sl)):Sl->M (Fl×Sl):=λB=>bnd (m B) λx=>match x with
 | .ref n=>Nh n bf mb EO 0 B
 |_=>BD
theorem OO(EO:Nat)(hp:PassesOwn (model X.prog X.w) X.A X.env X.xe)(hc:X.calm=true)(hi:RE X iter m)(hg:RG X tg bf)(hb:RSs X body mb)
  (hs:∀x,foldedSetIterable iter X.env x=pure x:=by intro _;rfl):RS X (.For tg iter body [] pos) (RL EO m bf mb):=RS.wk (Ru hp hc (OV hi.pe) hg.pe hb.pe hs) λDn O H h=>by
 obtain⟨Y,Z,B,f,B',Z',R,S,e,q⟩:=h;obtain⟨x,w9,e1,e2⟩:=AH e;refine⟨Y,Z,B,x,w9,R,S,e1,λv5 H1 E1 R1 v i1=>?_⟩;cases x with
 |ref n=>
  unfold Is at i1;obtain⟨hk,rfl⟩:=i1;have hn0:∃ds,w9[n]?=some (.lst ds):=by
   cases EO with
   |zero=>cases e2
   |succ f=>
    have e3:Nh n bf mb (f+1) 0 B w9=some ((_,B'),Z'):=e2;unfold Nh at e3;split at e3
    ·rename_i ds hd;exact⟨ds,hd⟩
    ·cases e3
  obtain⟨ds0,hn0⟩:=hn0;obtain⟨u,hu,o⟩:=R1.obj n _ hn0;obtain⟨vs0,rfl,iv0⟩:=o;refine⟨_,rfl,⟨vs0,SqL.of hu⟩,?_⟩
  let W:Nat->Nat->St->Hp->Prop:=λi m O H=>∃Y Z B f B' Z',RelH X.kw Y Z H/\RelS X.kw Y Z.length H B O/\n<Z.length/\Y n=v5 n/\Nh n bf mb m i B Z=some ((f,B'),Z') /\
   Aft X.kw Y Z H Z' λY' H'=>∀v7,RelS X.kw Y' Z'.length H' B' v7->FlP X.kw Dn Y' Z'.length H' B' v7 f
  refine⟨W,⟨EO,v5,w9,B,f,B',Z',R1,S.ext E1,hk,rfl,e2,λv8 H2 E2 R2=>q v8 H2 (E1.trans E2) R2⟩,?_⟩;rintro i m O H ⟨Y,Z,B,f,B',Z',R,S,hn,en,e,q⟩;cases m with
  |zero=>cases e
  |succ m=>
   unfold Nh at e;split at e
   ·rename_i ds hd;obtain⟨u,hu,o⟩:=R.obj n _ hd;obtain⟨vs,rfl,iv⟩:=o;rw[en] at hu;have hl:=iv.length;split at e
    ·rename_i x hx;obtain⟨xv,hxv,ixv⟩:=iv.get hx;refine .inr ⟨⟨vs,xv,SqL.of hu,hxv⟩,λv7 H'=>W (i+1) m v7 H',λv7 H' z=>⟨_,Nat.lt_succ_self _,z⟩,λy H2 yl=>?_⟩;obtain⟨z,yl⟩:=yl;subst z;have:=yl vs (SqL.of hu);rw[hxv] at this;cases this;obtain⟨v9,u9,e1,ea⟩:=AH e;obtain⟨⟨f2,j4⟩,j6,e2,eb⟩:=AH ea;refine⟨Y,Z,B,_,v9,u9,R,S,ixv,e1,λj7 H3 E3 R3 m5 S3=>?_⟩;refine⟨j7,u9,v9,f2,j4,j6,R3,S3,e2,λj9 H4 E4 R4 n0 S4=>?_⟩;have E14:=E3.trans E4;have hn4:n<j6.length:=AAM hn E14.le;have en4:j9 n=v5 n:=(E14.agree n hn).trans en;cases f2 with
     |next=>exact⟨j9,j6,j4,f,B',Z',R4,S4,hn4,en4,eb,λm4 H5 E5 R5=>q m4 H5 (E14.trans E5) R5⟩
     |cont=>exact⟨j9,j6,j4,f,B',Z',R4,S4,hn4,en4,eb,λm4 H5 E5 R5=>q m4 H5 (E14.trans E5) R5⟩
     |brk=>cases eb;exact q j9 H4 E14 R4 n0 S4
     |rt d=>cases eb;exact q j9 H4 E14 R4 n0 S4
     |xc x=>cases eb;exact q j9 H4 E14 R4 n0 S4
    ·rename_i hx;cases e;have hle:ds.length<=i:=by simpa using hx
     exact .inl ⟨⟨vs,SqL.of hu,by omega⟩,q Y H R.ext0 R O S⟩
   ·cases e
 |_=>cases e2
end
end Mi
namespace Xt
open PySem PySem.Spec PyProof.Rows Sem L2 Ht Nk
section
variable{prog:Program}{w:World}{A:Around}{E:Value->Shared->Prop}{s:Shared}
theorem Ld(h64:vs.length<64)(hl:s.heap.IsList l vs.toArray)(im:StrsAre vs ks)
  (q:∀(h1 h':Heap) tk c (out:Array Value) ms,(∀b o,s.heap.get? b=some o->h1.get? b=some o)->(∀b o,h1.get? b=some o->h'.get? b=some o)->h'.get? h1.objs.size=some (seqObj "list" out c)->StrsAre out.toList ms->ms.Perm ks->sortedS ms=true->Q (.ref h1.objs.size) { s with heap:=h',toks:=tk }) :
  wpAny (model prog w) A (call (.builtin "sorted") [.ref l]) Q E s:=by
 refine Calls.call_function_entry kind_sorted plain_sorted entry_sorted (args_sorted1 _) ?_;unfold Builtin.«sorted»;refine AAA (AAr (a:=()) rfl ?_);refine AAA (collect_list hl ?_ (by rw[sizeLine_eq];omega));generalize hh1:(s.heap.push (seqObj "list" #[] 0)).update s.heap.objs.size (Obj.mapSeq (·++vs.toArray))=h1;have k1:∀b o,s.heap.get? b=some o->h1.get? b=some o:=λb o e=>by
  have hb:b≠s.heap.objs.size:=AAb (Heap.lt_size e);rw[←hh1,Heap.get?_update_ne _ _ _ _ hb];exact AAC _ e
 refine AAA (wpAny_newList ?_ (by rw[sizeLine_eq];omega));have hL:(h1.push (seqObj "list" vs.toArray 0)).get? h1.objs.size=some (seqObj "list" vs.toArray 0):=AAD _ rfl;have kL:∀b o,h1.get? b=some o->(h1.push (seqObj "list" vs.toArray 0)).get? b=some o:=λb o e=>AAC _ e;refine AAA (AAl (AAa slot_list_sort ⟨_,hL,rfl⟩ entry_list_sort (list_sort_treeK strKind_oneLt hL im.keysOf (λv₁ v₂ rest e=>keyKind_strs (by rw[←e];exact im)) h64 λst' hp hs=>⟨_,rfl,?_⟩) (args_list_sort _)));obtain⟨ss',a1,a2,a3⟩:=sorted_out_str im hp hs;obtain⟨c,hc⟩:=sortedHeap_at (out:=(arrOf st').map (·.2)) hL;exact AAB ⟨_,rfl,q h1 _ _ c _ ss' k1 (λb o e=>by rw[sortedHeap_old (AAb (Heap.lt_size e)) (Heap.lt_size (kL b o e))];exact kL b o e) hc a1 a2 a3⟩
end
end Xt
namespace Mi
open PySem L2 Ht Xt
noncomputable def Kn:List D->M D
 |[.lst ds]=>λZ=>match Gd ds with
  |some ss=>if ss.Nodup/\ss.length<64 then some (.lst ((Hy ss).map D.str),Z) else none
  |none=>none
 |_=>BD
section
variable{X:Cx}
theorem Vw:Bo X (.builtin "sorted") (rMA X.kw Kn):=λw6 s O H xs us Q I r h=>by
 obtain⟨Y,Z,as,d,Z',R,ia,e,q⟩:=h;unfold Kn at e;split at e
 ·rename_i ds;split at e
  ·rename_i ss ek;split at e
   ·rename_i c;cases e;obtain⟨v,rfl,i1⟩:=Eg ia;unfold Is at i1;obtain⟨p,vs,rfl,h1,hn,h2⟩:=i1;obtain⟨u,rfl,ru⟩:=ET r;cases ru;obtain⟨its,rv,pl,hz⟩:=I.list (SqL.of h1);have ev:vs=ss.map V.str:=Gc h2 ek;subst ev;have im:=Km rv;have hlen:its.length=ss.length:=by have:=rv.length;simp at this;omega
    refine Ld (ks:=ss) (vs:=its) (by omega) pl.isList im λg1 h' tk cc out ms k1 k2 e1 om pm sm=>?_;have em:=OH (pm.nodup_iff.mpr c.1) (λk=>pm.mem_iff) sm;subst em;have I1:=I.kept (t':=tk) k1;exact⟨.ref g1.objs.size,_,I1.laid (t':=tk) (o:=.lst ((Hy ss).map V.str)) k2 (AAF _) ⟨by rw[AAG,pm.length_eq,sizeLine_eq];omega,out.toList,cc,HE om,e1⟩,rfl,On R (JC _) q _ (I1.hok.fresh (AAF _))⟩
   ·cases e
  ·cases e
 ·cases e
end
end Mi
namespace L2
open PySem PySem.Spec PyProof.Rows Sem Ht
section
variable{X:Cx}
theorem Ma:Bo X (.type "range") (λxs H Q=>∃a b:Int,xs=[.int a,.int b]/\∀p,H p=none->Q (.ref p) (upd H p (.rng a b))):=by
 intro w6 s O H xs us Q I r h;obtain⟨a,b,rfl,q⟩:=h;obtain⟨u1,u2,rfl,⟨t,rfl⟩,⟨t',rfl⟩⟩:=N5 r;refine call_range_2 ⟨.ref s.heap.objs.size,_,I.laid (o:=.rng a b) (λb o e=>AAC _ e) (AAF _) ⟨_,_,_,AAD _ rfl⟩,rfl,q _ (I.hok.fresh (AAF _))⟩
noncomputable abbrev Zn(lo:Int)(n:Nat):List V:=((List.range n).map λi:Nat=>lo+(i:Int)).map V.int
theorem Jk(hc:X.calm=true):Bo X (.type "list") (λxs H Q=>∃(p:Addr) (lo:Int) (n:Nat),xs=[.ref p]/\H p=some (.rng lo (lo+n))/\0<=lo/\lo<=1000/\n<=1000/\∀l,H l=none->Q (.ref l) (upd H l (.lst (Zn lo n)))):=by
 intro w6 s O H xs us Q I r h;obtain⟨p,lo,n,rfl,hp,h0,h1,hn,q⟩:=h;obtain⟨u,rfl,ru⟩:=Vals.one r;cases ru;obtain⟨t,u,v,e⟩:=I.hok p _ hp;refine call_list_range (I.ok.hd hc) e (small_one (by omega) (by omega) (by omega) (by omega)) (n:=n) (by rw[rangeSize_one];split<;>omega) (by omega) λh' tk acc c k e it=>?_;have im:=intsAre_map acc.toList λv hv=>by
  obtain⟨i,hi,rfl⟩:=List.getElem_of_mem hv;obtain⟨t,e⟩:=it.2 i _ (Array.getElem?_eq_getElem (by simpa using hi));exact⟨_,t,by simpa using e⟩
 have en:acc.toList.map numOf=(List.range n).map λi:Nat=>lo+(i:Int):=by
  refine List.ext_getElem? λi=>?_;rw[AAV,AAV];by_cases hi:i<n
  ·have hi':i<acc.size:=by rw[it.1];exact hi
   obtain⟨t,e⟩:=it.2 i _ (Array.getElem?_eq_getElem hi');rw[Array.getElem?_toList,Array.getElem?_eq_getElem hi',e,List.getElem?_range hi];simp[numOf]
  ·rw[List.getElem?_eq_none (by rw[Array.length_toList,it.1];omega),List.getElem?_eq_none (by simp;omega)];rfl
 rw[en] at im;exact⟨.ref s.heap.objs.size,_,I.laid (t':=tk) (o:=.lst (Zn lo n)) k (AAF _) ⟨by rw[AAG,AAG,List.length_range,sizeLine_eq];omega,acc.toList,c,HF im,e⟩,rfl,q _ (I.hok.fresh (AAF _))⟩
end
end L2
namespace Mi
open PySem L2 Ht
noncomputable def WZ:D->D->M D
 | .int a,.int b=>λZ=>if 0<=a/\a<=1000/\a<=b/\b<=a+1000 then some (.lst (((List.range (b-a).toNat).map λi:Nat=>a+(i:Int)).map D.int),Z) else none
 |_,_=>BD
theorem KF:∀ns:List Int,IsL K Y k H (ns.map D.int) (ns.map V.int)
 |[]=>IsL.nil
 |n::r=>by
  rw[AAW,AAW];unfold IsL;exact⟨_,_,rfl,ofI _,KF r⟩
section
variable{X:Cx}{e1 e2:Expr}{pos p p2 pos2:Pos}
theorem Lv(yl:X.mg "list" = none)(ys:X.mg "range" = none)(h1:RE X e1 m1)(h2:RE X e2 m2)(hc:X.calm=true:=by rfl)(hgl:Gl X "list" := by rfl)(hgs:Gl X "range" := by rfl)(hst:GV e1=false:=by rfl)(hst2:GV e2=false:=by rfl):
  RE X (.Call (.Name "list" p) [.Call (.Name "range" p2) [e1,e2] [] pos2] [] pos) (mOp WZ m1 m2):=by
 have hs:PE X (.Call (.Name "range" p2) [e1,e2] [] pos2) _:=EZ Ma hgs ys PyProof.Rows.boot_range (B7 h1.pe (B7 h2.pe Dr (Ak hst2)) (Ak hst)) (by decide) (by decide) (Ak hst) (by rw[Ak hst2];rfl);refine RE.wk (EZ (Jk hc) hgl yl Mi.Qc (B7 hs Dr (Ak rfl)) (by decide) (by decide) (Ak rfl) rfl) λO H Q h=>?_;obtain⟨Y,Z,B,d,Z',R,S,ev,q⟩:=h;obtain⟨x,w9,f1,ev⟩:=AH ev;obtain⟨y,u9,f2,f3⟩:=AH ev;refine⟨Y,Z,B,x,w9,R,S,f1,λv5 H1 E1 R1 v1 i1=>⟨v5,w9,B,y,u9,R1,S.ext E1,f2,λv8 H2 E2 R2 v2 i2=>?_⟩⟩;cases x with
 |int a=>
  cases y with
  |int b=>
   have f3:(if 0<=a/\a<=1000/\a<=b/\b<=a+1000 then some (D.lst (((List.range (b-a).toNat).map λi:Nat=>a+(i:Int)).map D.int),u9) else none)=some (d,Z'):=f3;split at f3
   ·rename_i c;cases f3;cases Bj i1;cases Bj i2;refine⟨a,b,rfl,λp hp=>?_⟩;obtain⟨E3,R3⟩:=R2.laid (.rng a b) hp;refine⟨p,a,(b-a).toNat,rfl,by rw[BK];congr 2;omega,by omega,by omega,by omega,λl hl=>On R3 (KF _) (λY' H' E' R'=>q Y' H' (((E1.trans E2).trans E3).trans E') R') l hl⟩
   ·cases f3
  |_=>cases f3
 |_=>cases f3
end
end Mi
namespace Xc
open PySem L2 Mi
theorem kp_mk{K:PySem.W.Frag}{c:Str}{C:Addr}(a:PySem.W.nsIn K mainGlobals c=some (some (.ref C)))(q:PySem.W.keepIn K (.ref C)=true):∀C,ClsAt K c C->PySem.W.keepIn K (.ref C)=true:=λC' h=>by
 obtain rfl:=Ez a h;exact q
end Xc
namespace Mi
open PySem L2
noncomputable def Ol:List D->M D
 |[d]=>bnd (FA d) λr=>ret (.int r.2.length)
 |_=>BD
theorem Y1{X:Cx}:Bo X (.builtin "len") (rMA X.kw Ol):=λw6 s O H xs us Q I r h=>by
 obtain⟨Y,Z,as,d,Z',R,ia,e,q⟩:=h;unfold Ol at e;split at e
 ·obtain⟨rr,w9,e1,e2⟩:=AH e;obtain⟨v,rfl,i1⟩:=Eg ia;obtain⟨hm,_,g1,rfl,kvs,g2,g3⟩:=B4 R i1 e1;subst hm;cases e2;refine QY w6 s O H _ us Q I r ⟨_,kvs,rfl,g2,?_⟩;rw[g3.length];exact q Y H R.ext0 R _ (ofI _)
 ·cases e
section
variable{K:KW}{Y Y':Nat->Addr}{k:Nat}{H:Hp}
mutual
theorem Is.low:∀{d:D} {v:V},Cl 0 d->Is K Y k H d v->Is K Y' 0 H d v
 | .tup ds,_,c,h=>by
  unfold Cl at c;unfold Is at h ⊢;obtain⟨p,vs,rfl,h1,h2⟩:=h;exact⟨p,vs,rfl,h1,IsL.low c h2⟩
 | .lst ds,_,c,h=>by
  unfold Cl at c;unfold Is at h ⊢;obtain⟨p,vs,rfl,h1,_,h2⟩:=h;exact⟨p,vs,rfl,h1,(λn hn=>absurd hn (Nat.not_lt_zero _)),IsL.low c h2⟩
 | .ref n,_,c,h=>by unfold Cl at c;exact absurd c (Nat.not_lt_zero _)
 | .non,_,_,h | .bl _,_,_,h | .int _,_,_,h | .str _,_,_,h | .ty _,_,_,h | .scr _,_,_,h=>by unfold Is at h ⊢;exact h
theorem IsL.low:∀{ds:List D} {vs:List V},ClL 0 ds->IsL K Y k H ds vs->IsL K Y' 0 H ds vs
 |[],_,_,h=>by unfold IsL at h ⊢;exact h
 |d::ds,_,c,h=>by
  unfold ClL at c;unfold IsL at h ⊢;obtain⟨v,vs',rfl,h1,h2⟩:=h;exact⟨v,vs',rfl,Is.low c.1 h1,IsL.low c.2 h2⟩
end
noncomputable def flB:D->Bool
 | .tup ds=>flLB ds
 | .non=>true
 | .bl _=>true
 | .int _=>true
 | .str _=>true
 |_=>false
where flLB:List D->Bool
 |[]=>true
 |d::ds=>match flB d with
  |true=>flLB ds
  |false=>false
mutual
theorem Is.flat:∀{d:D} {v:V},flB d=true->Is K Y k H d v->Is K Y' k' H d v
 | .tup ds,_,c,h=>by
  unfold flB at c;unfold Is at h ⊢;obtain⟨p,vs,rfl,h1,h2⟩:=h;exact⟨p,vs,rfl,h1,IsL.flat c h2⟩
 | .lst ds,_,c,h | .ref n,_,c,h | .ty _,_,c,h | .scr _,_,c,h=>by unfold flB at c;cases c
 | .non,_,_,h | .bl _,_,_,h | .int _,_,_,h | .str _,_,_,h=>by unfold Is at h ⊢;exact h
theorem IsL.flat:∀{ds:List D} {vs:List V},flB.flLB ds=true->IsL K Y k H ds vs->IsL K Y' k' H ds vs
 |[],_,_,h=>by unfold IsL at h ⊢;exact h
 |d::ds,_,c,h=>by
  unfold flB.flLB at c;cases z:flB d with
  |false=>rw[z] at c;cases c
  |true=>
   rw[z] at c;unfold IsL at h ⊢;obtain⟨v,vs',rfl,h1,h2⟩:=h;exact⟨v,vs',rfl,Is.flat z h1,IsL.flat c h2⟩
end
theorem Ju(R:RelH K Y Z H)(E:Ext Y 0 H Y' k' H'):Ext Y Z.length H Y Z.length H'/\RelH K Y Z H':=by
 have kp:∀p o,H p=some o->H' p=some o:=λp o h=>E.keep p o h λn hn=>absurd hn (Nat.not_lt_zero _);have e:Ext Y Z.length H Y Z.length H':=⟨AAF _,λ_ _=>rfl,λn h1 h2=>absurd h1 (by omega),λp o h _=>kp p o h,R.muts,λn hn=>by
  obtain⟨o,h1,h2⟩:=R.muts n hn;exact⟨o,kp _ _ h1,h2⟩⟩
 exact⟨e,R.inj,λn o h=>by
  obtain⟨u,h1,h2⟩:=R.obj n o h;exact⟨u,kp _ _ h1,h2.ext e⟩⟩
theorem Ls:RelH K Y [] H:=⟨λi j h _=>absurd h (Nat.not_lt_zero _),λn o h=>by simp at h⟩
end
end Mi
namespace Xc
open PySem L2 Mi
noncomputable def FT(φ:List D->M Dx):List D->M Dx:=λds Z=>match Bm 0 ds with
 |true=>match φ ds [] with
  |some (.inl d,_)=>match flB d with
   |true=>some (.inl d,Z)
   |false=>none
  |some (.inr x,_)=>match x.2 with
   |none=>some (.inr x,Z)
   |some _=>none
  |none=>none
 |false=>none
theorem IW(h:FT φ ds Z=some (r,Z')):Z'=Z/\Bm 0 ds=true/\(∃u9,φ ds []=some (r,u9))/\∀d,r=.inl d->flB d=true:=by
 unfold FT at h;split at h
 ·rename_i c;split at h
  ·rename_i d u9 e;split at h
   ·rename_i f;cases h;exact⟨rfl,c,⟨_,e⟩,λ_ z=>by cases z;exact f⟩
   ·cases h
  ·rename_i x u9 e;split at h
   ·cases h;exact⟨rfl,c,⟨_,e⟩,λ_ z=>by cases z⟩
   ·cases h
  ·cases h
 ·cases h
theorem FnX.shut(F:FnX P w K mg base x ps k φ):FnX P w K mg base x ps k (FT φ):=by
 obtain⟨len,f,fd,F1,hm,hk,hb⟩:=F;refine⟨λds Z r e=>?_,f,fd,F1.imp λvs H Q E q=>⟨q.1,?_⟩,hm,hk,hb⟩
 ·obtain⟨_,_,⟨u9,e2⟩,_⟩:=IW (r:=r.1) (Z':=r.2) e;exact len _ _ _ e2
 obtain⟨_,Y,Z,ds,r,Z',R,il,e,q⟩:=q;obtain⟨rfl,c,⟨u9,e2⟩,fl⟩:=IW e;refine⟨Y,[],ds,r,u9,Ls,IsL.low (Ct c) il,e2,λY' H' E' R'=>?_⟩;obtain⟨E2,R2⟩:=Ju R E';have q:=q Y H' E2 R2;cases r with
 |inl d=>exact λv iv=>q v (Is.flat (fl d rfl) iv)
 |inr x=>exact q
end Xc
namespace Mi
open PySem L2
noncomputable def Hg(φ:List D->M D):List D->M D:=λds Z=>match Bm 0 ds with
 |true=>match φ ds [] with
  |some (d,_)=>match flB d with
   |true=>some (d,Z)
   |false=>none
  |none=>none
 |false=>none
theorem IY(h:Hg φ ds Z=some (d,Z')):Z'=Z/\Bm 0 ds=true/\(∃u9,φ ds []=some (d,u9))/\flB d=true:=by
 unfold Hg at h;split at h
 ·rename_i c;split at h
  ·rename_i d u9 e;split at h
   ·rename_i f;cases h;exact⟨rfl,c,⟨_,e⟩,f⟩
   ·cases h
  ·cases h
 ·cases h
theorem Fn.shut(F:Fn P w K mg base x ps k φ):Fn P w K mg base x ps k (Hg φ):=by
 obtain⟨len,f,fd,F1,hm,hk,hb⟩:=F;refine⟨λds Z r e=>?_,f,fd,F1.imp λvs H Q E q=>⟨q.1,?_⟩,hm,hk,hb⟩
 ·obtain⟨_,_,⟨u9,e2⟩,_⟩:=IY (d:=r.1) (Z':=r.2) e;exact len _ _ _ e2
 obtain⟨_,Y,Z,ds,d,Z',R,il,e,q⟩:=q;obtain⟨rfl,c,⟨u9,e2⟩,fl⟩:=IY e;refine⟨Y,[],ds,d,u9,Ls,IsL.low (Ct c) il,e2,λY' H' E' R'=>?_⟩;obtain⟨E2,R2⟩:=Ju R E';exact λv iv=>q Y H' E2 R2 v (Is.flat fl iv)
theorem Gg(c:Bm 0 ds=true)(h:φ ds []=some (d,u9))(f:flB d=true):Hg φ ds Z=some (d,Z):=by
 unfold Hg;rw[c];dsimp only;rw[h];dsimp only;rw[f]
end Mi
namespace Xc
open PySem L2 Mi
theorem IX(c:Bm 0 ds=true)(h:φ ds []=some (.inl d,u9))(f:flB d=true):FT φ ds Z=some (.inl d,Z):=by
 unfold FT;rw[c];dsimp only;rw[h];dsimp only;rw[f]
theorem EV(c:Bm 0 ds=true)(h:φ ds []=some (.inr (x,none),u9)):FT φ ds Z=some (.inr (x,none),Z):=by
 unfold FT;rw[c];dsimp only;rw[h]
end Xc
namespace L2
open PySem PySem.Spec PyProof.Rows
section
variable{X:Cx}{scope:Scope}{tgs:List Str}{ix:List Nat}
theorem Lx{i:Nat}{y:Str}{py:Pos}{elt tg iter:Expr}(co:Option Expr){pos spos:Pos}{wi:TI}{g:TG}{tc:TT}{te:TE}(hN:X.N.Nodup)(hiN:X.N[i]?=some y)(hy:X.env.scope.names.lookup y=some .local)
  (S:BScope X scope tgs ix) (hc:X.calm=true) (hi:PI X tg iter wi) (hg:∀fp C s H,PG (cxB X scope tgs fp C s H) tg g) (hgk:GK tgs.length g)
  (hif:∀fp C s H,Qe (cxB X scope tgs fp C s H) co tc) (he:∀fp C s H,PE (cxB X scope tgs fp C s H) elt te)
  (hsw:swapsWith (.ListComp elt [⟨tg,iter,co.toList,0⟩] scope pos) (some (.Name y py)) spos.line X.env=pure true:=by rfl) (hs:∀x,foldedSetIterable iter X.env x=pure x:=by intro _;rfl) :
  PS X (.Assign [.Name y py] (.ListComp elt [⟨tg,iter,co.toList,0⟩] scope pos) spos) (UA (Q1 tgs ix wi g tc te) (Ho i)):=by
 intro w6 s O H D0 I h;rw[exec_Assign_Name_used _ _ _ _ hsw];refine AAA (wpAny_standAt (AAA ?_));show wpAny _ X.A (do let _ ←comprehension (.ListComp elt [⟨tg,iter,co.toList,0⟩] scope pos) scope X.env _ (newList []) false (eval iter X.env) (some (assign (.Name y py) X.env))) _ _ s;refine AAA (AAg (wpAny_comprehension_free (use:=some (assign (.Name y py) X.env)) (Q:=λ_ s'=>SP X w6 D0 .next s') rfl hs (Ej (S.cells I.ok)) S.kind S.loc ?_) (λ_ s' hq=>AAB (AAB hq)) λ_ _ e=>e);refine thn (hi w6 s O H _ I h) λv s1 h1=>thn h1 λitv s2 h2=>?_;obtain⟨it,fp,tn,J,H2,e,I2,T,t0,f2,W,w0,turn⟩:=h2;subst e;refine Hv (Q:=λx H1=>Ho i x O H1 D0.nx) (RR:=λacc C=>compPost (model X.prog X.w) X.A X.xe (some (assign (.Name y py) X.env)) (λ_ s'=>SP X w6 D0 .next s') acc C) S hc hg hgk hif he I2 T t0 f2 W w0 turn ?_;intro D C s' H' m J1 q hn fC;obtain⟨f0,f1,f2,f3,f4,f5⟩:=fC;show wpAny _ X.A (assign (.Name y py) X.env (.ref D)) _ _ _;refine wpAny_assign_Name (Jr (v:=.ref D) J1 hN hiN (.inl hy) rfl (λs'' I'' hsb=>?_) (.inr hy));obtain⟨a,sb,ha⟩:=hsb;have hCa:C≠a:=by
  rcases ha with z|z
  ·rw[z];exact f1
  ·exact Ne.symm (f4 y a z)
 exact⟨m,hn.sameBut sb hCa,λh' sb'=>⟨_,H',I''.turned (t':=s''.toks) (λb o hb e=>(sb'.2 b hb).trans e) f0 f1 f3 f4 f5,q⟩⟩
end
end L2
namespace Mi
open PySem L2
section
variable{X:Cx}{K:KW}{scope:Scope}{tgs:List Str}{ix:List Nat}{elt tg iter:Expr}{pos:Pos}{bf:D->Sl->M Sl}{g:TG}{src:Sl->M (List D)}{mc:Sl->M Bool}{me:Sl->M D}{fin:List D->M D}{n:Nat}
structure Tg(n:Nat)(K:KW)(bf:D->Sl->M Sl)(g:TG):Prop where
 gk:GK n g
 gb:∀v O H Q,tG K bf v O H Q->g v O H Q
 mu:∀d B B' Z Z',bf d B Z=some (B',Z')->Z'=Z
theorem BL(h:i<n:=by decide):Tg n K (AK i) (Ho i):=⟨Vc h,λ_ _ _ _ h=>Kl h,λd B B' Z Z' e=>by cases e;rfl⟩
theorem Qx(h:∀i∈is,i<n:=by decide):Tg n K (Dh is) (Ve K is.length (Fp is)):=⟨Yh h,λ_ _ _ _ h=>W8 h,Vz⟩
def Kf(K:KW)(fin:List D->M D):Prop:=∀Y Z Z' H ds vs d (Q:VK),RelH K Y Z H->IsL K Y Z.length H ds vs->fin ds Z=some (d,Z')->(Aft K Y Z H Z' λY' H'=>∀v,Is K Y' Z'.length H' d v->Q v H')->
 vs.length<=sizeLine/\∀p,H p=none->Q (.ref p) (upd H p (.lst vs))
theorem DT:Kf K A0:=λ_ _ _ _ _ _ _ _ R i e q=>II R i e q
def ItX(C:Mh->Mh->Prop)(K:KW)(J:It)(ds:List D)(Y:Nat->Addr)(Z:Mh)(H:Hp):Prop:=∀Y' (Z':Mh) H',C Z Z'->Ext Y Z.length H Y' Z'.length H'->RelH K Y' Z' H'->
 (∀i,i<ds.length->J.go i H')/\J.stop ds.length H'/\∀(i:Nat) x H2 d,ds[i]?=some d->J.yld i H' x H2->Ext Y' Z'.length H' Y' Z'.length H2/\RelH K Y' Z' H2/\Is K Y' Z'.length H2 d x
noncomputable def tIX(C:Mh->Mh->Prop)(K:KW)(m:Sl->M (List D)):TI:=λO H R=>∃Y Z B ds Z',RelH K Y Z H/\RelS K Y Z.length H B O/\m B Z=some (ds,Z') /\
 Aft K Y Z H Z' λY' H'=>∀J,ItX C K J ds Y' Z' H'->R J H'
theorem Z2(h:RI X tg iter src):PI X tg iter (tIX (λ_ _=>True) X.kw src):=PI.wk h.pe λO H R q=>by
 obtain⟨Y,Z,B,ds,Z',R0,S,e,q⟩:=q;exact⟨Y,Z,B,ds,Z',R0,S,e,λv5 H1 E1 R1 J it=>q v5 H1 E1 R1 J λv8 u9 H2 _ E2 R2=>it v8 u9 H2 E2 R2⟩
theorem WC(rf:∀a,C a a)(tr:∀a b c,C a b->C b c->C a c)(T:Tg tgs.length K bf g)(pc:∀B Z b Z',mc B Z=some (b,Z')->C Z Z')(pm:∀B Z b Z',me B Z=some (b,Z')->C Z Z')(hn:tgs.length=n)(hf:Kf K fin)
  (h:tE K (A7 n ix src bf mc me fin) O H Q):Q1 tgs ix (tIX C K src) g (tT K mc) (tE K me) O H Q:=by
 subst hn;obtain⟨Y,Z,B,d,Z',R,S,e,q⟩:=h;obtain⟨ds,w9,e1,e5⟩:=AH e;obtain⟨u,u9,e2,e6⟩:=AH e5;obtain⟨zs,j6,e3,e7⟩:=AH e6;obtain⟨hl,e4⟩:=DC e2;clear e e5 e6;subst e4;refine⟨Y,Z,B,ds,_,R,S,e1,λv5 H1 E1 R1 J it=>?_⟩
 let W:Nat->List V->Hp->Prop:=λi' ys H=>ys.length<=i'/\∃(Y:Nat->Addr) (Z:Mh) (as:List D),RelH K Y Z H/\RelS K Y Z.length H B O/\ItX C K J ds Y Z H/\IsL K Y Z.length H as ys/\ER bf mc me (ED tgs.length ix B) (ds.drop i') as Z=some (zs,j6) /\
  Aft K Y Z H Z' λY' H'=>∀v,Is K Y' Z'.length H' d v->Q v H'
 refine⟨λi' m ys H=>m=ds.length-i'/\i'<=ds.length/\W i' ys H,⟨ds.length,by simp,AAh _,AAF _,v5,_,[],R1,S.ext E1,it,.nil,e3,λv8 H2 E2 R2=>q v8 H2 (E1.trans E2) R2⟩,?_⟩;rintro i' m ys H ⟨hm,hil,hyl,Y,Z,as,R,S,it,ia,e3,q⟩;obtain⟨go,stop,yl⟩:=it Y Z H (rf _) R.ext0 R;by_cases hlt:i'<ds.length
 ·refine .inr ⟨go i' hlt,by omega,W (i'+1),λys' H' z=>⟨_,(by omega:ds.length-(i'+1)<m),rfl,hlt,z⟩,λx H2 y=>?_⟩;obtain⟨E2,R2,ix2⟩:=yl i' x H2 _ (AAq hlt) y;rw[List.drop_eq_getElem_cons hlt] at e3;obtain⟨v9,w9,e1,e5⟩:=AH e3;obtain⟨cc,u9,e2,e6⟩:=AH e5;cases T.mu _ _ _ _ _ e1;have c2:=pc _ _ _ _ e2;have S2:=(S.ext E2).block (tgs:=tgs) (ix:=ix);refine T.gb _ _ _ _ ⟨Y,_,_,_,v9,_,R2,S2,ix2,e1,λn9 H0 E0 R0 σ0 S0=>⟨n9,_,_,cc,u9,R0,S0,e2,λj7 H3 E3 R3=>?_⟩⟩;have E13:=(E2.trans E0).trans E3;have ex:∀{j9 m7 H4},C Z m7->Ext Y Z.length H j9 m7.length H4->ItX C K J ds j9 m7 H4:=λc E m4 m8 H5 c5 E5 R5=>it m4 m8 H5 (tr _ _ _ c c5) (E.trans E5) R5;cases cc with
  |false=>exact⟨by omega,j7,u9,as,R3,S.ext E13,ex c2 E13,ia.ext E13,e6,λm4 H5 E5 R5=>q m4 H5 (E13.trans E5) R5⟩
  |true=>
   obtain⟨y',m7,e4,e8⟩:=AH e6;refine⟨j7,u9,_,y',m7,R3,S0.ext E3,e4,λj9 H4 E4 R4 v iv=>?_⟩;have E14:=E13.trans E4;exact⟨by simp;omega,j9,m7,as++[y'],R4,S.ext E14,ex (tr _ _ _ c2 (pm _ _ _ _ e4)) E14,(ia.ext E14).append (.one iv),e8,λm4 H5 E5 R5=>q m4 H5 (E14.trans E5) R5⟩
 ·have hi':i'=ds.length:=by omega
  subst hi';rw[List.drop_length] at e3;cases e3;obtain⟨z1,z2⟩:=hf Y _ Z' H _ ys d Q R ia e7 q;exact .inl ⟨stop,z1,z2⟩
structure Cp(X:Cx)(scope:Scope)(tgs:List Str)(ix:List Nat)(tg elt:Expr)(co:Option Expr)(bf:D->Sl->M Sl)(mc:Sl->M Bool)(me:Sl->M D):Prop where
 S:BScope X scope tgs ix
 hc:X.calm=true
 T:∃g,Tg tgs.length X.kw bf g/\∀fp C s H,PG (cxB X scope tgs fp C s H) tg g
 t:∀fp C s H,Qe (cxB X scope tgs fp C s H) co (tT X.kw mc)
 e:∀fp C s H,RE (cxB X scope tgs fp C s H) elt me
theorem Zq(rf:∀a,C a a)(tr:∀a b c,C a b->C b c->C a c)(pc:∀B Z b Z',mc B Z=some (b,Z')->C Z Z')(pm:∀B Z b Z',me B Z=some (b,Z')->C Z Z')(c:Cp X scope tgs ix tg elt co bf mc me)(hi:PI X tg iter (tIX C X.kw src))(hf:Kf X.kw fin)(hn:tgs.length=n)(hs:∀x,foldedSetIterable iter X.env x=pure x):RE X (.ListComp elt [⟨tg,iter,co.toList,0⟩] scope pos) (A7 n ix src bf mc me fin):=by
 obtain⟨g,T,hg⟩:=c.T;exact RE.wk (SG co (te:=tE X.kw me) c.S c.hc hi hg T.gk c.t (λfp C s H=>(c.e fp C s H).pe) hs) λ_ _ _ h=>WC rf tr T pc pm hn hf h
theorem Zl(rf:∀a,C a a)(tr:∀a b c,C a b->C b c->C a c)(pc:∀B Z b Z',mc B Z=some (b,Z')->C Z Z')(pm:∀B Z b Z',me B Z=some (b,Z')->C Z Z')(c:Cp X scope tgs ix tg elt co bf mc me)(hi:PI X tg iter (tIX C X.kw src))(hf:Kf X.kw fin)(hN:X.N.Nodup)(hiN:X.N[k]?=some y)(hy:X.env.scope.names.lookup y=some .local)(hn:tgs.length=n)
  (hsw:swapsWith (.ListComp elt [⟨tg,iter,co.toList,0⟩] scope pos) (some (.Name y py)) spos.line X.env=pure true) (hs:∀x,foldedSetIterable iter X.env x=pure x):RS X (.Assign [.Name y py] (.ListComp elt [⟨tg,iter,co.toList,0⟩] scope pos) spos) (AX (A7 n ix src bf mc me fin) (AK k)):=by
 obtain⟨g,T,hg⟩:=c.T;refine RS.wk (Lx co (te:=tE X.kw me) hN hiN hy c.S c.hc hi hg T.gk c.t (λfp C s H=>(c.e fp C s H).pe) hsw hs) λDn O H h=>?_;obtain⟨Y,Z,B,f,B',Z',R,S,e,q⟩:=h;obtain⟨x,w9,e1,e⟩:=AH e;obtain⟨v9,u9,e2,e⟩:=AH e;cases e2;cases e;exact WC rf tr T pc pm hn hf ⟨Y,Z,B,x,_,R,S,e1,λv5 H1 E1 R1 v i1=>q v5 H1 E1 R1 _ ((S.ext E1).set k i1)⟩
theorem EL(c:Cp X scope tgs ix tg elt co bf mc me)(hi:RI X tg iter src)(hf:Kf X.kw fin)(hn:tgs.length=n:=by rfl)(hs:∀x,foldedSetIterable iter X.env x=pure x:=by intro _;rfl):RE X (.ListComp elt [⟨tg,iter,co.toList,0⟩] scope pos) (A7 n ix src bf mc me fin):=
 Zq (λ_=>trivial) (λ_ _ _ _ _=>trivial) (λ_ _ _ _ _=>trivial) (λ_ _ _ _ _=>trivial) c (Z2 hi) hf hn hs
theorem UW(c:Cp X scope tgs ix tg elt co bf mc me)(hi:RI X tg iter src)(hf:Kf X.kw fin)(hN:X.N.Nodup)(hiN:X.N[k]?=some y:=by rfl)(hy:X.env.scope.names.lookup y=some .local:=by rfl)(hn:tgs.length=n:=by rfl)
  (hsw:swapsWith (.ListComp elt [⟨tg,iter,co.toList,0⟩] scope pos) (some (.Name y py)) spos.line X.env=pure true:=by rfl) (hs:∀x,foldedSetIterable iter X.env x=pure x:=by intro _;rfl):RS X (.Assign [.Name y py] (.ListComp elt [⟨tg,iter,co.toList,0⟩] scope pos) spos) (AX (A7 n ix src bf mc me fin) (AK k)):=
 Zl (λ_=>trivial) (λ_ _ _ _ _=>trivial) (λ_ _ _ _ _=>trivial) (λ_ _ _ _ _=>trivial) c (Z2 hi) hf hN hiN hy hn hsw hs
end
section
variable{X:Cx}{o:Expr}{pos apos:Pos}
theorem Rh{c mm:Str}{ps:List Str}{k j:Nat}{φ:List D->M D}{mo:Sl->M D}{pl:Sem Bool}(F:Mth X.prog X.w X.kw X.mg X.base c mm ps k φ)(hr:Room j X.A)(ho:RE X o mo)(hkj:k<=j:=by decide)
  (ht:eval (.Call (.Attribute o mm apos) [] [] pos) X.env=(do
   let ov ←eval o X.env
   standAt apos.atName
   let (f,first) ←holding [ov] (getMethod ov mm pl)
   callWith pos f first (backTo pos (starEach [] X.env)) (backToKw pos (keywordEach [] X.env))):=by rfl):RE X (.Call (.Attribute o mm apos) [] [] pos) (Et c mm φ mo AI):=by
 obtain⟨len,C,f,fd,ca,M,F,hb⟩:=F;refine RE.wk (R9 (pl:=pl) ho.pe ca.cl M F (hr.mono hkj) hb .nil OX ht) λO H Q h=>?_;obtain⟨Y,Z,B,d,Z',R,S,ev,q⟩:=h;obtain⟨x,w9,e1,e2⟩:=AH ev;obtain⟨r,u9,e3,e4⟩:=AH e2;refine⟨Y,Z,B,x,w9,R,S,e1,λv5 H1 E1 R1 v1 i1=>?_⟩;obtain⟨hm,ex,g1,rfl,C',dx,fs,g2,g3,g4,g5⟩:=D8 R1 i1 e3;subst hm;cases ca.at_.eq g3;split at e4
 ·rename_i hl;have e4:φ [x] u9=some (d,Z'):=e4;have hlen:=len _ _ _ e4;exact⟨_,dx,fs,rfl,g2,g5.none hl,hlen,v5,_,_,_,_,R1,.one i1,e4,λj7 H3 E3 R3 v iv=>q j7 H3 (E1.trans E3) R3 v iv⟩
 ·cases e4
end
section
variable{X:Cx}{e o f:Expr}{apos cpos:Pos}
noncomputable def Yw(d y z:D):M D:=bnd (FA d) λr=>λZ=>(Iz y).map λk=>((Ki r.2 k).getD z,Z)
noncomputable def SX(mo mi mz:Sl->M D):Sl->M D:=λB=>bnd (mo B) λx=>bnd (Nf x) λ_=>bnd (mi B) λy=>bnd (mz B) λz=>Yw x y z
theorem Rk{mo mi mz:Sl->M D}{k:Nat}(hr:Room k X.A)(ho:RE X o mo)(hi:RE X e mi)(hz:RE X f mz)(m:M2 X o "get" apos e f cpos:=by exact⟨rfl,rfl,rfl,rfl⟩):RE X (.Call (.Attribute o "get" apos) [e,f] [] cpos) (SX mo mi mz):=RE.wk (SE (KG hr) ho.pe hi.pe hz.pe m) λO H Q h=>by
 obtain⟨Y,Z,B,d,Z',R,S,ev,q⟩:=h;obtain⟨x,w9,e1,ee1⟩:=AH ev;obtain⟨u,u9,e2,ee2⟩:=AH ee1;obtain⟨y,j6,e3,ee3⟩:=AH ee2;obtain⟨z,m7,e4,ee4⟩:=AH ee3;obtain⟨r,m8,e5,ee5⟩:=AH ee4;obtain⟨hm,r0,hr0⟩:=KK e2;subst hm;refine⟨Y,Z,B,x,_,R,S,e1,λv5 H1 E1 R1 v1 i1=>?_⟩;obtain⟨_,_,_,rfl,kvs0,g0,_⟩:=B4 R1 i1 hr0;refine⟨_,rfl,.inl ⟨kvs0,.inl g0⟩,v5,_,B,y,j6,R1,S.ext E1,e3,λv8 H2 E2 R2 v2 i2=>⟨v8,j6,B,z,m7,R2,S.ext (E1.trans E2),e4,λj7 H3 E3 R3 v3 i3=>?_⟩⟩;have E23:=E2.trans E3;obtain⟨hm,_,g1,ev2,kvs,g2,g3⟩:=B4 R3 (i1.ext E23) e5;subst hm;cases hk:Iz y with
 |none=>rw[hk] at ee5;cases ee5
 |some ky=>
  rw[hk] at ee5;cases ee5;cases Gv (i2.ext E3) hk;have ea:v5 r0.1=j7 r.1:=V.ref.inj ev2;rw[ea];rcases g3.val ky with ⟨z1,z2⟩|⟨dd,vv,z1,z2,z3⟩
  ·exact⟨none,by rw[←z2];exact DGet.k g2,by rw[z1] at q;exact q j7 H3 (E1.trans E23) R3 _ i3⟩
  ·exact⟨some vv,by rw[←z2];exact DGet.k g2,by rw[z1] at q;exact q j7 H3 (E1.trans E23) R3 _ z3⟩
end
end Mi
namespace K52
open PySem L2 Mi Xc
open K1 (Du Ef CT Dv CS DB DK Bt DL Dj Ci GA B9 CK Cj DA CJ Ck C9 Bl DZ)
open K4 (CB Ee Gr CC CV CU CF Cq Bh Co CD)
noncomputable def GD(c6:List D->M D):Sl->M (Fl×Sl):=
  (AO (AX (AG Ed AI) (AK 1))
  (AO (B3 (BC (AD 0)) (AK 2) (Cm (Bi Ni (AD 1) (AB (AG c6 (AB (AD 2) AI)) AI))))
  (Ao (A7 1 [] (BC (mUn Js (AD 1))) (AK 0) (AS (mOp Dd (AD 0) (mC (.str "v")))) (AD 0) A0))))
noncomputable def HN(ST:List D->M D):Sl->M (Fl×Sl):=
  (AO (RM "Names" "taken" (AD 0) (NU [.inr "v"] (AB (mC (.bl true)) AI)))
  (AO (B3 (BC (mC Bl)) (AK 2) (Do (mUn (ML "Names" "taken") (AD 0)) (AD 2) (mC (.bl true))))
  (AO (B3 (BC (mOp AM (AD 1) (mC (.int 3)))) (AK 3) (Do (mUn (ML "Names" "taken") (AD 0)) (mOp AM (AD 3) (mC (.int 0))) (mC (.bl true))))
  (AO (B3 (BC (mOp AM (AD 1) (mC (.int 4)))) (AK 4) (B3 (BC (AG ST (AB (mOp AM (AD 4) (mC (.int 2))) AI))) (AK 2) (Do (mUn (ML "Names" "taken") (AD 0)) (AD 2) (mC (.bl true)))))
  (RM "Names" "tried" (AD 0) (mC (.int 0)))))))
noncomputable def HM(dD:List D->M D):Sl->M (Fl×Sl):=
  (AO (AX (AG dD (AB (mUn (ML "Names" "tried") (AD 0)) AI)) (AK 1))
  (AO (M4 EO (AS (mOp (QI false) (AD 1) (mUn (ML "Names" "taken") (AD 0)))) (AO (WF "Names" "tried" (AD 0) 1)
  (AX (AG dD (AB (mUn (ML "Names" "tried") (AD 0)) AI)) (AK 1))))
  (AO (Do (mUn (ML "Names" "taken") (AD 0)) (AD 1) (mC (.bl true)))
  (Ao (AD 1)))))
noncomputable def K3(dL:List D->M D):Sl->M (Fl×Sl):=
  (AO (AX NN (AK 2))
  (AO (B3 (BC (AD 1)) (AK 3) (Do (AD 2) (AD 3) (Et "Names" "give_one" dL (AD 0) AI)))
  (Ao (AD 2))))
noncomputable def IA  : Sl->M (Fl×Sl):=
  (AO (AX (mOp AM (mC Bt) (mOp EE (AD 0) (AG Bc (AB (mC Bt) AI)))) (AK 1))
  (AO (M4 EO (AS (mOp UZ (AD 0) (AG Bc (AB (mC Bt) AI)))) (AO (AX (mOp Bq (mOp Ep (AD 0) (AG Bc (AB (mC Bt) AI))) (mC (.int 1))) (AK 0))
  (AX (mOp Ah (mOp AM (mC Bt) (mOp EE (AD 0) (AG Bc (AB (mC Bt) AI)))) (AD 1)) (AK 1))))
  (Ao (AD 1))))
noncomputable def Fi(dH:List D->M D)(da:List D->M Dx)(cv:List D->M D)(cj:List D->M D)(ST:List D->M D)(cz:List D->M D)(dE:List D->M D)(cp:List D->M Dx):Sl->M (Fl×Sl):=
  (AO (AX (A7 2 [1] (Eu (AB (mOp AM (AD 0) (mC (.int 3))) AI)) (Dh [0,1]) (AS (mOp BO (mOp AM (AD 1) (mC (.int 0))) (AD 2))) (AD 0) A0) (AK 3))
  (AO (sIf (AS (mOp BO (AG Bc (AB (AD 3) AI)) (mC (.int 0)))) (GQ "NoUpon" (AB (mC (.str "outer has no such box")) AI)) A6)
  (AO (AX (mOp AM (mOp AM (AD 0) (mC (.int 3))) (mOp AM (AD 3) (mC (.int 0)))) (AK 4))
  (AO (AX (A7 1 [1] (BC (mOp AM (AD 0) (mC (.int 4)))) (AK 0) (AS (AG dH (AB (AD 0) (AB (mC (.str "get")) (AB (AD 1) AI))))) (mOp AM (AD 0) (mC (.int 0))) A0) (AK 5))
  (AO (Am (Ad da (AB (AD 4) (AB (AD 2) (AB (AG Bc (AB (AD 5) AI)) AI)))))
  (AO (AX (AG (Oe "Names" cv) (AB (AD 0) AI)) (AK 6))
  (AO (AX (Et "Names" "give" cj (AD 6) (AB (A7 1 [] (BC (mOp AM (AD 2) (mC (.int 3)))) (AK 0) BH (mOp AM (AD 0) (mC (.int 0))) A0) AI)) (AK 7))
  (AO (AX (AG Ed (AB (Et "Names" "give" cj (AD 6) (AB (AG Kn (AB (mOp Ah (AG ST (AB (mOp AM (mOp AM (mOp AM (AD 2) (mC (.int 4))) (mC (.int 0))) (mC (.int 2))) AI)) (AG A0 (AB (mC (.str "v")) AI))) AI)) AI)) AI)) (AK 8))
  (AO (B3 (KB (AB (AG Bc (AB (AD 5) AI)) AI)) (AK 9) (Cm (Bi GE (AD 8) (AB (Et "Names" "give" cj (AD 6) (AB (AG ST (AB (mOp AM (mOp AM (mOp AM (AD 2) (mC (.int 4))) (mOp Ah (AD 9) (mC (.int 1)))) (mC (.int 2))) AI)) AI)) AI))))
  (AO (AX (mOp Ah (mOp Ah (Cw (mOp AM (AD 0) (mC (.int 3))) BJ (BV (mOp AM (AD 3) (mC (.int 0))))) (AG cz (AB (AD 2) (AB (AD 7) (AB (mOp AM (AD 4) (mC (.int 4))) (AB (AD 5) AI)))))) (Cw (mOp AM (AD 0) (mC (.int 3))) (BV (mOp Ah (mOp AM (AD 3) (mC (.int 0))) (mC (.int 1)))) BJ)) (AK 10))
  (AO (AX (A7 1 [7,5,2,1,8] (BC (mOp AM (AD 0) (mC (.int 4)))) (AK 0) BH (AG dE (AB (AD 0) (AB (AD 4) (AB (AD 3) (AB (AG A4 (AB (AD 1) (AB (AD 5) (AB (AD 2) AI)))) AI))))) A0) (AK 11))
  (AO (AX (mOp Ah (Cw (AD 0) BJ (BV (mC (.int 3)))) (AG A4 (AB (AD 10) (AB (AG DH (AB (AD 11) AI)) AI)))) (AK 12))
  (AO (Fa (Am (Ad cp (AB (AD 12) AI))) ["NoMaking"] "NoUpon")
  (Ao (AD 12)))))))))))))))
noncomputable def Pw(dI:List D->M D):Sl->M (Fl×Sl):=
  (Ao (AG Y8 (AB (A7 1 [2,1] (BC (mOp AM (AD 0) (mC (.int 2)))) (AK 0) BH (Dy (mOp BO (mOp AM (AD 0) (mC (.int 0))) (AD 2)) (mOp BO (AG dI (AB (AD 0) AI)) (AD 1))) A0) AI)))
noncomputable def SV  : Sl->M (Fl×Sl):=
  (AO (sIf (AS (mOp BO (mOp AM (AD 0) (mC (.int 0))) (mC (.str "put")))) (Ao (mOp AM (AD 0) (mC (.int 1)))) A6)
  (Ao (mIf (AS (mOp BO (mOp AM (AD 0) (mC (.int 0))) (mC (.str "get")))) (mOp AM (AD 0) (mC (.int 2))) (mC .non))))
noncomputable def K0  : Sl->M (Fl×Sl):=
  (AO (sIf (AS (mOp Dd (Cw (AD 1) (BV (mC (.int 1))) (BV (mC (.int 3)))) (Cw (AD 0) (BV (mC (.int 2))) (BV (mC (.int 4)))))) (GQ "NoUpon" (AB (mC (.str "the inner making has another size or begin")) AI)) A6)
  (AO (sIf (AS (mOp NC (mUn (Sy ["safe", "steady", "whole"]) (mOp AM (AD 1) (mC (.int 0)))) (mUn (Sy ["safe", "steady", "whole"]) (mOp AM (AD 0) (mC (.int 1)))))) (GQ "NoUpon" (AB (mC (.str "the inner making makes a weaker kind")) AI)) A6)
  (sIf (AS (mOp NC (mOp Bq (AG Bc (AB (mOp AM (AD 1) (mC (.int 4))) AI)) (mC (.int 1))) (AD 2))) (GQ "NoUpon" (AB (mC (.str "the inner making has too few readers")) AI)) A6)))
noncomputable def Iv  : Sl->M (Fl×Sl):=
  (AO (AX (mOp Ah (AG A0 (AB (AD 2) AI)) (AD 3)) (AK 4))
  (AO (AX NN (AK 5))
  (AO (B3 (Eu (AB (mOp AM (AD 0) (mC (.int 4))) AI)) (Dh [6,7]) (Do (AD 5) (mOp AM (AD 7) (mC (.int 0))) (mIf (AS (mOp NC (AD 6) (AG Bc (AB (AD 4) AI)))) (mOp AM (AD 4) (AD 6)) (AD 2))))
  (Ao (AG DH (AB (A7 1 [1,5] (BC (mOp AM (AD 0) (mC (.int 3)))) (AK 0) BH (mOp Ah (mOp Ah (AG A4 (AB (mOp JM (AD 1) (mOp AM (AD 0) (mC (.int 0)))) AI)) (Cw (AD 0) (BV (mC (.int 1))) (BV (mC (.int 4))))) (AG A4 (AB (mOp JM (AD 2) (mOp AM (AD 0) (mC (.int 4)))) AI))) A0) AI))))))
noncomputable def Fj(dI:List D->M D)(di:List D->M D)(dj:List D->M D)(de:List D->M D):Sl->M (Fl×Sl):=
  (AO (AX (mOp AM (AD 3) (mC (.int 0))) (AK 4))
  (AO (AX (mOp AM (AD 3) (mC (.int 1))) (AK 5))
  (AO (AX NN (AK 6))
  (AO (B3 (Eu (AB (mOp AM (AD 0) (mC (.int 2))) AI)) (Dh [7,8]) (AO (sIf (AS (mOp Dd (AG dI (AB (AD 8) AI)) (AD 1))) ON A6)
  (sIf (AS (mOp BO (mOp AM (AD 8) (mC (.int 0))) (mC (.str "put")))) (Do (AD 6) (AD 7) (AG di (AB (mOp AM (AD 8) (mC (.int 2))) (AB (mOp AM (mOp AM (mOp AM (AD 2) (mC (.int 4))) (mC (.int 0))) (mC (.int 2))) (AB (mOp AM (AD 5) (mC (.int 0))) (AB (AD 4) AI)))))) (AO (AX (mOp Ah (Bi Su (mOp AM (AD 3) (mC (.int 2))) (AB (mOp AM (AD 0) (mC (.int 0))) AI)) (mC (.int 1))) (AK 9))
  (Do (AD 6) (AD 7) (AG dj (AB (mOp AM (AD 8) (mC (.int 1))) (AB (mOp AM (mOp AM (mOp AM (AD 2) (mC (.int 4))) (AD 9)) (mC (.int 2))) (AB (mOp AM (AD 5) (AD 9)) (AB (AD 4) AI))))))))))
  (AO (sIf (AS (mOp BO (AG Ol (AB (AD 6) AI)) (mC (.int 0)))) (Ao (AD 0)) A6)
  (AO (AX (AG KA (AB (A7 1 [] (BC (mOp AM (AD 2) (mC (.int 4)))) (AK 0) BH (mOp AM (AD 0) (mC (.int 1))) A0) AI)) (AK 10))
  (Ao (AG A4 (AB (mOp AM (AD 0) (mC (.int 0))) (AB (mIf (AS (mOp Hz (AD 10) (mC (.int 0)))) (mOp C7 (mOp AM (AD 0) (mC (.int 1))) (AD 10)) (mOp AM (AD 0) (mC (.int 1)))) (AB (AG de (AB (mOp AM (AD 0) (mC (.int 2))) (AB (AD 6) AI))) AI)))))))))))
noncomputable def NR(c8:List D->M D)(dA:List D->M D)(dF:List D->M D):Sl->M (Fl×Sl):=
  (AO (AX (AG Ed (AB (AG A0 (AB (AG A4 (AB (mC (.str "let")) (AB (mOp JM (AD 2) (mC (.str "v"))) (AB (AD 0) AI)))) AI)) AI)) (AK 4))
  (AO (B3 (BC (AD 1)) (AK 5) (Cm (Bi GE (AD 4) (AB (AG A0 (AB (mIf (AS (mOp BO (mOp AM (AD 5) (mC (.int 0))) (mC (.str "done")))) (AG A4 (AB (mC (.str "jump")) (AB (AG Bc (AB (AD 1) AI)) AI))) (AG c8 (AB (AD 5) (AB (AD 2) (AB (AD 3) AI))))) AI)) AI))))
  (Ao (AG dF (AB (AD 4) (AB (Cw (AG dA (AB (AD 4) AI)) (BV (mC (.int 1))) BJ) AI))))))
noncomputable def NS(c7:List D->M D)(c8:List D->M D)(dA:List D->M D)(dF:List D->M D):Sl->M (Fl×Sl):=
  (AO (AX (AG Ed AI) (AK 4))
  (AO (B3 (BC (AD 1)) (AK 5) (sIf (AS (mOp BO (mOp AM (AD 5) (mC (.int 0))) (mC (.str "tell")))) (Cm (Bi GE (AD 4) (AB (AG A0 (AB (AG A4 (AB (mC (.str "let")) (AB (AD 0) (AB (AG c7 (AB (mOp AM (AD 5) (mC (.int 1))) (AB (AD 2) AI))) AI)))) (AB (AG A4 (AB (mC (.str "jump")) (AB (AG Bc (AB (AD 1) AI)) AI))) AI))) AI))) (Cm (Bi GE (AD 4) (AB (AG A0 (AB (AG c8 (AB (AD 5) (AB (AD 2) (AB (AD 3) AI)))) AI)) AI)))))
  (Ao (AG dF (AB (AD 4) (AB (AG dA (AB (AD 4) AI)) AI))))))
noncomputable def Jg(c7:List D->M D):Sl->M (Fl×Sl):=
  (AO (AX (AG Ed (AB (mOp AM (AD 0) (mC (.int 0))) AI)) (AK 3))
  (AO (B3 (VJ (AB (mUn (Os DZ) (mOp AM (AD 0) (mC (.int 0)))) (AB (Cw (AD 0) (BV (mC (.int 1))) BJ) AI))) (Dh [4,5]) (sIf (AS (mOp BO (AD 4) (mC (.str "box")))) (Cm (Bi GE (AD 3) (AB (mOp JM (AD 2) (AD 5)) AI))) (sIf (AS (mOp BO (AD 4) (mC (.str "variable")))) (Cm (Bi GE (AD 3) (AB (mOp JM (AD 1) (AD 5)) AI))) (Cm (Bi GE (AD 3) (AB (mIf (AS (mOp BO (AD 4) (mC (.str "expression")))) (AG c7 (AB (AD 5) (AB (AD 1) AI))) (AD 5)) AI))))))
  (Ao (AG DH (AB (AD 3) AI)))))
noncomputable def Pu(c7:List D->M D):Sl->M (Fl×Sl):=
  (AO (sIf (AS (mOp BO (mOp AM (AD 0) (mC (.int 0))) (mC (.str "num")))) (Ao (AD 0)) A6)
  (AO (sIf (AS (mOp BO (mOp AM (AD 0) (mC (.int 0))) (mC (.str "var")))) (Ao (AG A4 (AB (mC (.str "var")) (AB (mOp JM (AD 1) (mOp AM (AD 0) (mC (.int 1)))) AI)))) A6)
  (Ao (mOp Ah (Cw (AD 0) BJ (BV (mC (.int 1)))) (AG DH (AB (A7 1 [1] (BC (Cw (AD 0) (BV (mC (.int 1))) BJ)) (AK 0) BH (AG c7 (AB (AD 0) (AB (AD 1) AI))) A0) AI))))))
noncomputable def L8  : Sl->M (Fl×Sl):=
  (AO (AX (AG Ed (AB (mC (.int 0)) AI)) (AK 1))
  (AO (B3 (BC (AD 0)) (AK 2) (Cm (Bi GE (AD 1) (AB (mOp Ah (mOp AM (AD 1) (mUn Ro (mC (.int 1)))) (AG Bc (AB (AD 2) AI))) AI))))
  (Ao (AD 1))))
noncomputable def Ky  : Sl->M (Fl×Sl):=
  (AO (AX (AG Ed (AB (mC (.int 0)) AI)) (AK 1))
  (AO (RL 1000 (AD 0) (AK 2) (Cm (Bi GE (AD 1) (AB (mOp Ah (mOp AM (AD 1) (mUn Ro (mC (.int 1)))) (AG Bc (AB (AD 2) AI))) AI))))
  (Ao (AD 1))))
noncomputable def Pv(df:List D->M D):Sl->M (Fl×Sl):=
  (AO (AX (AG Ed AI) (AK 2))
  (AO (RL 1000 (AD 0) (AK 3) (Cm (Bi Ni (AD 2) (AB (A7 1 [1] (BC (AD 3)) (AK 0) BH (AG df (AB (AD 0) (AB (AD 1) AI))) A0) AI))))
  (Ao (AD 2))))
noncomputable def aO  : Sl->M (Fl×Sl):=
  (AO (sIf (AS (mOp BO (mOp AM (AD 0) (mC (.int 0))) (mC (.str "jump")))) (Ao (AG A4 (AB (mC (.str "jump")) (AB (mOp AM (AD 1) (mOp AM (AD 0) (mC (.int 1)))) AI)))) A6)
  (Ao (mIf (AS (mOp BO (mOp AM (AD 0) (mC (.int 0))) (mC (.str "unless")))) (AG A4 (AB (mC (.str "unless")) (AB (mOp AM (AD 0) (mC (.int 1))) (AB (mOp AM (AD 1) (mOp AM (AD 0) (mC (.int 2)))) AI)))) (AD 0))))
noncomputable def L9(db:List D->M D)(df:List D->M D):Sl->M (Fl×Sl):=
  (AO (AX (A7 2 [1] (Eu (AB (AD 0) AI)) (Dh [0,1]) BH (SX (AD 2) (AD 0) (AG A0 (AB (AD 1) AI))) A0) (AK 2))
  (AO (AX (AG db (AB (AD 2) AI)) (AK 3))
  (AO (AX (AG Ed AI) (AK 4))
  (AO (B3 (WY (AB (AD 2) AI)) (Dh [5,6]) (AO (AX (mIf (AS (mOp (QI false) (AD 5) (AD 1))) (mOp WZ (mOp AM (AD 3) (AD 5)) (mOp Ah (mOp AM (AD 3) (mOp Ah (AD 5) (mC (.int 1)))) (mC (.int 1)))) (AD 3)) (AK 7))
  (Cm (Bi Ni (AD 4) (AB (A7 1 [7] (BC (AD 6)) (AK 0) BH (AG df (AB (AD 0) (AB (AD 1) AI))) A0) AI)))))
  (Ao (AG DH (AB (AD 4) AI)))))))
noncomputable def Og(dh:List D->M D):Sl->M (Fl×Sl):=
  (AO (AX (AG dh (AB (AD 0) (AB (AD 1) AI))) (AK 2))
  (Ao (AG Ed (AB (mOp C7 (AD 2) (AG P6 (AB (mOp UZ (AD 2) (mOp WM (mC (.int 10)) (mC (.int 18)))) AI))) (AB (mOp Ah (mOp EE (AD 2) (mC (.int 2147483647))) (mOp C7 (mC (.int 7919)) (AD 1))) (AB (mC (.int 0)) AI))))))
noncomputable def Gs  : Sl->M (Fl×Sl):=
  (AO (sIf (AS (mOp Hz (mOp AM (AD 0) (mC (.int 0))) (mC (.int 0)))) (AO (AX (mOp EE (mOp AM (AD 0) (mC (.int 0))) (AD 1)) (AK 2))
  (AO (AX (mOp Ep (mOp AM (AD 0) (mC (.int 0))) (AD 1)) (Tj (AD 0) (mC (.int 0))))
  (Ao (AD 2)))) A6)
  (AO (AX (mOp Ah (mOp AM (AD 0) (mC (.int 2))) (mC (.int 1))) (Tj (AD 0) (mC (.int 2))))
  (AO (AX (mOp EE (mOp C7 (mOp Ah (mOp Ah (mOp AM (AD 0) (mC (.int 1))) (mOp C7 (mC (.int 104729)) (mOp AM (AD 0) (mC (.int 2))))) (mC (.int 1))) (mC (.int 48271))) (mC (.int 2147483647))) (AK 3))
  (AO (AX (mOp EE (mOp C7 (AD 3) (mOp Ah (mOp Ep (AD 3) (mC (.int 1009))) (mC (.int 69621)))) (mC (.int 2147483647))) (AK 3))
  (Ao (mOp EE (mOp EE (mOp C7 (AD 3) (mOp Ah (mOp Ep (AD 3) (mC (.int 2003))) (mC (.int 40692)))) (mC (.int 2147483399))) (AD 1)))))))
noncomputable def K5(dc:List D->M Dx):Sl->M (Fl×Sl):=
  (AO (AX (mC .non) (AK 3))
  (AO (UJ (J2 3 (Ad dc (AB (AD 0) (AB (AD 1) (AB (AD 2) AI))))) 4 ["NoUpon"] (AO (AX (NT [("NoUpon",false)] (AD 4)) (AK 5))
  (sIf (mOr (AS (AD 5)) (mOr (Ce (AS (NT [("NoUpon",true)] (AD 4)))) (Ce (AS (NT [("NoUpon",true)] (AD 4)))))) (AX (mC (.str "other")) (AK 3)) A6)))
  (Ao (AD 3))))
noncomputable def SW  : Sl->M (Fl×Sl):=
  (AO (AX (mOp Ah (mOp NA (AG A4 (AB (AG A4 (AB (mC (.str "let")) (AB (mC (.str "b")) (AB (AG A4 (AB (mC (.str "num")) (AB (mC (.int 1)) AI))) AI)))) AI)) (AD 4)) (AG A4 (AB (AG A4 (AB (mC (.str "put")) (AB (mC (.str "x")) (AB (AG A4 (AB (mC (.str "var")) (AB (mC (.str "v")) AI))) AI)))) AI))) (AK 7))
  (AO (AX (AG Ed (AB (AG A4 (AB (mC (.str "w")) (AB (AD 5) (AB (AD 7) AI)))) AI)) (AK 8))
  (AO (B3 (BC (Cw (AG A0 (AB (mC (.str "r")) (AB (mC (.str "s")) (AB (mC (.str "t")) AI)))) BJ (BV (AD 3)))) (AK 9) (Cm (Bi GE (AD 8) (AB (AG A4 (AB (AD 9) (AB (mC (.int 3)) (AB (AG A4 (AB (AG A4 (AB (mC (.str "get")) (AB (mC (.str "a")) (AB (mC (.str "x")) AI)))) (AB (AG A4 (AB (mC (.str "tell")) (AB (AG A4 (AB (mC (.str "var")) (AB (mC (.str "a")) AI))) AI))) AI))) AI)))) AI))))
  (AO (AX (AG Ed (AB (AG A4 (AB (mC (.str "x")) (AB (AD 0) (AB (AD 1) (AB (AD 2) (AB (mC (.str "w")) AI)))))) AI)) (AK 10))
  (AO (B3 (BC (Cw (AG A0 (AB (mC (.str "ba")) (AB (mC (.str "bb")) (AB (mC (.str "bc")) (AB (mC (.str "bd")) (AB (mC (.str "be")) AI)))))) BJ (BV (AD 6)))) (AK 9) (Cm (Bi GE (AD 10) (AB (AG A4 (AB (AD 9) (AB (mC (.str "safe")) (AB (mC (.int 2)) (AB (mC (.int 0)) (AB (mC (.str "r")) AI)))))) AI))))
  (Ao (AG A4 (AB (AD 0) (AB (AD 1) (AB (AD 2) (AB (AG DH (AB (AD 10) AI)) (AB (AG DH (AB (AD 8) AI)) AI))))))))))))
noncomputable def MA  : Sl->M (Fl×Sl):=
  (AO (AX (Cw (AG A0 (AB (mC (.str "x")) (AB (mC (.str "ya")) (AB (mC (.str "yb")) (AB (mC (.str "yc")) (AB (mC (.str "yd")) (AB (mC (.str "ye")) AI))))))) BJ (BV (AD 4))) (AK 6))
  (AO (AX (AG DH (AB (A7 1 [2,1] (BC (AD 6)) (AK 0) BH (AG A4 (AB (AD 0) (AB (mC (.str "whole")) (AB (AD 2) (AB (AD 1) (AB (mC (.str "w")) AI)))))) A0) AI)) (AK 7))
  (AO (AX (AG Ed (AB (AG A4 (AB (mC (.str "w")) (AB (AD 5) (AB (mOp Ah (AG DH (AB (A7 1 [] (BC (AD 6)) (AK 0) BH (AG A4 (AB (mC (.str "put")) (AB (AD 0) (AB (AG A4 (AB (mC (.str "var")) (AB (mC (.str "v")) AI))) AI)))) A0) AI)) (AG A4 (AB (AG A4 (AB (mC (.str "done")) AI)) AI))) AI)))) AI)) (AK 8))
  (AO (B3 (BC (Cw (AG A0 (AB (mC (.str "r")) (AB (mC (.str "s")) (AB (mC (.str "t")) AI)))) BJ (BV (AD 3)))) (AK 9) (Cm (Bi GE (AD 8) (AB (AG A4 (AB (AD 9) (AB (mC (.int 1)) (AB (AG A4 (AB (AG A4 (AB (mC (.str "get")) (AB (mC (.str "a")) (AB (mC (.str "x")) AI)))) (AB (AG A4 (AB (mC (.str "tell")) (AB (AG A4 (AB (mC (.str "var")) (AB (mC (.str "a")) AI))) AI))) AI))) AI)))) AI))))
  (Ao (AG A4 (AB (AD 0) (AB (AD 1) (AB (AD 2) (AB (AD 7) (AB (AG DH (AB (AD 8) AI)) AI)))))))))))
noncomputable def Iw(dR:List D->M D)(cp:List D->M Dx):Sl->M (Fl×Sl):=
  (AO (AX (AG dR (AB (AD 0) (AB (AD 1) (AB (AD 2) AI)))) (AK 4))
  (AO (sIf (Ce (AS (AD 3))) (Ao (mOp (GC false) (AD 4) (mC .non))) A6)
  (AO (sIf (mOr (AS (mOp (GC false) (AD 4) (mC .non))) (mOr (AS (mOp BO (AD 4) (mC (.str "other")))) (AS (mOp (GC true) (AG (vals cp) (AB (AD 4) AI)) (mC .non))))) (Ao (mC (.bl false))) A6)
  (AO (AX (AG KA (AB (mOp Ah (AG A0 (AB (mC (.int 1)) AI)) (A7 1 [] (BC (mOp AM (AD 2) (mC (.int 4)))) (AK 0) BH (mOp AM (AD 0) (mC (.int 1))) A0)) AI)) (AK 5))
  (AO (sIf (mOr (AS (mOp Dd (AG Bc (AB (mOp AM (AD 4) (mC (.int 3))) AI)) (mOp Ah (mOp Bq (AG Bc (AB (mOp AM (AD 0) (mC (.int 3))) AI)) (mC (.int 1))) (AG Bc (AB (mOp AM (AD 2) (mC (.int 3))) AI))))) (AS (mOp Dd (Cw (AD 4) BJ (BV (mC (.int 3)))) (Cw (AD 0) BJ (BV (mC (.int 3))))))) (Ao (mC (.bl false))) A6)
  (AO (AX (mOp Ah (AG A0 (AB (mOp Ah (AG Bc (AB (mOp AM (mOp AM (mOp AM (AD 0) (mC (.int 4))) (mC (.int 0))) (mC (.int 2))) AI)) (AG Bc (AB (mOp AM (mOp AM (mOp AM (AD 2) (mC (.int 4))) (mC (.int 0))) (mC (.int 2))) AI))) AI)) (mOp C7 (AG A0 (AB (mC (.int 4)) AI)) (mOp Bq (AG Bc (AB (mOp AM (AD 0) (mC (.int 4))) AI)) (mC (.int 1))))) (AK 6))
  (AO (sIf (AS (mOp Dd (A7 1 [] (BC (mOp AM (AD 4) (mC (.int 4)))) (AK 0) BH (AG Bc (AB (mOp AM (AD 0) (mC (.int 2))) AI)) A0) (AD 6))) (Ao (mC (.bl false))) A6)
  (AO (sIf (AS (mOp Dd (A7 1 [] (BC (mOp AM (AD 4) (mC (.int 4)))) (AK 0) BH (mOp AM (AD 0) (mC (.int 0))) A0) (A7 1 [] (BC (mOp AM (AD 0) (mC (.int 4)))) (AK 0) BH (mOp AM (AD 0) (mC (.int 0))) A0))) (Ao (mC (.bl false))) A6)
  (Ao (mOp BO (A7 1 [] (BC (mOp AM (AD 4) (mC (.int 4)))) (AK 0) BH (mOp AM (AD 0) (mC (.int 1))) A0) (A7 1 [5] (BC (mOp AM (AD 0) (mC (.int 4)))) (AK 0) BH (mOp C7 (mOp AM (AD 0) (mC (.int 1))) (AD 1)) A0)))))))))))
noncomputable def MB(ci:List D->M D):Sl->M (Fl×Sl):=
  (AO (AX (AG ci (AB (AD 0) (AB (mC (.int 3)) AI))) (AK 1))
  (AO (AX (mOp Ah (mC (.int 2)) (AG ci (AB (AD 0) (AB (mC (.int 8)) AI)))) (AK 2))
  (AO (AX (mOp Ah (AD 1) (AG ci (AB (AD 0) (AB (mOp Bq (mC (.int 3)) (AD 1)) AI)))) (AK 3))
  (Ao (AG A4 (AB (AD 1) (AB (AD 3) (AB (AD 2) (AB (AG ci (AB (AD 0) (AB (AD 2) AI))) (AB (mOp Ah (mC (.int 1)) (AG ci (AB (AD 0) (AB (mC (.int 3)) AI)))) (AB (mOp Ah (mC (.int 1)) (AG ci (AB (AD 0) (AB (mC (.int 3)) AI)))) AI)))))))))))
noncomputable def FI(ck:List D->M D)(cg:List D->M D)(cf:List D->M D)(ci:List D->M D):Sl->M (Fl×Sl):=
  (AO (AX (AD 1) (Dh [2,3,4,5,6,7]))
  (AO (AX (AG A0 (AB (mC (.str "safe")) (AB (mC (.str "steady")) (AB (mC (.str "whole")) AI)))) (AK 8))
  (AO (AX (AG ck (AB (mOp AM (AD 8) (AD 2)) (AB (AD 4) (AB (AD 5) (AB (AD 6) (AB (mC (.int 0)) (AB (mC (.int 9)) (AB (mC (.int 0)) AI)))))))) (AK 9))
  (AO (AX (AG cg (AB (mOp AM (AD 8) (AD 3)) (AB (AD 4) (AB (AD 5) (AB (AD 6) (AB (AD 7) (AB (mC (.int 5)) AI))))))) (AK 10))
  (AO (sIf (Ce (AS (AG cf (AB (AD 9) (AB (mC (.str "x")) (AB (AD 10) (AB (mC (.bl true)) AI))))))) (Ao (mC (.bl false))) A6)
  (AO (B3 (BC (AG A0 (AB (mC (.str "y")) (AB (mC (.str "")) (AB (AG A0 (AB (mC (.str "x")) AI)) (AB (mC .non) (AB (mC (.int 7)) (AB (AG A4 (AB (mC (.str "x")) AI)) AI)))))))) (AK 11) (sIf (Ce (AS (AG cf (AB (AD 9) (AB (AD 11) (AB (AD 10) (AB (mC (.bl false)) AI))))))) (Ao (mC (.bl false))) A6))
  (AO (AX (mOp Bq (mOp Ah (AD 4) (mC (.int 1))) (mOp C7 (mC (.int 2)) (AG P6 (AB (mOp BO (AD 4) (mC (.int 10))) AI)))) (AK 12))
  (AO (sIf (Ce (AS (AG cf (AB (AD 9) (AB (mC (.str "x")) (AB (AG cg (AB (mOp AM (AD 8) (AD 3)) (AB (AD 12) (AB (mC (.int 0)) (AB (AD 6) (AB (mC (.int 1)) (AB (mC (.int 5)) AI))))))) (AB (mC (.bl false)) AI))))))) (Ao (mC (.bl false))) A6)
  (AO (AX (mOp EE (mOp Ah (mOp Ah (AD 5) (mC (.int 1))) (AG ci (AB (AD 0) (AB (mOp Bq (AD 4) (mC (.int 1))) AI)))) (AD 4)) (AK 12))
  (AO (sIf (Ce (AS (AG cf (AB (AD 9) (AB (mC (.str "x")) (AB (AG cg (AB (mOp AM (AD 8) (AD 3)) (AB (AD 4) (AB (AD 12) (AB (AD 6) (AB (mC (.int 1)) (AB (mC (.int 5)) AI))))))) (AB (mC (.bl false)) AI))))))) (Ao (mC (.bl false))) A6)
  (AO (sIf (AS (mOp Hz (AD 2) (mC (.int 0)))) (AO (AX (AG cg (AB (mOp AM (AD 8) (AG ci (AB (AD 0) (AB (AD 2) AI)))) (AB (AD 4) (AB (AD 5) (AB (mC (.int 3)) (AB (mC (.int 1)) (AB (mC (.int 5)) AI))))))) (AK 13))
  (sIf (Ce (AS (AG cf (AB (AD 9) (AB (mC (.str "x")) (AB (AD 13) (AB (mC (.bl false)) AI))))))) (Ao (mC (.bl false))) A6)) A6)
  (AO (AX (AG cg (AB (mOp AM (AD 8) (AD 3)) (AB (AD 4) (AB (AD 5) (AB (AG Ps (AB (mC (.int 1)) (AB (mOp Bq (AD 6) (mC (.int 1))) AI))) (AB (AD 7) (AB (mC (.int 5)) AI))))))) (AK 14))
  (Ao (AG cf (AB (AD 9) (AB (mC (.str "x")) (AB (AD 14) (AB (mOp BO (AD 6) (mC (.int 1))) AI))))))))))))))))))
noncomputable def GL(cg:List D->M D)(ck:List D->M D)(cf:List D->M D):Sl->M (Fl×Sl):=
  (AO (AX (AD 0) (Dh [1,2,3,4,5,6]))
  (AO (AX (AG A0 (AB (mC (.str "safe")) (AB (mC (.str "steady")) (AB (mC (.str "whole")) AI)))) (AK 7))
  (AO (AX (AG cg (AB (mOp AM (AD 7) (AD 2)) (AB (AD 3) (AB (AD 4) (AB (AD 5) (AB (AD 6) (AB (mC (.int 5)) AI))))))) (AK 8))
  (AO (AX (mOp Bq (mOp Bq (mC (.int 60)) (mC (.int 2))) (AD 6)) (AK 9))
  (AO (sIf (Ce (AS (AG cf (AB (AG ck (AB (mOp AM (AD 7) (AD 1)) (AB (AD 3) (AB (AD 4) (AB (AD 5) (AB (AD 9) (AB (mC (.int 9)) (AB (mC (.int 0)) AI)))))))) (AB (mC (.str "x")) (AB (AD 8) (AB (mC (.bl true)) AI))))))) (Ao (mC (.bl false))) A6)
  (Ao (AG cf (AB (AG ck (AB (mOp AM (AD 7) (AD 1)) (AB (AD 3) (AB (AD 4) (AB (AD 5) (AB (mOp Ah (AD 9) (mC (.int 1))) (AB (mC (.int 9)) (AB (mC (.int 0)) AI)))))))) (AB (mC (.str "x")) (AB (AD 8) (AB (mC (.bl false)) AI)))))))))))
noncomputable def Dw(ci:List D->M D)(ck:List D->M D)(cg:List D->M D)(cf:List D->M D):Sl->M (Fl×Sl):=
  (AO (AX (AD 1) (Dh [2,3,4,5,6,7]))
  (AO (AX (AG A0 (AB (mC (.str "safe")) (AB (mC (.str "steady")) (AB (mC (.str "whole")) AI)))) (AK 8))
  (AO (AX (AG ci (AB (AD 0) (AB (mC (.int 6)) AI))) (AK 9))
  (AO (AX (AG ck (AB (mOp AM (AD 8) (AD 2)) (AB (AD 4) (AB (AD 5) (AB (AD 6) (AB (mC (.int 0)) (AB (mC (.int 9)) (AB (AD 9) AI)))))))) (AK 10))
  (AO (sIf (Ce (AS (AG cf (AB (AD 10) (AB (mC (.str "x")) (AB (AG cg (AB (mOp AM (AD 8) (AD 3)) (AB (AD 4) (AB (AD 5) (AB (AD 6) (AB (mOp Bq (mC (.int 6)) (AD 9)) (AB (mC (.int 5)) AI))))))) (AB (mC (.bl true)) AI))))))) (Ao (mC (.bl false))) A6)
  (AO (sIf (AS (mOp BO (AD 9) (mC (.int 0)))) (Ao (mC (.bl true))) A6)
  (Ao (AG cf (AB (AD 10) (AB (mC (.str "x")) (AB (AG cg (AB (mOp AM (AD 8) (AD 3)) (AB (AD 4) (AB (AD 5) (AB (AD 6) (AB (mOp Bq (mC (.int 7)) (AD 9)) (AB (mC (.int 5)) AI))))))) (AB (mC (.bl false)) AI))))))))))))
noncomputable def DJ(ci:List D->M D)(cg:List D->M D)(ck:List D->M D)(cf:List D->M D):Sl->M (Fl×Sl):=
  (AO (AX (AD 1) (Dh [2,3,4,5,6,7]))
  (AO (AX (AG A0 (AB (mC (.str "safe")) (AB (mC (.str "steady")) (AB (mC (.str "whole")) AI)))) (AK 8))
  (AO (AX (mOp AM (AG A0 (AB (mC (.int 1)) (AB (mC (.int 2)) (AB (mC (.int 4)) (AB (mC (.int 5)) (AB (mC (.int 8)) (AB (mC (.int 10)) (AB (mC (.int 16)) (AB (mC (.int 20)) (AB (mC (.int 25)) (AB (mC (.int 40)) (AB (mC (.int 50)) (AB (mC (.int 80)) (AB (mC (.int 100)) (AB (mC (.int 3)) (AB (mC (.int 7)) AI)))))))))))))))) (AG ci (AB (AD 0) (AB (mC (.int 15)) AI)))) (AK 9))
  (AO (AX (AG cg (AB (mOp AM (AD 8) (AD 3)) (AB (AD 4) (AB (AD 5) (AB (AD 6) (AB (AD 7) (AB (AD 9) AI))))))) (AK 10))
  (AO (sIf (Ce (AS (AG cf (AB (AG ck (AB (mOp AM (AD 8) (AD 2)) (AB (AD 4) (AB (AD 5) (AB (AD 6) (AB (mC (.int 0)) (AB (mOp Ep (mC (.int 400)) (AD 9)) (AB (mC (.int 0)) AI)))))))) (AB (mC (.str "x")) (AB (AD 10) (AB (mC (.bl true)) AI))))))) (Ao (mC (.bl false))) A6)
  (AO (sIf (AS (mOp BO (AD 9) (mC (.int 1)))) (Ao (mC (.bl true))) A6)
  (Ao (AG cf (AB (AG ck (AB (mOp AM (AD 8) (AD 2)) (AB (AD 4) (AB (AD 5) (AB (AD 6) (AB (mC (.int 0)) (AB (mOp Ah (mOp Ep (mC (.int 400)) (AD 9)) (mC (.int 1))) (AB (mC (.int 0)) AI)))))))) (AB (mC (.str "x")) (AB (AD 10) (AB (mC (.bl false)) AI))))))))))))
noncomputable def WU(dq:List D->M D)(dl:List D->M D)(dO:List D->M D)(dY:List D->M D)(dQ:List D->M D)(dJ:List D->M D)(ck:List D->M D)(dR:List D->M D)(cp:List D->M Dx):Sl->M (Fl×Sl):=
  (AO (B3 (KB (AB (mOp Ah (mC (.int 1)) (AG VG (AB (mC (.int 5)) (AB (AG Ps (AB (mC (.int 0)) (AB (mOp Bq (AG Bc (AB (AD 0) AI)) (mC (.int 1))) AI))) AI)))) AI)) (AK 1) (AO (AX (AG dq (AB (AD 0) (AB (AD 1) AI))) (AK 2))
  (AO (AX (AG dl (AB (AD 2) AI)) (AK 3))
  (AO (sIf (mOr (Ce (AS (AG dO (AB (AD 2) (AB (AD 3) AI))))) (Ce (AS (AG dY (AB (AD 3) AI))))) (Ao (mC (.bl false))) A6)
  (sIf (mOr (Ce (AS (AG dQ (AB (AD 2) (AB (AD 3) AI))))) (Ce (AS (AG dJ (AB (AD 2) (AB (AD 3) AI)))))) (Ao (mC (.bl false))) A6)))))
  (AO (AX (AG ck (AB (mC (.str "safe")) (AB (mC (.int 2)) (AB (mC (.int 0)) (AB (mC (.int 1)) (AB (mC (.int 0)) (AB (mC (.int 400)) (AB (mC (.int 0)) AI)))))))) (AK 4))
  (AO (AX (AG A4 (AB (mC (.str "whole")) (AB (mC (.int 2)) (AB (mC (.int 0)) (AB (AG A4 AI) (AB (AG A4 (AB (AG A4 (AB (mC (.str "w")) (AB (mC (.int 0)) (AB (AG A4 AI) AI)))) (AB (AG A4 (AB (mC (.str "r")) (AB (mC (.int 0)) (AB (AG A4 (AB (AG A4 (AB (mC (.str "tell")) (AB (AG A4 (AB (mC (.str "num")) (AB (mC (.int 0)) AI))) AI))) AI)) AI)))) AI))) AI)))))) (AK 5))
  (AO (AX (AG dR (AB (AD 4) (AB (mC (.str "x")) (AB (AD 5) AI)))) (AK 6))
  (AO (sIf (mOr (AS (mOp (GC false) (AD 6) (mC .non))) (AS (mOp BO (AD 6) (mC (.str "other"))))) (Ao (mC (.bl false))) A6)
  (Ao (Dy (mOp BO (mOp AM (AD 6) (mC (.int 3))) (AG A4 AI)) (Dy (mOp BO (A7 1 [] (BC (mOp AM (AD 6) (mC (.int 4)))) (AK 0) BH (mOp AM (AD 0) (mC (.int 1))) A0) (AG A0 (AB (mC (.int 400)) (AB (mC (.int 3)) AI)))) (mOp (GC false) (AG (vals cp) (AB (AD 6) AI)) (mC .non))))))))))
noncomputable def TF:List Str:=["taken", "tried"]
noncomputable def top(i:Nat):Stmt:=PySem.Challenge.pw_strongboxes_k52_not_one_upon_another.main.body.getD i (.Pass ⟨0,0,0,0⟩)
section
noncomputable abbrev Ic:Stmt:=top 15
theorem sc_is_whole:Ab ["thing", "least", "most"] ["thing", "least", "most"] (AR Ic):=⟨rfl,rfl,rfl,by decide +kernel,rfl,by decide +kernel,by decide +kernel⟩
noncomputable abbrev Jy:Stmt:=top 16
theorem sc_is_name:Ab ["thing"] ["thing"] (AR Jy):=⟨rfl,rfl,rfl,by decide +kernel,rfl,by decide +kernel,by decide +kernel⟩
noncomputable abbrev FD:Stmt:=top 17
theorem sc_is_expression:Ab ["thing", "deep", "word"] ["thing", "deep"] (AR FD):=⟨rfl,rfl,rfl,by decide +kernel,rfl,by decide +kernel,by decide +kernel⟩
noncomputable abbrev FV:Stmt:=top 18
theorem sc_variables_in:Ab ["expression", "names", "part"] ["expression"] (AR FV):=⟨rfl,rfl,rfl,by decide +kernel,rfl,by decide +kernel,by decide +kernel⟩
noncomputable abbrev Ie:Stmt:=top 32
theorem sc_is_tuple:Ab ["thing", "least", "most"] ["thing", "least", "most"] (AR Ie):=⟨rfl,rfl,rfl,by decide +kernel,rfl,by decide +kernel,by decide +kernel⟩
noncomputable abbrev Jx:Stmt:=top 39
theorem sc_is_part:Ab ["part", "thing", "length"] ["part", "thing", "length"] (AR Jx):=⟨rfl,rfl,rfl,by decide +kernel,rfl,by decide +kernel,by decide +kernel⟩
noncomputable abbrev FU:Stmt:=top 42
theorem sc_variables_of:Ab ["row", "names", "part", "thing"] ["row"] (AR FU):=⟨rfl,rfl,rfl,by decide +kernel,rfl,by decide +kernel,by decide +kernel⟩
noncomputable abbrev Gj:Stmt:=top 36
theorem sc_are_unlike:Ab ["names"] ["names"] (AR Gj):=⟨rfl,rfl,rfl,by decide +kernel,rfl,by decide +kernel,by decide +kernel⟩
noncomputable abbrev OJ:Stmt:=top 31
theorem sc_needX:Ab ["holds", "words"] ["holds", "words"] (AR OJ):=⟨rfl,rfl,rfl,by decide +kernel,rfl,by decide +kernel,by decide +kernel⟩
noncomputable abbrev FE:Stmt:=top 33
theorem sc_check_worthsX:Ab ["kind", "size", "begin"] ["kind", "size", "begin"] (AR FE):=⟨rfl,rfl,rfl,by decide +kernel,rfl,by decide +kernel,by decide +kernel⟩
noncomputable abbrev FX:Stmt:=top 34
theorem sc_check_boxesX:Ab ["boxes", "box"] ["boxes"] (AR FX):=⟨rfl,rfl,rfl,by decide +kernel,rfl,by decide +kernel,by decide +kernel⟩
noncomputable abbrev FW:Stmt:=top 35
theorem sc_check_handsX:Ab ["hands", "hand"] ["hands"] (AR FW):=⟨rfl,rfl,rfl,by decide +kernel,rfl,by decide +kernel,by decide +kernel⟩
noncomputable abbrev FG:Stmt:=top 40
theorem sc_check_endingX:Ab ["word", "is_writer"] ["word", "is_writer"] (AR FG):=⟨rfl,rfl,rfl,by decide +kernel,rfl,by decide +kernel,by decide +kernel⟩
noncomputable abbrev GH:Stmt:=top 38
theorem sc_check_formX:Ab ["row", "length", "parts", "part", "thing"] ["row", "length"] (AR GH):=⟨rfl,rfl,rfl,by decide +kernel,rfl,by decide +kernel,by decide +kernel⟩
noncomputable abbrev Dl:Stmt:=top 41
theorem sc_check_variablesX:Ab ["row", "is_writer", "name"] ["row", "is_writer"] (AR Dl):=⟨rfl,rfl,rfl,by decide +kernel,rfl,by decide +kernel,by decide +kernel⟩
noncomputable abbrev GG:Stmt:=top 37
theorem sc_check_rowsX:Ab ["hand", "is_writer", "writers", "row"] ["hand", "is_writer", "writers"] (AR GG):=⟨rfl,rfl,rfl,by decide +kernel,rfl,by decide +kernel,by decide +kernel⟩
noncomputable abbrev FF:Stmt:=top 30
theorem sc_check_makingX:Ab ["making", "hand_names", "writers", "box", "number", "hand"] ["making"] (AR FF):=⟨rfl,rfl,rfl,by decide +kernel,rfl,by decide +kernel,by decide +kernel⟩
noncomputable abbrev DX:Stmt:=top 44
theorem sc_variables_of_rows:Ab ["rows", "names", "row"] ["rows"] (AR DX):=⟨rfl,rfl,rfl,by decide +kernel,rfl,by decide +kernel,by decide +kernel⟩
noncomputable abbrev EX:Stmt:=Ss (top 46) 0
theorem sc_Names___init__:Ab ["self", "outer", "name", "box", "hand"] ["self", "outer"] (AR EX):=⟨rfl,rfl,rfl,by decide +kernel,rfl,by decide +kernel,by decide +kernel⟩
noncomputable abbrev EW:Stmt:=Ss (top 46) 1
theorem sc_Names_give_one:Ab ["self", "name"] ["self"] (AR EW):=⟨rfl,rfl,rfl,by decide +kernel,rfl,by decide +kernel,by decide +kernel⟩
noncomputable abbrev Gk:Stmt:=Ss (top 46) 2
theorem sc_Names_give:Ab ["self", "olds", "news", "old"] ["self", "olds"] (AR Gk):=⟨rfl,rfl,rfl,by decide +kernel,rfl,by decide +kernel,by decide +kernel⟩
noncomputable abbrev FC:Stmt:=top 47
theorem sc_name_numbered:Ab ["number", "name"] ["number"] (AR FC):=⟨rfl,rfl,rfl,by decide +kernel,rfl,by decide +kernel,by decide +kernel⟩
noncomputable abbrev Hj:Stmt:=top 48
theorem sc_put_uponX:Ab ["outer", "name", "inner", "places", "box", "getters", "names", "box_names", "variables", "number", "boxes", "hands", "making"] ["outer", "name", "inner"] (AR Hj):=⟨rfl,rfl,rfl,by decide +kernel,rfl,by decide +kernel,by decide +kernel⟩
noncomputable abbrev Jz:Stmt:=top 49
theorem sc_has_row:Ab ["hand", "word", "name"] ["hand", "word", "name"] (AR Jz):=⟨rfl,rfl,rfl,by decide +kernel,rfl,by decide +kernel,by decide +kernel⟩
noncomputable abbrev Li:Stmt:=top 50
theorem sc_box_in:Ab ["row"] ["row"] (AR Li):=⟨rfl,rfl,rfl,by decide +kernel,rfl,by decide +kernel,by decide +kernel⟩
noncomputable abbrev Gi:Stmt:=top 51
theorem sc_check_fitX:Ab ["box", "inner", "getters"] ["box", "inner", "getters"] (AR Gi):=⟨rfl,rfl,rfl,by decide +kernel,rfl,by decide +kernel,by decide +kernel⟩
noncomputable abbrev FY:Stmt:=top 52
theorem sc_boxes_within:Ab ["inner", "box_names", "writer", "getters", "having", "writers", "number", "hand"] ["inner", "box_names", "writer", "getters"] (AR FY):=⟨rfl,rfl,rfl,by decide +kernel,rfl,by decide +kernel,by decide +kernel⟩
noncomputable abbrev Hk:Stmt:=top 53
theorem sc_hand_upon:Ab ["hand", "name", "inner", "given", "box_names", "variables", "replaced", "number", "row", "reader", "times"] ["hand", "name", "inner", "given"] (AR Hk):=⟨rfl,rfl,rfl,by decide +kernel,rfl,by decide +kernel,by decide +kernel⟩
noncomputable abbrev Ib:Stmt:=top 54
theorem sc_put_rows:Ab ["expression", "rows", "variables", "box_names", "parts", "row"] ["expression", "rows", "variables", "box_names"] (AR Ib):=⟨rfl,rfl,rfl,by decide +kernel,rfl,by decide +kernel,by decide +kernel⟩
noncomputable abbrev Ig:Stmt:=top 55
theorem sc_get_rows:Ab ["name", "rows", "variables", "box_names", "parts", "row"] ["name", "rows", "variables", "box_names"] (AR Ig):=⟨rfl,rfl,rfl,by decide +kernel,rfl,by decide +kernel,by decide +kernel⟩
noncomputable abbrev GF:Stmt:=top 56
theorem sc_renamed_row:Ab ["row", "variables", "box_names", "things", "part", "thing"] ["row", "variables", "box_names"] (AR GF):=⟨rfl,rfl,rfl,by decide +kernel,rfl,by decide +kernel,by decide +kernel⟩
noncomputable abbrev Jv:Stmt:=top 57
theorem sc_renamed:Ab ["expression", "variables"] ["expression", "variables"] (AR Jv):=⟨rfl,rfl,rfl,by decide +kernel,rfl,by decide +kernel,by decide +kernel⟩
noncomputable abbrev Hh:Stmt:=top 58
theorem sc_starts_of:Ab ["parts", "starts", "part"] ["parts"] (AR Hh):=⟨rfl,rfl,rfl,by decide +kernel,rfl,by decide +kernel,by decide +kernel⟩
noncomputable abbrev Gh:Stmt:=top 58
theorem sc_starts_ofR:Ab ["parts", "starts", "part"] ["parts"] (AR Gh):=⟨rfl,rfl,rfl,by decide +kernel,rfl,by decide +kernel,by decide +kernel⟩
noncomputable abbrev Jw:Stmt:=top 59
theorem sc_joinedR:Ab ["parts", "starts", "rows", "part"] ["parts", "starts"] (AR Jw):=⟨rfl,rfl,rfl,by decide +kernel,rfl,by decide +kernel,by decide +kernel⟩
noncomputable abbrev WD:Stmt:=top 60
theorem sc_led:Ab ["row", "starts"] ["row", "starts"] (AR WD):=⟨rfl,rfl,rfl,by decide +kernel,rfl,by decide +kernel,by decide +kernel⟩
noncomputable abbrev Hi:Stmt:=top 61
theorem sc_rows_upon:Ab ["rows", "replaced", "parts", "starts", "later", "number", "part", "leads"] ["rows", "replaced"] (AR Hi):=⟨rfl,rfl,rfl,by decide +kernel,rfl,by decide +kernel,by decide +kernel⟩
noncomputable abbrev Ih:Stmt:=top 63
theorem sc_Lcell_at:Ab ["_law_script", "_law_k"] ["_law_script", "_law_k"] (AR Ih):=⟨rfl,rfl,rfl,by decide +kernel,rfl,by decide +kernel,by decide +kernel⟩
noncomputable abbrev OK:Stmt:=top 64
theorem sc_Lwell:Ab ["_law_script", "_law_k", "_law_cell"] ["_law_script", "_law_k"] (AR OK):=⟨rfl,rfl,rfl,by decide +kernel,rfl,by decide +kernel,by decide +kernel⟩
noncomputable abbrev OM:Stmt:=top 65
theorem sc_Ldraw:Ab ["_law_well_here", "_law_most", "_law_found", "_law_number"] ["_law_well_here", "_law_most"] (AR OM):=⟨rfl,rfl,rfl,by decide +kernel,rfl,by decide +kernel,by decide +kernel⟩
noncomputable abbrev OL:Stmt:=top 66
theorem sc_Ltold:Ab ["_law_outer_here", "_law_name", "_law_inner_here", "_law_told_here", "e", "_law_others"] ["_law_outer_here", "_law_name", "_law_inner_here"] (AR OL):=⟨rfl,rfl,rfl,by decide +kernel,rfl,by decide +kernel,by decide +kernel⟩
noncomputable abbrev Lk:Stmt:=top 67
theorem sc_Louter:Ab ["_law_kind", "_law_size", "_law_begin", "_law_readers", "_law_lets", "_law_within", "_law_more", "_law_rows", "_law_hands", "_law_name", "_law_boxes"] ["_law_kind", "_law_size", "_law_begin", "_law_readers", "_law_lets", "_law_within", "_law_more"] (AR Lk):=⟨rfl,rfl,rfl,by decide +kernel,rfl,by decide +kernel,by decide +kernel⟩
noncomputable abbrev Ll:Stmt:=top 68
theorem sc_Linner:Ab ["_law_kind", "_law_size", "_law_begin", "_law_readers", "_law_many", "_law_within", "_law_names", "_law_boxes", "_law_hands", "_law_name"] ["_law_kind", "_law_size", "_law_begin", "_law_readers", "_law_many", "_law_within"] (AR Ll):=⟨rfl,rfl,rfl,by decide +kernel,rfl,by decide +kernel,by decide +kernel⟩
noncomputable abbrev Lj:Stmt:=top 69
theorem sc_Lright:Ab ["_law_outer_here", "_law_name", "_law_inner_here", "_law_good", "_law_found", "_law_most", "_law_rows"] ["_law_outer_here", "_law_name", "_law_inner_here", "_law_good"] (AR Lj):=⟨rfl,rfl,rfl,by decide +kernel,rfl,by decide +kernel,by decide +kernel⟩
noncomputable abbrev Lm:Stmt:=top 70
theorem sc_Ldrawn:Ab ["_law_well_here", "_law_rank", "_law_size", "_law_strong"] ["_law_well_here"] (AR Lm):=⟨rfl,rfl,rfl,by decide +kernel,rfl,by decide +kernel,by decide +kernel⟩
noncomputable abbrev FH:Stmt:=top 71
theorem sc_Lunlike_right:Ab ["_law_well_here", "_law_drawn_here", "_law_rank", "_law_strong", "_law_size", "_law_begin", "_law_readers", "_law_many", "_law_kinds", "_law_plain", "_law_inner_here", "_law_name", "_law_other", "_law_weak", "_law_few"] ["_law_well_here", "_law_drawn_here"] (AR FH):=⟨rfl,rfl,rfl,by decide +kernel,rfl,by decide +kernel,by decide +kernel⟩
noncomputable abbrev GI:Stmt:=top 72
theorem sc_Lrows_right:Ab ["_law_drawn_here", "_law_rank", "_law_strong", "_law_size", "_law_begin", "_law_readers", "_law_many", "_law_kinds", "_law_inner_here", "_law_lets"] ["_law_drawn_here"] (AR GI):=⟨rfl,rfl,rfl,by decide +kernel,rfl,by decide +kernel,by decide +kernel⟩
noncomputable abbrev FZ:Stmt:=top 73
theorem sc_Lboxes_right:Ab ["_law_well_here", "_law_drawn_here", "_law_rank", "_law_strong", "_law_size", "_law_begin", "_law_readers", "_law_many", "_law_kinds", "_law_more", "_law_outer_here"] ["_law_well_here", "_law_drawn_here"] (AR FZ):=⟨rfl,rfl,rfl,by decide +kernel,rfl,by decide +kernel,by decide +kernel⟩
noncomputable abbrev EY:Stmt:=top 74
theorem sc_Lwithins_right:Ab ["_law_well_here", "_law_drawn_here", "_law_rank", "_law_strong", "_law_size", "_law_begin", "_law_readers", "_law_many", "_law_kinds", "_law_one", "_law_inner_here"] ["_law_well_here", "_law_drawn_here"] (AR EY):=⟨rfl,rfl,rfl,by decide +kernel,rfl,by decide +kernel,by decide +kernel⟩
noncomputable abbrev WE:Stmt:=top 75
theorem sc_law:Ab ["_law_script", "_law_k", "_law_well_here", "_law_drawn_here", "_law_outer_here", "_law_inner_here", "_law_found"] ["_law_script"] (AR WE):=⟨rfl,rfl,rfl,by decide +kernel,rfl,by decide +kernel,by decide +kernel⟩
end
end K52
namespace Mi
section
variable{α:Type}{P:List α->Prop}
theorem lq1(h:∀a,P [a]):∀us:List α,us.length=1->P us:=λus e=>by
 rcases us with _|⟨a,us⟩
 ·cases e
 ·cases List.eq_nil_of_length_eq_zero (Nat.succ.inj e);exact h a
theorem lqs{n:Nat}{P:List α->Prop}(h:∀a,∀us:List α,us.length=n->P (a::us)):∀us:List α,us.length=n+1->P us:=λus e=>by
 rcases us with _|⟨a,us⟩
 ·cases e
 ·exact h a us (Nat.succ.inj e)
theorem lq2(h:∀a b,P [a,b]):∀us:List α,us.length=2->P us:=lqs λa=>lq1 (P:=λl=>P (a::l)) (h a)
theorem lq3(h:∀a b c,P [a,b,c]):∀us:List α,us.length=3->P us:=lqs λa=>lq2 (P:=λl=>P (a::l)) (h a)
theorem lq4(h:∀a b c d,P [a,b,c,d]):∀us:List α,us.length=4->P us:=lqs λa=>lq3 (P:=λl=>P (a::l)) (h a)
theorem lq5(h:∀a b c d e,P [a,b,c,d,e]):∀us:List α,us.length=5->P us:=lqs λa=>lq4 (P:=λl=>P (a::l)) (h a)
theorem lq6(h:∀a b c d e f,P [a,b,c,d,e,f]):∀us:List α,us.length=6->P us:=lqs λa=>lq5 (P:=λl=>P (a::l)) (h a)
theorem lq7(h:∀a b c d e f g,P [a,b,c,d,e,f,g]):∀us:List α,us.length=7->P us:=lqs λa=>lq6 (P:=λl=>P (a::l)) (h a)
end
end Mi
namespace K52
open PySem L2 Mi Xc
open K1 (Du Ef CT Dv CS DB DK Bt DL Dj Ci GA B9 CK Cj DA CJ Ck C9 Bl DZ)
open K4 (CB Ee Gr CC CV CU CF Cq Bh Co CD)
noncomputable def Ew:List D->M D:=Az .all 2 2 (DK)
noncomputable def Gy:List D->M D:=Az .all 3 2 (Og Ew)
noncomputable def CM:List D->M D:=Az .all 4 2 (Gs)
noncomputable def Fs:List D->M D:=Az .all 4 1 (MB CM)
noncomputable def Bk:List D->M D:=Hg (Az .drop 11 7 (SW))
noncomputable def BQ:List D->M D:=Hg (Az .drop 10 6 (MA))
noncomputable def Eh:List D->M D:=Az .drop 1 1 (SV)
noncomputable def F9:List D->M D:=Az .drop 3 3 (Pw Eh)
noncomputable def BF:List D->M Dx:=CZ .all 3 3 (K0)
noncomputable def D3:Nat->List D->M D
 |0=>λ_=>BD
 |n+1=>Az .frz 3 1 (CT (D3 n))
noncomputable def Dz:List D->M D:=Az .frz 4 1 (CS (D3 6))
noncomputable def BR:List D->M D:=Az .frz 3 1 (GD Dz)
noncomputable def B1:List D->M D:=Az .all 5 2 (HN BR)
noncomputable def FK:List D->M D:=Az .drop 2 1 (IA)
noncomputable def Ei:List D->M D:=Az .all 2 1 (HM FK)
noncomputable def DD:List D->M D:=Az .all 4 2 (K3 Ei)
noncomputable def CY:List D->M D:=Az .drop 8 4 (Iv)
noncomputable def F8:Nat->List D->M D
 |0=>λ_=>BD
 |n+1=>Az .drop 2 2 (Pu (F8 n))
noncomputable def EQ:List D->M D:=Az .drop 6 3 (Jg (F8 6))
noncomputable def Ev:List D->M D:=Az .frz 3 1 (Ky)
noncomputable def TH:List D->M D:=Az .drop 2 2 (aO)
noncomputable def HY:List D->M D:=Az .frz 4 2 (Pv TH)
noncomputable def D4:List D->M D:=Az .frz 6 4 (NR EQ Ev HY)
noncomputable def D6:List D->M D:=Az .frz 6 4 (NS (F8 6) EQ Ev HY)
noncomputable def Hq:List D->M D:=Az .frz 3 1 (L8)
noncomputable def DR:List D->M D:=Az .drop 8 2 (L9 Hq TH)
noncomputable def BY:List D->M D:=Az .drop 11 4 (Fj Eh D4 D6 DR)
noncomputable def BW:List D->M Dx:=CZ .all 2 2 (Gr)
noncomputable def Ba:List D->M D:=Az .drop 3 3 (Dv)
noncomputable def D5:List D->M D:=Az .drop 3 3 (Du)
noncomputable def BE:List D->M Dx:=CZ .all 3 3 (CC BW D5)
noncomputable def C8:List D->M D:=Az .drop 1 1 (Ef)
noncomputable def Cf:List D->M D:=Az .drop 1 1 (DB)
noncomputable def BP:List D->M Dx:=CZ .all 2 1 (CV BW Ba C8 BE Cf)
noncomputable def Ay:List D->M Dx:=CZ .all 2 1 (CU BW Ba C8 D5 Cf)
noncomputable def DU:Nat->List D->M D
 |0=>λ_=>BD
 |n+1=>Az .drop 3 2 (CB (DU n) D5 C8)
noncomputable def KO:List D->M D:=Az .all 3 3 (Ee (DU 6) D5 C8)
noncomputable def GN:List D->M Dx:=CZ .all 5 2 (Cq BW Ba KO)
noncomputable def FL:List D->M Dx:=CZ .all 2 2 (CF BW)
noncomputable def D7:List D->M Dx:=CZ .all 3 2 (Bh Dz BW)
noncomputable def DM:List D->M Dx:=CZ .all 4 3 (Co GN FL D7 BW)
noncomputable def AT:List D->M Dx:=FT (CZ .all 6 1 (CD BW Ba BE BP Ay DM))
noncomputable def A8:List D->M Dx:=FT (CZ .all 13 3 (Fi F9 BF B1 DD BR CY BY AT))
noncomputable def EG:List D->M D:=Az .all 6 3 (K5 A8)
noncomputable def An:List D->M D:=Hg (Az .all 7 4 (Iw EG AT))
noncomputable def Bs:List D->M D:=Az .all 15 2 (FI Bk BQ An CM)
noncomputable def CI:List D->M D:=Az .all 10 1 (GL BQ Bk An)
noncomputable def DE:List D->M D:=Az .all 11 2 (Dw CM Bk BQ An)
noncomputable def Cg:List D->M D:=Az .all 11 2 (DJ CM BQ Bk An)
noncomputable def MP:List D->M D:=Az .drop 7 1 (WU Gy Fs Bs CI DE Cg Bk EG AT)
structure Al(w:World)(K:PySem.W.Frag)(mg:Str->Option Value)(h:Heap):Prop where
 X:K.In h
 G:h.Ns mainGlobals mg
 e0:∃f fd,Df K "_law_cell_at" Ih f fd
 e1:∃f fd,Df K "_law_well" OK f fd
 e2:∃f fd,Df K "_law_draw" OM f fd
 e3:∃f fd,Df K "_law_drawn" Lm f fd
 e4:∃f fd,Df K "_law_outer" Lk f fd
 e5:∃f fd,Df K "_law_inner" Ll f fd
 e6:∃f fd,Df K "box_in" Li f fd
 e7:∃f fd,Df K "has_row" Jz f fd
 e8:∃f fd,Df K "check_fit" Gi f fd
 e9:∃f fd,Df K "variables_in" FV f fd
 e10:∃f fd,Df K "variables_of" FU f fd
 e11:∃f fd,Df K "variables_of_rows" DX f fd
 e12:∃C f fd,Di K "Names" "Names.__init__" EX C f fd
 e13:∃f fd,Df K "name_numbered" FC f fd
 e14:∃C f fd,Dm K "Names" "give_one" "Names.give_one" EW C f fd
 e15:∃C f fd,Dm K "Names" "give" "Names.give" Gk C f fd
 e16:∃f fd,Df K "boxes_within" FY f fd
 e17:∃f fd,Df K "renamed" Jv f fd
 e18:∃f fd,Df K "renamed_row" GF f fd
 e19:∃f fd,Df K "starts_of" Gh f fd
 e20:∃f fd,Df K "led" WD f fd
 e21:∃f fd,Df K "joined" Jw f fd
 e22:∃f fd,Df K "put_rows" Ib f fd
 e23:∃f fd,Df K "get_rows" Ig f fd
 e24:∃f fd,Df K "starts_of" Hh f fd
 e25:∃f fd,Df K "rows_upon" Hi f fd
 e26:∃f fd,Df K "hand_upon" Hk f fd
 e27:∃f fd,Df K "need" OJ f fd
 e28:∃f fd,Df K "is_tuple" Ie f fd
 e29:∃f fd,Df K "is_whole" Ic f fd
 e30:∃f fd,Df K "check_worths" FE f fd
 e31:∃f fd,Df K "is_name" Jy f fd
 e32:∃f fd,Df K "are_unlike" Gj f fd
 e33:∃f fd,Df K "check_boxes" FX f fd
 e34:∃f fd,Df K "check_hands" FW f fd
 e35:∃f fd,Df K "is_expression" FD f fd
 e36:∃f fd,Df K "is_part" Jx f fd
 e37:∃f fd,Df K "check_form" GH f fd
 e38:∃f fd,Df K "check_ending" FG f fd
 e39:∃f fd,Df K "check_variables" Dl f fd
 e40:∃f fd,Df K "check_rows" GG f fd
 e41:∃f fd,Df K "check_making" FF f fd
 e42:∃f fd,Df K "put_upon" Hj f fd
 e43:∃f fd,Df K "_law_told" OL f fd
 e44:∃f fd,Df K "_law_right" Lj f fd
 e45:∃f fd,Df K "_law_unlike_right" FH f fd
 e46:∃f fd,Df K "_law_rows_right" GI f fd
 e47:∃f fd,Df K "_law_boxes_right" FZ f fd
 e48:∃f fd,Df K "_law_withins_right" EY f fd
 e49:∃f fd,Df K "law" WE f fd
 e50:∃C,Dc K "Names" TF C
 x0:∃C,ClsAt K "NoEvents" C
 x1:∃C,ClsAt K "NoLine" C
 x2:∃C,ClsAt K "NoMaking" C
 x3:∃C,ClsAt K "NoPaper" C
 x4:∃C,ClsAt K "NoStep" C
 x5:∃C,ClsAt K "NoText" C
 x6:∃C,ClsAt K "NoUpon" C
 x7:∃C,ClsAt K "StrongError" C
 x8:∃C,ClsAt K "TooMany" C
 x9:∀C,ClsAt K "NoMaking" C->Ec K "NoMaking" C
 x10:∀C,ClsAt K "NoUpon" C->Ec K "NoUpon" C
 x11:∀C,ClsAt K "NoMaking" C->Cd K "NoMaking" C
 x12:∀C,ClsAt K "NoUpon" C->Cd K "NoUpon" C
 x13:∀C,ClsAt K "StrongError" C->Cd K "StrongError" C
 x14:∀C,ClsAt K "NoUpon" C->PySem.W.keepIn K (.ref C)=true
 x15:∀C,ClsAt K "NoMaking" C->Ms K ["NoMaking"] C
 x16:∀C,ClsAt K "StrongError" C->Ms K ["NoUpon"] C
 x17:∀Ds,NsL K ["NoEvents", "NoLine", "NoMaking", "NoPaper", "NoStep", "NoText", "TooMany"] Ds->Tb K [("NoUpon",false)] (Ds.map Value.ref)
 x18:∀Ds,NsL K ["NoUpon"] Ds->Tb K [("NoUpon",true)] (Ds.map Value.ref)
 x19:Tb K [("NoUpon",true)] [.type "ValueError"]
 y0:mg "ValueError" = none
 y1:mg "all" = none
 y2:mg "any" = none
 y3:mg "bool" = none
 y4:mg "enumerate" = none
 y5:mg "int" = none
 y6:mg "isinstance" = none
 y7:mg "len" = none
 y8:mg "list" = none
 y9:mg "max" = none
 y10:mg "min" = none
 y11:mg "range" = none
 y12:mg "set" = none
 y13:mg "sorted" = none
 y14:mg "str" = none
 y15:mg "tuple" = none
 y16:mg "zip" = none
 g0:Glo K mg "DEEPEST" Dj
 g1:Glo K mg "GREATEST" DL
 g2:Glo K mg "KINDS" GA
 g3:Glo K mg "LEAST_HANDS" CK
 g4:Glo K mg "LEAST_SIZE" Ck
 g5:Glo K mg "LETTERS" Bt
 g6:Glo K mg "MOST_BOXES" B9
 g7:Glo K mg "MOST_HANDS" Cj
 g8:Glo K mg "MOST_ROWS" DA
 g9:Glo K mg "MOST_SIZE" C9
 g10:Glo K mg "MOST_WITHIN" CJ
 g11:Glo K mg "NO_VARIABLES" Bl
 g12:Glo K mg "PAIR_WORDS" Ci
 g13:V4 w K mg "PARTS" DZ
 g14:ZA K mg "KINDS" ["safe", "steady", "whole"]
section
variable{P:Program}{w:World}{K:PySem.W.Frag}{mg:Str->Option Value}{base h:Heap}(a:Al w K mg h)
include a
theorem N0:Fn P w K mg base "_law_cell_at" ["_law_script", "_law_k"] 1 (Ew):=by
 obtain⟨f,fd,d⟩:=a.e0;exact Ap (k:=0) .all d.F sc_Lcell_at (PySem.W.mg_of a.X a.G d.a) (d.F.binds λ_ _ _ _ _ _=>lq2 λ_ _=>rfl) (λ_ _ _ _ _ _ hr=>have nd:=sc_Lcell_at.nd;(AJ (BB (Aq SM (AC 1) (Ac Bn a.y7 Mi.As (AA (AC 0) AE))) (AN (Aa (AQ AU (AC 0) (AC 1)))) Au) (AN (Aa AF))))
theorem V5:Fn P w K mg base "_law_well" ["_law_script", "_law_k"] 2 (Gy):=by
 obtain⟨f,fd,d⟩:=a.e1;exact Ap (k:=1) .all d.F sc_Lwell (PySem.W.mg_of a.X a.G d.a) (d.F.binds λ_ _ _ _ _ _=>lq2 λ_ _=>rfl) (λ_ _ _ _ _ _ hr=>have nd:=sc_Lwell.nd;(AJ (AY 2 nd (AZ (N0 a) hr (AA (AC 0) (AA (AC 1) AE)))) (AN (Aa (B6 (AA (Ai Fe (AC 2) (Br Wh a.y5 Mi.JS (AA (Be aJ (AC 2) (Ai aH AF AF)) AE))) (AA (Ai A3 (Ai Go (AC 2) AF) (Ai Fe AF (AC 1))) (AA AF AE))))))))
theorem DO:Fn P w K mg base "_law_draw" ["_law_well_here", "_law_most"] 1 (CM):=by
 obtain⟨f,fd,d⟩:=a.e2;exact Ap (k:=0) .all d.F sc_Ldraw (PySem.W.mg_of a.X a.G d.a) (d.F.binds λ_ _ _ _ _ _=>lq2 λ_ _=>rfl) (λ_ _ _ _ _ _ hr=>have nd:=sc_Ldraw.nd;(AJ (BB (Aq YC (AQ AU (AC 0) AF) AF) (AJ (AY 2 nd (Ai Go (AQ AU (AC 0) AF) (AC 1))) (AJ (HI (Ai HJ (AQ AU (AC 0) AF) (AC 1)) (Rg (AC 0) AF)) (AN (Aa (AC 2))))) Au) (AJ (HI (Ai A3 (AQ AU (AC 0) AF) AF) (Rg (AC 0) AF)) (AJ (AY 3 nd (Ai Go (Ai Fe (Ai A3 (Ai A3 (AQ AU (AC 0) AF) (Ai Fe AF (AQ AU (AC 0) AF))) AF) AF) AF)) (AJ (AY 3 nd (Ai Go (Ai Fe (AC 3) (Ai A3 (Ai HJ (AC 3) AF) AF)) AF)) (AN (Aa (Ai Go (Ai Go (Ai Fe (AC 3) (Ai A3 (Ai HJ (AC 3) AF) AF)) AF) (AC 1)))))))))
theorem Tm:Fn P w K mg base "_law_drawn" ["_law_well_here"] 2 (Fs):=by
 obtain⟨f,fd,d⟩:=a.e3;exact Ap (k:=1) .all d.F sc_Ldrawn (PySem.W.mg_of a.X a.G d.a) (d.F.binds λ_ _ _ _ _ _=>lq1 λ_=>rfl) (λ_ _ _ _ _ _ hr=>have nd:=sc_Ldrawn.nd;(AJ (AY 1 nd (AZ (DO a) hr (AA (AC 0) (AA AF AE)))) (AJ (AY 2 nd (Ai A3 AF (AZ (DO a) hr (AA (AC 0) (AA AF AE))))) (AJ (AY 3 nd (Ai A3 (AC 1) (AZ (DO a) hr (AA (AC 0) (AA (Ai DP AF (AC 1)) AE))))) (AN (Aa (Ar (AA (AC 1) (AA (AC 3) (AA (AC 2) (AA (AZ (DO a) hr (AA (AC 0) (AA (AC 2) AE))) (AA (Ai A3 AF (AZ (DO a) hr (AA (AC 0) (AA AF AE)))) (AA (Ai A3 AF (AZ (DO a) hr (AA (AC 0) (AA AF AE)))) AE)))))))))))))
theorem EA:Fn P w K mg base "_law_outer" ["_law_kind", "_law_size", "_law_begin", "_law_readers", "_law_lets", "_law_within", "_law_more"] 1 (Bk):=by
 obtain⟨f,fd,d⟩:=a.e4;exact Fn.shut (Ap (k:=0) .drop d.F sc_Louter (PySem.W.mg_of a.X a.G d.a) (d.F.binds λ_ _ _ _ _ _=>lq7 λ_ _ _ _ _ _ _=>rfl) (λ_ _ _ _ _ _ hr=>have nd:=sc_Louter.nd;(AJ (AY 7 nd (Ai A3 (Ai YA (Ar (AA (Ar (AA AL (AA AL (AA (Ar (AA AL (AA AF AE))) AE)))) AE)) (AC 4)) (Ar (AA (Ar (AA AL (AA AL (AA (Ar (AA AL (AA AL AE))) AE)))) AE)))) (AJ (AY 8 nd (B6 (AA (Ar (AA AL (AA (AC 5) (AA (AC 7) AE)))) AE))) (AJ (Bz PassesOwn.never rfl (Ax (CP (Bd (AA AL (AA AL (AA AL AE)))) Bw (BT (AC 3)))) (BM 9 nd) (AN (Bp (BN PySem.F.slot_list_append PySem.F.type_list_append B0 (AC 8) (AA (Ar (AA (AC 9) (AA AF (AA (Ar (AA (Ar (AA AL (AA AL (AA AL AE)))) (AA (Ar (AA AL (AA (Ar (AA AL (AA AL AE))) AE))) AE))) AE)))) AE))))) (AJ (AY 10 nd (B6 (AA (Ar (AA AL (AA (AC 0) (AA (AC 1) (AA (AC 2) (AA AL AE)))))) AE))) (AJ (Bz PassesOwn.never rfl (Ax (CP (Bd (AA AL (AA AL (AA AL (AA AL (AA AL AE)))))) Bw (BT (AC 6)))) (BM 9 nd) (AN (Bp (BN PySem.F.slot_list_append PySem.F.type_list_append B0 (AC 10) (AA (Ar (AA (AC 9) (AA AL (AA AF (AA AF (AA AL AE)))))) AE))))) (AN (Aa (Ar (AA (AC 0) (AA (AC 1) (AA (AC 2) (AA (Br DN a.y15 Mi.Bb (AA (AC 10) AE)) (AA (Br DN a.y15 Mi.Bb (AA (AC 8) AE)) AE)))))))))))))))
theorem DF:Fn P w K mg base "_law_inner" ["_law_kind", "_law_size", "_law_begin", "_law_readers", "_law_many", "_law_within"] 1 (BQ):=by
 obtain⟨f,fd,d⟩:=a.e5;exact Fn.shut (Ap (k:=0) .drop d.F sc_Linner (PySem.W.mg_of a.X a.G d.a) (d.F.binds λ_ _ _ _ _ _=>lq6 λ_ _ _ _ _ _=>rfl) (λ_ _ _ _ _ _ hr=>have nd:=sc_Linner.nd;(AJ (AY 6 nd (CP (Bd (AA AL (AA AL (AA AL (AA AL (AA AL (AA AL AE))))))) Bw (BT (AC 4)))) (AJ (AY 7 nd (Br DN a.y15 Mi.Bb (AA (EL (co:=none) (tgs:=["_law_name"]) ⟨⟨rfl,by decide +kernel,by decide +kernel,⟨Or.inl rfl,Or.inl rfl,trivial⟩,rfl,by decide +kernel⟩,rfl,⟨_,BL,λ_ _ _ _=>AV (i:=0) (show List.Nodup (["_law_name", "_law_begin", "_law_size"]:List Str) from by decide +kernel) rfl (Or.inl rfl)⟩,λ_ _ _ _=>A1,λ_ _ _ _=>(Ar (AA (AC 0) (AA AL (AA (AC 2) (AA (AC 1) (AA AL AE))))))⟩ (Ax (AC 6)) DT) AE))) (AJ (AY 8 nd (B6 (AA (Ar (AA AL (AA (AC 5) (AA (Ai A3 (Br DN a.y15 Mi.Bb (AA (EL (co:=none) (tgs:=["_law_name"]) ⟨⟨rfl,by decide +kernel,by decide +kernel,trivial,rfl,by decide +kernel⟩,rfl,⟨_,BL,λ_ _ _ _=>AV (i:=0) (show List.Nodup (["_law_name"]:List Str) from by decide +kernel) rfl (Or.inl rfl)⟩,λ_ _ _ _=>A1,λ_ _ _ _=>(Ar (AA AL (AA (AC 0) (AA (Ar (AA AL (AA AL AE))) AE))))⟩ (Ax (AC 6)) DT) AE)) (Ar (AA (Ar (AA AL AE)) AE))) AE)))) AE))) (AJ (Bz PassesOwn.never rfl (Ax (CP (Bd (AA AL (AA AL (AA AL AE)))) Bw (BT (AC 3)))) (BM 9 nd) (AN (Bp (BN PySem.F.slot_list_append PySem.F.type_list_append B0 (AC 8) (AA (Ar (AA (AC 9) (AA AF (AA (Ar (AA (Ar (AA AL (AA AL (AA AL AE)))) (AA (Ar (AA AL (AA (Ar (AA AL (AA AL AE))) AE))) AE))) AE)))) AE))))) (AN (Aa (Ar (AA (AC 0) (AA (AC 1) (AA (AC 2) (AA (AC 7) (AA (Br DN a.y15 Mi.Bb (AA (AC 8) AE)) AE))))))))))))))
theorem Mr:Fn P w K mg base "box_in" ["row"] 1 (Eh):=by
 obtain⟨f,fd,d⟩:=a.e6;exact Ap (k:=0) .drop d.F sc_box_in (PySem.W.mg_of a.X a.G d.a) (d.F.binds λ_ _ _ _ _ _=>lq1 λ_=>rfl) (λ_ _ _ _ _ _ hr=>have nd:=sc_box_in.nd;(AJ (BB (Aq (Bv hr) (AQ AU (AC 0) AF) AL) (AN (Aa (AQ AU (AC 0) AF))) Au) (AN (Aa (Ii (Aq (Bv hr) (AQ AU (AC 0) AF) AL) (AQ AU (AC 0) AF) Fd)))))
theorem Qg:Fn P w K mg base "has_row" ["hand", "word", "name"] 2 (F9):=by
 obtain⟨f,fd,d⟩:=a.e7;exact Ap (k:=1) .drop d.F sc_has_row (PySem.W.mg_of a.X a.G d.a) (d.F.binds λ_ _ _ _ _ _=>lq3 λ_ _ _=>rfl) (λ_ _ _ _ _ _ hr=>have nd:=sc_has_row.nd;(AN (Aa (Ac (az rfl) a.y2 Mi.Tf (AA (EL (co:=none) (tgs:=["row"]) ⟨⟨rfl,by decide +kernel,by decide +kernel,⟨Or.inl rfl,Or.inl rfl,trivial⟩,rfl,by decide +kernel⟩,rfl,⟨_,BL,λ_ _ _ _=>AV (i:=0) (show List.Nodup (["row", "name", "word"]:List Str) from by decide +kernel) rfl (Or.inl rfl)⟩,λ_ _ _ _=>A1,λ_ _ _ _=>(DS (Be (Bv hr) (AQ AU (AC 0) AF) (AC 2)) (En (Be (Bv hr) (AZ (Mr a) hr (AA (AC 0) AE)) (AC 1))))⟩ (Ax (AQ AU (AC 0) AF)) DT) AE)))))
theorem LP:FnX P w K mg base "check_fit" ["box", "inner", "getters"] 1 (BF):=by
 obtain⟨f,fd,d⟩:=a.e8;obtain⟨dZ,at_NoUpon⟩:=a.x6;have ec_NoUpon:=a.x10 _ at_NoUpon;have mc_NoUpon:=PySem.W.mg_of a.X a.G at_NoUpon;exact CW (k:=0) .all d.F sc_check_fitX (PySem.W.mg_of a.X a.G d.a) (d.F.binds λ_ _ _ _ _ _=>lq3 λ_ _ _=>rfl) (λ_ _ _ _ _ _ hr=>have nd:=sc_check_fitX.nd;(Ae (Gb (Aq (H9 hr) (CP (AC 1) (BT AF) (BT AF)) (CP (AC 0) (BT AF) (BT AF))) (A2 (FO ec_NoUpon mc_NoUpon (AA AL AE))) EB) (Ae (Gb (Aq SM (OS a.g14 (AQ AU (AC 1) AF)) (OS a.g14 (AQ AU (AC 0) AF))) (A2 (FO ec_NoUpon mc_NoUpon (AA AL AE))) EB) (A2 (Gb (Aq SM (Ai DP (Ac Bn a.y7 Mi.As (AA (AQ AU (AC 1) AF) AE)) AF) (AC 2)) (A2 (FO ec_NoUpon mc_NoUpon (AA AL AE))) EB)))))
theorem JY(n:Nat):Fn P w K mg base "variables_in" ["expression"] (n+1) (D3 n):=by
 obtain⟨f,fd,d⟩:=a.e9
 induction n with
 |zero=>exact JH d.F (PySem.W.mg_of a.X a.G d.a) (d.F.binds λ_ _ _ _ _ _=>lq1 λ_=>rfl)
 |succ n ih=>exact(Ap (k:=n+1) .frz d.F sc_variables_in (PySem.W.mg_of a.X a.G d.a) (d.F.binds λ_ _ _ _ _ _=>lq1 λ_=>rfl) (λ_ _ _ _ _ _ hr=>have nd:=sc_variables_in.nd;(AJ (BB (Aq (Bv hr) (AQ AU (AC 0) AF) AL) (AN (Aa (Bd AE))) Au) (AJ (BB (Aq (Bv hr) (AQ AU (AC 0) AF) AL) (AN (Aa (Bd (AA (AQ AU (AC 0) AF) AE)))) Au) (AJ (AY 1 nd (B6 AE)) (AJ (Bz PassesOwn.never rfl (Ax (WJ (AC 0) (BT AF) Bw)) (BM 2 nd) (AN (Bp (BN PySem.F.slot_list_extend PySem.F.type_list_extend Fk (AC 1) (AA (AZ (hkj:=AAF _) ih hr (AA (AC 2) AE)) AE))))) (AN (Aa (AC 1))))))))).mono (by omega)
theorem Fz:Fn P w K mg base "variables_of" ["row"] 8 (Dz):=by
 obtain⟨f,fd,d⟩:=a.e10;exact Ap (k:=7) .frz d.F sc_variables_of (PySem.W.mg_of a.X a.G d.a) (d.F.binds λ_ _ _ _ _ _=>lq1 λ_=>rfl) (λ_ _ _ _ _ _ hr=>have nd:=sc_variables_of.nd;(AJ (AY 1 nd (B6 AE)) (AJ (Bz PassesOwn.never rfl (Kr a.y16 (AA (Kt a.g13 (AQ AU (AC 0) AF)) (AA (WJ (AC 0) (BT AF) Bw) AE))) (Dp (is:=[2,3]) rfl (Ag (AV (i:=2) nd rfl (by first|exact Or.inl rfl|exact Or.inr rfl)) (Ag (AV (i:=3) nd rfl (by first|exact Or.inl rfl|exact Or.inr rfl)) Cc))) (AJ (BB (Aq (Bv hr) (AC 2) AL) (AN (Bp (BN PySem.F.slot_list_append PySem.F.type_list_append B0 (AC 1) (AA (AC 3) AE)))) Au) (AN (BB (Aq (Bv hr) (AC 2) AL) (AN (Bp (BN PySem.F.slot_list_extend PySem.F.type_list_extend Fk (AC 1) (AA (AZ (JY a 6) hr (AA (AC 3) AE)) AE)))) Au)))) (AN (Aa (AC 1))))))
theorem Cn:Fn P w K mg base "variables_of_rows" ["rows"] 9 (BR):=by
 obtain⟨f,fd,d⟩:=a.e11;exact Ap (k:=8) .frz d.F sc_variables_of_rows (PySem.W.mg_of a.X a.G d.a) (d.F.binds λ_ _ _ _ _ _=>lq1 λ_=>rfl) (λ_ _ _ _ _ _ hr=>have nd:=sc_variables_of_rows.nd;(AJ (AY 1 nd (B6 AE)) (AJ (Bz PassesOwn.never rfl (Ax (AC 0)) (BM 2 nd) (AN (Bp (BN PySem.F.slot_list_extend PySem.F.type_list_extend Fk (AC 1) (AA (AZ (Fz a) hr (AA (AC 2) AE)) AE))))) (AN (Aa (EL (co:=(some _)) (tgs:=["name"]) ⟨⟨rfl,by decide +kernel,by decide +kernel,trivial,rfl,by decide +kernel⟩,rfl,⟨_,BL,λ_ _ _ _=>AV (i:=0) (show List.Nodup (["name"]:List Str) from by decide +kernel) rfl (Or.inl rfl)⟩,λ_ _ _ _=>Io (Aq (H9 hr) (AC 0) AL),λ_ _ _ _=>(AC 0)⟩ (Ax (Lu a.y13 a.y12 (AC 1))) DT))))))
theorem He:Ini P w K mg base "Names" ["self", "outer"] 10 (B1):=by
 obtain⟨C,f,fd,d⟩:=a.e12;obtain⟨dn,LT⟩:=a.e50;exact P7 (k:=9) .all d sc_Names___init__ (PySem.W.mg_of a.X a.G d.at_) (d.F.binds λ_ _ _ _ _ _=>lq2 λ_ _=>rfl) (λ_ _ _ _ _ _ hr=>have nd:=sc_Names___init__.nd;(AJ (RX LT.ca (LT.na "taken" (by decide +kernel)) (AC 0) (Rj (UN BX XL))) (AJ (Bz PassesOwn.never rfl (Ax (C5 a.g11)) (BM 2 nd) (AN (Db hr (GS LT.ca (LT.na "taken" (by decide +kernel)) (AC 0)) (AC 2) BX))) (AJ (Bz PassesOwn.never rfl (Ax (AQ AU (AC 1) AF)) (BM 3 nd) (AN (Db hr (GS LT.ca (LT.na "taken" (by decide +kernel)) (AC 0)) (AQ AU (AC 3) AF) BX))) (AJ (Bz PassesOwn.never rfl (Ax (AQ AU (AC 1) AF)) (BM 4 nd) (AN (Bz PassesOwn.never rfl (Ax (AZ (Cn a) hr (AA (AQ AU (AC 4) AF) AE))) (BM 2 nd) (AN (Db hr (GS LT.ca (LT.na "taken" (by decide +kernel)) (AC 0)) (AC 2) BX))))) (AN (RX LT.ca (LT.na "tried" (by decide +kernel)) (AC 0) AF)))))))
theorem FM:Fn P w K mg base "name_numbered" ["number"] 1 (FK):=by
 obtain⟨f,fd,d⟩:=a.e13;exact Ap (k:=0) .drop d.F sc_name_numbered (PySem.W.mg_of a.X a.G d.a) (d.F.binds λ_ _ _ _ _ _=>lq1 λ_=>rfl) (λ_ _ _ _ _ _ hr=>have nd:=sc_name_numbered.nd;(AJ (AY 1 nd (AQ AU (C5 a.g5) (Ai Go (AC 0) (Ac Bn a.y7 Mi.As (AA (C5 a.g5) AE))))) (AJ (Ln EO PassesOwn.never (Aq aJ (AC 0) (Ac Bn a.y7 Mi.As (AA (C5 a.g5) AE))) (AJ (AY 0 nd (Ai DP (Ai HJ (AC 0) (Ac Bn a.y7 Mi.As (AA (C5 a.g5) AE))) AF)) (AN (AY 1 nd (Ai A3 (AQ AU (C5 a.g5) (Ai Go (AC 0) (Ac Bn a.y7 Mi.As (AA (C5 a.g5) AE)))) (AC 1)))))) (AN (Aa (AC 1))))))
theorem Hd:Mth P w K mg base "Names" "give_one" ["self"] 2 (Ei):=by
 obtain⟨C,f,fd,d⟩:=a.e14;obtain⟨dn,LT⟩:=a.e50;exact J9 (k:=1) .all d sc_Names_give_one (d.F.binds λ_ _ _ _ _ _=>lq1 λ_=>rfl) (λ_ _ _ _ _ _ hr=>have nd:=sc_Names_give_one.nd;(AJ (AY 1 nd (AZ (FM a) hr (AA (GS LT.ca (LT.na "tried" (by decide +kernel)) (AC 0)) AE))) (AJ (Ln EO PassesOwn.never (RV hr (AC 1) (GS LT.ca (LT.na "taken" (by decide +kernel)) (AC 0))) (AJ (XJ LT.ca (LT.na "tried" (by decide +kernel)) (AC 0)) (AN (AY 1 nd (AZ (FM a) hr (AA (GS LT.ca (LT.na "tried" (by decide +kernel)) (AC 0)) AE)))))) (AJ (Db hr (GS LT.ca (LT.na "taken" (by decide +kernel)) (AC 0)) (AC 1) BX) (AN (Aa (AC 1)))))))
theorem FB:Mth P w K mg base "Names" "give" ["self", "olds"] 3 (DD):=by
 obtain⟨C,f,fd,d⟩:=a.e15;exact J9 (k:=2) .all d sc_Names_give (d.F.binds λ_ _ _ _ _ _=>lq2 λ_ _=>rfl) (λ_ _ _ _ _ _ hr=>have nd:=sc_Names_give.nd;(AJ (AY 2 nd IH) (AJ (Bz PassesOwn.never rfl (Ax (AC 1)) (BM 3 nd) (AN (Db hr (AC 2) (AC 3) (Rh (Hd a) hr (AC 0))))) (AN (Aa (AC 2))))))
theorem Jb:Fn P w K mg base "boxes_within" ["inner", "box_names", "writer", "getters"] 1 (CY):=by
 obtain⟨f,fd,d⟩:=a.e16;exact Ap (k:=0) .drop d.F sc_boxes_within (PySem.W.mg_of a.X a.G d.a) (d.F.binds λ_ _ _ _ _ _=>lq4 λ_ _ _ _=>rfl) (λ_ _ _ _ _ _ hr=>have nd:=sc_boxes_within.nd;(AJ (AY 4 nd (Ai A3 (Bd (AA (AC 2) AE)) (AC 3))) (AJ (AY 5 nd IH) (AJ (Bz PassesOwn.never rfl (Fc a.y4 (AA (AQ AU (AC 0) AF) AE)) (Dp (is:=[6,7]) rfl (Ag (AV (i:=6) nd rfl (by first|exact Or.inl rfl|exact Or.inr rfl)) (Ag (AV (i:=7) nd rfl (by first|exact Or.inl rfl|exact Or.inr rfl)) Cc))) (AN (Db hr (AC 5) (AQ AU (AC 7) AF) (Ii (Aq SM (AC 6) (Ac Bn a.y7 Mi.As (AA (AC 4) AE))) (AQ AU (AC 4) (AC 6)) (AC 2))))) (AN (Aa (Br DN a.y15 Mi.Bb (AA (EL (co:=none) (tgs:=["box"]) ⟨⟨rfl,by decide +kernel,by decide +kernel,⟨Or.inl rfl,Or.inl rfl,trivial⟩,rfl,by decide +kernel⟩,rfl,⟨_,BL,λ_ _ _ _=>AV (i:=0) (show List.Nodup (["box", "box_names", "writers"]:List Str) from by decide +kernel) rfl (Or.inl rfl)⟩,λ_ _ _ _=>A1,λ_ _ _ _=>(Ai A3 (Ai A3 (Ar (AA (F3 hr (AC 1) (AQ AU (AC 0) AF)) AE)) (CP (AC 0) (BT AF) (BT AF))) (Ar (AA (F3 hr (AC 2) (AQ AU (AC 0) AF)) AE)))⟩ (Ax (AQ AU (AC 0) AF)) DT) AE))))))))
theorem Kg(n:Nat):Fn P w K mg base "renamed" ["expression", "variables"] (n+1) (F8 n):=by
 obtain⟨f,fd,d⟩:=a.e17
 induction n with
 |zero=>exact JH d.F (PySem.W.mg_of a.X a.G d.a) (d.F.binds λ_ _ _ _ _ _=>lq2 λ_ _=>rfl)
 |succ n ih=>exact(Ap (k:=n+1) .drop d.F sc_renamed (PySem.W.mg_of a.X a.G d.a) (d.F.binds λ_ _ _ _ _ _=>lq2 λ_ _=>rfl) (λ_ _ _ _ _ _ hr=>have nd:=sc_renamed.nd;(AJ (BB (Aq (Bv hr) (AQ AU (AC 0) AF) AL) (AN (Aa (AC 0))) Au) (AJ (BB (Aq (Bv hr) (AQ AU (AC 0) AF) AL) (AN (Aa (Ar (AA AL (AA (F3 hr (AC 1) (AQ AU (AC 0) AF)) AE))))) Au) (AN (Aa (Ai A3 (CP (AC 0) Bw (BT AF)) (Br DN a.y15 Mi.Bb (AA (EL (co:=none) (tgs:=["part"]) ⟨⟨rfl,by decide +kernel,by decide +kernel,⟨Or.inl rfl,trivial⟩,rfl,by decide +kernel⟩,rfl,⟨_,BL,λ_ _ _ _=>AV (i:=0) (show List.Nodup (["part", "variables"]:List Str) from by decide +kernel) rfl (Or.inl rfl)⟩,λ_ _ _ _=>A1,λ_ _ _ _=>(AZ (hkj:=AAF _) ih hr (AA (AC 0) (AA (AC 1) AE)))⟩ (Ax (CP (AC 0) (BT AF) Bw)) DT) AE))))))))).mono (by omega)
theorem GP:Fn P w K mg base "renamed_row" ["row", "variables", "box_names"] 8 (EQ):=by
 obtain⟨f,fd,d⟩:=a.e18;exact Ap (k:=7) .drop d.F sc_renamed_row (PySem.W.mg_of a.X a.G d.a) (d.F.binds λ_ _ _ _ _ _=>lq3 λ_ _ _=>rfl) (λ_ _ _ _ _ _ hr=>have nd:=sc_renamed_row.nd;(AJ (AY 3 nd (B6 (AA (AQ AU (AC 0) AF) AE))) (AJ (Bz PassesOwn.never rfl (Kr a.y16 (AA (Kt a.g13 (AQ AU (AC 0) AF)) (AA (CP (AC 0) (BT AF) Bw) AE))) (Dp (is:=[4,5]) rfl (Ag (AV (i:=4) nd rfl (by first|exact Or.inl rfl|exact Or.inr rfl)) (Ag (AV (i:=5) nd rfl (by first|exact Or.inl rfl|exact Or.inr rfl)) Cc))) (AN (BB (Aq (Bv hr) (AC 4) AL) (AN (Bp (BN PySem.F.slot_list_append PySem.F.type_list_append B0 (AC 3) (AA (F3 hr (AC 2) (AC 5)) AE)))) (AN (BB (Aq (Bv hr) (AC 4) AL) (AN (Bp (BN PySem.F.slot_list_append PySem.F.type_list_append B0 (AC 3) (AA (F3 hr (AC 1) (AC 5)) AE)))) (AN (Bp (BN PySem.F.slot_list_append PySem.F.type_list_append B0 (AC 3) (AA (Ii (Aq (Bv hr) (AC 4) AL) (AZ (Kg a 6) hr (AA (AC 5) (AA (AC 1) AE))) (AC 5)) AE))))))))) (AN (Aa (Br DN a.y15 Mi.Bb (AA (AC 3) AE)))))))
theorem HB:Fn P w K mg base "starts_of" ["parts"] 1 (Ev):=by
 obtain⟨f,fd,d⟩:=a.e19;exact Ap (k:=0) .frz d.F sc_starts_ofR (PySem.W.mg_of a.X a.G d.a) (d.F.binds λ_ _ _ _ _ _=>lq1 λ_=>rfl) (λ_ _ _ _ _ _ hr=>have nd:=sc_starts_ofR.nd;(AJ (AY 1 nd (B6 (AA AF AE))) (AJ (OO 1000 PassesOwn.never rfl (AC 0) (BM 2 nd) (AN (Bp (BN PySem.F.slot_list_append PySem.F.type_list_append B0 (AC 1) (AA (Ai A3 (AQ AU (AC 1) (WI WR AF)) (Ac Bn a.y7 Mi.As (AA (AC 2) AE))) AE))))) (AN (Aa (AC 1))))))
theorem Wi:Fn P w K mg base "led" ["row", "starts"] 1 (TH):=by
 obtain⟨f,fd,d⟩:=a.e20;exact Ap (k:=0) .drop d.F sc_led (PySem.W.mg_of a.X a.G d.a) (d.F.binds λ_ _ _ _ _ _=>lq2 λ_ _=>rfl) (λ_ _ _ _ _ _ hr=>have nd:=sc_led.nd;(AJ (BB (Aq (Bv hr) (AQ AU (AC 0) AF) AL) (AN (Aa (Ar (AA AL (AA (AQ AU (AC 1) (AQ AU (AC 0) AF)) AE))))) Au) (AN (Aa (Ii (Aq (Bv hr) (AQ AU (AC 0) AF) AL) (Ar (AA AL (AA (AQ AU (AC 0) AF) (AA (AQ AU (AC 1) (AQ AU (AC 0) AF)) AE)))) (AC 0))))))
theorem Kh:Fn P w K mg base "joined" ["parts", "starts"] 2 (HY):=by
 obtain⟨f,fd,d⟩:=a.e21;exact Ap (k:=1) .frz d.F sc_joinedR (PySem.W.mg_of a.X a.G d.a) (d.F.binds λ_ _ _ _ _ _=>lq2 λ_ _=>rfl) (λ_ _ _ _ _ _ hr=>have nd:=sc_joinedR.nd;(AJ (AY 2 nd (B6 AE)) (AJ (OO 1000 PassesOwn.never rfl (AC 0) (BM 3 nd) (AN (Bp (BN PySem.F.slot_list_extend PySem.F.type_list_extend Fk (AC 2) (AA (EL (co:=none) (tgs:=["row"]) ⟨⟨rfl,by decide +kernel,by decide +kernel,⟨Or.inl rfl,trivial⟩,rfl,by decide +kernel⟩,rfl,⟨_,BL,λ_ _ _ _=>AV (i:=0) (show List.Nodup (["row", "starts"]:List Str) from by decide +kernel) rfl (Or.inl rfl)⟩,λ_ _ _ _=>A1,λ_ _ _ _=>(AZ (Wi a) hr (AA (AC 0) (AA (AC 1) AE)))⟩ (Ax (AC 3)) DT) AE))))) (AN (Aa (AC 2))))))
theorem Ny:Fn P w K mg base "put_rows" ["expression", "rows", "variables", "box_names"] 9 (D4):=by
 obtain⟨f,fd,d⟩:=a.e22;exact Ap (k:=8) .frz d.F sc_put_rows (PySem.W.mg_of a.X a.G d.a) (d.F.binds λ_ _ _ _ _ _=>lq4 λ_ _ _ _=>rfl) (λ_ _ _ _ _ _ hr=>have nd:=sc_put_rows.nd;(AJ (AY 4 nd (B6 (AA (Bd (AA (Ar (AA AL (AA (F3 hr (AC 2) AL) (AA (AC 0) AE)))) AE)) AE))) (AJ (Bz PassesOwn.never rfl (Ax (AC 1)) (BM 5 nd) (AN (Bp (BN PySem.F.slot_list_append PySem.F.type_list_append B0 (AC 4) (AA (Bd (AA (Ii (Aq (Bv hr) (AQ AU (AC 5) AF) AL) (Ar (AA AL (AA (Ac Bn a.y7 Mi.As (AA (AC 1) AE)) AE))) (AZ (GP a) hr (AA (AC 5) (AA (AC 2) (AA (AC 3) AE))))) AE)) AE))))) (AN (Aa (AZ (Kh a) hr (AA (AC 4) (AA (CP (AZ (HB a) hr (AA (AC 4) AE)) (BT AF) Bw) AE))))))))
theorem Nz:Fn P w K mg base "get_rows" ["name", "rows", "variables", "box_names"] 9 (D6):=by
 obtain⟨f,fd,d⟩:=a.e23;exact Ap (k:=8) .frz d.F sc_get_rows (PySem.W.mg_of a.X a.G d.a) (d.F.binds λ_ _ _ _ _ _=>lq4 λ_ _ _ _=>rfl) (λ_ _ _ _ _ _ hr=>have nd:=sc_get_rows.nd;(AJ (AY 4 nd (B6 AE)) (AJ (Bz PassesOwn.never rfl (Ax (AC 1)) (BM 5 nd) (AN (BB (Aq (Bv hr) (AQ AU (AC 5) AF) AL) (AN (Bp (BN PySem.F.slot_list_append PySem.F.type_list_append B0 (AC 4) (AA (Bd (AA (Ar (AA AL (AA (AC 0) (AA (AZ (Kg a 6) hr (AA (AQ AU (AC 5) AF) (AA (AC 2) AE))) AE)))) (AA (Ar (AA AL (AA (Ac Bn a.y7 Mi.As (AA (AC 1) AE)) AE))) AE))) AE)))) (AN (Bp (BN PySem.F.slot_list_append PySem.F.type_list_append B0 (AC 4) (AA (Bd (AA (AZ (GP a) hr (AA (AC 5) (AA (AC 2) (AA (AC 3) AE)))) AE)) AE))))))) (AN (Aa (AZ (Kh a) hr (AA (AC 4) (AA (AZ (HB a) hr (AA (AC 4) AE)) AE))))))))
theorem Mn:Fn P w K mg base "starts_of" ["parts"] 1 (Hq):=by
 obtain⟨f,fd,d⟩:=a.e24;exact Ap (k:=0) .frz d.F sc_starts_of (PySem.W.mg_of a.X a.G d.a) (d.F.binds λ_ _ _ _ _ _=>lq1 λ_=>rfl) (λ_ _ _ _ _ _ hr=>have nd:=sc_starts_of.nd;(AJ (AY 1 nd (B6 (AA AF AE))) (AJ (Bz PassesOwn.never rfl (Ax (AC 0)) (BM 2 nd) (AN (Bp (BN PySem.F.slot_list_append PySem.F.type_list_append B0 (AC 1) (AA (Ai A3 (AQ AU (AC 1) (WI WR AF)) (Ac Bn a.y7 Mi.As (AA (AC 2) AE))) AE))))) (AN (Aa (AC 1))))))
theorem Mo:Fn P w K mg base "rows_upon" ["rows", "replaced"] 2 (DR):=by
 obtain⟨f,fd,d⟩:=a.e25;exact Ap (k:=1) .drop d.F sc_rows_upon (PySem.W.mg_of a.X a.G d.a) (d.F.binds λ_ _ _ _ _ _=>lq2 λ_ _=>rfl) (λ_ _ _ _ _ _ hr=>have nd:=sc_rows_upon.nd;(AJ (UW (co:=none) (tgs:=["number", "row"]) ⟨⟨rfl,by decide +kernel,by decide +kernel,⟨Or.inl rfl,trivial⟩,rfl,by decide +kernel⟩,rfl,⟨_,Qx,λ_ _ _ _=>NG rfl (Ag (AV (i:=0) (show List.Nodup (["number", "row", "replaced"]:List Str) from by decide +kernel) rfl (Or.inl rfl)) (Ag (AV (i:=1) (show List.Nodup (["number", "row", "replaced"]:List Str) from by decide +kernel) rfl (Or.inl rfl)) Cc)) rfl rfl⟩,λ_ _ _ _=>A1,λ_ _ _ _=>(Rk hr (AC 2) (AC 0) (Bd (AA (AC 1) AE)))⟩ (Fc a.y4 (AA (AC 0) AE)) DT nd) (AJ (AY 3 nd (AZ (Mn a) hr (AA (AC 2) AE))) (AJ (AY 4 nd (B6 AE)) (AJ (Bz PassesOwn.never rfl (Rf a.y4 (AA (AC 2) AE)) (Dp (is:=[5,6]) rfl (Ag (AV (i:=5) nd rfl (by first|exact Or.inl rfl|exact Or.inr rfl)) (Ag (AV (i:=6) nd rfl (by first|exact Or.inl rfl|exact Or.inr rfl)) Cc))) (AJ (AY 7 nd (Ii (RV hr (AC 5) (AC 1)) (Lv a.y8 a.y11 (AQ AU (AC 3) (AC 5)) (Ai A3 (AQ AU (AC 3) (Ai A3 (AC 5) AF)) AF)) (AC 3))) (AN (Bp (BN PySem.F.slot_list_extend PySem.F.type_list_extend Fk (AC 4) (AA (EL (co:=none) (tgs:=["row"]) ⟨⟨rfl,by decide +kernel,by decide +kernel,⟨Or.inl rfl,trivial⟩,rfl,by decide +kernel⟩,rfl,⟨_,BL,λ_ _ _ _=>AV (i:=0) (show List.Nodup (["row", "leads"]:List Str) from by decide +kernel) rfl (Or.inl rfl)⟩,λ_ _ _ _=>A1,λ_ _ _ _=>(AZ (Wi a) hr (AA (AC 0) (AA (AC 1) AE)))⟩ (Ax (AC 6)) DT) AE)))))) (AN (Aa (Br DN a.y15 Mi.Bb (AA (AC 4) AE)))))))))
theorem Mq:Fn P w K mg base "hand_upon" ["hand", "name", "inner", "given"] 10 (BY):=by
 obtain⟨f,fd,d⟩:=a.e26;exact Ap (k:=9) .drop d.F sc_hand_upon (PySem.W.mg_of a.X a.G d.a) (d.F.binds λ_ _ _ _ _ _=>lq4 λ_ _ _ _=>rfl) (λ_ _ _ _ _ _ hr=>have nd:=sc_hand_upon.nd;(AJ (AY 4 nd (AQ AU (AC 3) AF)) (AJ (AY 5 nd (AQ AU (AC 3) AF)) (AJ (AY 6 nd IH) (AJ (Bz PassesOwn.never rfl (Fc a.y4 (AA (AQ AU (AC 0) AF) AE)) (Dp (is:=[7,8]) rfl (Ag (AV (i:=7) nd rfl (by first|exact Or.inl rfl|exact Or.inr rfl)) (Ag (AV (i:=8) nd rfl (by first|exact Or.inl rfl|exact Or.inr rfl)) Cc))) (AJ (BB (Aq (H9 hr) (AZ (Mr a) hr (AA (AC 8) AE)) (AC 1)) (AN UM) Au) (AN (BB (Aq (Bv hr) (AQ AU (AC 8) AF) AL) (AN (Db hr (AC 6) (AC 7) (AZ (Ny a) hr (AA (AQ AU (AC 8) AF) (AA (AQ AU (AQ AU (AQ AU (AC 2) AF) AF) AF) (AA (AQ AU (AC 5) AF) (AA (AC 4) AE))))))) (AJ (AY 9 nd (Ai A3 (BN PySem.F.slot_list_index PySem.F.type_list_index SU (AQ AU (AC 3) AF) (AA (AQ AU (AC 0) AF) AE)) AF)) (AN (Db hr (AC 6) (AC 7) (AZ (Nz a) hr (AA (AQ AU (AC 8) AF) (AA (AQ AU (AQ AU (AQ AU (AC 2) AF) (AC 9)) AF) (AA (AQ AU (AC 5) (AC 9)) (AA (AC 4) AE)))))))))))) (AJ (BB (Aq (Bv hr) (Ac Y1 a.y7 Mi.As (AA (AC 6) AE)) AF) (AN (Aa (AC 0))) Au) (AJ (AY 10 nd (Ac (TZ rfl) a.y9 Mi.G5 (AA (EL (co:=none) (tgs:=["other"]) ⟨⟨rfl,by decide +kernel,by decide +kernel,trivial,rfl,by decide +kernel⟩,rfl,⟨_,BL,λ_ _ _ _=>AV (i:=0) (show List.Nodup (["other"]:List Str) from by decide +kernel) rfl (Or.inl rfl)⟩,λ_ _ _ _=>A1,λ_ _ _ _=>(AQ AU (AC 0) AF)⟩ (Ax (AQ AU (AC 2) AF)) DT) AE))) (AN (Aa (Ar (AA (AQ AU (AC 0) AF) (AA (Ii (Aq YC (AC 10) AF) (Ai Fe (AQ AU (AC 0) AF) (AC 10)) (AQ AU (AC 0) AF)) (AA (AZ (Mo a) hr (AA (AQ AU (AC 0) AF) (AA (AC 6) AE))) AE)))))))))))))
theorem BA:FnX P w K mg base "need" ["holds", "words"] 1 (BW):=by
 obtain⟨f,fd,d⟩:=a.e27;obtain⟨dN,at_NoMaking⟩:=a.x2;have ec_NoMaking:=a.x9 _ at_NoMaking;have mc_NoMaking:=PySem.W.mg_of a.X a.G at_NoMaking;exact CW (k:=0) .all d.F sc_needX (PySem.W.mg_of a.X a.G d.a) (d.F.binds λ_ _ _ _ _ _=>lq2 λ_ _=>rfl) (λ_ _ _ _ _ _ hr=>have nd:=sc_needX.nd;(A2 (Gb (CO (By (AC 0))) (A2 (FO ec_NoMaking mc_NoMaking (AA (AC 1) AE))) EB)))
theorem C0:Fn P w K mg base "is_tuple" ["thing", "least", "most"] 1 (Ba):=by
 obtain⟨f,fd,d⟩:=a.e28;exact Ap (k:=0) .drop d.F sc_is_tuple (PySem.W.mg_of a.X a.G d.a) (d.F.binds λ_ _ _ _ _ _=>lq3 λ_ _ _=>rfl) (λ_ _ _ _ _ _ hr=>have nd:=sc_is_tuple.nd;(AN (Aa (DS (Ac Ha a.y6 Mi.BG (AA (AC 0) (AA (Eo a.y15 Mi.Bb) AE))) (En (Ij Pp Pp (AC 1) (Ac Bn a.y7 Mi.As (AA (AC 0) AE)) (AC 2)))))))
theorem D9:Fn P w K mg base "is_whole" ["thing", "least", "most"] 1 (D5):=by
 obtain⟨f,fd,d⟩:=a.e29;exact Ap (k:=0) .drop d.F sc_is_whole (PySem.W.mg_of a.X a.G d.a) (d.F.binds λ_ _ _ _ _ _=>lq3 λ_ _ _=>rfl) (λ_ _ _ _ _ _ hr=>have nd:=sc_is_whole.nd;(AN (Aa (DS (Ac Ha a.y6 Mi.BG (AA (AC 0) (AA (Eo a.y5 Mi.JS) AE))) (DS (XQ (Ac Ha a.y6 Mi.BG (AA (AC 0) (AA (Eo a.y3 Mi.Qd) AE)))) (En (Ij Pp Pp (AC 1) (AC 0) (AC 2))))))))
theorem FN:FnX P w K mg base "check_worths" ["kind", "size", "begin"] 2 (BE):=by
 obtain⟨f,fd,d⟩:=a.e30;exact CW (k:=1) .all d.F sc_check_worthsX (PySem.W.mg_of a.X a.G d.a) (d.F.binds λ_ _ _ _ _ _=>lq3 λ_ _ _=>rfl) (λ_ _ _ _ _ _ hr=>have nd:=sc_check_worthsX.nd;(Ae (Av (BU (BA a) hr (AA (Be (SN hr) (AC 0) (C5 a.g2)) (AA AL AE)))) (Ae (Av (BU (BA a) hr (AA (AZ (D9 a) hr (AA (AC 1) (AA (C5 a.g4) (AA (C5 a.g9) AE)))) (AA AL AE)))) (A2 (Av (BU (BA a) hr (AA (AZ (D9 a) hr (AA (AC 2) (AA AF (AA (Ai DP (AC 1) AF) AE)))) (AA AL AE))))))))
theorem GB:Fn P w K mg base "is_name" ["thing"] 1 (C8):=by
 obtain⟨f,fd,d⟩:=a.e31;exact Ap (k:=0) .drop d.F sc_is_name (PySem.W.mg_of a.X a.G d.a) (d.F.binds λ_ _ _ _ _ _=>lq1 λ_=>rfl) (λ_ _ _ _ _ _ hr=>have nd:=sc_is_name.nd;(AN (Aa (DS (Ac Ha a.y6 Mi.BG (AA (AC 0) (AA (Eo a.y14 Mi.Md) AE))) (DS (Ij Pp Pp AF (Ac Bn a.y7 Mi.As (AA (AC 0) AE)) AF) (En (Ac (a0 rfl) a.y1 Mi.Th (AA (EL (co:=none) (tgs:=["sign"]) ⟨⟨rfl,by decide +kernel,by decide +kernel,trivial,rfl,by decide +kernel⟩,rfl,⟨_,BL,λ_ _ _ _=>AV (i:=0) (show List.Nodup (["sign"]:List Str) from by decide +kernel) rfl (Or.inl rfl)⟩,λ_ _ _ _=>A1,λ_ _ _ _=>(Be aI (AC 0) (C5 a.g5))⟩ (XO (AC 0)) DT) AE))))))))
theorem HC:Fn P w K mg base "are_unlike" ["names"] 1 (Cf):=by
 obtain⟨f,fd,d⟩:=a.e32;exact Ap (k:=0) .drop d.F sc_are_unlike (PySem.W.mg_of a.X a.G d.a) (d.F.binds λ_ _ _ _ _ _=>lq1 λ_=>rfl) (λ_ _ _ _ _ _ hr=>have nd:=sc_are_unlike.nd;(AN (Aa (Be (Bv hr) (Pa a.y7 a.y12 (AC 0)) (Ac Bn a.y7 Mi.As (AA (AC 0) AE))))))
theorem Ja:FnX P w K mg base "check_boxes" ["boxes"] 3 (BP):=by
 obtain⟨f,fd,d⟩:=a.e33;exact CW (k:=2) .all d.F sc_check_boxesX (PySem.W.mg_of a.X a.G d.a) (d.F.binds λ_ _ _ _ _ _=>lq1 λ_=>rfl) (λ_ _ _ _ _ _ hr=>have nd:=sc_check_boxesX.nd;(Ae (Av (BU (BA a) hr (AA (AZ (C0 a) hr (AA (AC 0) (AA AF (AA (C5 a.g6) AE)))) (AA AL AE)))) (Ae (FP (Ax (AC 0)) (BM 1 nd) (Ae (Av (BU (BA a) hr (AA (AZ (C0 a) hr (AA (AC 1) (AA AF (AA AF AE)))) (AA AL AE)))) (Ae (Av (BU (BA a) hr (AA (AZ (GB a) hr (AA (AQ AU (AC 1) AF) AE)) (AA AL AE)))) (A2 (Av (BU (FN a) hr (AA (AQ AU (AC 1) AF) (AA (AQ AU (AC 1) AF) (AA (AQ AU (AC 1) AF) AE))))))))) (A2 (Av (BU (BA a) hr (AA (AZ (HC a) hr (AA (EL (co:=none) (tgs:=["box"]) ⟨⟨rfl,by decide +kernel,by decide +kernel,trivial,rfl,by decide +kernel⟩,rfl,⟨_,BL,λ_ _ _ _=>AV (i:=0) (show List.Nodup (["box"]:List Str) from by decide +kernel) rfl (Or.inl rfl)⟩,λ_ _ _ _=>A1,λ_ _ _ _=>(AQ AU (AC 0) AF)⟩ (Ax (AC 0)) DT) AE)) (AA AL AE))))))))
theorem JZ:FnX P w K mg base "check_hands" ["hands"] 2 (Ay):=by
 obtain⟨f,fd,d⟩:=a.e34;exact CW (k:=1) .all d.F sc_check_handsX (PySem.W.mg_of a.X a.G d.a) (d.F.binds λ_ _ _ _ _ _=>lq1 λ_=>rfl) (λ_ _ _ _ _ _ hr=>have nd:=sc_check_handsX.nd;(Ae (Av (BU (BA a) hr (AA (AZ (C0 a) hr (AA (AC 0) (AA (C5 a.g3) (AA (C5 a.g7) AE)))) (AA AL AE)))) (Ae (FP (Ax (AC 0)) (BM 1 nd) (Ae (Av (BU (BA a) hr (AA (AZ (C0 a) hr (AA (AC 1) (AA AF (AA AF AE)))) (AA AL AE)))) (Ae (Av (BU (BA a) hr (AA (AZ (GB a) hr (AA (AQ AU (AC 1) AF) AE)) (AA AL AE)))) (Ae (Av (BU (BA a) hr (AA (AZ (D9 a) hr (AA (AQ AU (AC 1) AF) (AA AF (AA (C5 a.g10) AE)))) (AA AL AE)))) (A2 (Av (BU (BA a) hr (AA (AZ (C0 a) hr (AA (AQ AU (AC 1) AF) (AA AF (AA (C5 a.g8) AE)))) (AA AL AE))))))))) (A2 (Av (BU (BA a) hr (AA (AZ (HC a) hr (AA (EL (co:=none) (tgs:=["hand"]) ⟨⟨rfl,by decide +kernel,by decide +kernel,trivial,rfl,by decide +kernel⟩,rfl,⟨_,BL,λ_ _ _ _=>AV (i:=0) (show List.Nodup (["hand"]:List Str) from by decide +kernel) rfl (Or.inl rfl)⟩,λ_ _ _ _=>A1,λ_ _ _ _=>(AQ AU (AC 0) AF)⟩ (Ax (AC 0)) DT) AE)) (AA AL AE))))))))
theorem IC(n:Nat):Fn P w K mg base "is_expression" ["thing", "deep"] (n+2) (DU n):=by
 obtain⟨f,fd,d⟩:=a.e35
 induction n with
 |zero=>exact JH d.F (PySem.W.mg_of a.X a.G d.a) (d.F.binds λ_ _ _ _ _ _=>lq2 λ_ _=>rfl)
 |succ n ih=>exact(Ap (k:=n+2) .drop d.F sc_is_expression (PySem.W.mg_of a.X a.G d.a) (d.F.binds λ_ _ _ _ _ _=>lq2 λ_ _=>rfl) (λ_ _ _ _ _ _ hr=>have nd:=sc_is_expression.nd;(AJ (BB (RW.rt (GJ (Aq SM (AC 1) AF) (GJ (CO (By (Ac Ha a.y6 Mi.BG (AA (AC 0) (AA (Eo a.y15 Mi.Bb) AE))))) (GR (Aq (Bv hr) (Ac Bn a.y7 Mi.As (AA (AC 0) AE)) AF))))) (AN (Aa BX)) Au) (AJ (AY 2 nd (AQ AU (AC 0) AF)) (AJ (BB (Aq (SN hr) (AC 2) (C5 a.g12)) (AN (Aa (DS (Be (Bv hr) (Ac Bn a.y7 Mi.As (AA (AC 0) AE)) AF) (DS (AZ (hkj:=AAF _) ih hr (AA (AQ AU (AC 0) AF) (AA (Ai DP (AC 1) AF) AE))) (En (AZ (hkj:=AAF _) ih hr (AA (AQ AU (AC 0) AF) (AA (Ai DP (AC 1) AF) AE)))))))) Au) (AJ (BB (Aq (H9 hr) (Ac Bn a.y7 Mi.As (AA (AC 0) AE)) AF) (AN (Aa BX)) Au) (AJ (BB (Aq (Bv hr) (AC 2) AL) (AN (Aa (AZ (hkj:=by omega) (D9 a) hr (AA (AQ AU (AC 0) AF) (AA AF (AA (C5 a.g1) AE)))))) Au) (AJ (BB (Aq (Bv hr) (AC 2) AL) (AN (Aa (AZ (hkj:=by omega) (GB a) hr (AA (AQ AU (AC 0) AF) AE)))) Au) (AN (Aa (DS (Be (Bv hr) (AC 2) AL) (En (AZ (hkj:=AAF _) ih hr (AA (AQ AU (AC 0) AF) (AA (Ai DP (AC 1) AF) AE))))))))))))))).mono (by omega)
theorem Qf:Fn P w K mg base "is_part" ["part", "thing", "length"] 9 (KO):=by
 obtain⟨f,fd,d⟩:=a.e36;exact Ap (k:=8) .all d.F sc_is_part (PySem.W.mg_of a.X a.G d.a) (d.F.binds λ_ _ _ _ _ _=>lq3 λ_ _ _=>rfl) (λ_ _ _ _ _ _ hr=>have nd:=sc_is_part.nd;(AJ (BB (Aq (Bv hr) (AC 0) AL) (AN (Aa (AZ (IC a 6) hr (AA (AC 1) (AA (C5 a.g0) AE))))) Au) (AJ (BB (Aq (Bv hr) (AC 0) AL) (AN (Aa (AZ (D9 a) hr (AA (AC 1) (AA AF (AA (AC 2) AE)))))) Au) (AN (Aa (AZ (GB a) hr (AA (AC 1) AE)))))))
theorem Jn:FnX P w K mg base "check_form" ["row", "length"] 10 (GN):=by
 obtain⟨f,fd,d⟩:=a.e37;exact CW (k:=9) .all d.F sc_check_formX (PySem.W.mg_of a.X a.G d.a) (d.F.binds λ_ _ _ _ _ _=>lq2 λ_ _=>rfl) (λ_ _ _ _ _ _ hr=>have nd:=sc_check_formX.nd;(Ae (Av (BU (BA a) hr (AA (AZ (C0 a) hr (AA (AC 0) (AA AF (AA AF AE)))) (AA AL AE)))) (Ae (Av (BU (BA a) hr (AA (DS (Ac Ha a.y6 Mi.BG (AA (AQ AU (AC 0) AF) (AA (Eo a.y14 Mi.Md) AE))) (En (XR a.g13 (AQ AU (AC 0) AF)))) (AA AL AE)))) (Ae (B5 (AY 2 nd (Kt a.g13 (AQ AU (AC 0) AF)))) (Ae (Av (BU (BA a) hr (AA (Be (Bv hr) (Ac Bn a.y7 Mi.As (AA (AC 0) AE)) (Ai A3 AF (Ac Bn a.y7 Mi.As (AA (AC 2) AE)))) (AA AL AE)))) (A2 (FP (Kr a.y16 (AA (AC 2) (AA (CP (AC 0) (BT AF) Bw) AE))) (Dp (is:=[3,4]) rfl (Ag (AV (i:=3) nd rfl (by first|exact Or.inl rfl|exact Or.inr rfl)) (Ag (AV (i:=4) nd rfl (by first|exact Or.inl rfl|exact Or.inr rfl)) Cc))) (A2 (Av (BU (BA a) hr (AA (AZ (Qf a) hr (AA (AC 3) (AA (AC 4) (AA (AC 1) AE)))) (AA (Pb (OP AL (OP (XU (AC 3)) XN))) AE))))))))))))
theorem ID:FnX P w K mg base "check_ending" ["word", "is_writer"] 2 (FL):=by
 obtain⟨f,fd,d⟩:=a.e38;exact CW (k:=1) .all d.F sc_check_endingX (PySem.W.mg_of a.X a.G d.a) (d.F.binds λ_ _ _ _ _ _=>lq2 λ_ _=>rfl) (λ_ _ _ _ _ _ hr=>have nd:=sc_check_endingX.nd;(A2 (Gb (By (AC 1)) (A2 (Av (BU (BA a) hr (AA (Be (H9 hr) (AC 0) AL) (AA AL AE))))) (A2 (Av (BU (BA a) hr (AA (Be (H9 hr) (AC 0) AL) (AA AL AE))))))))
theorem Ga:FnX P w K mg base "check_variables" ["row", "is_writer"] 9 (D7):=by
 obtain⟨f,fd,d⟩:=a.e39;exact CW (k:=8) .all d.F sc_check_variablesX (PySem.W.mg_of a.X a.G d.a) (d.F.binds λ_ _ _ _ _ _=>lq2 λ_ _=>rfl) (λ_ _ _ _ _ _ hr=>have nd:=sc_check_variablesX.nd;(Ae (FP (Ax (AZ (Fz a) hr (AA (AC 0) AE))) (BM 2 nd) (Ae (Av (BU (BA a) hr (AA (Be U8 (AC 2) (C5 a.g11)) (AA AL AE)))) (A2 (Av (BU (BA a) hr (AA (Zp (AC 1) (En (Be (H9 hr) (AC 2) AL))) (AA AL AE))))))) (A2 (Gb (Aq aI (AQ AU (AC 0) AF) (Ar (AA AL (AA AL AE)))) (A2 (Av (BU (BA a) hr (AA (Be (H9 hr) (AQ AU (AC 0) AF) AL) (AA AL AE))))) EB))))
theorem Jm:FnX P w K mg base "check_rows" ["hand", "is_writer", "writers"] 11 (DM):=by
 obtain⟨f,fd,d⟩:=a.e40;exact CW (k:=10) .all d.F sc_check_rowsX (PySem.W.mg_of a.X a.G d.a) (d.F.binds λ_ _ _ _ _ _=>lq3 λ_ _ _=>rfl) (λ_ _ _ _ _ _ hr=>have nd:=sc_check_rowsX.nd;(A2 (FP (Ax (AQ AU (AC 0) AF)) (BM 3 nd) (Ae (Av (BU (Jn a) hr (AA (AC 3) (AA (Ac Bn a.y7 Mi.As (AA (AQ AU (AC 0) AF) AE)) AE)))) (Ae (Av (BU (ID a) hr (AA (AQ AU (AC 3) AF) (AA (AC 1) AE)))) (Ae (Av (BU (Ga a) hr (AA (AC 3) (AA (AC 1) AE)))) (Ae (Gb (Aq (Bv hr) (AQ AU (AC 3) AF) AL) (A2 (Av (BU (BA a) hr (AA (Be (Bv hr) (Rl hr (AC 2) (AQ AU (AC 3) AF)) (AQ AU (AC 0) AF)) (AA AL AE))))) EB) (A2 (Gb (Aq (Bv hr) (AQ AU (AC 3) AF) AL) (A2 (Av (BU (BA a) hr (AA (XV hr (AQ AU (AC 3) AF) (AC 2)) (AA AL AE))))) EB)))))))))
theorem DW:FnX P w K mg base "check_making" ["making"] 12 (AT):=by
 obtain⟨f,fd,d⟩:=a.e41;exact FnX.shut (CW (k:=11) .all d.F sc_check_makingX (PySem.W.mg_of a.X a.G d.a) (d.F.binds λ_ _ _ _ _ _=>lq1 λ_=>rfl) (λ_ _ _ _ _ _ hr=>have nd:=sc_check_makingX.nd;(Ae (Av (BU (BA a) hr (AA (AZ (C0 a) hr (AA (AC 0) (AA AF (AA AF AE)))) (AA AL AE)))) (Ae (Av (BU (FN a) hr (AA (AQ AU (AC 0) AF) (AA (AQ AU (AC 0) AF) (AA (AQ AU (AC 0) AF) AE))))) (Ae (Av (BU (Ja a) hr (AA (AQ AU (AC 0) AF) AE))) (Ae (Av (BU (JZ a) hr (AA (AQ AU (AC 0) AF) AE))) (Ae (B5 (UW (co:=none) (tgs:=["hand"]) ⟨⟨rfl,by decide +kernel,by decide +kernel,trivial,rfl,by decide +kernel⟩,rfl,⟨_,BL,λ_ _ _ _=>AV (i:=0) (show List.Nodup (["hand"]:List Str) from by decide +kernel) rfl (Or.inl rfl)⟩,λ_ _ _ _=>A1,λ_ _ _ _=>(AQ AU (AC 0) AF)⟩ (Ax (AQ AU (AC 0) AF)) DT nd)) (Ae (B5 (AY 2 nd IH)) (Ae (FP (Ax (AQ AU (AC 0) AF)) (BM 3 nd) (Ae (Av (BU (BA a) hr (AA (Be (SN hr) (AQ AU (AC 3) AF) (AC 1)) (AA AL AE)))) (A2 (B5 (Db hr (AC 2) (AQ AU (AC 3) AF) (AQ AU (AC 3) AF)))))) (A2 (FP (Fc a.y4 (AA (AQ AU (AC 0) AF) AE)) (Dp (is:=[4,5]) rfl (Ag (AV (i:=4) nd rfl (by first|exact Or.inl rfl|exact Or.inr rfl)) (Ag (AV (i:=5) nd rfl (by first|exact Or.inl rfl|exact Or.inr rfl)) Cc))) (A2 (Av (BU (Jm a) hr (AA (AC 5) (AA (Be (Bv hr) (AC 4) AF) (AA (AC 2) AE)))))))))))))))))
theorem Mp:FnX P w K mg base "put_upon" ["outer", "name", "inner"] 13 (A8):=by
 obtain⟨f,fd,d⟩:=a.e42;obtain⟨dZ,at_NoUpon⟩:=a.x6;obtain⟨dN,at_NoMaking⟩:=a.x2;have ec_NoUpon:=a.x10 _ at_NoUpon;have mc_NoUpon:=PySem.W.mg_of a.X a.G at_NoUpon;have cd_NoMaking:=a.x11 _ at_NoMaking;have mc_NoMaking:=PySem.W.mg_of a.X a.G at_NoMaking;have bl_NoMaking:=a.x15 _ at_NoMaking;have cd_NoUpon:=a.x12 _ at_NoUpon;have kp_NoUpon:=a.x14 _ at_NoUpon;exact FnX.shut (CW (k:=12) .all d.F sc_put_uponX (PySem.W.mg_of a.X a.G d.a) (d.F.binds λ_ _ _ _ _ _=>lq3 λ_ _ _=>rfl) (λ_ _ _ _ _ _ hr=>have nd:=sc_put_uponX.nd;(Ae (B5 (UW (co:=(some _)) (tgs:=["place", "box"]) ⟨⟨rfl,by decide +kernel,by decide +kernel,⟨Or.inl rfl,trivial⟩,rfl,by decide +kernel⟩,rfl,⟨_,Qx,λ_ _ _ _=>NG rfl (Ag (AV (i:=0) (show List.Nodup (["place", "box", "name"]:List Str) from by decide +kernel) rfl (Or.inl rfl)) (Ag (AV (i:=1) (show List.Nodup (["place", "box", "name"]:List Str) from by decide +kernel) rfl (Or.inl rfl)) Cc)) rfl rfl⟩,λ_ _ _ _=>Io (Aq (Bv hr) (AQ AU (AC 1) AF) (AC 2)),λ_ _ _ _=>(AC 0)⟩ (Fc a.y4 (AA (AQ AU (AC 0) AF) AE)) DT nd)) (Ae (Gb (Aq (Bv hr) (Ac Bn a.y7 Mi.As (AA (AC 3) AE)) AF) (A2 (FO ec_NoUpon mc_NoUpon (AA AL AE))) EB) (Ae (B5 (AY 4 nd (AQ AU (AQ AU (AC 0) AF) (AQ AU (AC 3) AF)))) (Ae (B5 (AY 5 nd (EL (co:=(some _)) (tgs:=["hand"]) ⟨⟨rfl,by decide +kernel,by decide +kernel,⟨Or.inl rfl,trivial⟩,rfl,by decide +kernel⟩,rfl,⟨_,BL,λ_ _ _ _=>AV (i:=0) (show List.Nodup (["hand", "name"]:List Str) from by decide +kernel) rfl (Or.inl rfl)⟩,λ_ _ _ _=>Io (By (AZ (Qg a) hr (AA (AC 0) (AA AL (AA (AC 1) AE))))),λ_ _ _ _=>(AQ AU (AC 0) AF)⟩ (Ax (AQ AU (AC 0) AF)) DT))) (Ae (Av (BU (LP a) hr (AA (AC 4) (AA (AC 2) (AA (Ac Bn a.y7 Mi.As (AA (AC 5) AE)) AE))))) (Ae (B5 (AY 6 nd (UR (He a) hr (AA (AC 0) AE)))) (Ae (B5 (AY 7 nd (Ks (FB a) hr (AC 6) (AA (EL (co:=none) (tgs:=["old"]) ⟨⟨rfl,by decide +kernel,by decide +kernel,trivial,rfl,by decide +kernel⟩,rfl,⟨_,BL,λ_ _ _ _=>AV (i:=0) (show List.Nodup (["old"]:List Str) from by decide +kernel) rfl (Or.inl rfl)⟩,λ_ _ _ _=>A1,λ_ _ _ _=>(AQ AU (AC 0) AF)⟩ (Ax (AQ AU (AC 2) AF)) DT) AE)))) (Ae (B5 (AY 8 nd (B6 (AA (Ks (FB a) hr (AC 6) (AA (Ac Vw a.y13 PyProof.Rows.boot_sorted (AA (Ai A3 (AZ (Cn a) hr (AA (AQ AU (AQ AU (AQ AU (AC 2) AF) AF) AF) AE)) (Bd (AA AL AE))) AE)) AE)) AE)))) (Ae (FP (J5 a.y11 (AA (Ac Bn a.y7 Mi.As (AA (AC 5) AE)) AE)) (BM 9 nd) (A2 (B5 (Bp (BN PySem.F.slot_list_append PySem.F.type_list_append B0 (AC 8) (AA (Ks (FB a) hr (AC 6) (AA (AZ (Cn a) hr (AA (AQ AU (AQ AU (AQ AU (AC 2) AF) (Ai A3 (AC 9) AF)) AF) AE)) AE)) AE)))))) (Ae (B5 (AY 10 nd (Ai A3 (Ai A3 (CP (AQ AU (AC 0) AF) Bw (BT (AQ AU (AC 3) AF))) (AZ (Jb a) hr (AA (AC 2) (AA (AC 7) (AA (AQ AU (AC 4) AF) (AA (AC 5) AE)))))) (CP (AQ AU (AC 0) AF) (BT (Ai A3 (AQ AU (AC 3) AF) AF)) Bw)))) (Ae (B5 (UW (co:=none) (tgs:=["hand"]) ⟨⟨rfl,by decide +kernel,by decide +kernel,⟨Or.inl rfl,Or.inl rfl,Or.inl rfl,Or.inl rfl,Or.inl rfl,trivial⟩,rfl,by decide +kernel⟩,rfl,⟨_,BL,λ_ _ _ _=>AV (i:=0) (show List.Nodup (["hand", "box_names", "getters", "inner", "name", "variables"]:List Str) from by decide +kernel) rfl (Or.inl rfl)⟩,λ_ _ _ _=>A1,λ_ _ _ _=>(AZ (Mq a) hr (AA (AC 0) (AA (AC 4) (AA (AC 3) (AA (Ar (AA (AC 1) (AA (AC 5) (AA (AC 2) AE)))) AE)))))⟩ (Ax (AQ AU (AC 0) AF)) DT nd)) (Ae (B5 (AY 12 nd (Ai A3 (CP (AC 0) Bw (BT AF)) (Ar (AA (AC 10) (AA (Br DN a.y15 Mi.Bb (AA (AC 11) AE)) AE)))))) (Ae (Tp (ok:=["NoMaking"]) cd_NoMaking mc_NoMaking bl_NoMaking ec_NoUpon cd_NoUpon kp_NoUpon mc_NoUpon (A2 (Av (BU (DW a) hr (AA (AC 12) AE))))) (A2 (B5 (Aa (AC 12)))))))))))))))))))
theorem O7:Fn P w K mg base "_law_told" ["_law_outer_here", "_law_name", "_law_inner_here"] 14 (EG):=by
 obtain⟨f,fd,d⟩:=a.e43;obtain⟨du,at_StrongError⟩:=a.x7;obtain⟨dv,at_NoEvents⟩:=a.x0;obtain⟨d7,at_NoLine⟩:=a.x1;obtain⟨dN,at_NoMaking⟩:=a.x2;obtain⟨dw,at_NoPaper⟩:=a.x3;obtain⟨dz,at_NoStep⟩:=a.x4;obtain⟨d8,at_NoText⟩:=a.x5;obtain⟨dy,at_TooMany⟩:=a.x8;obtain⟨dZ,at_NoUpon⟩:=a.x6;have cd_StrongError:=a.x13 _ at_StrongError;have mc_StrongError:=PySem.W.mg_of a.X a.G at_StrongError;have bl_StrongError:=a.x16 _ at_StrongError;have mc_NoEvents:=PySem.W.mg_of a.X a.G at_NoEvents;have mc_NoLine:=PySem.W.mg_of a.X a.G at_NoLine;have mc_NoMaking:=PySem.W.mg_of a.X a.G at_NoMaking;have mc_NoPaper:=PySem.W.mg_of a.X a.G at_NoPaper;have mc_NoStep:=PySem.W.mg_of a.X a.G at_NoStep;have mc_NoText:=PySem.W.mg_of a.X a.G at_NoText;have mc_TooMany:=PySem.W.mg_of a.X a.G at_TooMany;have tb_NoEvents_NoLine_NoMaking_NoPaper_NoStep_NoText_TooMany:=a.x17 _ (.cons at_NoEvents (.cons at_NoLine (.cons at_NoMaking (.cons at_NoPaper (.cons at_NoStep (.cons at_NoText (.cons at_TooMany NsL.nil)))))));have mc_NoUpon:=PySem.W.mg_of a.X a.G at_NoUpon;have tb_NoUpon:=a.x18 _ (.cons at_NoUpon NsL.nil);have tb_ValueError:=a.x19;exact Ap (k:=13) .all d.F sc_Ltold (PySem.W.mg_of a.X a.G d.a) (d.F.binds λ_ _ _ _ _ _=>lq3 λ_ _ _=>rfl) (λ_ _ _ _ _ _ hr=>have nd:=sc_Ltold.nd;(AJ (AY 3 nd Fd) (AJ (UL (i:=4) (ok:=["NoUpon"]) cd_StrongError mc_StrongError bl_StrongError nd (A2 (Wj 3 nd (BU (Mp a) hr (AA (AC 0) (AA (AC 1) (AA (AC 2) AE)))))) (λ_=>(AJ (AY 5 nd (US a.y6 (AC 4) (Er mc_NoEvents (Er mc_NoLine (Er mc_NoMaking (Er mc_NoPaper (Er mc_NoStep (Er mc_NoText (Er mc_TooMany YH))))))) tb_NoEvents_NoLine_NoMaking_NoPaper_NoStep_NoText_TooMany)) (AN (BB (RW.rt (GJ (By (AC 5)) (GJ (CO (By (XT a.y6 (AC 4) mc_NoUpon tb_NoUpon))) (GR (CO (By (UT a.y6 (AC 4) (Eo a.y0 PyProof.Rows.Boot.«ValueError») tb_ValueError))))))) (AN (AY 3 nd AL)) Au))))) (AN (Aa (AC 3))))))
theorem CG:Fn P w K mg base "_law_right" ["_law_outer_here", "_law_name", "_law_inner_here", "_law_good"] 15 (An):=by
 obtain⟨f,fd,d⟩:=a.e44;exact Fn.shut (Ap (k:=14) .all d.F sc_Lright (PySem.W.mg_of a.X a.G d.a) (d.F.binds λ_ _ _ _ _ _=>lq4 λ_ _ _ _=>rfl) (λ_ _ _ _ _ _ hr=>have nd:=sc_Lright.nd;(AJ (AY 4 nd (AZ (O7 a) hr (AA (AC 0) (AA (AC 1) (AA (AC 2) AE))))) (AJ (BB (CO (By (AC 3))) (AN (Aa (Be VA (AC 4) Fd))) Au) (AJ (BB (RW.rt (GJ (Aq VA (AC 4) Fd) (GJ (Aq (Bv hr) (AC 4) AL) (GR (Aq U9 (Ri (DW a) hr (AA (AC 4) AE)) Fd))))) (AN (Aa BX)) Au) (AJ (AY 5 nd (Ac (TZ rfl) a.y9 Mi.G5 (AA (Ai A3 (Bd (AA AF AE)) (EL (co:=none) (tgs:=["_law_hand"]) ⟨⟨rfl,by decide +kernel,by decide +kernel,trivial,rfl,by decide +kernel⟩,rfl,⟨_,BL,λ_ _ _ _=>AV (i:=0) (show List.Nodup (["_law_hand"]:List Str) from by decide +kernel) rfl (Or.inl rfl)⟩,λ_ _ _ _=>A1,λ_ _ _ _=>(AQ AU (AC 0) AF)⟩ (Ax (AQ AU (AC 2) AF)) DT)) AE))) (AJ (BB (RW.rt (GJ (Aq (H9 hr) (Ac Bn a.y7 Mi.As (AA (AQ AU (AC 4) AF) AE)) (Ai A3 (Ai DP (Ac Bn a.y7 Mi.As (AA (AQ AU (AC 0) AF) AE)) AF) (Ac Bn a.y7 Mi.As (AA (AQ AU (AC 2) AF) AE)))) (GR (Aq (H9 hr) (CP (AC 4) Bw (BT AF)) (CP (AC 0) Bw (BT AF)))))) (AN (Aa BX)) Au) (AJ (AY 6 nd (Ai A3 (Bd (AA (Ai A3 (Ac Bn a.y7 Mi.As (AA (AQ AU (AQ AU (AQ AU (AC 0) AF) AF) AF) AE)) (Ac Bn a.y7 Mi.As (AA (AQ AU (AQ AU (AQ AU (AC 2) AF) AF) AF) AE))) AE)) (Ai Fe (Bd (AA AF AE)) (Ai DP (Ac Bn a.y7 Mi.As (AA (AQ AU (AC 0) AF) AE)) AF)))) (AJ (BB (Aq (H9 hr) (EL (co:=none) (tgs:=["_law_hand"]) ⟨⟨rfl,by decide +kernel,by decide +kernel,trivial,rfl,by decide +kernel⟩,rfl,⟨_,BL,λ_ _ _ _=>AV (i:=0) (show List.Nodup (["_law_hand"]:List Str) from by decide +kernel) rfl (Or.inl rfl)⟩,λ_ _ _ _=>A1,λ_ _ _ _=>(Ac Bn a.y7 Mi.As (AA (AQ AU (AC 0) AF) AE))⟩ (Ax (AQ AU (AC 4) AF)) DT) (AC 6)) (AN (Aa BX)) Au) (AJ (BB (Aq (H9 hr) (EL (co:=none) (tgs:=["_law_hand"]) ⟨⟨rfl,by decide +kernel,by decide +kernel,trivial,rfl,by decide +kernel⟩,rfl,⟨_,BL,λ_ _ _ _=>AV (i:=0) (show List.Nodup (["_law_hand"]:List Str) from by decide +kernel) rfl (Or.inl rfl)⟩,λ_ _ _ _=>A1,λ_ _ _ _=>(AQ AU (AC 0) AF)⟩ (Ax (AQ AU (AC 4) AF)) DT) (EL (co:=none) (tgs:=["_law_hand"]) ⟨⟨rfl,by decide +kernel,by decide +kernel,trivial,rfl,by decide +kernel⟩,rfl,⟨_,BL,λ_ _ _ _=>AV (i:=0) (show List.Nodup (["_law_hand"]:List Str) from by decide +kernel) rfl (Or.inl rfl)⟩,λ_ _ _ _=>A1,λ_ _ _ _=>(AQ AU (AC 0) AF)⟩ (Ax (AQ AU (AC 0) AF)) DT)) (AN (Aa BX)) Au) (AN (Aa (Be (Bv hr) (EL (co:=none) (tgs:=["_law_hand"]) ⟨⟨rfl,by decide +kernel,by decide +kernel,trivial,rfl,by decide +kernel⟩,rfl,⟨_,BL,λ_ _ _ _=>AV (i:=0) (show List.Nodup (["_law_hand"]:List Str) from by decide +kernel) rfl (Or.inl rfl)⟩,λ_ _ _ _=>A1,λ_ _ _ _=>(AQ AU (AC 0) AF)⟩ (Ax (AQ AU (AC 4) AF)) DT) (EL (co:=none) (tgs:=["_law_hand"]) ⟨⟨rfl,by decide +kernel,by decide +kernel,⟨Or.inl rfl,trivial⟩,rfl,by decide +kernel⟩,rfl,⟨_,BL,λ_ _ _ _=>AV (i:=0) (show List.Nodup (["_law_hand", "_law_most"]:List Str) from by decide +kernel) rfl (Or.inl rfl)⟩,λ_ _ _ _=>A1,λ_ _ _ _=>(Ai Fe (AQ AU (AC 0) AF) (AC 1))⟩ (Ax (AQ AU (AC 0) AF)) DT))))))))))))))
theorem IE:Fn P w K mg base "_law_unlike_right" ["_law_well_here", "_law_drawn_here"] 16 (Bs):=by
 obtain⟨f,fd,d⟩:=a.e45;exact Ap (k:=15) .all d.F sc_Lunlike_right (PySem.W.mg_of a.X a.G d.a) (d.F.binds λ_ _ _ _ _ _=>lq2 λ_ _=>rfl) (λ_ _ _ _ _ _ hr=>have nd:=sc_Lunlike_right.nd;(AJ (HI (AC 1) (Dp (is:=[2,3,4,5,6,7]) rfl (Ag (AV (i:=2) nd rfl (by first|exact Or.inl rfl|exact Or.inr rfl)) (Ag (AV (i:=3) nd rfl (by first|exact Or.inl rfl|exact Or.inr rfl)) (Ag (AV (i:=4) nd rfl (by first|exact Or.inl rfl|exact Or.inr rfl)) (Ag (AV (i:=5) nd rfl (by first|exact Or.inl rfl|exact Or.inr rfl)) (Ag (AV (i:=6) nd rfl (by first|exact Or.inl rfl|exact Or.inr rfl)) (Ag (AV (i:=7) nd rfl (by first|exact Or.inl rfl|exact Or.inr rfl)) Cc)))))))) (AJ (AY 8 nd (Bd (AA AL (AA AL (AA AL AE))))) (AJ (AY 9 nd (AZ (EA a) hr (AA (AQ AU (AC 8) (AC 2)) (AA (AC 4) (AA (AC 5) (AA (AC 6) (AA AF (AA AF (AA AF AE))))))))) (AJ (AY 10 nd (AZ (DF a) hr (AA (AQ AU (AC 8) (AC 3)) (AA (AC 4) (AA (AC 5) (AA (AC 6) (AA (AC 7) (AA AF AE)))))))) (AJ (BB (CO (By (AZ (CG a) hr (AA (AC 9) (AA AL (AA (AC 10) (AA BX AE))))))) (AN (Aa BX)) Au) (AJ (Bz PassesOwn.never rfl (Ax (Bd (AA AL (AA AL (AA (Bd (AA AL AE)) (AA Fd (AA AF (AA (Ar (AA AL AE)) AE)))))))) (BM 11 nd) (AN (BB (CO (By (AZ (CG a) hr (AA (AC 9) (AA (AC 11) (AA (AC 10) (AA BX AE))))))) (AN (Aa BX)) Au))) (AJ (AY 12 nd (Ai DP (Ai A3 (AC 4) AF) (Ai Fe AF (Br Wh a.y5 Mi.JS (AA (Be (Bv hr) (AC 4) AF) AE))))) (AJ (BB (CO (By (AZ (CG a) hr (AA (AC 9) (AA AL (AA (AZ (DF a) hr (AA (AQ AU (AC 8) (AC 3)) (AA (AC 12) (AA AF (AA (AC 6) (AA AF (AA AF AE))))))) (AA BX AE))))))) (AN (Aa BX)) Au) (AJ (AY 12 nd (Ai Go (Ai A3 (Ai A3 (AC 5) AF) (AZ (DO a) hr (AA (AC 0) (AA (Ai DP (AC 4) AF) AE)))) (AC 4))) (AJ (BB (CO (By (AZ (CG a) hr (AA (AC 9) (AA AL (AA (AZ (DF a) hr (AA (AQ AU (AC 8) (AC 3)) (AA (AC 4) (AA (AC 12) (AA (AC 6) (AA AF (AA AF AE))))))) (AA BX AE))))))) (AN (Aa BX)) Au) (AJ (BB (Aq YC (AC 2) AF) (AJ (AY 13 nd (AZ (DF a) hr (AA (AQ AU (AC 8) (AZ (DO a) hr (AA (AC 0) (AA (AC 2) AE)))) (AA (AC 4) (AA (AC 5) (AA AF (AA AF (AA AF AE)))))))) (AN (BB (CO (By (AZ (CG a) hr (AA (AC 9) (AA AL (AA (AC 13) (AA BX AE))))))) (AN (Aa BX)) Au))) Au) (AJ (AY 14 nd (AZ (DF a) hr (AA (AQ AU (AC 8) (AC 3)) (AA (AC 4) (AA (AC 5) (AA (Ac (Wg rfl) a.y9 Mi.G5 (AA AF (AA (Ai DP (AC 6) AF) AE))) (AA (AC 7) (AA AF AE)))))))) (AN (Aa (AZ (CG a) hr (AA (AC 9) (AA AL (AA (AC 14) (AA (Be (Bv hr) (AC 6) AF) AE))))))))))))))))))))
theorem Jo:Fn P w K mg base "_law_rows_right" ["_law_drawn_here"] 16 (CI):=by
 obtain⟨f,fd,d⟩:=a.e46;exact Ap (k:=15) .all d.F sc_Lrows_right (PySem.W.mg_of a.X a.G d.a) (d.F.binds λ_ _ _ _ _ _=>lq1 λ_=>rfl) (λ_ _ _ _ _ _ hr=>have nd:=sc_Lrows_right.nd;(AJ (HI (AC 0) (Dp (is:=[1,2,3,4,5,6]) rfl (Ag (AV (i:=1) nd rfl (by first|exact Or.inl rfl|exact Or.inr rfl)) (Ag (AV (i:=2) nd rfl (by first|exact Or.inl rfl|exact Or.inr rfl)) (Ag (AV (i:=3) nd rfl (by first|exact Or.inl rfl|exact Or.inr rfl)) (Ag (AV (i:=4) nd rfl (by first|exact Or.inl rfl|exact Or.inr rfl)) (Ag (AV (i:=5) nd rfl (by first|exact Or.inl rfl|exact Or.inr rfl)) (Ag (AV (i:=6) nd rfl (by first|exact Or.inl rfl|exact Or.inr rfl)) Cc)))))))) (AJ (AY 7 nd (Bd (AA AL (AA AL (AA AL AE))))) (AJ (AY 8 nd (AZ (DF a) hr (AA (AQ AU (AC 7) (AC 2)) (AA (AC 3) (AA (AC 4) (AA (AC 5) (AA (AC 6) (AA AF AE)))))))) (AJ (AY 9 nd (Ai DP (Ai DP AF AF) (AC 6))) (AJ (BB (CO (By (AZ (CG a) hr (AA (AZ (EA a) hr (AA (AQ AU (AC 7) (AC 1)) (AA (AC 3) (AA (AC 4) (AA (AC 5) (AA (AC 9) (AA AF (AA AF AE)))))))) (AA AL (AA (AC 8) (AA BX AE))))))) (AN (Aa BX)) Au) (AN (Aa (AZ (CG a) hr (AA (AZ (EA a) hr (AA (AQ AU (AC 7) (AC 1)) (AA (AC 3) (AA (AC 4) (AA (AC 5) (AA (Ai A3 (AC 9) AF) (AA AF (AA AF AE)))))))) (AA AL (AA (AC 8) (AA BX AE)))))))))))))
theorem Jc:Fn P w K mg base "_law_boxes_right" ["_law_well_here", "_law_drawn_here"] 16 (DE):=by
 obtain⟨f,fd,d⟩:=a.e47;exact Ap (k:=15) .all d.F sc_Lboxes_right (PySem.W.mg_of a.X a.G d.a) (d.F.binds λ_ _ _ _ _ _=>lq2 λ_ _=>rfl) (λ_ _ _ _ _ _ hr=>have nd:=sc_Lboxes_right.nd;(AJ (HI (AC 1) (Dp (is:=[2,3,4,5,6,7]) rfl (Ag (AV (i:=2) nd rfl (by first|exact Or.inl rfl|exact Or.inr rfl)) (Ag (AV (i:=3) nd rfl (by first|exact Or.inl rfl|exact Or.inr rfl)) (Ag (AV (i:=4) nd rfl (by first|exact Or.inl rfl|exact Or.inr rfl)) (Ag (AV (i:=5) nd rfl (by first|exact Or.inl rfl|exact Or.inr rfl)) (Ag (AV (i:=6) nd rfl (by first|exact Or.inl rfl|exact Or.inr rfl)) (Ag (AV (i:=7) nd rfl (by first|exact Or.inl rfl|exact Or.inr rfl)) Cc)))))))) (AJ (AY 8 nd (Bd (AA AL (AA AL (AA AL AE))))) (AJ (AY 9 nd (AZ (DO a) hr (AA (AC 0) (AA AF AE)))) (AJ (AY 10 nd (AZ (EA a) hr (AA (AQ AU (AC 8) (AC 2)) (AA (AC 4) (AA (AC 5) (AA (AC 6) (AA AF (AA AF (AA (AC 9) AE))))))))) (AJ (BB (CO (By (AZ (CG a) hr (AA (AC 10) (AA AL (AA (AZ (DF a) hr (AA (AQ AU (AC 8) (AC 3)) (AA (AC 4) (AA (AC 5) (AA (AC 6) (AA (Ai DP AF (AC 9)) (AA AF AE))))))) (AA BX AE))))))) (AN (Aa BX)) Au) (AJ (BB (Aq (Bv hr) (AC 9) AF) (AN (Aa BX)) Au) (AN (Aa (AZ (CG a) hr (AA (AC 10) (AA AL (AA (AZ (DF a) hr (AA (AQ AU (AC 8) (AC 3)) (AA (AC 4) (AA (AC 5) (AA (AC 6) (AA (Ai DP AF (AC 9)) (AA AF AE))))))) (AA BX AE))))))))))))))
theorem Hf:Fn P w K mg base "_law_withins_right" ["_law_well_here", "_law_drawn_here"] 16 (Cg):=by
 obtain⟨f,fd,d⟩:=a.e48;exact Ap (k:=15) .all d.F sc_Lwithins_right (PySem.W.mg_of a.X a.G d.a) (d.F.binds λ_ _ _ _ _ _=>lq2 λ_ _=>rfl) (λ_ _ _ _ _ _ hr=>have nd:=sc_Lwithins_right.nd;(AJ (HI (AC 1) (Dp (is:=[2,3,4,5,6,7]) rfl (Ag (AV (i:=2) nd rfl (by first|exact Or.inl rfl|exact Or.inr rfl)) (Ag (AV (i:=3) nd rfl (by first|exact Or.inl rfl|exact Or.inr rfl)) (Ag (AV (i:=4) nd rfl (by first|exact Or.inl rfl|exact Or.inr rfl)) (Ag (AV (i:=5) nd rfl (by first|exact Or.inl rfl|exact Or.inr rfl)) (Ag (AV (i:=6) nd rfl (by first|exact Or.inl rfl|exact Or.inr rfl)) (Ag (AV (i:=7) nd rfl (by first|exact Or.inl rfl|exact Or.inr rfl)) Cc)))))))) (AJ (AY 8 nd (Bd (AA AL (AA AL (AA AL AE))))) (AJ (AY 9 nd (AQ AU (Bd (AA AF (AA AF (AA AF (AA AF (AA AF (AA AF (AA AF (AA AF (AA AF (AA AF (AA AF (AA AF (AA AF (AA AF (AA AF AE)))))))))))))))) (AZ (DO a) hr (AA (AC 0) (AA AF AE))))) (AJ (AY 10 nd (AZ (DF a) hr (AA (AQ AU (AC 8) (AC 3)) (AA (AC 4) (AA (AC 5) (AA (AC 6) (AA (AC 7) (AA (AC 9) AE)))))))) (AJ (BB (CO (By (AZ (CG a) hr (AA (AZ (EA a) hr (AA (AQ AU (AC 8) (AC 2)) (AA (AC 4) (AA (AC 5) (AA (AC 6) (AA AF (AA (Ai HJ AF (AC 9)) (AA AF AE)))))))) (AA AL (AA (AC 10) (AA BX AE))))))) (AN (Aa BX)) Au) (AJ (BB (Aq (Bv hr) (AC 9) AF) (AN (Aa BX)) Au) (AN (Aa (AZ (CG a) hr (AA (AZ (EA a) hr (AA (AQ AU (AC 8) (AC 2)) (AA (AC 4) (AA (AC 5) (AA (AC 6) (AA AF (AA (Ai A3 (Ai HJ AF (AC 9)) AF) (AA AF AE)))))))) (AA AL (AA (AC 10) (AA BX AE))))))))))))))
end
theorem all_mk{l:PySem.W.OpenLaw}{w:World}{K:PySem.W.Frag}{h:Heap}{mg:Str->Option Value}{fa:Addr}(hφ:∀ns:List Int,ns.length<=63->∃Z',MP [.scr ns] []=some (.bl true,Z'))(a:Al w K mg h)(hfa:mg "law" = some (.ref fa)):
  ∃fd:FuncData,(∀(s:Shared) (v:Value),BindsTo s fd ⟨[v],[]⟩ [("_law_script",v)])/\∀base:Heap,K.In base->base.Ns mainGlobals mg->FnOk l.prog w K mg base CX0 17 fa fd ["_law_script"] (OI K):=by
 obtain⟨fa_law,fd_law,d⟩:=a.e49;have e:=hfa.symm.trans (PySem.W.mg_of a.X a.G d.a);cases e;refine⟨fd_law,λs v=>?_,λbase _ _=>?_⟩
 ·obtain⟨oc,od,kV,doc,pm,an,cdv,ct,osl,rfl,lk,hcd⟩:=d.F.ex;exact .of_eq rfl
 exact W5 (φ:=MP) (F7 (k:=16) .drop d.F sc_law (λ_ _ _ _ _ _ hr=>have nd:=sc_law.nd;(AJ (Bz PassesOwn.never rfl (J5 a.y11 (AA (Ai A3 AF (Ac (ay rfl) a.y10 Mi.Te (AA AF (AA (Ac (Wg rfl) a.y9 Mi.G5 (AA AF (AA (Ai DP (Ac Bn a.y7 Mi.As (AA (AC 0) AE)) AF) AE))) AE)))) AE)) (BM 1 nd) (AJ (AY 2 nd (AZ (V5 a) hr (AA (AC 0) (AA (AC 1) AE)))) (AJ (AY 3 nd (AZ (Tm a) hr (AA (AC 2) AE))) (AJ (BB (RW.rt (GJ (CO (By (AZ (IE a) hr (AA (AC 2) (AA (AC 3) AE))))) (GR (CO (By (AZ (Jo a) hr (AA (AC 3) AE))))))) (AN (Aa BX)) Au) (AN (BB (RW.rt (GJ (CO (By (AZ (Jc a) hr (AA (AC 2) (AA (AC 3) AE))))) (GR (CO (By (AZ (Hf a) hr (AA (AC 2) (AA (AC 3) AE)))))))) (AN (Aa BX)) Au)))))) (AJ (AY 4 nd (AZ (EA a) hr (AA AL (AA AF (AA AF (AA AF (AA AF (AA AF (AA AF AE))))))))) (AJ (AY 5 nd (Ar (AA AL (AA AF (AA AF (AA (Ar AE) (AA (Ar (AA (Ar (AA AL (AA AF (AA (Ar AE) AE)))) (AA (Ar (AA AL (AA AF (AA (Ar (AA (Ar (AA AL (AA (Ar (AA AL (AA AF AE))) AE))) AE)) AE)))) AE))) AE))))))) (AJ (AY 6 nd (AZ (O7 a) hr (AA (AC 4) (AA AL (AA (AC 5) AE))))) (AJ (BB (RW.rt (GJ (Aq VA (AC 6) Fd) (GR (Aq (Bv hr) (AC 6) AL)))) (AN (Aa BX)) Au) (AN (Aa (DS (Be (Bv hr) (AQ AU (AC 6) AF) (Ar AE)) (DS (Be (Bv hr) (EL (co:=none) (tgs:=["_law_hand"]) ⟨⟨rfl,by decide +kernel,by decide +kernel,trivial,rfl,by decide +kernel⟩,rfl,⟨_,BL,λ_ _ _ _=>AV (i:=0) (show List.Nodup (["_law_hand"]:List Str) from by decide +kernel) rfl (Or.inl rfl)⟩,λ_ _ _ _=>A1,λ_ _ _ _=>(AQ AU (AC 0) AF)⟩ (Ax (AQ AU (AC 6) AF)) DT) (Bd (AA AF (AA AF AE)))) (En (Be VA (Ri (DW a) hr (AA (AC 6) AE)) Fd))))))))))))) hφ
end K52
namespace Mi
open PySem L2
section
variable{B v9:Sl}{Z w9 u9 j6:Mh}{d x y:D}{ds:List D}{ma mb:Sl->M D}{tc:Sl->M Bool}{b:Bool}{m1 m2:Sl->M (Fl×Sl)}{g:D->D->M D}{r:Fl×Sl}
theorem EH(h:B[i]?=some (some d)):AD i B Z=some (d,Z):=by unfold AD;rw[h]
theorem cO:mC d B Z=some (d,Z):=rfl
theorem af(h1:ma B Z=some (x,w9))(h2:mb B w9=some (y,u9))(h3:g x y u9=some (d,j6)):mOp g ma mb B Z=some (d,j6):=by unfold mOp;rw[AW h1,AW h2,h3]
theorem Vk(h:ma B Z=some (.bl b,w9)):AS ma B Z=some (b,w9):=by unfold AS;rw[AW h];rfl
theorem Yr:A6 B Z=some ((.next,B),Z):=rfl
theorem Yp(h1:m1 B Z=some ((.next,v9),w9))(h2:m2 v9 w9=some (r,u9)):AO m1 m2 B Z=some (r,u9):=by unfold AO;rw[AW h1];exact h2
theorem Vl(h1:m1 B Z=some ((.rt d,v9),w9)):AO m1 m2 B Z=some ((.rt d,v9),w9):=by unfold AO;rw[AW h1];rfl
theorem Yq(h1:ma B Z=some (d,w9)):Ao ma B Z=some ((.rt d,B),w9):=by unfold Ao;rw[AW h1];rfl
theorem Ys(h1:tc B Z=some (true,w9))(h2:m1 B w9=some (r,u9)):sIf tc m1 m2 B Z=some (r,u9):=by unfold sIf;rw[AW h1,if_pos rfl,h2]
theorem Yt(h1:tc B Z=some (false,w9))(h2:m2 B w9=some (r,u9)):sIf tc m1 m2 B Z=some (r,u9):=by unfold sIf;rw[AW h1,if_neg (by decide),h2]
theorem Yu(h1:ma B Z=some (d,w9))(h2:bf d B w9=some (v9,u9)):AX ma bf B Z=some ((.next,v9),u9):=by unfold AX;rw[AW h1,AW h2];rfl
theorem Vm(h:B.set i (some d)=v9):AK i d B Z=some (v9,Z):=by rw[←h];rfl
theorem Yo(h1:ma B Z=some (x,w9))(h2:mb B w9=some (y,u9))(h3:RH x y d u9=some (u,j6)):Tj ma mb d B Z=some (B,j6):=by unfold Tj;rw[AW h1,AW h2,AW h3];rfl
theorem cD(h:j<i):Hz (.int i) (.int j) Z=some (.bl true,Z):=by show some (D.bl (decide (j<i)),Z)=_;rw[AAO h]
theorem aU(h:i<=j):Hz (.int i) (.int j) Z=some (.bl false,Z):=by show some (D.bl (decide (j<i)),Z)=_;rw[AAN (by omega)]
theorem Se(h:0<j):EE (.int i) (.int j) Z=some (.int (i % j),Z):=by show (if 0<j then some (D.int (i % j),Z) else none)=_;rw[if_pos h]
theorem YN(h:0<j)(h2:j<1073741824):Ep (.int i) (.int j) Z=some (.int (i / j),Z):=by show (if 0<j/\j<1073741824 then some (D.int (i / j),Z) else none)=_;rw[if_pos ⟨h,h2⟩]
theorem Sd(h:(-(2 ^ 64)<i/\i<2 ^ 64)∨(-(2 ^ 64)<j/\j<2 ^ 64)):C7 (.int i) (.int j) Z=some (.int (i * j),Z):=by show (if (-(2 ^ 64)<i/\i<2 ^ 64)∨(-(2 ^ 64)<j/\j<2 ^ 64) then some (D.int (i * j),Z) else none)=_;rw[if_pos h]
theorem Oo(h:Z[n]?=some (.lst ds))(h2:atI ds i=some d):AM (.ref n) (.int i) Z=some (d,Z):=by
 show bnd (ES (.ref n)) (λds=>ixD ds i) Z=_;rw[AW (show ES (.ref n) Z=some (ds,Z) from by show (match Z[n]? with|some (.lst ds)=>some (ds,Z)|_=>none)=_;rw[h])];unfold ixD;rw[h2];rfl
theorem aT(h:Z[n]?=some (.lst ds))(h2:ixN ds.length k=some j):RH (.ref n) (.int k) d Z=some ((),Z.set n (.lst (ds.set j d))):=by
 show (match Z[n]? with|some (.lst ds)=>(ixN ds.length k).map λj=>((),Z.set n (.lst (ds.set j d)))|_=>none)=_;rw[h];show (ixN ds.length k).map _=_;rw[h2];rfl
end
end Mi
local macro_rules | `(tactic| wtm_at "k")=>`(tactic| first|rfl|assumption)
local macro_rules | `(tactic| wtm_at "a")=>`(tactic| first
 |(with_reducible apply Mi.Yr)|(with_reducible apply Mi.ev_nilA)|(with_reducible apply Mi.cO)|(with_reducible apply Mi.ev_noPart)|(with_reducible apply Mi.ev_retN)
 |((with_reducible apply Mi.EH);first|rfl|assumption)
 |((with_reducible apply Mi.Vl);wtm_at "a")
 |((with_reducible apply Mi.Yp);(wtm_at "a");(wtm_at "a"))
 |((with_reducible apply Mi.Yu);(wtm_at "a");(wtm_at "a"))
 |((with_reducible apply Mi.Vm);rfl)
 |((with_reducible apply Mi.Yo);(wtm_at "a");(wtm_at "a");(wtm_at "a"))
 |((with_reducible apply Mi.ev_expr);wtm_at "a")
 |((with_reducible apply Mi.Yq);wtm_at "a")
 |((with_reducible apply Mi.Ys);(wtm_at "a");(wtm_at "a"))
 |((with_reducible apply Mi.Yt);(wtm_at "a");(wtm_at "a"))
 |((with_reducible apply Mi.af);(wtm_at "a");(wtm_at "a");(wtm_at "a"))
 |((with_reducible apply Mi.ev_un);(wtm_at "a");(wtm_at "a"))
 |((with_reducible apply Mi.ev_disp);(wtm_at "a");(wtm_at "a"))
 |((with_reducible apply Mi.ev_consA);(wtm_at "a");(wtm_at "a"))
 |((with_reducible apply Mi.ev_meth);(wtm_at "a");(wtm_at "a");(wtm_at "a");(wtm_at "a"))
 |((with_reducible apply Mi.Vk);wtm_at "a")
 |((with_reducible apply Mi.ev_notT);wtm_at "a")
 |((with_reducible apply Mi.ev_notF);wtm_at "a")
 |((with_reducible apply Mi.ev_andT);(wtm_at "a");(wtm_at "a"))
 |((with_reducible apply Mi.ev_andF);wtm_at "a")
 |((with_reducible apply Mi.ev_orF);(wtm_at "a");(wtm_at "a"))
 |((with_reducible apply Mi.ev_orT);wtm_at "a")
 |((with_reducible apply Mi.ev_andVT);(wtm_at "a");(wtm_at "a"))
 |((with_reducible apply Mi.ev_andVF);wtm_at "a")
 |((with_reducible apply Mi.ev_orVF);(wtm_at "a");(wtm_at "a"))
 |((with_reducible apply Mi.ev_orVT);wtm_at "a")
 |((with_reducible apply Mi.ev_notVT);wtm_at "a")
 |((with_reducible apply Mi.ev_notVF);wtm_at "a")
 |((with_reducible apply Mi.ev_chainT);(wtm_at "a");(wtm_at "a");(wtm_at "a");(wtm_at "a");(wtm_at "a"))
 |((with_reducible apply Mi.ev_chainF);(wtm_at "a");(wtm_at "a");(wtm_at "a"))
 |((with_reducible apply Mi.ev_part);wtm_at "a")
 |((with_reducible apply Mi.ev_sl);(wtm_at "a");(wtm_at "a");(wtm_at "a");(wtm_at "a"))
 |wtm_at "k")
local macro_rules | `(tactic| wtm_at "d")=>`(tactic| first|assumption|decide|omega)
local macro_rules | `(tactic| wtm_at "k")=>`(tactic| first
 |((with_reducible apply Mi.l_le);wtm_at "d")|((with_reducible apply Mi.l_leF);wtm_at "d")|((with_reducible apply Mi.l_lt);wtm_at "d")|((with_reducible apply Mi.l_ltF);wtm_at "d")|((with_reducible apply Mi.cD);wtm_at "d")|((with_reducible apply Mi.aU);wtm_at "d")
 |(with_reducible apply Mi.l_inst_ii)|(with_reducible apply Mi.l_inst_ib)|(with_reducible apply Mi.l_inst_ss)|(with_reducible apply Mi.l_inst_tt)|(with_reducible apply Mi.l_add)|(with_reducible apply Mi.l_sub)|((with_reducible apply Mi.Se);wtm_at "d")|((with_reducible apply Mi.YN);(wtm_at "d");(wtm_at "d"))|((with_reducible apply Mi.Sd);first|(left;omega)|(right;omega))
 |((with_reducible apply Mi.l_ixT);rfl)|((with_reducible apply Mi.l_ixL);rfl)|((with_reducible apply Mi.Oo);(first|assumption|rfl);(rfl))|((with_reducible apply Mi.aT);(first|assumption|rfl);(rfl)))
set_option maxHeartbeats 2000000
set_option maxHeartbeats 2000000
namespace Mi
open PySem L2
def WP{α:Type}(m:M α)(Z:Mh)(Q:α->Mh->Prop):Prop:=∃a Z',m Z=some (a,Z')/\Q a Z'
section
variable{α β:Type}{m:M α}{f:α->M β}{Z Z':Mh}{Q Q':α->Mh->Prop}{R:β->Mh->Prop}{a:α}
theorem CN(h:m Z=some (a,Z'))(q:Q a Z'):WP m Z Q:=⟨a,Z',h,q⟩
theorem Cb(h:WP m Z Q)(k:∀a Z',Q a Z'->Q' a Z'):WP m Z Q':=by
 obtain⟨a,Z',e,q⟩:=h;exact⟨a,Z',e,k a Z' q⟩
theorem Cu(h:WP m Z λa w9=>WP (f a) w9 R):WP (bnd m f) Z R:=by
 obtain⟨a,w9,e,b,u9,e2,q⟩:=h;exact⟨b,u9,by rw[AW e];exact e2,q⟩
theorem DG(q:Q a Z):WP (ret a) Z Q:=⟨a,Z,rfl,q⟩
end
section
variable{B v9:Sl}{Z w9:Mh}{d x y:D}{ds:List D}{ma mb:Sl->M D}{ra:Sl->M (List D)}{tc:Sl->M Bool}{m1 m2:Sl->M (Fl×Sl)}{g:D->D->M D}{QD:D->Mh->Prop}{QB:Bool->Mh->Prop}{QL:List D->Mh->Prop}{QS:Fl×Sl->Mh->Prop}{i j:Int}
theorem Tr{i:Nat}(h:B[i]?=some (some d))(q:QD d Z):WP (AD i B) Z QD:=CN (EH h) q
theorem bI(q:QD d Z):WP (mC d B) Z QD:=⟨d,Z,rfl,q⟩
theorem ZD(h:WP (ma B) Z λx w9=>WP (mb B) w9 λy u9=>WP (g x y) u9 QD):WP (mOp g ma mb B) Z QD:=Cu (Cb h λ_ _ z=>Cu z)
theorem Tw{f:List D->M D}(h:WP (ra B) Z λds w9=>WP (f ds) w9 QD):WP (AG f ra B) Z QD:=Cu h
theorem Ts(q:QL [] Z):WP (AI B) Z QL:=⟨[],Z,rfl,q⟩
theorem Qm(h:WP (ma B) Z λx w9=>WP (ra B) w9 λds u9=>QL (x::ds) u9):WP (AB ma ra B) Z QL:=Cu (Cb h λ_ _ z=>Cu (Cb z λ_ _ z=>DG z))
theorem Tq(h:WP (ma B) Z λd w9=>∃b,d=.bl b/\QB b w9):WP (AS ma B) Z QB:=Cu (Cb h λ_ _ ⟨b,e,q⟩=>by subst e;exact DG q)
noncomputable def WA(m2:Sl->M (Fl×Sl))(QS:Fl×Sl->Mh->Prop):Fl×Sl->Mh->Prop
 |(.next,v9),w9=>WP (m2 v9) w9 QS
 |r,w9=>QS r w9
theorem LV(h:WP (m2 v9) w9 QS):WA m2 QS (.next,v9) w9:=h
theorem Qj(h:WP (m1 B) Z (WA m2 QS)):WP (AO m1 m2 B) Z QS:=Cu (Cb h λr _ z=>by
 obtain⟨fl,v9⟩:=r;cases fl
 ·exact z
 ·exact DG z
 ·exact DG z
 ·exact DG z
 ·exact DG z)
theorem Tx{i:Nat}(h:WP (ma B) Z λd w9=>QS (.next,B.set i (some d)) w9):WP (AX ma (AK i) B) Z QS:=Cu (Cb h λ_ _ q=>Cu (DG (DG q)))
theorem Wl(h:WP (ma B) Z λd w9=>QS (.rt d,B) w9):WP (Ao ma B) Z QS:=Cu (Cb h λ_ _ q=>DG q)
theorem Wm(q:QS (.next,B) Z):WP (A6 B) Z QS:=⟨_,Z,rfl,q⟩
noncomputable def ifK(m1 m2:Sl->M (Fl×Sl))(B:Sl)(QS:Fl×Sl->Mh->Prop):Bool->Mh->Prop
 |true,Z=>WP (m1 B) Z QS
 |false,Z=>WP (m2 B) Z QS
theorem Qn{b:Bool}(h1:b=true->WP (m1 B) Z QS)(h2:b=false->WP (m2 B) Z QS):ifK m1 m2 B QS b Z:=by cases b;exact h2 rfl;exact h1 rfl
theorem ZE(h:WP (tc B) Z (ifK m1 m2 B QS)):WP (sIf tc m1 m2 B) Z QS:=Cu (Cb h λb _ z=>by cases b;exact z;exact z)
theorem Ql{src:Sl->M (List D)}{bf:D->Sl->M Sl}(h:WP (src B) Z λds w9=>WP (FJ bf m1 ds B) w9 QS):WP (B3 src bf m1 B) Z QS:=Cu h
noncomputable def Sa(I:Sl->Mh->Prop)(QS:Fl×Sl->Mh->Prop):Fl×Sl->Mh->Prop
 |(.next,B),Z=>I B Z
 |(.cont,B),Z=>I B Z
 |(.brk,B),Z=>QS (.next,B) Z
 |(.rt d,B),Z=>QS (.rt d,B) Z
 |(.xc x,B),Z=>QS (.xc x,B) Z
theorem IN{I:Sl->Mh->Prop}(h:I B Z):Sa I QS (.next,B) Z:=h
theorem Mt{bf:D->Sl->M Sl}(I:List D->Sl->Mh->Prop)(step:∀x xs B Z,I (x::xs) B Z->WP (bf x B) Z λv9 w9=>WP (m1 v9) w9 (Sa (I xs) QS))(fin:∀B Z,I [] B Z->QS (.next,B) Z):∀{ds:List D} {B:Sl} {Z:Mh},I ds B Z->WP (FJ bf m1 ds B) Z QS
 |[],B,Z,h=>DG (fin B Z h)
 |x::xs,B,Z,h=>Cu (Cb (step x xs B Z h) λv9 w9 z=>Cu (Cb z λr u9 z=>by
   obtain⟨fl,j4⟩:=r;cases fl
   ·exact Mt I step fin z
   ·exact DG z
   ·exact Mt I step fin z
   ·exact DG z
   ·exact DG z))
theorem LU{QT:Sl->Mh->Prop}{i:Nat}(q:QT (B.set i (some d)) Z):WP (AK i d B) Z QT:=⟨_,Z,rfl,q⟩
theorem Ty(q:QD (.int (i+j)) Z):WP (Ah (.int i) (.int j)) Z QD:=⟨_,Z,rfl,q⟩
theorem Wk(q:QD (.int (i-j)) Z):WP (Bq (.int i) (.int j)) Z QD:=⟨_,Z,rfl,q⟩
theorem Qk(h:0<j)(q:QD (.int (i % j)) Z):WP (EE (.int i) (.int j)) Z QD:=CN (Se h) q
theorem Wn(h:(-(2 ^ 64)<i/\i<2 ^ 64)∨(-(2 ^ 64)<j/\j<2 ^ 64))(q:QD (.int (i * j)) Z):WP (C7 (.int i) (.int j)) Z QD:=CN (Sd h) q
theorem V6(q:QD (.bl (decide (i<j))) Z):WP (NC (.int i) (.int j)) Z QD:=⟨_,Z,rfl,q⟩
theorem ZF(q:QD (.bl (decide (j<=i))) Z):WP (UZ (.int i) (.int j)) Z QD:=⟨_,Z,rfl,q⟩
theorem Tv{b:Bool}(q:QD (.int (if b then 1 else 0)) Z):WP (P6 [.bl b]) Z QD:=⟨_,Z,rfl,q⟩
theorem N4(h:ds.length<=sizeLine)(q:QD (.tup ds) Z):WP (A4 ds) Z QD:=by
 refine CN (a:=.tup ds) (Z':=Z) ?_ q;unfold A4;rw[AW (Sb h _)];rfl
theorem Tt(h:ds.length<=sizeLine)(q:QD (.ref Z.length) (Z++[.lst ds])):WP (Ed ds) Z QD:=by
 refine CN (a:=.ref Z.length) (Z':=Z++[.lst ds]) ?_ q;unfold Ed;rw[AW (Sb h _)]
theorem N3(h:WP (ra B) Z λds w9=>∃j:Nat,ds=[.int j]/\j<1000000/\QL ((List.range j).map λ(i:Nat)=>.int (i:Int)) w9):WP (KB ra B) Z QL:=Cu (Cb h λds w9 ⟨j,e,hj,q⟩=>by
 subst e;refine CN (a:=Lo 0 j) (Z':=w9) ?_ ?_
 ·have hj2:-(2 ^ 62)<=(j:Int)/\(j:Int)<2 ^ 62:=⟨by omega,by omega⟩;unfold Ra;simp only[];rw[if_pos hj2]
 ·have e:Lo 0 (j:Int)=(List.range j).map λ(i:Nat)=>.int (i:Int):=by
   unfold Lo;rw[show ((j:Int)-0).toNat=j by omega];congr 1
   funext i
   rw[Int.zero_add]
  rw[e];exact q)
end
end Mi
local macro_rules | `(tactic| wtm_at "j")=>`(tactic| first|assumption|decide|omega|exact AAE rfl)
local macro_rules | `(tactic| wtm_at "n")=>`(tactic| first
 |(with_reducible apply Mi.Qj)|(with_reducible apply Mi.LV)|(with_reducible apply Mi.Tx)|(with_reducible apply Mi.Wl)|(with_reducible apply Mi.wkk_rt)|(with_reducible apply Mi.wq_expr)|(with_reducible apply Mi.Wm)|(with_reducible apply Mi.ZE)|(with_reducible apply Mi.wkk_ifT)|(with_reducible apply Mi.wkk_ifF)|(with_reducible apply Mi.ZD)|(with_reducible apply Mi.bI)|((with_reducible apply Mi.Tr);rfl)|(with_reducible apply Mi.Qm)|(with_reducible apply Mi.Ts)|(with_reducible apply Mi.Tw)|(with_reducible apply Mi.wq_un)
 |(with_reducible apply Mi.Tq)|(with_reducible apply Mi.wkk_test)|(with_reducible apply Mi.wq_not)|(with_reducible apply Mi.wq_and)|(with_reducible apply Mi.wq_or)|(with_reducible apply Mi.Ql)|(with_reducible apply Mi.wq_comp)|(with_reducible apply Mi.wq_src)|(with_reducible apply Mi.wq_seqT)|(with_reducible apply Mi.wq_seqL)|(with_reducible apply Mi.N3)|(with_reducible apply Mi.wq_sl2)|(with_reducible apply Mi.wq_noPart)|(with_reducible apply Mi.wq_part)|(with_reducible apply Mi.wkk_int)
 |(with_reducible apply Mi.Ty)|(with_reducible apply Mi.wq_add)|(with_reducible apply Mi.Wk)|(with_reducible apply Mi.V6)|(with_reducible apply Mi.wq_gt)|(with_reducible apply Mi.ZF)|(with_reducible apply Mi.wq_eqI)|(with_reducible apply Mi.wq_neI)|(with_reducible apply Mi.wq_isF)|(with_reducible apply Mi.wq_isT)|(with_reducible apply Mi.Tv)|(with_reducible apply Mi.wq_neB)|(with_reducible apply Mi.wq_tupT)|(with_reducible apply Mi.wq_tupL)|(with_reducible apply Mi.wq_lenT)|(with_reducible apply Mi.wq_true)|(with_reducible apply Mi.LU)
 |((with_reducible apply Mi.Qk);(wtm_at "j"))|((with_reducible apply Mi.wq_fdiv);(wtm_at "j");(wtm_at "j"))|((with_reducible apply Mi.N4);(wtm_at "j"))|((with_reducible apply Mi.wq_newL);(wtm_at "j"))|((with_reducible apply Mi.Tt);(wtm_at "j"))|((with_reducible apply Mi.wq_ixT);rfl)|((with_reducible apply Mi.wq_ixL);rfl))
namespace Mi
open PySem L2
theorem Wp{bf:D->Sl->M Sl}{m1:Sl->M (Fl×Sl)}{QS:Fl×Sl->Mh->Prop}{m:Nat}{B:Sl}{Z:Mh}(I:Nat->Sl->Mh->Prop)(step:∀(j:Nat) B Z,j<m->I j B Z->WP (bf (.int (j:Int)) B) Z λv9 w9=>WP (m1 v9) w9 (Sa (I (j+1)) QS))(last:∀B Z,I m B Z->QS (.next,B) Z)(h:I 0 B Z):WP (FJ bf m1 ((List.range m).map λ(i:Nat)=>D.int (i:Int)) B) Z QS:=by
 refine Mt (I:=λrest B Z=>∃j,j<=m/\rest=(List.range' j (m-j)).map (λ(i:Nat)=>D.int (i:Int))/\I j B Z) ?_ ?_ ⟨0,AAh _,by rw[Nat.sub_zero,←List.range_eq_range'],h⟩
 ·rintro x xs B Z ⟨j,hj,hr,hI⟩;have hlt:j<m:=by
   rcases Nat.lt_or_ge j m with z|z
   ·exact z
   ·rw[show m-j=0 by omega] at hr;cases hr
  rw[show m-j=(m-(j+1))+1 by omega,List.range'_succ,AAW] at hr;obtain⟨e3,e4⟩:=List.cons.inj hr;subst e3;refine Cb (step j B Z hlt hI) λv9 w9 z=>Cb z λr u9 z2=>?_;obtain⟨fl,j4⟩:=r;cases fl
  ·exact⟨j+1,hlt,e4,z2⟩
  ·exact z2
  ·exact⟨j+1,hlt,e4,z2⟩
  ·exact z2
  ·exact z2
 ·rintro B Z ⟨j,hj,hr,hI⟩;have hj':j=m:=by
   have:=congrArg List.length hr;simp at this;omega
  subst hj';exact last B Z hI
theorem HD{Z:Mh}{N ps:Nat}{mb:Sl->M (Fl×Sl)}{ds:List D}{QD:D->Mh->Prop}(hl:Nat.beq ds.length ps=true)(h:WP (mb (BS N ds)) Z λr u9=>∃d j4,r=(.rt d,j4)/\QD d u9):WP (Az .all N ps mb ds) Z QD:=by
 obtain⟨r,u9,e,d,j4,rfl,q⟩:=h;refine CN (a:=d) (Z':=u9) ?_ q;unfold Az;rw[hl,e];rfl
theorem O9{N ps:Nat}{mb:Sl->M (Fl×Sl)}{ds:List D}(hl:Nat.beq ds.length ps=true)(h:WP (mb (BS N ds)) [] λr _=>r.1=.rt (.bl true)):WP (Az .drop N ps mb ds) [] λd _=>d=.bl true:=by
 obtain⟨⟨fl,j4⟩,u9,e,rfl⟩:=h;refine CN (a:=.bl true) (Z':=[]) ?_ rfl;unfold Az;rw[hl,e];rfl
end Mi
local macro_rules | `(tactic| wtm_at "g")=>`(tactic| (decide +kernel))
local macro_rules | `(tactic| wtm_at "f")=>`(tactic| first|omega|(focus (simp;done)))
local macro_rules | `(tactic| wtm_at "l")=>`(tactic| first
 |((with_reducible apply Mi.wqa_eqF);(wtm_at "g");(wtm_at "g");(wtm_at "g"))|((with_reducible apply Mi.wqa_eqT);(wtm_at "g");(wtm_at "g");(wtm_at "g"))|((with_reducible apply Mi.wqa_neT);(wtm_at "g");(wtm_at "g");(wtm_at "g"))|((with_reducible apply Mi.wqa_neF);(wtm_at "g");(wtm_at "g");(wtm_at "g"))
 |((with_reducible apply Mi.wqa_eqIT);(wtm_at "f"))|((with_reducible apply Mi.wqa_eqIF);(wtm_at "f"))|((with_reducible apply Mi.wqa_neIT);(wtm_at "f"))|((with_reducible apply Mi.wqa_neIF);(wtm_at "f"))|((with_reducible apply Mi.wqa_ltT);(wtm_at "f"))|((with_reducible apply Mi.wqa_ltF);(wtm_at "f"))|((with_reducible apply Mi.wqa_gtT);(wtm_at "f"))|((with_reducible apply Mi.wqa_gtF);(wtm_at "f"))|((with_reducible apply Mi.wqa_geT);(wtm_at "f"))|((with_reducible apply Mi.wqa_geF);(wtm_at "f"))|((with_reducible apply Mi.wqa_leT);(wtm_at "f"))
 |(with_reducible apply Mi.wqa_isNf)|(with_reducible apply Mi.wqa_isNt)|(with_reducible apply Mi.wqa_isI)|(with_reducible apply Mi.wqa_isP)|(with_reducible apply Mi.wqa_andT)|(with_reducible apply Mi.wqa_andF)|(with_reducible apply Mi.wqa_orT)|(with_reducible apply Mi.wqa_orF)|(with_reducible apply Mi.wqa_mif)|(with_reducible apply Mi.wqa_mifT)|(with_reducible apply Mi.wqa_mifF)|(with_reducible apply Mi.wqa_andV)|(with_reducible apply Mi.wqa_andVT)|(with_reducible apply Mi.wqa_andVF)|(with_reducible apply Mi.wqa_orV)|(with_reducible apply Mi.wqa_orVT)|(with_reducible apply Mi.wqa_orVF)|(with_reducible apply Mi.wqa_chain)
 |wtm_at "n")
namespace K52
open PySem L2 Mi Xc
noncomputable def bx(n kd:Str)(s b:Int)(w:Str):D:=.tup [.str n,.str kd,.int s,.int b,.str w]
noncomputable def rdr(n:Str)(w:Int):D:=.tup [.str n,.int w,.tup [.tup [.str "get",.str "a",.str "x"],.tup [.str "tell",.tup [.str "var",.str "a"]]]]
noncomputable def aS:D:=.tup [.str "let",.str "b",.tup [.str "num",.int 1]]
noncomputable def Zz(n:Str):D:=.tup [.str "put",.str n,.tup [.str "var",.str "v"]]
noncomputable def rs3:List Str:=["r", "s", "t"]
noncomputable def bs5:List Str:=["ba", "bb", "bc", "bd", "be"]
noncomputable def ys6:List Str:=["x", "ya", "yb", "yc", "yd", "ye"]
noncomputable def b0(k:Str)(s b:Int)(mo:Nat):List D:=bx "x" k s b "w" :: (bs5.take mo).map λn=>bx n "safe" 2 0 "r"
noncomputable def NH(r l:Nat)(w:Int):List D:=.tup [.str "w",.int w,.tup (List.replicate l aS++[Zz "x"])]::(rs3.take r).map λn=>rdr n 3
noncomputable def De(k:Str)(s b:Int)(r l:Nat)(w:Int)(mo:Nat):D:=.tup [.str k,.int s,.int b,.tup (b0 k s b mo),.tup (NH r l w)]
noncomputable def cH(s b:Int)(m:Nat):List D:=(ys6.take m).map λn=>bx n "whole" s b "w"
noncomputable def cG(r m:Nat)(w:Int):List D:=.tup [.str "w",.int w,.tup ((ys6.take m).map Zz++[.tup [.str "done"]])]::(rs3.take r).map λn=>rdr n 1
noncomputable def B8(k:Str)(s b:Int)(r m:Nat)(w:Int):D:=.tup [.str k,.int s,.int b,.tup (cH s b m),.tup (cG r m w)]
theorem Aj{α β:Type}{l:List α}{f g:α->β}(h:l.map f=l.map g):∀a∈l,f a=g a:=List.map_inj_left.mp h
noncomputable def ic:List (Nat×Nat):=[1,2,3].flatMap λr=>[1,2,3,4,5,6].map λm=>(r,m)
section
variable{Z:Mh}{k:Str}{s b w:Int}
theorem T1:∀c∈ic,BQ [.str k,.int s,.int b,.int c.1,.int c.2,.int w] Z=some (B8 k s b c.1 c.2 w,Z):=λc hc=>by
 have h1:=Aj (l:=ic) (f:=λc=>Az .drop 10 6 MA [.str k,.int s,.int b,.int c.1,.int c.2,.int w] []) (g:=λc=>some (B8 k s b c.1 c.2 w,[])) (by kernel_rfl) c hc;have h2:=Aj (l:=ic) (f:=λc=>flB (B8 k s b c.1 c.2 w)) (g:=λ_=>true) (by kernel_rfl) c hc;exact Gg rfl h1 h2
end
noncomputable abbrev BI:=Sl->M (Fl×Sl)
noncomputable def puA(dH:List D->M D)(r:BI):BI:=
  (AO (AX (A7 2 [1] (Eu (AB (mOp AM (AD 0) (mC (.int 3))) AI)) (Dh [0,1]) (AS (mOp BO (mOp AM (AD 1) (mC (.int 0))) (AD 2))) (AD 0) A0) (AK 3))
  (AO (sIf (AS (mOp BO (AG Bc (AB (AD 3) AI)) (mC (.int 0)))) (GQ "NoUpon" (AB (mC (.str "outer has no such box")) AI)) A6)
  (AO (AX (mOp AM (mOp AM (AD 0) (mC (.int 3))) (mOp AM (AD 3) (mC (.int 0)))) (AK 4))
  (AO (AX (A7 1 [1] (BC (mOp AM (AD 0) (mC (.int 4)))) (AK 0) (AS (AG dH (AB (AD 0) (AB (mC (.str "get")) (AB (AD 1) AI))))) (mOp AM (AD 0) (mC (.int 0))) A0) (AK 5))
  r))))
noncomputable def puB(cv cj ST cz dE:List D->M D)(r:BI):BI:=
  (AO (AX (AG (Oe "Names" cv) (AB (AD 0) AI)) (AK 6))
  (AO (AX (Et "Names" "give" cj (AD 6) (AB (A7 1 [] (BC (mOp AM (AD 2) (mC (.int 3)))) (AK 0) BH (mOp AM (AD 0) (mC (.int 0))) A0) AI)) (AK 7))
  (AO (AX (AG Ed (AB (Et "Names" "give" cj (AD 6) (AB (AG Kn (AB (mOp Ah (AG ST (AB (mOp AM (mOp AM (mOp AM (AD 2) (mC (.int 4))) (mC (.int 0))) (mC (.int 2))) AI)) (AG A0 (AB (mC (.str "v")) AI))) AI)) AI)) AI)) (AK 8))
  (AO (B3 (KB (AB (AG Bc (AB (AD 5) AI)) AI)) (AK 9) (Cm (Bi GE (AD 8) (AB (Et "Names" "give" cj (AD 6) (AB (AG ST (AB (mOp AM (mOp AM (mOp AM (AD 2) (mC (.int 4))) (mOp Ah (AD 9) (mC (.int 1)))) (mC (.int 2))) AI)) AI)) AI))))
  (AO (AX (mOp Ah (mOp Ah (Cw (mOp AM (AD 0) (mC (.int 3))) BJ (BV (mOp AM (AD 3) (mC (.int 0))))) (AG cz (AB (AD 2) (AB (AD 7) (AB (mOp AM (AD 4) (mC (.int 4))) (AB (AD 5) AI)))))) (Cw (mOp AM (AD 0) (mC (.int 3))) (BV (mOp Ah (mOp AM (AD 3) (mC (.int 0))) (mC (.int 1)))) BJ)) (AK 10))
  (AO (AX (A7 1 [7,5,2,1,8] (BC (mOp AM (AD 0) (mC (.int 4)))) (AK 0) BH (AG dE (AB (AD 0) (AB (AD 4) (AB (AD 3) (AB (AG A4 (AB (AD 1) (AB (AD 5) (AB (AD 2) AI)))) AI))))) A0) (AK 11))
  (AO (AX (mOp Ah (Cw (AD 0) BJ (BV (mC (.int 3)))) (AG A4 (AB (AD 10) (AB (AG DH (AB (AD 11) AI)) AI)))) (AK 12))
  r)))))))
theorem Lw:Fi f1 f2 f3 f4 f5 f6 f7 f8=puA f1 (AO (Am (Ad f2 (AB (AD 4) (AB (AD 2) (AB (AG Bc (AB (AD 5) AI)) AI))))) (puB f3 f4 f5 f6 f7 (AO (Fa (Am (Ad f8 (AB (AD 12) AI))) ["NoMaking"] "NoUpon") (Ao (AD 12))))):=rfl
noncomputable abbrev PX(r:BI):BI:=puA F9 r
noncomputable abbrev RU(r:BI):BI:=puB B1 DD BR CY BY r
noncomputable def keep:BI:=λB Z=>some ((.next,B),Z)
noncomputable def bW:Option ((Fl×Sl)×Mh)->Sl
 |some ((_,B),_)=>B
 |none=>[]
noncomputable def b8:Option ((Fl×Sl)×Mh)->Mh
 |some (_,Z)=>Z
 |none=>[]
structure Ca where
 r:Nat
 l:Nat
 mo:Nat
 w:Int
 r2:Nat
 m:Nat
 w2:Int
section
variable(k k2:Str)(s b:Int)
noncomputable def Ca.out(c:Ca):D:=De k s b c.r c.l c.w c.mo
noncomputable def Ca.inn(c:Ca):D:=B8 k2 s b c.r2 c.m c.w2
noncomputable def tA(c:Ca):Sl:=[some (c.out k s b),some (.str "x"),some (c.inn k2 s b),some (.lst [.int 0]),some (bx "x" k s b "w"),some (.lst ((rs3.take c.r).map D.str)),none,none,none,none,none,none,none]
end
noncomputable def dB(c:Ca):Option ((Fl×Sl)×Mh):=RU keep (tA "whole" "whole" 2 0 c) []
noncomputable def dS(c:Ca)(i:Nat):Option D:=(bW (dB c)).getD i none
noncomputable def nl(l:Nat):List Str:=match l with
 |0=>["b", "c", "d", "e", "f", "g", "h", "i", "j", "k", "l", "m"]
 |_=>["c", "d", "e", "f", "g", "h", "i", "j", "k", "l", "m", "n"]
noncomputable def nmB(c:Ca):List Str:=(nl c.l).take c.m
noncomputable def vr(n:Str):D:=.tup [.str "var",.str n]
noncomputable def hdW(l m:Nat)(w:Int):D:=.tup [.str "w",.int w,.tup (List.replicate l aS++.tup [.str "let",.str ((nl l).getD m ""),vr "v"]::((nl l).take m).map (λn=>.tup [.str "put",.str n,vr ((nl l).getD m "")])++[.tup [.str "jump",.int (l+m+2:Nat)]])]
noncomputable def hdR(l m:Nat)(w:Int)(i:Nat):D:=.tup [.str (rs3.getD i ""),.int w,.tup [.tup [.str "get",.str ((nl l).getD (m+1+i) ""),.str ((nl l).getD 0 "")],.tup [.str "let",.str "a",vr ((nl l).getD (m+1+i) "")],.tup [.str "jump",.int 3],.tup [.str "tell",vr "a"]]]
noncomputable def hds(r l m:Nat)(w w2:Int):List D:=hdW l m w::(List.range r).map (hdR l m w2)
noncomputable def hdB(c:Ca):List D:=hds c.r c.l c.m (c.w * c.w2) (3 * c.w2)
noncomputable def mkB(s b:Int)(ns:List Str)(mo:Nat):List D:=ns.map (λn=>bx n "whole" s b "w")++(bs5.take mo).map λn=>bx n "safe" 2 0 "r"
noncomputable def mkD(k:Str)(s b:Int)(ns:List Str)(mo:Nat)(hs:List D):D:=.tup [.str k,.int s,.int b,.tup (mkB s b ns mo),.tup hs]
section
variable(k k2:Str)(s b:Int)
noncomputable def tB(c:Ca):Sl:=[some (c.out k s b),some (.str "x"),some (c.inn k2 s b),some (.lst [.int 0]),some (bx "x" k s b "w"),some (.lst ((rs3.take c.r).map D.str)),dS c 6,dS c 7,dS c 8,dS c 9,some (.tup (mkB s b (nmB c) c.mo)),dS c 11,some (mkD k s b (nmB c) c.mo (hdB c))]
noncomputable def mB(c:Ca):Mh:=b8 (dB c)
end
noncomputable def kd3:List Str:=["safe", "steady", "whole"]
noncomputable def wcs:List (Str×Nat×Nat):=kd3.flatMap λk=>[2,3,4,5,6,7,8,9].flatMap λs=>(List.range s).map λb=>(k,s,b)
theorem Mu:wcs.map (λc=>BE [.str c.1,.int c.2.1,.int c.2.2] [])=wcs.map (λ_=>some (Sum.inl D.non,([]:Mh))):=by kernel_rfl
theorem PB(c:Str×Nat×Nat)(h:c∈wcs):BE [.str c.1,.int c.2.1,.int c.2.2] []=some (.inl .non,[]):=Aj Mu c h
def Wo(k:Str)(s b:Int):Prop:=k∈kd3/\2<=s/\s<=9/\0<=b/\b<s
theorem Wo.ok(h:Wo k s b):BE [.str k,.int s,.int b] []=some (.inl .non,[]):=by
 obtain⟨h1,h2,h3,h4,h5⟩:=h;have e1:s=((s.toNat:Nat):Int):=by omega
 have e2:b=((b.toNat:Nat):Int):=by omega
 rw[e1,e2];refine PB (k,s.toNat,b.toNat) (List.mem_flatMap.mpr ⟨k,h1,List.mem_flatMap.mpr ⟨s.toNat,?_,AAL.mpr ⟨b.toNat,List.mem_range.mpr (by omega),rfl⟩⟩⟩);have:s.toNat=2∨s.toNat=3∨s.toNat=4∨s.toNat=5∨s.toNat=6∨s.toNat=7∨s.toNat=8∨s.toNat=9:=by omega
 simpa using this
theorem Wo.safe2:Wo "safe" 2 0:=⟨by decide,by decide,by decide,by decide,by decide⟩
noncomputable def bxA(LE:List D->M Dx)(OR cm:List D->M D)(r:BI):BI:=
 (AO (Am (Ad LE (AB (AG OR (AB (AD 1) (AB (mC (.int 5)) (AB (mC (.int 5)) AI)))) (AB (mC (.str "a box is a tuple of five parts")) AI))))
  (AO (Am (Ad LE (AB (AG cm (AB (mOp AM (AD 1) (mC (.int 0))) AI)) (AB (mC (.str "a box has a name")) AI)))) r))
noncomputable def abc:List Str:=["a", "b", "c", "d", "e", "f", "g", "h", "i", "j", "k", "l", "m", "n", "o", "p", "ba", "bb", "bc", "bd", "be", "x"]
theorem Y3:∀n∈abc,bxA BW Ba C8 r [o,some (bx n kd s b w)] []=r [o,some (bx n kd s b w)] []:=Aj (f:=λn=>bxA BW Ba C8 r [o,some (bx n kd s b w)] []) (g:=λn=>r [o,some (bx n kd s b w)] []) (by kernel_rfl)
noncomputable def bxB:BI:=bxA BW Ba C8 (Am (Ad BE (AB (mOp AM (AD 1) (mC (.int 1))) (AB (mOp AM (AD 1) (mC (.int 2))) (AB (mOp AM (AD 1) (mC (.int 3))) AI)))))
theorem Y2(hn:n∈abc)(h:Wo kd s b):bxB [o,some (bx n kd s b w)] []=some ((.next,[o,some (bx n kd s b w)]),[]):=by
 unfold bxB;rw[Y3 n hn];show bnd (BE [.str kd,.int s,.int b]) _ []=_;rw[AW h.ok];rfl
theorem JQ(hl:Nat.beq (List.length ds) ps=true)(e:mb (BS N ds) Z=some ((.next,B),u9)):CZ .all N ps mb ds Z=some (.inl .non,u9):=by
 unfold CZ;rw[hl,e];rfl
theorem Mc(hl:Nat.beq (List.length ds) ps=true)(e:mb (BS N ds) Z=some ((.rt d,B),u9)):CZ .all N ps mb ds Z=some (.inl d,u9):=by
 unfold CZ;rw[hl,e];rfl
theorem Fx(hl:Nat.beq (List.length ds) ps=true)(e:mb (BS N ds) Z=some ((.xc x,B),u9)):CZ .all N ps mb ds Z=some (.inr x,u9):=by
 unfold CZ;rw[hl,e]
theorem Cr(ha:ra B Z=some (ds,Z))(h:φ ds Z=some (.inl d,Z')):Am (Ad φ ra) B Z=some ((.next,B),Z'):=by
 have e1:Ad φ ra B Z=some (.inl d,Z'):=by unfold Ad;rw[AW ha];exact h
 unfold Am;rw[AW e1];rfl
theorem Gz(ha:ra B Z=some (ds,Z))(h:φ ds Z=some (.inr x,Z')):Am (Ad φ ra) B Z=some ((.xc x,B),Z'):=by
 have e1:Ad φ ra B Z=some (.inr x,Z'):=by unfold Ad;rw[AW ha];exact h
 unfold Am;rw[AW e1];rfl
theorem Af(h:m B Z=some ((.next,B'),Z')):AO m r B Z=r B' Z':=by
 unfold AO;rw[AW h]
theorem Ia(h:m B Z=some ((.xc x,B'),Z')):AO m r B Z=some ((.xc x,B'),Z'):=by
 unfold AO;rw[AW h];rfl
theorem Oh:∀(ds:List D) (x:Option D),(∀d∈ds,∃n kd s b w,d=bx n kd s b w/\n∈abc/\Wo kd s b)->∃x',FJ (AK 1) bxB ds [o,x] []=some ((.next,[o,x']),[])
 |[],x,_=>⟨x,rfl⟩
 |d::ds,x,h=>by
  obtain⟨n,kd,s,b,w,rfl,hn,hw⟩:=h d AAP;obtain⟨x',e⟩:=Oh ds (some (bx n kd s b w)) λd hd=>h d (AAQ _ hd);refine⟨x',?_⟩;show bnd (bxB [o,some (bx n kd s b w)]) _ []=_;rw[AW (Y2 hn hw)];exact e
noncomputable def cb1(LE:List D->M Dx)(OR:List D->M D)(r:BI):BI:=AO (Am (Ad LE (AB (AG OR (AB (AD 0) (AB (mC (.int 0)) (AB (mC K1.B9) AI)))) (AB (mC (.str "boxes are a tuple of at most six")) AI)))) r
noncomputable def cb2(LE:List D->M Dx)(cu:List D->M D):BI:=Am (Ad LE (AB (AG cu (AB (A7 1 [] (BC (AD 0)) (AK 0) BH (mOp AM (AD 0) (mC (.int 0))) A0) AI)) (AB (mC (.str "two boxes have one name")) AI)))
theorem ax:BP=CZ .all 2 1 (cb1 BW Ba (AO (B3 (BC (AD 0)) (AK 1) bxB) (cb2 BW Cf))):=rfl
noncomputable def bcs:List (Nat×Nat×Nat):=[0,1].flatMap λl=>[1,2,3,4,5,6].flatMap λm=>((List.range (7-m)).filter λmo=>mo<6).map λmo=>(l,m,mo)
noncomputable abbrev bsC(s b:Int)(c:Nat×Nat×Nat):List D:=mkB s b ((nl c.1).take c.2.1) c.2.2
section
variable{s b:Int}{r:BI}{o:Option D}
theorem Vu:bcs.map (λc=>cb1 BW Ba r [some (.tup (bsC s b c)),o] [])=bcs.map (λc=>r [some (.tup (bsC s b c)),o] []):=by kernel_rfl
theorem Vt:bcs.map (λc=>cb2 BW Cf [some (.tup (bsC s b c)),o] [])=bcs.map (λc=>some ((.next,[some (.tup (bsC s b c)),o]),[])):=by kernel_rfl
theorem YI:bcs.all (λc=>(((nl c.1).take c.2.1)++bs5.take c.2.2).all λn=>abc.contains n)=true:=by decide +kernel
theorem JR(h:Wo "whole" s b)(c:Nat×Nat×Nat)(hc:c∈bcs):BP [.tup (bsC s b c)] []=some (.inl .non,[]):=by
 rw[ax];have hn:=List.all_eq_true.mp (List.all_eq_true.mp YI c hc);obtain⟨x',e⟩:=Oh (o:=some (.tup (bsC s b c))) (bsC s b c) none λd hd=>by
  rcases List.mem_append.mp hd with z|z
  ·obtain⟨n,h1,rfl⟩:=AAL.mp z;exact⟨n,_,_,_,_,rfl,by simpa using hn n (AAZ _ h1),h⟩
  ·obtain⟨n,h1,rfl⟩:=AAL.mp z;exact⟨n,_,_,_,_,rfl,by simpa using hn n (AAY _ h1),Wo.safe2⟩
 refine JQ (B:=[some (.tup (bsC s b c)),x']) rfl ?_;have e1:=Aj (Vu (s:=s) (b:=b) (o:=none) (r:=AO (B3 (BC (AD 0)) (AK 1) bxB) (cb2 BW Cf))) c hc;refine Eq.trans e1 ?_;show bnd (FJ (AK 1) bxB (bsC s b c) [some (.tup (bsC s b c)),none]) _ []=_;rw[AW e];exact Aj (Vt (s:=s) (b:=b) (o:=x')) c hc
end
def Kp(B B':Sl):Prop:=B'[0]?=B[0]?/\B'[2]?=B[2]?/\B'.length=B.length
theorem Kp.refl(B:Sl):Kp B B:=⟨rfl,rfl,rfl⟩
theorem Kp.trans(h:Kp a b)(g:Kp b c):Kp a c:=⟨g.1.trans h.1,g.2.1.trans h.2.1,g.2.2.trans h.2.2⟩
theorem Kp.set(h:i≠0/\i≠2):Kp B (B.set i o):=⟨AAk h.1,AAk h.2,List.length_set⟩
def Fr(m:BI):Prop:=∀B Z f B' Z',m B Z=some ((f,B'),Z')->Kp B B'
theorem Fq(h:i≠0/\i≠2):Fr (AX m (AK i)):=λB Z f B' Z' e=>by
 obtain⟨d,w9,_,e⟩:=AH e;cases e;exact Kp.set h
theorem Vf:Fr (Cm m):=λB Z f B' Z' e=>by
 obtain⟨d,w9,_,e⟩:=AH e;cases e;exact Kp.refl _
theorem Yi:Fr (Ao m):=λB Z f B' Z' e=>by
 obtain⟨d,w9,_,e⟩:=AH e;cases e;exact Kp.refl _
theorem S8:Fr A6:=λB Z f B' Z' e=>by cases e;exact Kp.refl _
theorem Vg:Fr ON:=λB Z f B' Z' e=>by cases e;exact Kp.refl _
theorem O0:Fr (Do a b c):=λB Z f B' Z' e=>by
 obtain⟨_,_,_,e⟩:=AH e;obtain⟨_,_,_,e⟩:=AH e;obtain⟨_,_,_,e⟩:=AH e;obtain⟨_,_,_,e⟩:=AH e;split at e
 ·split at e
  ·cases e;exact Kp.refl _
  ·cases e
 ·cases e
theorem S7(h1:Fr m1)(h2:Fr m2):Fr (AO m1 m2):=λB Z f B' Z' e=>by
 obtain⟨⟨f1,v9⟩,w9,e1,e⟩:=AH e;have k:=h1 _ _ _ _ _ e1;cases f1 with
 |next=>exact k.trans (h2 _ _ _ _ _ e)
 |_=>cases e;exact k
theorem S9(h1:Fr m1)(h2:Fr m2):Fr (sIf c m1 m2):=λB Z f B' Z' e=>by
 obtain⟨b,w9,e1,e⟩:=AH e;cases b
 ·exact h2 _ _ _ _ _ e
 ·exact h1 _ _ _ _ _ e
def FrB(bf:D->Sl->M Sl):Prop:=∀d B Z B' Z',bf d B Z=some (B',Z')->Kp B B'
theorem TD(h:i≠0/\i≠2):FrB (AK i):=λd B Z B' Z' e=>by cases e;exact Kp.set h
theorem Vh(h:i≠0/\i≠2)(g:j≠0/\j≠2):FrB (Dh [i,j]):=λd B Z B' Z' e=>by
 cases d with
 |tup ds=>
  by_cases hl:ds.length=2
  ·have e:(if ds.length=2 then E8 [i,j] ds B else BD) Z=some (B',Z'):=e;rw[if_pos hl] at e
   match ds,hl with
   |[a,b],_=>cases e;exact(Kp.set h).trans (Kp.set g)
  ·have e:(if ds.length=2 then E8 [i,j] ds B else BD) Z=some (B',Z'):=e;rw[if_neg hl] at e;cases e
 |_=>cases e
theorem TB(hb:FrB bf)(hm:Fr m):∀ds,Fr (FJ bf m ds)
 |[]=>λB Z f B' Z' e=>by cases e;exact Kp.refl _
 |d::ds=>λB Z f B' Z' e=>by
  obtain⟨v9,w9,e1,e⟩:=AH e;obtain⟨⟨f2,j4⟩,u9,e2,e⟩:=AH e;have k:=(hb _ _ _ _ _ e1).trans (hm _ _ _ _ _ e2);cases f2 with
  |next=>exact k.trans (TB hb hm ds _ _ _ _ _ e)
  |cont=>exact k.trans (TB hb hm ds _ _ _ _ _ e)
  |_=>cases e;exact k
theorem TC(hb:FrB bf)(hm:Fr m):Fr (B3 src bf m):=λB Z f B' Z' e=>by
 obtain⟨ds,w9,_,e⟩:=AH e;exact TB hb hm ds _ _ _ _ _ e
theorem CH(hm:Fr m)(h:∀B' Z',Kp B B'->k B' Z'=k' B' Z'):AO m k B Z=AO m k' B Z:=by
 unfold AO bnd;cases e:m B Z with
 |none=>rfl
 |some p=>
  obtain⟨⟨f,v9⟩,w9⟩:=p;cases f with
  |next=>exact h _ _ (hm _ _ _ _ _ e)
  |_=>rfl
noncomputable def huM:Sl->M D:=AG KA (AB (A7 1 [] (BC (mOp AM (AD 2) (mC (.int 4)))) (AK 0) BH (mOp AM (AD 0) (mC (.int 1))) A0) AI)
noncomputable def huT(ru:List D->M D)(m t:Sl->M D):BI:=AO (AX m (AK 10)) (Ao (AG A4 (AB (mOp AM (AD 0) (mC (.int 0))) (AB t (AB (AG ru (AB (mOp AM (AD 0) (mC (.int 2))) (AB (AD 6) AI))) AI)))))
noncomputable def huI:Sl->M D:=mIf (AS (mOp Hz (AD 10) (mC (.int 0)))) (mOp C7 (mOp AM (AD 0) (mC (.int 1))) (AD 10)) (mOp AM (AD 0) (mC (.int 1)))
noncomputable def huP(f1 f2 f3:List D->M D)(r:BI):BI:=
  (AO (AX (mOp AM (AD 3) (mC (.int 0))) (AK 4))
  (AO (AX (mOp AM (AD 3) (mC (.int 1))) (AK 5))
  (AO (AX NN (AK 6))
  (AO (B3 (Eu (AB (mOp AM (AD 0) (mC (.int 2))) AI)) (Dh [7,8]) (AO (sIf (AS (mOp Dd (AG f1 (AB (AD 8) AI)) (AD 1))) ON A6)
  (sIf (AS (mOp BO (mOp AM (AD 8) (mC (.int 0))) (mC (.str "put")))) (Do (AD 6) (AD 7) (AG f2 (AB (mOp AM (AD 8) (mC (.int 2))) (AB (mOp AM (mOp AM (mOp AM (AD 2) (mC (.int 4))) (mC (.int 0))) (mC (.int 2))) (AB (mOp AM (AD 5) (mC (.int 0))) (AB (AD 4) AI)))))) (AO (AX (mOp Ah (Bi Su (mOp AM (AD 3) (mC (.int 2))) (AB (mOp AM (AD 0) (mC (.int 0))) AI)) (mC (.int 1))) (AK 9))
  (Do (AD 6) (AD 7) (AG f3 (AB (mOp AM (AD 8) (mC (.int 1))) (AB (mOp AM (mOp AM (mOp AM (AD 2) (mC (.int 4))) (AD 9)) (mC (.int 2))) (AB (mOp AM (AD 5) (AD 9)) (AB (AD 4) AI))))))))))
  (AO (sIf (AS (mOp BO (AG Ol (AB (AD 6) AI)) (mC (.int 0)))) (Ao (AD 0)) A6)
  r)))))
theorem aZ:Fj f1 f2 f3 f4=huP f1 f2 f3 (huT f4 huM huI):=rfl
theorem P9(h:∀B' Z',Kp B B'->k B' Z'=k' B' Z'):huP f1 f2 f3 k B Z=huP f1 f2 f3 k' B Z:=by
 refine CH (Fq (by decide)) λv9 w9 p1=>CH (Fq (by decide)) λj4 u9 p2=>CH (Fq (by decide)) λτ3 j6 p3=>CH (TC (Vh (by decide) (by decide)) (S7 (S9 Vg S8) (S9 O0 (S7 (Fq (by decide)) O0)))) λτ4 m7 p4=>CH (S9 Yi S8) λn6 m8 p5=>h _ _ ((((p1.trans p2).trans p3).trans p4).trans p5)
noncomputable def cT(t:Int):Sl->M D:=λB=>bnd (mOp AM (AD 0) (mC (.int 1)) B) λd=>match d with
 | .int w=>ret (.int (w * t))
 |_=>BD
theorem aN(ht:1<=t):Fh [t,1]=t/\Fh [t,1,1]=t/\Fh [t,1,1,1]=t:=by
 have e:max t 1=t:=Int.max_eq_left ht;refine⟨?_,?_,?_⟩<;>simp only[Fh,List.foldl,e]
theorem Yf(h2:B[2]?=some (some (B8 k2 s b r m t)))(hr:(r=1∨r=2)∨r=3)(ht:1<=t):huM B Z=some (.int t,Z):=by
 have e:AD 2 B=λZ=>some (B8 k2 s b r m t,Z):=funext λZ=>EH h2;obtain⟨m1,m2,m3⟩:=aN ht;unfold huM AG AB A7 BC mOp;rw[e];rcases hr with (rfl|rfl)|rfl
 ·refine Eq.trans (b:=some (.int (Fh [t,1]),Z)) ?_ (by rw[m1]);rfl
 ·refine Eq.trans (b:=some (.int (Fh [t,1,1]),Z)) ?_ (by rw[m2]);rfl
 ·refine Eq.trans (b:=some (.int (Fh [t,1,1,1]),Z)) ?_ (by rw[m3]);rfl
theorem Ye(h0:B[0]?=some (some (.tup [n,.int w,rw_])))(h2:B[2]?=some (some (B8 k2 s b r m t)))(hl:10<B.length)(hr:(r=1∨r=2)∨r=3)(ht:1<=t)(hw:-(2 ^ 64)<w/\w<2 ^ 64):huT ru huM huI B Z=huT ru (mC (.int t)) (cT t) B Z:=by
 have z0:(B.set 10 (some (.int t)))[0]?=some (some (.tup [n,.int w,rw_])):=by rw[AAk (by decide)];exact h0
 have z10:(B.set 10 (some (.int t)))[10]?=some (some (.int t)):=by rw[List.getElem?_set_self hl]
 have q:∀Z,mOp AM (AD 0) (mC (.int 1)) (B.set 10 (some (.int t))) Z=some (.int w,Z):=λZ=>by
  unfold mOp;rw[AW (EH z0)];rfl
 have hq:huI (B.set 10 (some (.int t)))=cT t (B.set 10 (some (.int t))):=funext λZ=>by
  have e0:mOp Hz (AD 10) (mC (.int 0)) (B.set 10 (some (.int t))) Z=some (.bl true,Z):=by
   unfold mOp;rw[AW (EH z10)];show some (D.bl (decide ((0:Int)<t)),Z)=_;rw[AAO (by omega)]
  have e1:AS (mOp Hz (AD 10) (mC (.int 0))) (B.set 10 (some (.int t))) Z=some (true,Z):=by
   unfold AS;rw[AW e0];rfl
  unfold huI mIf cT;rw[AW e1,if_pos rfl,AW (q Z)];show bnd (mOp AM (AD 0) (mC (.int 1)) (B.set 10 (some (.int t)))) (λx=>bnd (AD 10 (B.set 10 (some (.int t)))) λy=>C7 x y) Z=some (.int (w * t),Z);rw[AW (q Z),AW (EH z10)];exact Sd (.inl hw)
 have g:∀(x y:Sl->M D),x (B.set 10 (some (.int t)))=y (B.set 10 (some (.int t)))->Ao (AG A4 (AB (mOp AM (AD 0) (mC (.int 0))) (AB x (AB (AG ru (AB (mOp AM (AD 0) (mC (.int 2))) (AB (AD 6) AI))) AI)))) (B.set 10 (some (.int t))) Z=Ao (AG A4 (AB (mOp AM (AD 0) (mC (.int 0))) (AB y (AB (AG ru (AB (mOp AM (AD 0) (mC (.int 2))) (AB (AD 6) AI))) AI)))) (B.set 10 (some (.int t))) Z:=λx y e=>by
  unfold Ao AG AB;rw[e]
 unfold huT;have a1:AX huM (AK 10) B Z=some ((.next,B.set 10 (some (.int t))),Z):=by
  unfold AX;rw[AW (Yf h2 hr ht)];rfl
 rw[Af a1,Af (show AX (mC (.int t)) (AK 10) B Z=some ((.next,B.set 10 (some (.int t))),Z) from rfl)];exact g _ _ hq
noncomputable def hqF(t:Int):List D->M D:=Az .drop 11 4 (huP Eh D4 D6 (huT DR (mC (.int t)) (cT t)))
section
variable{k k2:Str}{s b w t:Int}{r m l mo:Nat}{B:Sl}{Z:Mh}
theorem aa(hr:(r=1∨r=2)∨r=3)(ht:1<=t)(hw:-(2 ^ 64)<w/\w<2 ^ 64):BY [.tup [n,.int w,rw_],x,B8 k2 s b r m t,g] Z=hqF t [.tup [n,.int w,rw_],x,B8 k2 s b r m t,g] Z:=by
 have e:Fj Eh D4 D6 DR (BS 11 [.tup [n,.int w,rw_],x,B8 k2 s b r m t,g]) Z=huP Eh D4 D6 (huT DR (mC (.int t)) (cT t)) (BS 11 [.tup [n,.int w,rw_],x,B8 k2 s b r m t,g]) Z:=by
  rw[aZ];exact P9 λB' Z' p=>Ye (n:=n) (rw_:=rw_) (p.1.trans rfl) (p.2.1.trans rfl) (by rw[p.2.2];exact AAE rfl) hr ht hw
 unfold BY hqF Az;rw[e]
theorem KY{α β:Type}{m:M α}{f g:α->M β}{Z:Mh}(h:∀a Z',m Z=some (a,Z')->f a Z'=g a Z'):bnd m f Z=bnd m g Z:=by
 unfold bnd;cases e:m Z with
 |none=>rfl
 |some p=>exact h _ _ e
theorem G4:∀(ds ys:List D) (Z:Mh),(∀d∈ds,∀Z,me (m9.set 0 (some d)) Z=me' (m9.set 0 (some d)) Z)->ER (AK 0) BH me m9 ds ys Z=ER (AK 0) BH me' m9 ds ys Z
 |[],_,_,_=>rfl
 |d::ds,ys,Z,h=>by
  show bnd (me (m9.set 0 (some d))) (λy=>ER (AK 0) BH me m9 ds (ys++[y])) Z=bnd (me' (m9.set 0 (some d))) (λy=>ER (AK 0) BH me' m9 ds (ys++[y])) Z;unfold bnd;rw[h d AAP];cases me' (m9.set 0 (some d)) Z with
  |none=>rfl
  |some p=>exact G4 ds _ _ λd hd=>h d (AAQ _ hd)
noncomputable def cpH(f:List D->M D):Sl->M D:=A7 1 [7,5,2,1,8] (BC (mOp AM (AD 0) (mC (.int 4)))) (AK 0) BH (AG f (AB (AD 0) (AB (AD 4) (AB (AD 3) (AB (AG A4 (AB (AD 1) (AB (AD 5) (AB (AD 2) AI)))) AI))))) A0
theorem Ux(hw:-(2 ^ 64)<w/\w<2 ^ 64):∀d∈NH r l w,∃n c rw_,d=.tup [n,.int c,rw_]/\-(2 ^ 64)<c/\c<2 ^ 64:=λd hd=>by
 rcases AAJ.mp hd with z|z
 ·exact⟨_,_,_,z,hw⟩
 ·obtain⟨n,_,rfl⟩:=AAL.mp z;exact⟨_,_,_,rfl,by decide,by decide⟩
theorem au(h0:B[0]?=some (some (De k s b r l w mo)))(h2:B[2]?=some (some (B8 k2 s b r m t)))(hr:(r=1∨r=2)∨r=3)(ht:1<=t)(hw:-(2 ^ 64)<w/\w<2 ^ 64):cpH BY B Z=cpH (hqF t) B Z:=by
 have e:∀Z,BC (mOp AM (AD 0) (mC (.int 4))) B Z=some (NH r l w,Z):=λZ=>by
  have e1:mOp AM (AD 0) (mC (.int 4)) B Z=some (.tup (NH r l w),Z):=by
   unfold mOp;rw[AW (EH h0)];rfl
  unfold BC;rw[AW e1];rfl
 have c:∀Z,ER (AK 0) BH (AG BY (AB (AD 0) (AB (AD 4) (AB (AD 3) (AB (AG A4 (AB (AD 1) (AB (AD 5) (AB (AD 2) AI)))) AI))))) (ED 1 [7,5,2,1,8] B) (NH r l w) [] Z=ER (AK 0) BH (AG (hqF t) (AB (AD 0) (AB (AD 4) (AB (AD 3) (AB (AG A4 (AB (AD 1) (AB (AD 5) (AB (AD 2) AI)))) AI))))) (ED 1 [7,5,2,1,8] B) (NH r l w) [] Z:=λZ=>by
  refine G4 _ _ Z λd hd Z=>?_;obtain⟨n,c,rw_,rfl,hc⟩:=Ux hw d hd;have s3:((ED 1 [7,5,2,1,8] B).set 0 (some (.tup [n,.int c,rw_])))[3]?=some (some (B8 k2 s b r m t)):=by
   show some ((B[2]?).getD none)=_;rw[h2];rfl
  refine KY λds w9 ea=>?_;obtain⟨d0,u9,q0,ea⟩:=AH ea;obtain⟨ds1,j6,q1,ea⟩:=AH ea;cases ea;obtain⟨d1,m7,q2,q1⟩:=AH q1;obtain⟨ds2,m8,q3,q1⟩:=AH q1;cases q1;obtain⟨d2,n8,q4,q3⟩:=AH q3;obtain⟨ds3,μ7,q5,q3⟩:=AH q3;cases q3;obtain⟨d3,μ8,q6,q5⟩:=AH q5;obtain⟨ds4,μ9,q7,q5⟩:=AH q5;cases q5;cases q7;cases q0;rw[EH s3] at q4;cases q4;exact aa hr ht hc
 unfold cpH A7;rw[AW (e Z),AW (e Z)];refine KY λ_ w9 _=>?_;unfold bnd;rw[c]
theorem Xd(h0:B[0]?=some (some (De k s b r l w mo)))(h2:B[2]?=some (some (B8 k2 s b r m t)))(hr:(r=1∨r=2)∨r=3)(ht:1<=t)(hw:-(2 ^ 64)<w/\w<2 ^ 64):puB f1 f2 f3 f4 BY R B Z=puB f1 f2 f3 f4 (hqF t) R B Z:=by
 refine CH (Fq (by decide)) λv9 w9 p1=>CH (Fq (by decide)) λj4 u9 p2=>CH (Fq (by decide)) λτ3 j6 p3=>CH (TC (TD (by decide)) Vf) λτ4 m7 p4=>CH (Fq (by decide)) λn6 m8 p5=>?_;have p:=(((p1.trans p2).trans p3).trans p4).trans p5;have e:=au (Z:=m8) (p.1.trans h0) (p.2.1.trans h2) hr ht hw;have e2:AX (cpH BY) (AK 11) n6 m8=AX (cpH (hqF t)) (AK 11) n6 m8:=by
  unfold AX bnd;rw[e]
 show bnd (AX (cpH BY) (AK 11) n6) _ m8=bnd (AX (cpH (hqF t)) (AK 11) n6) _ m8;unfold bnd;rw[e2]
end
noncomputable def cm1(LE:List D->M Dx)(OR:List D->M D)(r:BI):BI:=AO (Am (Ad LE (AB (AG OR (AB (AD 0) (AB (mC (.int 5)) (AB (mC (.int 5)) AI)))) (AB (mC (.str "a making is a tuple of five parts")) AI)))) r
noncomputable def cm5(LE c9:List D->M Dx):BI:=(AO (AX (A7 1 [] (BC (mOp AM (AD 0) (mC (.int 4)))) (AK 0) BH (mOp AM (AD 0) (mC (.int 0))) A0) (AK 1))
  (AO (AX NN (AK 2))
  (AO (B3 (BC (mOp AM (AD 0) (mC (.int 3)))) (AK 3) (AO (Am (Ad LE (AB (mOp Sr (mOp AM (AD 3) (mC (.int 4))) (AD 1)) (AB (mC (.str "the hand of a box is none")) AI))))
  (Do (AD 2) (mOp AM (AD 3) (mC (.int 0))) (mOp AM (AD 3) (mC (.int 4))))))
  (B3 (Eu (AB (mOp AM (AD 0) (mC (.int 4))) AI)) (Dh [4,5]) (Am (Ad c9 (AB (AD 5) (AB (mOp BO (AD 4) (mC (.int 0))) (AB (AD 2) AI)))))))))
theorem TW:AT=FT (CZ .all 6 1 (cm1 BW Ba (AO (Am (Ad BE (AB (mOp AM (AD 0) (mC (.int 0))) (AB (mOp AM (AD 0) (mC (.int 1))) (AB (mOp AM (AD 0) (mC (.int 2))) AI))))) (AO (Am (Ad BP (AB (mOp AM (AD 0) (mC (.int 3))) AI))) (AO (Am (Ad Ay (AB (mOp AM (AD 0) (mC (.int 4))) AI))) (cm5 BW DM)))))):=rfl
theorem Nl:cm1 BW Ba r [some (.tup [a,b,c,d,e]),none,none,none,none,none] []=r [some (.tup [a,b,c,d,e]),none,none,none,none,none] []:=by kernel_rfl
noncomputable def gcs:List (Nat×Nat×Nat×Nat):=[1,2,3].flatMap λr=>([1,2,3].map λm=>(r,58-m,m,0))++([1,2,3].map λm=>(r,0,m,0))++[0,1,2,3,4,5].map λmo=>(r,0,6-mo,mo)
noncomputable abbrev mkC(k:Str)(s b w w2:Int)(c:Nat×Nat×Nat×Nat):D:=mkD k s b ((nl c.2.1).take c.2.2.1) c.2.2.2 (hds c.1 c.2.1 c.2.2.1 w w2)
noncomputable def WS:Option ((Fl×Sl)×Mh)->Bool
 |some ((.next,_),_)=>true
 |_=>false
theorem SQ(h:WS x=true):∃B Z,x=some ((.next,B),Z):=by
 match x,h with
 |some ((.next,B),Z),_=>exact⟨B,Z,rfl⟩
section
variable{k:Str}{s b w w2:Int}
theorem RY:gcs.map (λc=>WS (cm5 BW DM [some (mkC k s b w w2 c),none,none,none,none,none] []))=gcs.map λ_=>true:=by kernel_rfl
theorem Y0:gcs.map (λc=>Bm 0 [mkC k s b w w2 c])=gcs.map λ_=>true:=by kernel_rfl
noncomputable abbrev Vy(c:Nat×Nat×Nat×Nat):Nat×Nat×Nat:=(min c.2.1 1,c.2.2.1,c.2.2.2)
theorem Ta:gcs.map (λc=>mkB s b ((nl c.2.1).take c.2.2.1) c.2.2.2)=gcs.map λc=>bsC s b (Vy c):=by kernel_rfl
theorem Ti:gcs.all (λc=>bcs.contains (Vy c))=true:=by decide +kernel
theorem HL(hk:Wo k s b)(h2:Wo "whole" s b)(c:Nat×Nat×Nat×Nat)(hc:c∈gcs)(hh:Ay [.tup (hds c.1 c.2.1 c.2.2.1 w w2)] []=some (.inl .non,[])):AT [mkC k s b w w2 c] Z=some (.inl .non,Z):=by
 rw[TW];obtain⟨B,u9,er⟩:=SQ (Aj (RY (k:=k) (s:=s) (b:=b) (w:=w) (w2:=w2)) c hc);have hb:BP [.tup (mkB s b ((nl c.2.1).take c.2.2.1) c.2.2.2)] []=some (.inl .non,[]):=by
  rw[Aj (Ta (s:=s) (b:=b)) c hc];exact JR h2 _ (by simpa using List.all_eq_true.mp Ti c hc)
 refine IX (u9:=u9) (Aj (Y0 (k:=k) (s:=s) (b:=b) (w:=w) (w2:=w2)) c hc) (JQ (B:=B) rfl ?_) rfl;refine Eq.trans Nl ?_;rw[Af (Cr rfl hk.ok),Af (Cr rfl hb),Af (Cr rfl hh)];exact er
end
noncomputable def ones:List Nat:=[1,2,4,5,8,10,16,20,25,40,50,80,100,3,7]
theorem KH:gcs.map (λc=>Ay [.tup (hds c.1 c.2.1 c.2.2.1 45 15)] [])=gcs.map λ_=>some (Sum.inl D.non,([]:Mh)):=by kernel_rfl
noncomputable def gw:List (Nat×Nat×Nat):=[1,2,3].flatMap λr=>[1,2,3].flatMap λm=>ones.map λo=>(r,m,o)
theorem Nd:gw.map (λc=>Ay [.tup (hds c.1 0 c.2.1 ((400 / c.2.2 * c.2.2:Nat):Int) ((3 * c.2.2:Nat):Int))] [])=gw.map λ_=>some (Sum.inl D.non,([]:Mh)):=by kernel_rfl
noncomputable abbrev inX(k2:Str)(s b:Int)(bb:D)(hs:List D):D:=.tup [.str k2,.int s,.int b,bb,.tup hs]
noncomputable def sbs:List (Nat×Nat):=[2,3,4,5,6,7,8,9].flatMap λs=>(List.range s).map λb=>(s,b)
noncomputable def k6:List (Str×Str):=[("safe", "safe"),("safe", "steady"),("safe", "whole"),("steady", "steady"),("steady", "whole"),("whole", "whole")]
noncomputable def L1:List ((Str×Str)×Nat×Nat):=k6.flatMap λk=>sbs.map λz=>(k,z)
section
variable{bb a1 a2 a3 a4:D}
noncomputable abbrev MN(k k2:Str)(s b s2 b2:Int)(bb:D)(hs:List D)(n:Int):Option (Dx×Mh):=BF [bx "x" k s b "w",inX k2 s2 b2 bb hs,.int n] []
noncomputable abbrev ps1:Option (Dx×Mh):=some (.inl .non,[])
theorem Ym:L1.map (λc=>MN c.1.1 c.1.2 c.2.1 c.2.2 c.2.1 c.2.2 bb [a1,a2] 1)=L1.map λ_=>ps1:=by kernel_rfl
theorem Yl:L1.map (λc=>MN c.1.1 c.1.2 c.2.1 c.2.2 c.2.1 c.2.2 bb [a1,a2,a3] 2)=L1.map λ_=>ps1:=by kernel_rfl
theorem Yk:L1.map (λc=>MN c.1.1 c.1.2 c.2.1 c.2.2 c.2.1 c.2.2 bb [a1,a2,a3,a4] 3)=L1.map λ_=>ps1:=by kernel_rfl
end
theorem Z0{k k2:Str}{s b:Int}{Z:Mh}(c:Ca)(fa:∀r,PX r (BS 13 [c.out k s b,.str "x",c.inn k2 s b]) []=r (tA k k2 s b c) [])(fb:∀r,RU r (tA k k2 s b c) []=r (tB k k2 s b c) (mB c))
  (hf:BF [bx "x" k s b "w",c.inn k2 s b,.int (((rs3.take c.r).map D.str).length:Nat)] []=some (.inl .non,[])) (hm:∀Z,AT [mkD k s b (nmB c) c.mo (hdB c)] Z=some (.inl .non,Z)) (hfl:flB (mkD k s b (nmB c) c.mo (hdB c))=true) (hcl:Bm 0 [c.out k s b,.str "x",c.inn k2 s b]=true) :
  A8 [c.out k s b,.str "x",c.inn k2 s b] Z=some (.inl (mkD k s b (nmB c) c.mo (hdB c)),Z):=by
 unfold A8;refine IX (u9:=mB c) hcl (Mc (B:=tB k k2 s b c) rfl ?_) hfl;rw[Lw];refine(fa _).trans ?_;rw[Af (Cr rfl hf)];refine(fb _).trans ?_;have e1:Fa (Am (Ad AT (AB (AD 12) AI))) ["NoMaking"] "NoUpon" (tB k k2 s b c) (mB c)=some ((.next,tB k k2 s b c),mB c):=by
  unfold Fa;rw[AW (Cr rfl (hm _))];rfl
 rw[Af e1];rfl
noncomputable abbrev Q4:=Nat×Nat×Nat×Nat
noncomputable def caO(z:Q4):Ca:=⟨z.1,z.2.1,z.2.2.2,9,z.1,z.2.2.1,5⟩
section
variable{k k2:Str}{s b:Int}{r:BI}
theorem Zk:gcs.map (λz=>PX r (BS 13 [(caO z).out k s b,.str "x",(caO z).inn k2 s b]) [])=gcs.map λz=>r (tA k k2 s b (caO z)) []:=by kernel_rfl
theorem fl2:gcs.map (λz=>flB (mkD k s b (nmB (caO z)) (caO z).mo (hdB (caO z))))=gcs.map λ_=>true:=by kernel_rfl
theorem cl2:gcs.map (λz=>Bm 0 [(caO z).out k s b,.str "x",(caO z).inn k2 s b])=gcs.map λ_=>true:=by kernel_rfl
noncomputable abbrev rbL(k k2:Str)(s b:Int)(r:BI)(z:Q4):=RU r (tA k k2 s b (caO z)) []
noncomputable abbrev rbR(k k2:Str)(s b:Int)(r:BI)(z:Q4):=r (tB k k2 s b (caO z)) (mB (caO z))
theorem rb0:([(1,57,1,0)]:List Q4).map (rbL k k2 s b r)=([(1,57,1,0)]:List Q4).map (rbR k k2 s b r):=by kernel_rfl
theorem rb1:([(1,56,2,0)]:List Q4).map (rbL k k2 s b r)=([(1,56,2,0)]:List Q4).map (rbR k k2 s b r):=by kernel_rfl
theorem rb2:([(1,55,3,0)]:List Q4).map (rbL k k2 s b r)=([(1,55,3,0)]:List Q4).map (rbR k k2 s b r):=by kernel_rfl
theorem rb3:([(2,57,1,0)]:List Q4).map (rbL k k2 s b r)=([(2,57,1,0)]:List Q4).map (rbR k k2 s b r):=by kernel_rfl
theorem rb4:([(2,56,2,0)]:List Q4).map (rbL k k2 s b r)=([(2,56,2,0)]:List Q4).map (rbR k k2 s b r):=by kernel_rfl
theorem rb5:([(2,55,3,0)]:List Q4).map (rbL k k2 s b r)=([(2,55,3,0)]:List Q4).map (rbR k k2 s b r):=by kernel_rfl
theorem rb6:([(3,57,1,0)]:List Q4).map (rbL k k2 s b r)=([(3,57,1,0)]:List Q4).map (rbR k k2 s b r):=by kernel_rfl
theorem rb7:([(3,56,2,0)]:List Q4).map (rbL k k2 s b r)=([(3,56,2,0)]:List Q4).map (rbR k k2 s b r):=by kernel_rfl
theorem rb8:([(3,55,3,0)]:List Q4).map (rbL k k2 s b r)=([(3,55,3,0)]:List Q4).map (rbR k k2 s b r):=by kernel_rfl
theorem rb9:([(1,0,1,0),(1,0,2,0),(1,0,3,0)]:List Q4).map (rbL k k2 s b r)=([(1,0,1,0),(1,0,2,0),(1,0,3,0)]:List Q4).map (rbR k k2 s b r):=by kernel_rfl
theorem bq:([(1,0,6,0),(1,0,5,1),(1,0,4,2)]:List Q4).map (rbL k k2 s b r)=([(1,0,6,0),(1,0,5,1),(1,0,4,2)]:List Q4).map (rbR k k2 s b r):=by kernel_rfl
theorem bp:([(1,0,3,3),(1,0,2,4),(1,0,1,5)]:List Q4).map (rbL k k2 s b r)=([(1,0,3,3),(1,0,2,4),(1,0,1,5)]:List Q4).map (rbR k k2 s b r):=by kernel_rfl
theorem bo:([(2,0,1,0),(2,0,2,0),(2,0,3,0)]:List Q4).map (rbL k k2 s b r)=([(2,0,1,0),(2,0,2,0),(2,0,3,0)]:List Q4).map (rbR k k2 s b r):=by kernel_rfl
theorem bn:([(2,0,6,0),(2,0,5,1),(2,0,4,2)]:List Q4).map (rbL k k2 s b r)=([(2,0,6,0),(2,0,5,1),(2,0,4,2)]:List Q4).map (rbR k k2 s b r):=by kernel_rfl
theorem bj:([(2,0,3,3),(2,0,2,4),(2,0,1,5)]:List Q4).map (rbL k k2 s b r)=([(2,0,3,3),(2,0,2,4),(2,0,1,5)]:List Q4).map (rbR k k2 s b r):=by kernel_rfl
theorem bi:([(3,0,1,0),(3,0,2,0),(3,0,3,0)]:List Q4).map (rbL k k2 s b r)=([(3,0,1,0),(3,0,2,0),(3,0,3,0)]:List Q4).map (rbR k k2 s b r):=by kernel_rfl
theorem bh:([(3,0,6,0),(3,0,5,1),(3,0,4,2)]:List Q4).map (rbL k k2 s b r)=([(3,0,6,0),(3,0,5,1),(3,0,4,2)]:List Q4).map (rbR k k2 s b r):=by kernel_rfl
theorem bg:([(3,0,3,3),(3,0,2,4),(3,0,1,5)]:List Q4).map (rbL k k2 s b r)=([(3,0,3,3),(3,0,2,4),(3,0,1,5)]:List Q4).map (rbR k k2 s b r):=by kernel_rfl
noncomputable def pts:List (List Q4):=[[(1,57,1,0)],[(1,56,2,0)],[(1,55,3,0)],[(2,57,1,0)],[(2,56,2,0)],[(2,55,3,0)],[(3,57,1,0)],[(3,56,2,0)],[(3,55,3,0)],[(1,0,1,0),(1,0,2,0),(1,0,3,0)],[(1,0,6,0),(1,0,5,1),(1,0,4,2)],[(1,0,3,3),(1,0,2,4),(1,0,1,5)],[(2,0,1,0),(2,0,2,0),(2,0,3,0)],[(2,0,6,0),(2,0,5,1),(2,0,4,2)],[(2,0,3,3),(2,0,2,4),(2,0,1,5)],[(3,0,1,0),(3,0,2,0),(3,0,3,0)],[(3,0,6,0),(3,0,5,1),(3,0,4,2)],[(3,0,3,3),(3,0,2,4),(3,0,1,5)]]
theorem Uc:gcs.all (λz=>pts.any λp=>p.contains z)=true:=by decide +kernel
theorem Zh(z:Q4)(hz:z∈gcs):rbL k k2 s b r z=rbR k k2 s b r z:=by
 obtain⟨p,hp,h⟩:=List.any_eq_true.mp (List.all_eq_true.mp Uc z hz);have h:z∈p:=by simpa using h
 unfold pts at hp;simp only[AAJ,List.not_mem_nil,or_false] at hp;rcases hp with rfl|rfl|rfl|rfl|rfl|rfl|rfl|rfl|rfl|rfl|rfl|rfl|rfl|rfl|rfl|rfl|rfl|rfl
 ·exact Aj rb0 z h
 ·exact Aj rb1 z h
 ·exact Aj rb2 z h
 ·exact Aj rb3 z h
 ·exact Aj rb4 z h
 ·exact Aj rb5 z h
 ·exact Aj rb6 z h
 ·exact Aj rb7 z h
 ·exact Aj rb8 z h
 ·exact Aj rb9 z h
 ·exact Aj bq z h
 ·exact Aj bp z h
 ·exact Aj bo z h
 ·exact Aj bn z h
 ·exact Aj bj z h
 ·exact Aj bi z h
 ·exact Aj bh z h
 ·exact Aj bg z h
end
theorem Zr:gcs.all (λz=>z.1==1||z.1==2||z.1==3)=true:=by decide +kernel
section
variable{k k2:Str}{s b:Int}{Z:Mh}
theorem LO(hk:(k,k2)∈k6){s b:Nat}(h1:2<=s)(h2:s<=9)(h3:b<s):((k,k2),s,b)∈L1:=by
 refine List.mem_flatMap.mpr ⟨(k,k2),hk,AAL.mpr ⟨(s,b),List.mem_flatMap.mpr ⟨s,?_,AAL.mpr ⟨b,List.mem_range.mpr h3,rfl⟩⟩,rfl⟩⟩;have:s=2∨s=3∨s=4∨s=5∨s=6∨s=7∨s=8∨s=9:=by omega
 simpa using this
theorem Yj(hk:(k,k2)∈k6)(h:Wo k s b)(z:Q4)(hz:z∈gcs):BF [bx "x" k s b "w",(caO z).inn k2 s b,.int (((rs3.take (caO z).r).map D.str).length:Nat)] []=some (.inl .non,[]):=by
 have hr:=List.all_eq_true.mp Zr z hz;simp only[Bool.or_eq_true,beq_iff_eq] at hr;obtain⟨_,h1,h2,h3,h4⟩:=h;obtain⟨s,rfl⟩:∃s':Nat,s=s':=⟨s.toNat,by omega⟩;obtain⟨b,rfl⟩:∃b':Nat,b=b':=⟨b.toNat,by omega⟩;have hL:=LO hk (s:=s) (b:=b) (by omega) (by omega) (by omega);obtain⟨r,l,m,mo⟩:=z;rcases hr with (rfl|rfl)|rfl
 ·exact Aj Ym _ hL
 ·exact Aj Yl _ hL
 ·exact Aj Yk _ hL
theorem Ub(hk:(k,k2)∈k6)(h:Wo k s b)(z:Q4)(hz:z∈gcs):A8 [(caO z).out k s b,.str "x",(caO z).inn k2 s b] Z=some (.inl (mkC k s b 45 15 z),Z):=by
 have h2:Wo "whole" s b:=⟨by decide,h.2⟩;exact Z0 (caO z) (λr=>Aj (Zk (k:=k) (k2:=k2) (s:=s) (b:=b) (r:=r)) z hz) (λr=>Zh z hz) (Yj hk h z hz) (λZ=>HL h h2 z hz (Aj KH z hz)) (Aj (fl2 (k:=k) (s:=s) (b:=b)) z hz) (Aj (cl2 (k:=k) (k2:=k2) (s:=s) (b:=b)) z hz)
theorem Vs(h:Wo k s b)(z:Q4)(hz:z∈gcs):AT [mkC k s b 45 15 z] Z=some (.inl .non,Z):=HL h ⟨by decide,h.2⟩ z hz (Aj KH z hz)
end
end K52
namespace Mi
open PySem L2
section
variable{i:Nat}{QD:D->Mh->Prop}
theorem Tu{i j:Int}{ν:Mh}(h:0<j)(q:0<=i % j->i % j<j->QD (.int (i % j)) ν):WP (EE (.int i) (.int j)) ν QD:=Qk h (q (Int.emod_nonneg _ (by omega)) (Int.emod_lt_of_pos _ h))
end
end Mi
local macro_rules | `(tactic| wtm_at "i")=>`(tactic| first|omega|(focus (simp;done))|(focus (simp;omega)))
local macro_rules | `(tactic| wtm_at "v")=>`(tactic| first|(left;constructor<;>omega)|(right;constructor<;>omega))
local macro_rules | `(tactic| wtm_at "m")=>`(tactic| first
 |((with_reducible apply Mi.Tu);(wtm_at "f");intro _ _)|((with_reducible apply Mi.wh_newB);(wtm_at "i"))|((with_reducible apply Mi.wq_newL);(wtm_at "i"))|((with_reducible apply Mi.N4);(wtm_at "i"))|wtm_at "l" |((with_reducible apply Mi.wh_app);rfl;rfl;(wtm_at "i"))|(with_reducible apply Mi.wkk_one)|((with_reducible apply Mi.wh_len);rfl)|(with_reducible apply Mi.wq_lenL)|(with_reducible apply Mi.wkk_whT)|(with_reducible apply Mi.wkk_whF)|(with_reducible apply Mi.IN)|(with_reducible apply Mi.wq_pow9)|((with_reducible apply Mi.Wn);(wtm_at "v"))|((with_reducible apply Mi.wh_sl);rfl)|(with_reducible apply Mi.wq_slL)|(with_reducible apply Mi.wq_neg)|((with_reducible apply Mi.wq_ixR);rfl)|((with_reducible apply Mi.wq_addL);(wtm_at "i"))|((with_reducible apply Mi.wq_addT);(wtm_at "i"))|((with_reducible apply Mi.wkk_rng);rfl;(wtm_at "f"))|(with_reducible apply Mi.wh_for1)
 |((with_reducible apply Mi.wkb_and)<;>intro _)|((with_reducible apply Mi.wkb_or)<;>intro _)|((with_reducible apply Mi.Qn)<;>intro _)|((with_reducible apply Mi.wkb_wh)<;>intro _)|(with_reducible refine And.intro rfl ?_)|(refine λ(_:true=true)=>?_))
local macro_rules | `(tactic| wtm_at "s")=>`(tactic| first|wtm_at "m")
local macro_rules | `(tactic| wtm_at "c")=>`(tactic| repeat' wtm_at "s")
local macro_rules | `(tactic| wtm_at "e")=>`(tactic| first|assumption|decide +kernel)
local macro_rules | `(tactic| wtm_at "k")=>`(tactic| first
 |(with_reducible apply K1.l_lenT)|(with_reducible apply K1.l_lenL)
 |((with_reducible apply K1.l_eqIT);wtm_at "d")|((with_reducible apply K1.l_eqIF);wtm_at "d")|((with_reducible apply K1.l_neIT);wtm_at "d")|((with_reducible apply K1.l_neIF);wtm_at "d")
 |((with_reducible apply K1.l_eqST);(wtm_at "e");(wtm_at "e");(first|rfl|wtm_at "e"))|((with_reducible apply K1.l_eqSF);(wtm_at "e");(wtm_at "e");(wtm_at "e"))|((with_reducible apply K1.l_neST);(wtm_at "e");(wtm_at "e");(wtm_at "e"))|((with_reducible apply K1.l_neSF);(wtm_at "e");(wtm_at "e");(first|rfl|wtm_at "e"))
 |((with_reducible apply K1.l_inT);wtm_at "e")|((with_reducible apply K1.l_inF);wtm_at "e")|((with_reducible apply K1.l_ninT);wtm_at "e"))
local macro_rules | `(tactic| wtm_at "k")=>`(tactic| first
 |(with_reducible apply K1.v_need)|((with_reducible apply K1.v_is_whole);(wtm_at "d");(wtm_at "d"))|((with_reducible apply K1.v_is_tuple);(first|wtm_at "d" |simp);(first|wtm_at "d" |simp)))
namespace K1
open PySem L2 Mi
section
variable{Z:Mh}{n:Nat}{d:D}
theorem VO{ds:List D}{i:Int}(hn:n<Z.length)(h2:atI ds i=some d):AM (.ref n) (.int i) (Z.set n (.lst ds))=some (d,Z.set n (.lst ds)):=Oo (List.getElem?_set_self hn) h2
end
end K1
local macro_rules | `(tactic| wtm_at "k")=>`(tactic| first
 |((with_reducible apply K1.VO);(assumption);(rfl))|((with_reducible apply K1.l_setSet);(assumption);(rfl)))
namespace K52
open PySem L2 Mi Xc
def WellAt(Z:Mh)(n:Nat):Prop:=∃a m c:Int,Z[n]?=some (.lst [.int a,.int m,.int c])
def Upd(n:Nat)(Z Z':Mh):Prop:=∃a m c:Int,Z'=Z.set n (.lst [.int a,.int m,.int c])
section
variable{Z:Mh}{n:Nat}
theorem WellAt.lt(h:WellAt Z n):n<Z.length:=by
 obtain⟨_,_,_,h⟩:=h;exact(AAT.mp h).1
theorem Upd.well{Z':Mh}(u:Upd n Z Z')(h:WellAt Z n):WellAt Z' n:=by
 obtain⟨a,m,c,rfl⟩:=u;exact⟨a,m,c,by rw[List.getElem?_set_self h.lt]⟩
theorem Upd.trans{w9 u9:Mh}(u:Upd n Z w9)(v:Upd n w9 u9):Upd n Z u9:=by
 obtain⟨a,m,c,rfl⟩:=u;obtain⟨a',m',c',rfl⟩:=v;exact⟨a',m',c',List.set_set ..⟩
theorem B2{N ps:Nat}{mb:Sl->M (Fl×Sl)}{ds:List D}{Z u9:Mh}{B:Sl}{d:D}(hl:Nat.beq (List.length ds) ps=true)(e:mb (BS N ds) Z=some ((.rt d,B),u9)):Az .all N ps mb ds Z=some (d,u9):=by
 unfold Az;rw[hl,e];rfl
theorem EJ{b:Int}(w:WellAt Z n)(hb:0<b)(hb2:b<1073741824):∃r Z',CM [.ref n,.int b] Z=some (.int r,Z')/\0<=r/\r<b/\Upd n Z Z':=by
 have hn:=w.lt;obtain⟨a,m,c,h⟩:=w;have hne:b≠0:=by omega
 by_cases h0:0<a
 ·have e:∃j4,Gs (BS 4 [.ref n,.int b]) Z=some ((.rt (.int (a % b)),j4),Z.set n (.lst [.int (a / b),.int m,.int c])):=by
   refine' ⟨_,Eq.trans ?e ?f⟩
   case e=>unfold Gs;wtm_at "a"
   case f=>rfl
  obtain⟨j4,e⟩:=e;exact⟨_,_,B2 rfl e,Int.emod_nonneg _ hne,Int.emod_lt_of_pos _ hb,_,_,_,rfl⟩
 ·have e:∃q j4,Gs (BS 4 [.ref n,.int b]) Z=some ((.rt (.int (q % b)),j4),Z.set n (.lst [.int a,.int m,.int (c+1)])):=by
   refine' ⟨_,_,Eq.trans ?e ?f⟩
   case e=>unfold Gs;wtm_at "a"
   case f=>rfl
  obtain⟨q,j4,e⟩:=e;exact⟨_,_,B2 rfl e,Int.emod_nonneg _ hne,Int.emod_lt_of_pos _ hb,_,_,_,rfl⟩
end
theorem Q8(ha:ra B Z=some (ds,Z))(h:φ ds Z=some (.inl d,Z')):J2 i (Ad φ ra) B Z=some ((.next,B.set i (some d)),Z'):=by
 have e1:Ad φ ra B Z=some (.inl d,Z'):=by unfold Ad;rw[AW ha];exact h
 unfold J2;rw[AW e1];rfl
theorem RD(ha:ra B Z=some (ds,Z))(h:φ ds Z=some (.inr x,Z')):J2 i (Ad φ ra) B Z=some ((.xc x,B),Z'):=by
 have e1:Ad φ ra B Z=some (.inr x,Z'):=by unfold Ad;rw[AW ha];exact h
 unfold J2;rw[AW e1];rfl
section
variable{O_ I nm d:D}
theorem N9(h:A8 [O_,nm,I] []=some (.inl d,[])):EG [O_,nm,I] []=some (d,[]):=by
 unfold EG;refine B2 (B:=[some O_,some nm,some I,some d,none,none]) rfl ?_;unfold K5;refine(Af (B':=[some O_,some nm,some I,some .non,none,none]) (Z':=[]) rfl).trans ?_;refine(Af (B':=[some O_,some nm,some I,some d,none,none]) (Z':=[]) ?_).trans rfl;unfold UJ;rw[AW (Q8 (B:=[some O_,some nm,some I,some .non,none,none]) rfl h)];rfl
theorem T7(h:A8 [O_,nm,I] []=some (.inr ("NoUpon",none),[])):EG [O_,nm,I] []=some (.non,[.exc "NoUpon" none]):=by
 unfold EG;refine B2 (B:=[some O_,some nm,some I,some .non,none,some (.bl false)]) rfl ?_;unfold K5;refine(Af (B':=[some O_,some nm,some I,some .non,none,none]) (Z':=[]) rfl).trans ?_;refine(Af (B':=[some O_,some nm,some I,some .non,none,some (.bl false)]) (Z':=[.exc "NoUpon" none]) ?_).trans rfl;unfold UJ;rw[AW (RD (B:=[some O_,some nm,some I,some .non,none,none]) rfl h)]
 kernel_rfl
end
theorem G6(ha:ra B Z=some (ds,Z))(h:φ ds Z=some (d,Z')):AX (AG φ ra) (AK i) B Z=some ((.next,B.set i (some d)),Z'):=by
 have e1:AG φ ra B Z=some (d,Z'):=by unfold AG;rw[AW ha];exact h
 unfold AX;rw[AW e1];rfl
theorem Gm(hc:Bm 0 [O_,nm,I,.bl false]=true)(h:A8 [O_,nm,I] []=some (.inr ("NoUpon",none),[])):An [O_,nm,I,.bl false] Z=some (.bl true,Z):=by
 unfold An;refine Gg (u9:=[.exc "NoUpon" none]) hc (B2 (B:=[some O_,some nm,some I,some (.bl false),some .non,none,none]) rfl ?_) rfl;unfold Iw;rw[Af (G6 rfl (T7 h))];rfl
noncomputable def odd:List D:=[.str "y",.str "",.lst [.str "x"],.non,.int 7,.tup [.str "x"]]
noncomputable abbrev noU:Option (Dx×Mh):=some (.inr ("NoUpon",none),[])
noncomputable abbrev puM:List D->M Dx:=CZ .all 13 3 (Fi F9 BF B1 DD BR CY BY AT)
theorem Ku:A8=FT puM:=rfl
section
variable{k k2:Str}{s b:Int}{H I:D}{Z:Mh}{r:BI}
theorem U7:odd.map (λnm=>puM [.tup [.str k,.int s,.int b,.tup [bx "x" k s b "w"],H],nm,I] [])=odd.map λ_=>noU:=by kernel_rfl
theorem Xa(h:nm∈odd)(hc:Bm 0 [.tup [.str k,.int s,.int b,.tup [bx "x" k s b "w"],H],nm,I]=true):A8 [.tup [.str k,.int s,.int b,.tup [bx "x" k s b "w"],H],nm,I] Z=some (.inr ("NoUpon",none),Z):=by
 rw[Ku];exact EV hc (Aj U7 nm h)
noncomputable def tF(k:Str)(s b:Int)(I:D)(c:Ca):Sl:=[some (c.out k s b),some (.str "x"),some I,some (.lst [.int 0]),some (bx "x" k s b "w"),some (.lst ((rs3.take c.r).map D.str)),none,none,none,none,none,none,none]
theorem Zj:gcs.map (λz=>PX r (BS 13 [(caO z).out k s b,.str "x",I]) [])=gcs.map λz=>r (tF k s b I (caO z)) []:=by kernel_rfl
theorem Rr(z:Q4)(hz:z∈gcs)(hc:Bm 0 [(caO z).out k s b,.str "x",I]=true)(hf:BF [bx "x" k s b "w",I,.int (((rs3.take (caO z).r).map D.str).length:Nat)] []=noU):A8 [(caO z).out k s b,.str "x",I] Z=some (.inr ("NoUpon",none),Z):=by
 rw[Ku];refine EV (u9:=[]) hc (Fx (B:=tF k s b I (caO z)) rfl ?_);rw[Lw];refine(Aj (Zj (k:=k) (s:=s) (b:=b) (I:=I)) z hz).trans ?_;exact Ia (Gz rfl hf)
theorem Pf(c:Ca)(fa:∀r,PX r (BS 13 [c.out k s b,.str "x",c.inn k2 s b]) []=r (tA k k2 s b c) [])(fb:∀r,RU r (tA k k2 s b c) []=r (tB k k2 s b c) (mB c))
  (hf:BF [bx "x" k s b "w",c.inn k2 s b,.int (((rs3.take c.r).map D.str).length:Nat)] []=some (.inl .non,[])) (hm:∀Z,AT [mkD k s b (nmB c) c.mo (hdB c)] Z=some (.inr ("NoMaking",none),Z)) (hcl:Bm 0 [c.out k s b,.str "x",c.inn k2 s b]=true) :
  A8 [c.out k s b,.str "x",c.inn k2 s b] Z=some (.inr ("NoUpon",none),Z):=by
 rw[Ku];refine EV (u9:=mB c) hcl (Fx (B:=tB k k2 s b c) rfl ?_);rw[Lw];refine(fa _).trans ?_;rw[Af (Cr rfl hf)];refine(fb _).trans ?_;have e1:Fa (Am (Ad AT (AB (AD 12) AI))) ["NoMaking"] "NoUpon" (tB k k2 s b c) (mB c)=some ((.xc ("NoUpon",none),tB k k2 s b c),mB c):=by
  unfold Fa;rw[AW (Gz rfl (hm _))];rfl
 exact Ia e1
end
noncomputable def sb3:List (Nat×Nat×Nat):=sbs.flatMap λz=>((List.range z.1).filter λc=>c != z.2).map λc=>(z.1,z.2,c)
noncomputable def k3:List (Str×Str):=[("steady", "safe"),("whole", "safe"),("whole", "steady")]
noncomputable def L4:List ((Str×Str)×Nat×Nat):=k3.flatMap λk=>sbs.map λz=>(k,z)
section
variable{k k2:Str}{bb a1 a2 a3:D}{hs:List D}{n s b:Int}
theorem YF:sbs.map (λz=>MN k k2 z.1 z.2 ((z.1+1:Nat):Int) 0 bb hs n)=sbs.map λ_=>noU:=by kernel_rfl
theorem VE:sb3.map (λz=>MN k k2 z.1 z.2.1 z.1 z.2.2 bb hs n)=sb3.map λ_=>noU:=by kernel_rfl
theorem YG:L4.map (λc=>MN c.1.1 c.1.2 c.2.1 c.2.2 c.2.1 c.2.2 bb hs n)=L4.map λ_=>noU:=by kernel_rfl
theorem cN:L1.map (λc=>MN c.1.1 c.1.2 c.2.1 c.2.2 c.2.1 c.2.2 bb [a1,a2] 2)=L1.map λ_=>noU:=by kernel_rfl
theorem cM:L1.map (λc=>MN c.1.1 c.1.2 c.2.1 c.2.2 c.2.1 c.2.2 bb [a1,a2,a3] 3)=L1.map λ_=>noU:=by kernel_rfl
noncomputable abbrev noM:Option (Dx×Mh):=some (.inr ("NoMaking",none),[])
noncomputable def rm9:List (Nat×Nat):=[1,2,3].flatMap λr=>[1,2,3].map λm=>(r,m)
theorem Nc:rm9.map (λc=>Ay [.tup (hds c.1 (59-c.2) c.2 45 15)] [])=rm9.map λ_=>noM:=by kernel_rfl
noncomputable def gw2:List (Nat×Nat×Nat):=rm9.flatMap λz=>(ones.filter λo=>o != 1).map λo=>(z.1,z.2,o)
theorem Nb:gw2.map (λc=>Ay [.tup (hds c.1 0 c.2.1 (((400 / c.2.2+1) * c.2.2:Nat):Int) ((3 * c.2.2:Nat):Int))] [])=gw2.map λ_=>noM:=by kernel_rfl
theorem Np:[1,2,3,4,5].map (λmo=>BP [.tup (mkB s b ((nl 0).take (7-mo)) mo)] [])=[1,2,3,4,5].map λ_=>noM:=by kernel_rfl
theorem Kx(hk:Wo k s b)(hc:Bm 0 [.tup [.str k,.int s,.int b,.tup bs,.tup hs]]=true)(hb:BP [.tup bs] []=noM):AT [.tup [.str k,.int s,.int b,.tup bs,.tup hs]] Z=some (.inr ("NoMaking",none),Z):=by
 rw[TW];refine EV (u9:=[]) hc (Fx (B:=[some (.tup [.str k,.int s,.int b,.tup bs,.tup hs]),none,none,none,none,none]) rfl ?_);refine Eq.trans Nl ?_;rw[Af (Cr rfl hk.ok)];exact Ia (Gz rfl hb)
theorem Gq(hk:Wo k s b)(hc:Bm 0 [.tup [.str k,.int s,.int b,.tup bs,.tup hs]]=true)(hb:BP [.tup bs] []=some (.inl .non,[]))(hh:Ay [.tup hs] []=noM):AT [.tup [.str k,.int s,.int b,.tup bs,.tup hs]] Z=some (.inr ("NoMaking",none),Z):=by
 rw[TW];refine EV (u9:=[]) hc (Fx (B:=[some (.tup [.str k,.int s,.int b,.tup bs,.tup hs]),none,none,none,none,none]) rfl ?_);refine Eq.trans Nl ?_;rw[Af (Cr rfl hk.ok),Af (Cr rfl hb)];exact Ia (Gz rfl hh)
end
noncomputable def bsh:List Q4:=[(1,58,1,0),(1,57,2,0),(1,56,3,0),(2,58,1,0),(2,57,2,0),(2,56,3,0),(3,58,1,0),(3,57,2,0),(3,56,3,0),(1,0,6,1),(1,0,5,2),(1,0,4,3),(1,0,3,4),(1,0,2,5),(2,0,6,1),(2,0,5,2),(2,0,4,3),(2,0,3,4),(2,0,2,5),(3,0,6,1),(3,0,5,2),(3,0,4,3),(3,0,3,4),(3,0,2,5)]
section
variable{k k2:Str}{s b:Int}{r:BI}
theorem Zi:bsh.map (λz=>PX r (BS 13 [(caO z).out k s b,.str "x",(caO z).inn k2 s b]) [])=bsh.map λz=>r (tA k k2 s b (caO z)) []:=by kernel_rfl
theorem cln:bsh.map (λz=>Bm 0 [(caO z).out k s b,.str "x",(caO z).inn k2 s b])=bsh.map λ_=>true:=by kernel_rfl
theorem clm:bsh.map (λz=>Bm 0 [mkC k s b 45 15 z])=bsh.map λ_=>true:=by kernel_rfl
theorem rn0:([(1,58,1,0)]:List Q4).map (rbL k k2 s b r)=([(1,58,1,0)]:List Q4).map (rbR k k2 s b r):=by kernel_rfl
theorem rn1:([(1,57,2,0)]:List Q4).map (rbL k k2 s b r)=([(1,57,2,0)]:List Q4).map (rbR k k2 s b r):=by kernel_rfl
theorem rn2:([(1,56,3,0)]:List Q4).map (rbL k k2 s b r)=([(1,56,3,0)]:List Q4).map (rbR k k2 s b r):=by kernel_rfl
theorem rn3:([(2,58,1,0)]:List Q4).map (rbL k k2 s b r)=([(2,58,1,0)]:List Q4).map (rbR k k2 s b r):=by kernel_rfl
theorem rn4:([(2,57,2,0)]:List Q4).map (rbL k k2 s b r)=([(2,57,2,0)]:List Q4).map (rbR k k2 s b r):=by kernel_rfl
theorem rn5:([(2,56,3,0)]:List Q4).map (rbL k k2 s b r)=([(2,56,3,0)]:List Q4).map (rbR k k2 s b r):=by kernel_rfl
theorem rn6:([(3,58,1,0)]:List Q4).map (rbL k k2 s b r)=([(3,58,1,0)]:List Q4).map (rbR k k2 s b r):=by kernel_rfl
theorem rn7:([(3,57,2,0)]:List Q4).map (rbL k k2 s b r)=([(3,57,2,0)]:List Q4).map (rbR k k2 s b r):=by kernel_rfl
theorem rn8:([(3,56,3,0)]:List Q4).map (rbL k k2 s b r)=([(3,56,3,0)]:List Q4).map (rbR k k2 s b r):=by kernel_rfl
theorem rn9:([(1,0,6,1),(1,0,5,2),(1,0,4,3)]:List Q4).map (rbL k k2 s b r)=([(1,0,6,1),(1,0,5,2),(1,0,4,3)]:List Q4).map (rbR k k2 s b r):=by kernel_rfl
theorem be:([(1,0,3,4),(1,0,2,5)]:List Q4).map (rbL k k2 s b r)=([(1,0,3,4),(1,0,2,5)]:List Q4).map (rbR k k2 s b r):=by kernel_rfl
theorem bd:([(2,0,6,1),(2,0,5,2),(2,0,4,3)]:List Q4).map (rbL k k2 s b r)=([(2,0,6,1),(2,0,5,2),(2,0,4,3)]:List Q4).map (rbR k k2 s b r):=by kernel_rfl
theorem bc:([(2,0,3,4),(2,0,2,5)]:List Q4).map (rbL k k2 s b r)=([(2,0,3,4),(2,0,2,5)]:List Q4).map (rbR k k2 s b r):=by kernel_rfl
theorem ba:([(3,0,6,1),(3,0,5,2),(3,0,4,3)]:List Q4).map (rbL k k2 s b r)=([(3,0,6,1),(3,0,5,2),(3,0,4,3)]:List Q4).map (rbR k k2 s b r):=by kernel_rfl
theorem bZ:([(3,0,3,4),(3,0,2,5)]:List Q4).map (rbL k k2 s b r)=([(3,0,3,4),(3,0,2,5)]:List Q4).map (rbR k k2 s b r):=by kernel_rfl
noncomputable def ptn:List (List Q4):=[[(1,58,1,0)],[(1,57,2,0)],[(1,56,3,0)],[(2,58,1,0)],[(2,57,2,0)],[(2,56,3,0)],[(3,58,1,0)],[(3,57,2,0)],[(3,56,3,0)],[(1,0,6,1),(1,0,5,2),(1,0,4,3)],[(1,0,3,4),(1,0,2,5)],[(2,0,6,1),(2,0,5,2),(2,0,4,3)],[(2,0,3,4),(2,0,2,5)],[(3,0,6,1),(3,0,5,2),(3,0,4,3)],[(3,0,3,4),(3,0,2,5)]]
theorem Ud:bsh.all (λz=>ptn.any λp=>p.contains z)=true:=by decide +kernel
theorem Zg(z:Q4)(hz:z∈bsh):rbL k k2 s b r z=rbR k k2 s b r z:=by
 obtain⟨p,hp,h⟩:=List.any_eq_true.mp (List.all_eq_true.mp Ud z hz);have h:z∈p:=by simpa using h
 unfold ptn at hp;simp only[AAJ,List.not_mem_nil,or_false] at hp;rcases hp with rfl|rfl|rfl|rfl|rfl|rfl|rfl|rfl|rfl|rfl|rfl|rfl|rfl|rfl|rfl
 ·exact Aj rn0 z h
 ·exact Aj rn1 z h
 ·exact Aj rn2 z h
 ·exact Aj rn3 z h
 ·exact Aj rn4 z h
 ·exact Aj rn5 z h
 ·exact Aj rn6 z h
 ·exact Aj rn7 z h
 ·exact Aj rn8 z h
 ·exact Aj rn9 z h
 ·exact Aj be z h
 ·exact Aj bd z h
 ·exact Aj bc z h
 ·exact Aj ba z h
 ·exact Aj bZ z h
end
theorem YJ:wcs.map (λc=>Dd (.tup [.str c.1,.int c.2.1,.int c.2.2]) (.tup [.str c.1,.int c.2.1,.int c.2.2]) [])=wcs.map λ_=>some (D.bl false,([]:Mh)):=by kernel_rfl
theorem WT(h:Wo k s b):Dd (.tup [.str k,.int s,.int b]) (.tup [.str k,.int s,.int b]) []=some (.bl false,[]):=by
 obtain⟨h1,h2,h3,h4,h5⟩:=h;obtain⟨s,rfl⟩:∃s':Nat,s=s':=⟨s.toNat,by omega⟩;obtain⟨b,rfl⟩:∃b':Nat,b=b':=⟨b.toNat,by omega⟩;refine Aj YJ (k,s,b) (List.mem_flatMap.mpr ⟨k,h1,List.mem_flatMap.mpr ⟨s,?_,AAL.mpr ⟨b,List.mem_range.mpr (by omega),rfl⟩⟩⟩);have:s=2∨s=3∨s=4∨s=5∨s=6∨s=7∨s=8∨s=9:=by omega
 simpa using this
theorem L0(h1:a B Z=some (false,w9)):mOr a b B Z=b B w9:=by
 unfold mOr;rw[AW h1];rfl
theorem Na(h:c B Z=some (false,w9)):sIf c m1 m2 B Z=m2 B w9:=by
 unfold sIf;rw[AW h];rfl
noncomputable def lr4(r:BI):BI:=AO (AX (AG KA (AB (mOp Ah (AG A0 (AB (mC (.int 1)) AI)) (A7 1 [] (BC (mOp AM (AD 2) (mC (.int 4)))) (AK 0) BH (mOp AM (AD 0) (mC (.int 1))) A0)) AI)) (AK 5)) r
noncomputable def lr6:BI:=(AO (AX (mOp Ah (AG A0 (AB (mOp Ah (AG Bc (AB (mOp AM (mOp AM (mOp AM (AD 0) (mC (.int 4))) (mC (.int 0))) (mC (.int 2))) AI)) (AG Bc (AB (mOp AM (mOp AM (mOp AM (AD 2) (mC (.int 4))) (mC (.int 0))) (mC (.int 2))) AI))) AI)) (mOp C7 (AG A0 (AB (mC (.int 4)) AI)) (mOp Bq (AG Bc (AB (mOp AM (AD 0) (mC (.int 4))) AI)) (mC (.int 1))))) (AK 6))
  (AO (sIf (AS (mOp Dd (A7 1 [] (BC (mOp AM (AD 4) (mC (.int 4)))) (AK 0) BH (AG Bc (AB (mOp AM (AD 0) (mC (.int 2))) AI)) A0) (AD 6))) (Ao (mC (.bl false))) A6)
  (AO (sIf (AS (mOp Dd (A7 1 [] (BC (mOp AM (AD 4) (mC (.int 4)))) (AK 0) BH (mOp AM (AD 0) (mC (.int 0))) A0) (A7 1 [] (BC (mOp AM (AD 0) (mC (.int 4)))) (AK 0) BH (mOp AM (AD 0) (mC (.int 0))) A0))) (Ao (mC (.bl false))) A6)
  (Ao (mOp BO (A7 1 [] (BC (mOp AM (AD 4) (mC (.int 4)))) (AK 0) BH (mOp AM (AD 0) (mC (.int 1))) A0) (A7 1 [5] (BC (mOp AM (AD 0) (mC (.int 4)))) (AK 0) BH (mOp C7 (mOp AM (AD 0) (mC (.int 1))) (AD 1)) A0))))))
theorem Wa:Iw f1 f2=AO (AX (AG f1 (AB (AD 0) (AB (AD 1) (AB (AD 2) AI)))) (AK 4)) (AO (sIf (Ce (AS (AD 3))) (Ao (mOp (GC false) (AD 4) (mC .non))) A6) (AO (sIf (mOr (AS (mOp (GC false) (AD 4) (mC .non))) (mOr (AS (mOp BO (AD 4) (mC (.str "other")))) (AS (mOp (GC true) (AG (vals f2) (AB (AD 4) AI)) (mC .non))))) (Ao (mC (.bl false))) A6) (lr4 (AO (sIf (mOr (AS (mOp Dd (AG Bc (AB (mOp AM (AD 4) (mC (.int 3))) AI)) (mOp Ah (mOp Bq (AG Bc (AB (mOp AM (AD 0) (mC (.int 3))) AI)) (mC (.int 1))) (AG Bc (AB (mOp AM (AD 2) (mC (.int 3))) AI))))) (AS (mOp Dd (Cw (AD 4) BJ (BV (mC (.int 3)))) (Cw (AD 0) BJ (BV (mC (.int 3))))))) (Ao (mC (.bl false))) A6) lr6)))):=rfl
section
variable{k k2:Str}{s b:Int}{r:BI}
noncomputable abbrev tR(k k2:Str)(s b:Int)(z:Q4)(x y:Option D):Sl:=[some ((caO z).out k s b),some (.str "x"),some ((caO z).inn k2 s b),some (.bl true),some (mkC k s b 45 15 z),x,y]
noncomputable def kg:List (Str×Q4):=kd3.flatMap λk=>gcs.map λz=>(k,z)
theorem eqO:kg.map (λc=>AS (mOp BO (AD 4) (mC (.str "other"))) (tR c.1 k2 s b c.2 none none) [])=kg.map λ_=>some (false,([]:Mh)):=by kernel_rfl
theorem VM:gcs.map (λz=>lr4 r (tR k k2 s b z none none) [])=gcs.map λz=>r (tR k k2 s b z (some (.int 5)) none) []:=by kernel_rfl
noncomputable def N8:Option ((Fl×Sl)×Mh)->Bool
 |some ((.rt (.bl true),_),_)=>true
 |_=>false
theorem IT(h:N8 x=true):∃B Z,x=some ((.rt (.bl true),B),Z):=by
 match x,h with
 |some ((.rt (.bl true),B),Z),_=>exact⟨B,Z,rfl⟩
theorem VL:gcs.map (λz=>N8 (lr6 (tR k k2 s b z (some (.int 5)) none) []))=gcs.map λ_=>true:=by kernel_rfl
theorem clR:gcs.map (λz=>Bm 0 [(caO z).out k s b,.str "x",(caO z).inn k2 s b,.bl true])=gcs.map λ_=>true:=by kernel_rfl
theorem cC:gcs.map (λz=>AS (mOp Dd (AG Bc (AB (mOp AM (AD 4) (mC (.int 3))) AI)) (mOp Ah (mOp Bq (AG Bc (AB (mOp AM (AD 0) (mC (.int 3))) AI)) (mC (.int 1))) (AG Bc (AB (mOp AM (AD 2) (mC (.int 3))) AI)))) (tR k k2 s b z (some (.int 5)) none) [])=gcs.map λ_=>some (false,([]:Mh)):=by kernel_rfl
theorem Em(hk:(k,k2)∈k6)(h:Wo k s b)(z:Q4)(hz:z∈gcs):An [(caO z).out k s b,.str "x",(caO z).inn k2 s b,.bl true] Z=some (.bl true,Z):=by
 have p:=Ub (Z:=[]) hk h z hz;have hkz:(k,z)∈kg:=List.mem_flatMap.mpr ⟨k,h.1,AAL.mpr ⟨z,hz,rfl⟩⟩;obtain⟨B,u9,er⟩:=IT (Aj (VL (k:=k) (k2:=k2) (s:=s) (b:=b)) z hz);have v:AG (vals AT) (AB (AD 4) AI) (tR k k2 s b z none none) []=some (.non,[]):=by
  unfold AG;rw[AW (show AB (AD 4) AI (tR k k2 s b z none none) []=some ([mkC k s b 45 15 z],[]) from rfl)];unfold vals;rw[Vs h z hz]
 have t3:AS (mOp (GC true) (AG (vals AT) (AB (AD 4) AI)) (mC .non)) (tR k k2 s b z none none) []=some (false,[]):=by
  have e1:mOp (GC true) (AG (vals AT) (AB (AD 4) AI)) (mC .non) (tR k k2 s b z none none) []=some (.bl false,[]):=by
   unfold mOp;rw[AW v];rfl
  unfold AS;rw[AW e1];rfl
 unfold An;refine Gg (u9:=u9) (Aj (clR (k:=k) (k2:=k2) (s:=s) (b:=b)) z hz) (B2 (B:=B) rfl ?_) rfl;rw[Wa];refine(Af (B':=tR k k2 s b z none none) (Z':=[]) (G6 rfl (N9 p))).trans ?_;refine(Af (B':=tR k k2 s b z none none) (Z':=[]) rfl).trans ?_;refine(Af (B':=tR k k2 s b z none none) (Z':=[]) ?_).trans ?_
 ·refine(Na (w9:=[]) ?_).trans rfl;refine(L0 (w9:=[]) rfl).trans ((L0 (w9:=[]) ?_).trans t3);exact Aj (eqO (k2:=k2) (s:=s) (b:=b)) (k,z) hkz
 refine(Aj (VM (k:=k) (k2:=k2) (s:=s) (b:=b)) z hz).trans ?_;refine(Af (B':=tR k k2 s b z (some (.int 5)) none) (Z':=[]) ?_).trans er;refine(Na (w9:=[]) ?_).trans rfl;refine(L0 (w9:=[]) (Aj (cC (k:=k) (k2:=k2) (s:=s) (b:=b)) z hz)).trans ?_;have e5:mOp Dd (Cw (AD 4) BJ (BV (mC (.int 3)))) (Cw (AD 0) BJ (BV (mC (.int 3)))) (tR k k2 s b z (some (.int 5)) none) []=some (.bl false,[]):=by
  unfold mOp;rw[AW (show Cw (AD 4) BJ (BV (mC (.int 3))) (tR k k2 s b z (some (.int 5)) none) []=some (.tup [.str k,.int s,.int b],[]) from rfl),AW (show Cw (AD 0) BJ (BV (mC (.int 3))) (tR k k2 s b z (some (.int 5)) none) []=some (.tup [.str k,.int s,.int b],[]) from rfl)];exact WT h
 unfold AS;rw[AW e5];rfl
end
section
variable{k k2:Str}{s b:Int}{Z:Mh}
theorem Vj(hk:(k,k2)∈k6)(h:Wo k s b)(z:Q4)(hr:(z.1=1∨z.1=2)∨z.1=3):BF [bx "x" k s b "w",(caO z).inn k2 s b,.int (((rs3.take (caO z).r).map D.str).length:Nat)] []=some (.inl .non,[]):=by
 obtain⟨_,h1,h2,h3,h4⟩:=h;obtain⟨s,rfl⟩:∃s':Nat,s=s':=⟨s.toNat,by omega⟩;obtain⟨b,rfl⟩:∃b':Nat,b=b':=⟨b.toNat,by omega⟩;have hL:=LO hk (s:=s) (b:=b) (by omega) (by omega) (by omega);obtain⟨r,l,m,mo⟩:=z;rcases hr with (rfl|rfl)|rfl
 ·exact Aj Ym _ hL
 ·exact Aj Yl _ hL
 ·exact Aj Yk _ hL
theorem Rb:bsh.all (λz=>(z.1==1||z.1==2||z.1==3)&&(if z.2.2.2==0 then rm9.contains (z.1,z.2.2.1)&&(z.2.1==59-z.2.2.1)&&bcs.contains (Vy z) else [1,2,3,4,5].contains z.2.2.2&&z.2.1==0&&z.2.2.1==7-z.2.2.2))=true:=by decide +kernel
theorem Vx:(bsh.filter λz=>z.2.2.2==0).map (λc=>mkB s b ((nl c.2.1).take c.2.2.1) c.2.2.2)=(bsh.filter λz=>z.2.2.2==0).map λc=>bsC s b (Vy c):=by kernel_rfl
theorem aM(h:Wo k s b)(z:Q4)(hz:z∈bsh):AT [mkC k s b 45 15 z] Z=some (.inr ("NoMaking",none),Z):=by
 have a:=List.all_eq_true.mp Rb z hz;simp only[Bool.and_eq_true] at a;obtain⟨_,a⟩:=a;have hc:=Aj (clm (k:=k) (s:=s) (b:=b)) z hz;by_cases h0:z.2.2.2=0
 ·rw[if_pos (by simpa using h0)] at a;simp only[Bool.and_eq_true,beq_iff_eq] at a;obtain⟨⟨a1,a2⟩,a3⟩:=a;refine Gq h hc ?_ ?_
  ·rw[Aj (Vx (s:=s) (b:=b)) z (List.mem_filter.mpr ⟨hz,by simpa using h0⟩)];exact JR ⟨by decide,h.2⟩ _ (by simpa using a3)
  ·have e:=Aj Nc (z.1,z.2.2.1) (by simpa using a1);rw[←a2] at e;exact e
 ·rw[if_neg (by simpa using h0)] at a;simp only[Bool.and_eq_true,beq_iff_eq] at a;obtain⟨⟨a1,a2⟩,a3⟩:=a;refine Kx h hc ?_;have e:=Aj (Np (s:=s) (b:=b)) z.2.2.2 (by simpa using a1);rw[←a3] at e;rw[a2];exact e
theorem J4(hk:(k,k2)∈k6)(h:Wo k s b)(z:Q4)(hz:z∈bsh):An [(caO z).out k s b,.str "x",(caO z).inn k2 s b,.bl false] Z=some (.bl true,Z):=by
 have a:=List.all_eq_true.mp Rb z hz;simp only[Bool.and_eq_true,Bool.or_eq_true,beq_iff_eq] at a;have hc:=Aj (cln (k:=k) (k2:=k2) (s:=s) (b:=b)) z hz;refine Gm ?_ (Pf (caO z) (λr=>Aj (Zi (k:=k) (k2:=k2) (s:=s) (b:=b) (r:=r)) z hz) (λr=>Zg z hz) (Vj hk h z a.1) (λZ=>aM h z hz) hc);unfold Bm at hc ⊢;split at hc
 ·unfold Bm at hc ⊢;split at hc
  ·unfold Bm at hc ⊢;split at hc
   ·rfl
   ·cases hc
  ·cases hc
 ·cases hc
end
theorem Nm(hc:Bm 0 [a,b,c]=true):Bm 0 [a,b,c,.bl false]=true:=by
 unfold Bm at hc ⊢;split at hc
 ·unfold Bm at hc ⊢;split at hc
  ·unfold Bm at hc ⊢;split at hc
   ·rfl
   ·cases hc
  ·cases hc
 ·cases hc
section
variable{k k2:Str}{s b s2 b2 w2:Int}{Z:Mh}
noncomputable def odr:List (D×Nat×Nat):=odd.flatMap λnm=>rm9.map λz=>(nm,z)
theorem clO:odr.map (λz=>Bm 0 [De k s b z.2.1 0 9 0,z.1,B8 k2 s2 b2 z.2.1 z.2.2 w2])=odr.map λ_=>true:=by kernel_rfl
theorem PY(h:nm∈odd)(z:Nat×Nat)(hz:z∈rm9):An [De k s b z.1 0 9 0,nm,B8 k2 s b z.1 z.2 5,.bl false] Z=some (.bl true,Z):=by
 have hc:=Aj (clO (k:=k) (k2:=k2) (s:=s) (b:=b) (s2:=s) (b2:=b) (w2:=5)) (nm,z) (List.mem_flatMap.mpr ⟨nm,h,AAL.mpr ⟨z,hz,rfl⟩⟩);exact Gm (Nm hc) (Xa (H:=.tup (NH z.1 0 9)) h hc)
theorem Lp(z:Q4)(hz:z∈gcs)(hc:Bm 0 [(caO z).out k s b,.str "x",I]=true)(hf:BF [bx "x" k s b "w",I,.int (((rs3.take (caO z).r).map D.str).length:Nat)] []=noU):An [(caO z).out k s b,.str "x",I,.bl false] Z=some (.bl true,Z):=Gm (Nm hc) (Rr z hz hc hf)
noncomputable def rr:List (Nat×Nat×Nat):=[1,2,3].flatMap λr=>[1,2,3].flatMap λr2=>[1,2,3].map λm=>(r,r2,m)
theorem clF:rr.map (λz=>Bm 0 [De k s b z.1 0 9 0,.str "x",B8 k2 s2 b2 z.2.1 z.2.2 5])=rr.map λ_=>true:=by kernel_rfl
theorem cJ:rr.all (λz=>gcs.contains (z.1,0,1,0))=true:=by decide +kernel
theorem Fb(z:Nat×Nat×Nat)(hz:z∈rr)(hf:BF [bx "x" k s b "w",B8 k2 s2 b2 z.2.1 z.2.2 5,.int (((rs3.take z.1).map D.str).length:Nat)] []=noU):An [De k s b z.1 0 9 0,.str "x",B8 k2 s2 b2 z.2.1 z.2.2 5,.bl false] Z=some (.bl true,Z):=
 Lp (z.1,0,1,0) (by simpa using List.all_eq_true.mp cJ z hz) (Aj (clF (k:=k) (k2:=k2) (s:=s) (b:=b) (s2:=s2) (b2:=b2)) z hz) hf
theorem M7(h:Wo k s b)(z:Nat×Nat×Nat)(hz:z∈rr):An [De k s b z.1 0 9 0,.str "x",B8 k2 (s+1) 0 z.2.1 z.2.2 5,.bl false] Z=some (.bl true,Z):=by
 obtain⟨_,h1,h2,h3,h4⟩:=h;obtain⟨s,rfl⟩:∃s':Nat,s=s':=⟨s.toNat,by omega⟩;obtain⟨b,rfl⟩:∃b':Nat,b=b':=⟨b.toNat,by omega⟩;refine Fb z hz (Aj YF (s,b) (List.mem_flatMap.mpr ⟨s,?_,AAL.mpr ⟨b,List.mem_range.mpr (by omega),rfl⟩⟩));have:s=2∨s=3∨s=4∨s=5∨s=6∨s=7∨s=8∨s=9:=by omega
 simpa using this
theorem RK{s b:Nat}(h1:2<=s)(h2:s<=9)(h3:b<s):(s,b)∈sbs:=by
 refine List.mem_flatMap.mpr ⟨s,?_,AAL.mpr ⟨b,List.mem_range.mpr h3,rfl⟩⟩;have:s=2∨s=3∨s=4∨s=5∨s=6∨s=7∨s=8∨s=9:=by omega
 simpa using this
theorem Lr(h:Wo k s b)(g0:0<=b2)(g1:b2<s)(g2:b2≠b)(z:Nat×Nat×Nat)(hz:z∈rr):An [De k s b z.1 0 9 0,.str "x",B8 k2 s b2 z.2.1 z.2.2 5,.bl false] Z=some (.bl true,Z):=by
 obtain⟨_,h1,h2,h3,h4⟩:=h;obtain⟨s,rfl⟩:∃s':Nat,s=s':=⟨s.toNat,by omega⟩;obtain⟨b,rfl⟩:∃b':Nat,b=b':=⟨b.toNat,by omega⟩;obtain⟨b2,rfl⟩:∃b':Nat,b2=b':=⟨b2.toNat,by omega⟩;exact Fb z hz (Aj VE (s,b,b2) (List.mem_flatMap.mpr ⟨(s,b),RK (by omega) (by omega) (by omega),AAL.mpr ⟨b2,List.mem_filter.mpr ⟨List.mem_range.mpr (by omega),by simp;omega⟩,rfl⟩⟩))
theorem M6(hk:(k,k2)∈k3)(h:Wo k s b)(z:Nat×Nat×Nat)(hz:z∈rr):An [De k s b z.1 0 9 0,.str "x",B8 k2 s b z.2.1 z.2.2 5,.bl false] Z=some (.bl true,Z):=by
 obtain⟨_,h1,h2,h3,h4⟩:=h;obtain⟨s,rfl⟩:∃s':Nat,s=s':=⟨s.toNat,by omega⟩;obtain⟨b,rfl⟩:∃b':Nat,b=b':=⟨b.toNat,by omega⟩;exact Fb z hz (Aj YG ((k,k2),s,b) (List.mem_flatMap.mpr ⟨(k,k2),hk,AAL.mpr ⟨(s,b),RK (by omega) (by omega) (by omega),rfl⟩⟩))
theorem J3(hk:(k,k2)∈k6)(h:Wo k s b)(m:Nat)(hm:m=1∨m=2∨m=3):An [De k s b 2 0 9 0,.str "x",B8 k2 s b 1 m 5,.bl false] Z=some (.bl true,Z)/\An [De k s b 3 0 9 0,.str "x",B8 k2 s b 2 m 5,.bl false] Z=some (.bl true,Z):=by
 obtain⟨_,h1,h2,h3,h4⟩:=h;obtain⟨s,rfl⟩:∃s':Nat,s=s':=⟨s.toNat,by omega⟩;obtain⟨b,rfl⟩:∃b':Nat,b=b':=⟨b.toNat,by omega⟩;have hL:=LO hk (s:=s) (b:=b) (by omega) (by omega) (by omega);constructor
 ·exact Fb (2,1,m) (by rcases hm with rfl|rfl|rfl<;>decide) (Aj cN _ hL)
 ·exact Fb (3,2,m) (by rcases hm with rfl|rfl|rfl<;>decide) (Aj cM _ hL)
end
noncomputable abbrev P2:=Nat×Nat
noncomputable def caW(w t:Int)(z:P2):Ca:=⟨z.1,0,0,w,z.1,z.2,t⟩
noncomputable abbrev z4(z:P2):Q4:=(z.1,0,z.2,0)
noncomputable abbrev bY(t:Int)(r:BI):BI:=puB B1 DD BR CY (hqF t) r
noncomputable def tW(k k2:Str)(s b w t:Int)(z:P2):Sl:=[some ((caW w t z).out k s b),some (.str "x"),some ((caW w t z).inn k2 s b),some (.lst [.int 0]),some (bx "x" k s b "w"),some (.lst ((rs3.take z.1).map D.str)),dS (caO (z4 z)) 6,dS (caO (z4 z)) 7,dS (caO (z4 z)) 8,dS (caO (z4 z)) 9,some (.tup (mkB s b (nmB (caW w t z)) 0)),some (.lst (hdB (caW w t z))),some (mkD k s b (nmB (caW w t z)) 0 (hdB (caW w t z)))]
section
variable{k k2:Str}{s b w t:Int}{r:BI}
theorem WH:rm9.map (λz=>PX r (BS 13 [(caW w t z).out k s b,.str "x",(caW w t z).inn k2 s b]) [])=rm9.map λz=>r (tA k k2 s b (caW w t z)) []:=by kernel_rfl
theorem clW:rm9.map (λz=>Bm 0 [(caW w t z).out k s b,.str "x",(caW w t z).inn k2 s b])=rm9.map λ_=>true:=by kernel_rfl
theorem cR:rm9.map (λz=>Bm 0 [mkC k s b (w * t) (3 * t) (z4 z)])=rm9.map λ_=>true:=by kernel_rfl
theorem flW:rm9.map (λz=>flB (mkC k s b (w * t) (3 * t) (z4 z)))=rm9.map λ_=>true:=by kernel_rfl
noncomputable abbrev rwL(k k2:Str)(s b w t:Int)(r:BI)(z:P2):=bY t r (tA k k2 s b (caW w t z)) []
noncomputable abbrev rwR(k k2:Str)(s b w t:Int)(r:BI)(z:P2):=r (tW k k2 s b w t z) (mB (caO (z4 z)))
theorem rw1:([(1,1),(1,2),(1,3)]:List P2).map (rwL k k2 s b w t r)=([(1,1),(1,2),(1,3)]:List P2).map (rwR k k2 s b w t r):=by kernel_rfl
theorem rw2:([(2,1),(2,2),(2,3)]:List P2).map (rwL k k2 s b w t r)=([(2,1),(2,2),(2,3)]:List P2).map (rwR k k2 s b w t r):=by kernel_rfl
theorem rw3:([(3,1),(3,2),(3,3)]:List P2).map (rwL k k2 s b w t r)=([(3,1),(3,2),(3,3)]:List P2).map (rwR k k2 s b w t r):=by kernel_rfl
theorem Zo:rm9.all (λz=>(z.1==1||z.1==2||z.1==3)&&gcs.contains (z4 z)&&(z.2==1||z.2==2||z.2==3))=true:=by decide +kernel
theorem EK(z:P2)(hz:z∈rm9):((z.1=1∨z.1=2)∨z.1=3)/\z4 z∈gcs/\((z.2=1∨z.2=2)∨z.2=3):=by
 have h:=List.all_eq_true.mp Zo z hz;simp only[Bool.and_eq_true,Bool.or_eq_true,beq_iff_eq] at h;exact⟨h.1.1,by simpa using h.1.2,h.2⟩
theorem WG(z:P2)(hz:z∈rm9)(ht:1<=t)(hw:-(2 ^ 64)<w/\w<2 ^ 64):RU r (tA k k2 s b (caW w t z)) []=rwR k k2 s b w t r z:=by
 have h:=EK z hz;refine(Xd (k:=k) (k2:=k2) (s:=s) (b:=b) (w:=w) (t:=t) (r:=z.1) (m:=z.2) (l:=0) (mo:=0) rfl rfl h.1 ht hw).trans ?_;obtain⟨r',m⟩:=z;obtain⟨h1,_,h2⟩:=h;rcases h1 with (h1|h1)|h1<;>(have h1:r'=_:=h1;subst h1;rcases h2 with (h2|h2)|h2<;>(have h2:m=_:=h2;subst h2))
 ·exact Aj rw1 _ (by decide)
 ·exact Aj rw1 _ (by decide)
 ·exact Aj rw1 _ (by decide)
 ·exact Aj rw2 _ (by decide)
 ·exact Aj rw2 _ (by decide)
 ·exact Aj rw2 _ (by decide)
 ·exact Aj rw3 _ (by decide)
 ·exact Aj rw3 _ (by decide)
 ·exact Aj rw3 _ (by decide)
variable{Z:Mh}
theorem ae(hk:(k,k2)∈k6)(h:Wo k s b)(z:P2)(hz:z∈rm9):BF [bx "x" k s b "w",(caW w t z).inn k2 s b,.int (((rs3.take z.1).map D.str).length:Nat)] []=some (.inl .non,[]):=by
 obtain⟨_,h1,h2,h3,h4⟩:=h;obtain⟨s,rfl⟩:∃s':Nat,s=s':=⟨s.toNat,by omega⟩;obtain⟨b,rfl⟩:∃b':Nat,b=b':=⟨b.toNat,by omega⟩;have hL:=LO hk (s:=s) (b:=b) (by omega) (by omega) (by omega);have hr:=(EK z hz).1;obtain⟨r,m⟩:=z;rcases hr with (hr|hr)|hr<;>(have hr:r=_:=hr;subst hr)
 ·exact Aj Ym _ hL
 ·exact Aj Yl _ hL
 ·exact Aj Yk _ hL
theorem puW(hk:(k,k2)∈k6)(h:Wo k s b)(z:P2)(hz:z∈rm9)(ht:1<=t)(hw:-(2 ^ 64)<w/\w<2 ^ 64)(hh:Ay [.tup (hds z.1 0 z.2 (w * t) (3 * t))] []=some (.inl .non,[])):
  A8 [(caW w t z).out k s b,.str "x",(caW w t z).inn k2 s b] Z=some (.inl (mkC k s b (w * t) (3 * t) (z4 z)),Z)/\AT [mkC k s b (w * t) (3 * t) (z4 z)] Z=some (.inl .non,Z):=by
 have mk:∀Z,AT [mkC k s b (w * t) (3 * t) (z4 z)] Z=some (.inl .non,Z):=λZ=>HL h ⟨by decide,h.2⟩ (z4 z) (EK z hz).2.1 hh;refine⟨?_,mk Z⟩;unfold A8;refine IX (u9:=mB (caO (z4 z))) (Aj (clW (k:=k) (k2:=k2) (s:=s) (b:=b) (w:=w) (t:=t)) z hz) (Mc (B:=tW k k2 s b w t z) rfl ?_) (Aj (flW (k:=k) (s:=s) (b:=b) (w:=w) (t:=t)) z hz);rw[Lw];refine(Aj (WH (k:=k) (k2:=k2) (s:=s) (b:=b) (w:=w) (t:=t)) z hz).trans ?_;rw[Af (Cr rfl (ae hk h z hz))];refine(WG z hz ht hw).trans ?_;have e1:Fa (Am (Ad AT (AB (AD 12) AI))) ["NoMaking"] "NoUpon" (tW k k2 s b w t z) (mB (caO (z4 z)))=some ((.next,tW k k2 s b w t z),mB (caO (z4 z))):=by
  unfold Fa;rw[AW (Cr rfl (mk _))];rfl
 show AO _ _ (tW k k2 s b w t z) _=_;rw[Af e1];rfl
theorem Xb(hk:(k,k2)∈k6)(h:Wo k s b)(z:P2)(hz:z∈rm9)(ht:1<=t)(hw:-(2 ^ 64)<w/\w<2 ^ 64)(hh:Ay [.tup (hds z.1 0 z.2 (w * t) (3 * t))] []=noM):
  A8 [(caW w t z).out k s b,.str "x",(caW w t z).inn k2 s b] Z=some (.inr ("NoUpon",none),Z):=by
 have mk:∀Z,AT [mkC k s b (w * t) (3 * t) (z4 z)] Z=some (.inr ("NoMaking",none),Z):=λZ=>by
  refine Gq h (Aj (cR (k:=k) (s:=s) (b:=b) (w:=w) (t:=t)) z hz) ?_ hh;have e:=Aj (Ta (s:=s) (b:=b)) (z4 z) (EK z hz).2.1;rw[e];exact JR ⟨by decide,h.2⟩ _ (by simpa using List.all_eq_true.mp Ti (z4 z) (EK z hz).2.1)
 rw[Ku];refine EV (u9:=mB (caO (z4 z))) (Aj (clW (k:=k) (k2:=k2) (s:=s) (b:=b) (w:=w) (t:=t)) z hz) (Fx (B:=tW k k2 s b w t z) rfl ?_);rw[Lw];refine(Aj (WH (k:=k) (k2:=k2) (s:=s) (b:=b) (w:=w) (t:=t)) z hz).trans ?_;rw[Af (Cr rfl (ae hk h z hz))];refine(WG z hz ht hw).trans ?_;have e1:Fa (Am (Ad AT (AB (AD 12) AI))) ["NoMaking"] "NoUpon" (tW k k2 s b w t z) (mB (caO (z4 z)))=some ((.xc ("NoUpon",none),tW k k2 s b w t z),mB (caO (z4 z))):=by
  unfold Fa;rw[AW (Gz rfl (mk _))];rfl
 exact Ia e1
end
noncomputable abbrev tX(k k2:Str)(s b w t:Int)(z:P2)(x y:Option D):Sl:=[some ((caW w t z).out k s b),some (.str "x"),some ((caW w t z).inn k2 s b),some (.bl true),some (mkC k s b (w * t) (3 * t) (z4 z)),x,y]
noncomputable def kr9:List (Str×P2):=kd3.flatMap λk=>rm9.map λz=>(k,z)
noncomputable abbrev nI(n:Nat):Int:=(n:Int)
section
variable{k k2:Str}{s b w t:Int}{r:BI}{Z:Mh}
theorem cP:kr9.map (λc=>AS (mOp BO (AD 4) (mC (.str "other"))) (tX c.1 k2 s b w t c.2 none none) [])=kr9.map λ_=>some (false,([]:Mh)):=by kernel_rfl
theorem cA:rm9.map (λz=>lr4 r (tX k k2 s b w t z none none) [])=rm9.map λz=>r (tX k k2 s b w t z (some (.int (Fh (1::t::List.replicate z.1 1)))) none) []:=by kernel_rfl
theorem b9:gw.map (λc=>N8 (lr6 (tX k k2 s b (nI (400 / c.2.2)) (nI c.2.2) (c.1,c.2.1) (some (.int (nI c.2.2))) none) []))=gw.map λ_=>true:=by kernel_rfl
theorem cS:rm9.map (λz=>Bm 0 [(caW w t z).out k s b,.str "x",(caW w t z).inn k2 s b,.bl true])=rm9.map λ_=>true:=by kernel_rfl
theorem cB:rm9.map (λz=>AS (mOp Dd (AG Bc (AB (mOp AM (AD 4) (mC (.int 3))) AI)) (mOp Ah (mOp Bq (AG Bc (AB (mOp AM (AD 0) (mC (.int 3))) AI)) (mC (.int 1))) (AG Bc (AB (mOp AM (AD 2) (mC (.int 3))) AI)))) (tX k k2 s b w t z (some (.int t)) none) [])=rm9.map λ_=>some (false,([]:Mh)):=by kernel_rfl
theorem YK(ht:1<=t)(n:Nat)(hn:(n=1∨n=2)∨n=3):Fh (1::t::List.replicate n 1)=t:=by
 have e:max 1 t=t:=Int.max_eq_right ht;have e2:max t 1=t:=Int.max_eq_left ht;rcases hn with (rfl|rfl)|rfl<;>simp only[Fh,List.replicate,List.foldl,e,e2]
theorem Yg(z:P2)(hz:z∈rm9)(ho:o∈ones):(z.1,z.2,o)∈gw:=by
 obtain⟨h1,_,h2⟩:=EK z hz;refine List.mem_flatMap.mpr ⟨z.1,by rcases h1 with (h|h)|h<;>rw[h]<;>decide,List.mem_flatMap.mpr ⟨z.2,by rcases h2 with (h|h)|h<;>rw[h]<;>decide,AAL.mpr ⟨o,ho,rfl⟩⟩⟩
theorem U3:ones.all (λo=>1<=o&&o<=100)=true:=by decide +kernel
theorem Oa(ho:o∈ones):1<=nI o/\1<=o:=by
 have h:=List.all_eq_true.mp U3 o ho;simp only[Bool.and_eq_true,decide_eq_true_eq] at h;exact⟨by show (1:Int)<=(o:Int);omega,h.1⟩
theorem ZH(o n:Nat)(hn:n<=1):-(2 ^ 64)<nI (400 / o+n)/\nI (400 / o+n)<2 ^ 64:=by
 have h:400 / o<=400:=Nat.div_le_self ..;constructor
 ·have:(0:Int)<=nI (400 / o+n):=Int.natCast_nonneg _;omega
 ·show ((400 / o+n:Nat):Int)<2 ^ 64;have:400 / o+n<=401:=by omega
  omega
theorem Lq(hk:(k,k2)∈k6)(h:Wo k s b)(z:P2)(hz:z∈rm9)(ho:o∈ones):An [(caW (nI (400 / o)) (nI o) z).out k s b,.str "x",(caW (nI (400 / o)) (nI o) z).inn k2 s b,.bl true] Z=some (.bl true,Z):=by
 have hg:=Yg z hz ho;have hr:=(EK z hz).1;have ht:=(Oa ho).1;have hh:Ay [.tup (hds z.1 0 z.2 (nI (400 / o) * nI o) (3 * nI o))] []=some (.inl .non,[]):=by
  have e0:=Aj Nd (z.1,z.2,o) hg;dsimp only at e0;rw[Int.natCast_mul,Int.natCast_mul] at e0;exact e0
 have p:=λZ=>puW (Z:=Z) (w:=nI (400 / o)) hk h z hz ht (ZH o 0 (by decide)) hh;obtain⟨B,u9,er⟩:=IT (Aj (b9 (k:=k) (k2:=k2) (s:=s) (b:=b)) _ hg);have v:AG (vals AT) (AB (AD 4) AI) (tX k k2 s b (nI (400 / o)) (nI o) z none none) []=some (.non,[]):=by
  unfold AG;rw[AW (show AB (AD 4) AI (tX k k2 s b (nI (400 / o)) (nI o) z none none) []=some ([mkC k s b (nI (400 / o) * nI o) (3 * nI o) (z4 z)],[]) from rfl)];unfold vals;rw[(p []).2]
 have t3:AS (mOp (GC true) (AG (vals AT) (AB (AD 4) AI)) (mC .non)) (tX k k2 s b (nI (400 / o)) (nI o) z none none) []=some (false,[]):=by
  have e1:mOp (GC true) (AG (vals AT) (AB (AD 4) AI)) (mC .non) (tX k k2 s b (nI (400 / o)) (nI o) z none none) []=some (.bl false,[]):=by
   unfold mOp;rw[AW v];rfl
  unfold AS;rw[AW e1];rfl
 unfold An;refine Gg (u9:=u9) (Aj (cS (k:=k) (k2:=k2) (s:=s) (b:=b) (w:=nI (400 / o)) (t:=nI o)) z hz) (B2 (B:=B) rfl ?_) rfl;rw[Wa];refine(Af (B':=tX k k2 s b (nI (400 / o)) (nI o) z none none) (Z':=[]) (G6 rfl (N9 (p []).1))).trans ?_;refine(Af (B':=tX k k2 s b (nI (400 / o)) (nI o) z none none) (Z':=[]) rfl).trans ?_;refine(Af (B':=tX k k2 s b (nI (400 / o)) (nI o) z none none) (Z':=[]) ?_).trans ?_
 ·refine(Na (w9:=[]) ?_).trans rfl;refine(L0 (w9:=[]) rfl).trans ((L0 (w9:=[]) ?_).trans t3);exact Aj (cP (k2:=k2) (s:=s) (b:=b) (w:=nI (400 / o)) (t:=nI o)) (k,z) (List.mem_flatMap.mpr ⟨k,h.1,AAL.mpr ⟨z,hz,rfl⟩⟩)
 refine(Aj (cA (k:=k) (k2:=k2) (s:=s) (b:=b) (w:=nI (400 / o)) (t:=nI o)) z hz).trans ?_;rw[YK ht _ hr];refine(Af (B':=tX k k2 s b (nI (400 / o)) (nI o) z (some (.int (nI o))) none) (Z':=[]) ?_).trans er;refine(Na (w9:=[]) ?_).trans rfl;refine(L0 (w9:=[]) (Aj (cB (k:=k) (k2:=k2) (s:=s) (b:=b) (w:=nI (400 / o)) (t:=nI o)) z hz)).trans ?_;have e5:mOp Dd (Cw (AD 4) BJ (BV (mC (.int 3)))) (Cw (AD 0) BJ (BV (mC (.int 3)))) (tX k k2 s b (nI (400 / o)) (nI o) z (some (.int (nI o))) none) []=some (.bl false,[]):=by
  unfold mOp;rw[AW (show Cw (AD 4) BJ (BV (mC (.int 3))) (tX k k2 s b (nI (400 / o)) (nI o) z (some (.int (nI o))) none) []=some (.tup [.str k,.int s,.int b],[]) from rfl),AW (show Cw (AD 0) BJ (BV (mC (.int 3))) (tX k k2 s b (nI (400 / o)) (nI o) z (some (.int (nI o))) none) []=some (.tup [.str k,.int s,.int b],[]) from rfl)];exact WT h
 unfold AS;rw[AW e5];rfl
theorem M8(hk:(k,k2)∈k6)(h:Wo k s b)(z:P2)(hz:z∈rm9)(ho:o∈ones)(h1:o≠1):An [(caW (nI (400 / o+1)) (nI o) z).out k s b,.str "x",(caW (nI (400 / o+1)) (nI o) z).inn k2 s b,.bl false] Z=some (.bl true,Z):=by
 have hg:(z.1,z.2,o)∈gw2:=List.mem_flatMap.mpr ⟨z,hz,AAL.mpr ⟨o,List.mem_filter.mpr ⟨ho,by simpa using h1⟩,rfl⟩⟩;have hh:Ay [.tup (hds z.1 0 z.2 (nI (400 / o+1) * nI o) (3 * nI o))] []=noM:=by
  have e0:=Aj Nb (z.1,z.2,o) hg;dsimp only at e0;rw[Int.natCast_mul,Int.natCast_mul] at e0;exact e0
 exact Gm (Nm (Aj (clW (k:=k) (k2:=k2) (s:=s) (b:=b) (w:=nI (400 / o+1)) (t:=nI o)) z hz)) (Xb hk h z hz (Oa ho).1 (ZH o 1 (by decide)) hh)
end
section
variable{Z:Mh}{n:Nat}
theorem Ww{cs:List Int}{k:Nat}:∃c:Int,Ew [.scr cs,.int k] Z=some (.int c,Z):=by
 suffices h:WP (Ew [.scr cs,.int k]) Z λd Z'=>Z'=Z/\∃c:Int,d=.int c by
  obtain⟨_,_,e,rfl,c,rfl⟩:=h;exact⟨c,e⟩
 refine HD rfl ?_;unfold K1.DK;wtm_at "c";refine CN (a:=.int cs.length) (Z':=Z) ?_ (V6 ⟨_,rfl,?_⟩)
 ·show some (D.int (((cs.map D.int).length:Nat):Int),Z)=_;rw[AAG]
 refine Qn (λhb=>?_) λ_=>?_
 ·have hk:k<cs.length:=by have:=of_decide_eq_true hb;omega
  wtm_at "c";refine CN (a:=.int cs[k]) (Z':=Z) ?_ ⟨_,_,rfl,rfl,_,rfl⟩;show bnd (ES (.scr cs)) (λds=>ixD ds (k:Int)) Z=_;rw[AW (show ES (.scr cs) Z=some (cs.map D.int,Z) from rfl)];unfold ixD;rw[V1 (xs:=cs.map D.int) (j:=k) (v:=.int cs[k]) (by rw[AAV,AAq hk];rfl)];rfl
 ·wtm_at "c";exact⟨_,_,rfl,rfl,_,rfl⟩
theorem Wu{cs:List Int}{k:Nat}(hk:k<1000):∃Z',Gy [.scr cs,.int k] Z=some (.ref Z.length,Z')/\WellAt Z' Z.length:=by
 suffices h:WP (Gy [.scr cs,.int k]) Z λd Z'=>d=.ref Z.length/\WellAt Z' Z.length by
  obtain⟨_,Z',e,rfl,w⟩:=h;exact⟨Z',e,w⟩
 obtain⟨c,ec⟩:=Ww (Z:=Z) (cs:=cs) (k:=k);refine HD rfl ?_;unfold Og;wtm_at "c";refine CN ec ?_;wtm_at "c";refine CN (a:=.int 1000000000000000000) (Z':=Z) rfl ?_;wtm_at "c";exact⟨_,_,rfl,rfl,_,_,_,by rw[AAR (AAF _),Nat.sub_self];rfl⟩
theorem T4(w:WellAt Z n):∃Z',Upd n Z Z'/\∃i j s b r m:Int,Fs [.ref n] Z=some (.tup [.int i,.int j,.int s,.int b,.int r,.int m],Z')/\0<=i/\i<=j/\j<3/\2<=s/\s<=9/\0<=b/\b<s/\1<=r/\r<=3/\1<=m/\m<=3:=by
 obtain⟨r1,w9,e1,a1,b1,u1⟩:=EJ (b:=3) w (by decide) (by decide);have w1:=u1.well w;obtain⟨r2,u9,e2,a2,b2,u2⟩:=EJ (b:=8) w1 (by decide) (by decide);have w2:=u2.well w1;obtain⟨r3,j6,e3,a3,b3,u3⟩:=EJ (b:=3-r1) w2 (by omega) (by omega);have w3:=u3.well w2;obtain⟨r4,m7,e4,a4,b4,u4⟩:=EJ (b:=2+r2) w3 (by omega) (by omega);have w4:=u4.well w3;obtain⟨r5,m8,e5,a5,b5,u5⟩:=EJ (b:=3) w4 (by decide) (by decide);have w5:=u5.well w4;obtain⟨r6,n8,e6,a6,b6,u6⟩:=EJ (b:=3) w5 (by decide) (by decide)
 suffices h:WP (Fs [.ref n]) Z λd Z'=>d=.tup [.int r1,.int (r1+r3),.int (2+r2),.int r4,.int (1+r5),.int (1+r6)]/\Z'=n8 by
  obtain⟨_,Z',e,rfl,rfl⟩:=h;exact⟨_,((((u1.trans u2).trans u3).trans u4).trans u5).trans u6,_,_,_,_,_,_,e,by omega,by omega,by omega,by omega,by omega,by omega,by omega,by omega,by omega,by omega,by omega⟩
 refine HD rfl ?_;unfold MB;wtm_at "c";refine CN e1 ?_;wtm_at "c";refine CN e2 ?_;wtm_at "c";refine CN e3 ?_;wtm_at "c";refine CN e4 ?_;wtm_at "c";refine CN e5 ?_;wtm_at "c";refine CN e6 ?_;wtm_at "c";exact⟨_,_,rfl,rfl,rfl⟩
end
noncomputable abbrev Q5:=(Nat×Nat)×Nat×Nat
noncomputable def ij6:List (Nat×Nat):=[(0,0),(0,1),(0,2),(1,1),(1,2),(2,2)]
noncomputable def dcs:List Q5:=ij6.flatMap λp=>rm9.map λz=>(p,z)
noncomputable def kd(i:Nat):Str:=kd3.getD i ""
noncomputable def ksD:D:=.lst [.str "safe",.str "steady",.str "whole"]
noncomputable abbrev drD(c:Q5)(s b:Int):D:=.tup [.int c.1.1,.int c.1.2,.int s,.int b,.int c.2.1,.int c.2.2]
theorem YV:ij6.all (λp=>k6.contains (kd p.1,kd p.2)&&kd3.contains (kd p.1)&&kd3.contains (kd p.2))=true:=by decide +kernel
theorem MI(h:p∈ij6):(kd p.1,kd p.2)∈k6/\kd p.1∈kd3/\kd p.2∈kd3:=by
 have h:=List.all_eq_true.mp YV p h;simp only[Bool.and_eq_true] at h;exact⟨by simpa using h.1.1,by simpa using h.1.2,by simpa using h.2⟩
theorem G3(h:c∈dcs):c.1∈ij6/\c.2∈rm9:=by
 obtain⟨p,hp,h⟩:=List.mem_flatMap.mp h;obtain⟨z,hz,rfl⟩:=AAL.mp h;exact⟨hp,hz⟩
theorem OZ(h1:a B Z=some (x,w9))(h2:b B w9=some (y,u9))(h3:g x y u9=o):mOp g a b B Z=o:=by
 unfold mOp;rw[AW h1,AW h2];exact h3
theorem Vq(h1:a B Z=some (x,w9))(h2:ra B w9=some (xs,u9)):AB a ra B Z=some (x::xs,u9):=by
 unfold AB;rw[AW h1,AW h2];rfl
theorem Ex(h1:ra B Z=some (xs,w9))(h2:f xs w9=o):AG f ra B Z=o:=by
 unfold AG;rw[AW h1];exact h2
theorem Hc(h:m B Z=some (d,Z')):AX m (AK i) B Z=some ((.next,B.set i (some d)),Z'):=by
 unfold AX;rw[AW h];rfl
theorem DQ(ha:ra B Z=some (ds,Z))(h:An ds Z=some (.bl true,Z)):sIf (Ce (AS (AG An ra))) (Ao (mC (.bl false))) A6 B Z=some ((.next,B),Z):=by
 have e1:AG An ra B Z=some (.bl true,Z):=by unfold AG;rw[AW ha];exact h
 have e2:Ce (AS (AG An ra)) B Z=some (false,Z):=by
  have e3:AS (AG An ra) B Z=some (true,Z):=by unfold AS;rw[AW e1];rfl
  unfold Ce;rw[AW e3];rfl
 exact(Na e2).trans rfl
theorem F2(ha:ra B Z=some (ds,Z))(h:An ds Z=some (.bl true,Z)):Ao (AG An ra) B Z=some ((.rt (.bl true),B),Z):=by
 have e1:AG An ra B Z=some (.bl true,Z):=by unfold AG;rw[AW ha];exact h
 unfold Ao;rw[AW e1];rfl
theorem g_z:rm9.all (λz=>gcs.contains (z.1,0,z.2,0)&&gcs.contains (z.1,58-z.2,z.2,0)&&bsh.contains (z.1,59-z.2,z.2,0)&&rr.contains (z.1,z.1,1)&&rr.contains (z.1,3,1))=true:=by decide +kernel
theorem gz(h:z∈rm9):(z.1,0,z.2,0)∈gcs/\(z.1,58-z.2,z.2,0)∈gcs/\(z.1,59-z.2,z.2,0)∈bsh/\(z.1,z.1,1)∈rr/\(z.1,3,1)∈rr:=by
 have h:=List.all_eq_true.mp g_z z h;simp only[Bool.and_eq_true] at h;exact⟨by simpa using h.1.1.1.1,by simpa using h.1.1.1.2,by simpa using h.1.1.2,by simpa using h.1.2,by simpa using h.2⟩
section
variable{s b:Int}{Z:Mh}{r:BI}
noncomputable def rA(f1:List D->M D)(r:BI):BI:=(AO (AX (AD 0) (Dh [1,2,3,4,5,6]))
  (AO (AX (AG A0 (AB (mC (.str "safe")) (AB (mC (.str "steady")) (AB (mC (.str "whole")) AI)))) (AK 7))
  (AO (AX (AG f1 (AB (mOp AM (AD 7) (AD 2)) (AB (AD 3) (AB (AD 4) (AB (AD 5) (AB (AD 6) (AB (mC (.int 5)) AI))))))) (AK 8))
  (AO (AX (mOp Bq (mOp Bq (mC (.int 60)) (mC (.int 2))) (AD 6)) (AK 9)) r))))
noncomputable def raR(f2:List D->M D)(l:Sl->M D)(g:Bool):Sl->M (List D):=(AB (AG f2 (AB (mOp AM (AD 7) (AD 1)) (AB (AD 3) (AB (AD 4) (AB (AD 5) (AB l (AB (mC (.int 9)) (AB (mC (.int 0)) AI)))))))) (AB (mC (.str "x")) (AB (AD 8) (AB (mC (.bl g)) AI))))
theorem UO:GL f1 f2 f3=rA f1 (AO (sIf (Ce (AS (AG f3 (raR f2 (AD 9) true)))) (Ao (mC (.bl false))) A6) (Ao (AG f3 (raR f2 (mOp Ah (AD 9) (mC (.int 1))) false)))):=rfl
noncomputable abbrev rT(c:Q5)(s b:Int):Sl:=[some (drD c s b),some (.int c.1.1),some (.int c.1.2),some (.int s),some (.int b),some (.int c.2.1),some (.int c.2.2),some ksD,some (B8 (kd c.1.2) s b c.2.1 c.2.2 5),some (.int (58-c.2.2:Nat))]
theorem XW:dcs.map (λc=>rA BQ r (BS 10 [drD c s b]) Z)=dcs.map λc=>r (rT c s b) Z:=by kernel_rfl
theorem rR1:dcs.map (λc=>raR Bk (AD 9) true (rT c s b) Z)=dcs.map λc=>some ([De (kd c.1.1) s b c.2.1 (58-c.2.2) 9 0,.str "x",B8 (kd c.1.2) s b c.2.1 c.2.2 5,.bl true],Z):=by kernel_rfl
theorem rR2:dcs.map (λc=>raR Bk (mOp Ah (AD 9) (mC (.int 1))) false (rT c s b) Z)=dcs.map λc=>some ([De (kd c.1.1) s b c.2.1 (59-c.2.2) 9 0,.str "x",B8 (kd c.1.2) s b c.2.1 c.2.2 5,.bl false],Z):=by kernel_rfl
theorem Wv(c:Q5)(hc:c∈dcs)(h:Wo (kd c.1.1) s b):CI [drD c s b] Z=some (.bl true,Z):=by
 obtain⟨h1,h2⟩:=G3 hc;have hk:=(MI h1).1;unfold CI;refine B2 (B:=rT c s b) rfl ?_;rw[UO];refine(Aj (XW (s:=s) (b:=b) (Z:=Z)) c hc).trans ?_;rw[Af (DQ (Aj (rR1 (s:=s) (b:=b) (Z:=Z)) c hc) (Em hk h (c.2.1,58-c.2.2,c.2.2,0) (gz h2).2.1))];exact F2 (Aj (rR2 (s:=s) (b:=b) (Z:=Z)) c hc) (J4 hk h (c.2.1,59-c.2.2,c.2.2,0) (gz h2).2.2.1)
end
noncomputable def b6:List Q5:=ij6.flatMap λp=>[1,2,3].flatMap λr=>[0,1,2,3,4,5].map λmo=>(p,r,mo)
theorem cU:b6.all (λc=>gcs.contains (c.2.1,0,6-c.2.2,c.2.2)&&(c.2.2==0||bsh.contains (c.2.1,0,7-c.2.2,c.2.2)))=true:=by decide +kernel
noncomputable def unp(r:BI):BI:=(AO (AX (AD 1) (Dh [2,3,4,5,6,7])) (AO (AX (AG A0 (AB (mC (.str "safe")) (AB (mC (.str "steady")) (AB (mC (.str "whole")) AI)))) (AK 8)) r))
section
variable{s b t:Int}{Z:Mh}{r:BI}{n m:Nat}{I:D}
noncomputable abbrev bT(c:Q5)(s b:Int)(n:Nat)(x y:Option D):Sl:=[some (.ref n),some (drD c s b),some (.int c.1.1),some (.int c.1.2),some (.int s),some (.int b),some (.int c.2.1),some (.int c.2.2),some ksD,x,y]
noncomputable def bA(f2:List D->M D)(r:BI):BI:=(AO (AX (AG f2 (AB (mOp AM (AD 8) (AD 2)) (AB (AD 4) (AB (AD 5) (AB (AD 6) (AB (mC (.int 0)) (AB (mC (.int 9)) (AB (AD 9) AI)))))))) (AK 10)) r)
noncomputable def baR(f:List D->M D)(q:Int)(g:Bool):Sl->M (List D):=(AB (AD 10) (AB (mC (.str "x")) (AB (AG f (AB (mOp AM (AD 8) (AD 3)) (AB (AD 4) (AB (AD 5) (AB (AD 6) (AB (mOp Bq (mC (.int q)) (AD 9)) (AB (mC (.int 5)) AI))))))) (AB (mC (.bl g)) AI))))
noncomputable def bC(q:Int)(r:BI):BI:=AO (sIf (AS (mOp BO (AD 9) (mC (.int q)))) (Ao (mC (.bl true))) A6) r
theorem Tc:Dw f1 f2 f3 f4=unp (AO (AX (AG f1 (AB (AD 0) (AB (mC (.int 6)) AI))) (AK 9)) (bA f2 (AO (sIf (Ce (AS (AG f4 (baR f3 6 true)))) (Ao (mC (.bl false))) A6) (bC 0 (Ao (AG f4 (baR f3 7 false))))))):=rfl
theorem unp_is:unp r [some (.ref n),some (drD c s b),none,none,none,none,none,none,none,x,y] Z=r (bT c s b n x y) Z:=rfl
noncomputable abbrev bU(c:Q5)(m:Nat):Q5:=(c.1,c.2.1,m)
noncomputable abbrev bV(c:Q5)(m:Nat)(s b:Int)(n:Nat):Sl:=bT (bU c m) s b n (some (.int c.2.2)) (some (De (kd c.1.1) s b c.2.1 0 9 c.2.2))
theorem Y6:b6.map (λc=>bA Bk r (bT (bU c m) s b n (some (.int c.2.2)) none) Z)=b6.map λc=>r (bV c m s b n) Z:=by kernel_rfl
theorem bR1:b6.map (λc=>baR BQ 6 true (bV c m s b n) Z)=b6.map λc=>some ([De (kd c.1.1) s b c.2.1 0 9 c.2.2,.str "x",B8 (kd c.1.2) s b c.2.1 (6-c.2.2) 5,.bl true],Z):=by kernel_rfl
theorem bR2:b6.map (λc=>baR BQ 7 false (bV c m s b n) Z)=b6.map λc=>some (if c.2.2=0 then (baR BQ 7 false (bV c m s b n) Z).getD ([],[]) else ([De (kd c.1.1) s b c.2.1 0 9 c.2.2,.str "x",B8 (kd c.1.2) s b c.2.1 (7-c.2.2) 5,.bl false],Z)):=by kernel_rfl
theorem Y5:b6.map (λc=>bC 0 r (bV c m s b n) Z)=b6.map λc=>if c.2.2=0 then some ((.rt (.bl true),bV c m s b n),Z) else r (bV c m s b n) Z:=by kernel_rfl
theorem T5(c:Q5)(hc:c∈dcs)(h:Wo (kd c.1.1) s b)(w:WellAt Z n):∃Z',DE [.ref n,drD c s b] Z=some (.bl true,Z')/\Upd n Z Z':=by
 obtain⟨h1,h2⟩:=G3 hc;have hk:=(MI h1).1;obtain⟨q,w9,e,q0,q1,u⟩:=EJ (b:=6) w (by decide) (by decide);obtain⟨q,rfl⟩:∃q':Nat,q=q':=⟨q.toNat,by omega⟩;refine⟨w9,?_,u⟩;have hb:(c.1,c.2.1,q)∈b6:=by
  refine List.mem_flatMap.mpr ⟨c.1,h1,List.mem_flatMap.mpr ⟨c.2.1,?_,AAL.mpr ⟨q,?_,rfl⟩⟩⟩
  ·have:=(EK c.2 h2).1;simp only[AAJ,List.not_mem_nil,or_false];omega
  ·simp only[AAJ,List.not_mem_nil,or_false];omega
 have hz:=List.all_eq_true.mp cU _ hb;simp only[Bool.and_eq_true,Bool.or_eq_true,beq_iff_eq] at hz;have key:∃B,Dw CM Bk BQ An (BS 11 [.ref n,drD c s b]) Z=some ((.rt (.bl true),B),w9):=by
  refine⟨bV (c.1,c.2.1,q) c.2.2 s b n,?_⟩;rw[Tc];refine unp_is.trans ?_;rw[Af (G6 rfl e)];refine(Aj (Y6 (s:=s) (b:=b) (Z:=w9) (n:=n) (m:=c.2.2)) _ hb).trans ?_;rw[Af (DQ (Aj (bR1 (s:=s) (b:=b) (Z:=w9) (n:=n) (m:=c.2.2)) _ hb) (Em hk h (c.2.1,0,6-q,q) (by simpa using hz.1)))];refine(Aj (Y5 (s:=s) (b:=b) (Z:=w9) (n:=n) (m:=c.2.2)) _ hb).trans ?_;by_cases hq:q=0
  ·exact if_pos hq
  ·refine(if_neg hq).trans ?_;have e2:=Aj (bR2 (s:=s) (b:=b) (Z:=w9) (n:=n) (m:=c.2.2)) _ hb;rw[if_neg (show ¬(c.1,c.2.1,q).2.2=0 from hq)] at e2;exact F2 e2 (J4 hk h (c.2.1,0,7-q,q) (by rcases hz.2 with z|z;exact absurd z hq;simpa using z))
 obtain⟨B,key⟩:=key;exact B2 rfl key
noncomputable def WQ:List D:=ones.map λo=>D.int (nI o)
theorem U5:(List.range 15).map (λq=>AM (.lst WQ) (.int (nI q)) Z)=(List.range 15).map λq=>some (.int (nI (ones.getD q 0)),Z):=by kernel_rfl
theorem U4:(List.range 15).all (λq=>ones.contains (ones.getD q 0))=true:=by decide +kernel
noncomputable def wA(f:List D->M D)(r:BI):BI:=AO (AX (AG f (AB (mOp AM (AD 8) (AD 3)) (AB (AD 4) (AB (AD 5) (AB (AD 6) (AB (AD 7) (AB (AD 9) AI))))))) (AK 10)) r
noncomputable def aE(f:List D->M D):Sl->M D:=(mOp AM (AG A0 (AB (mC (.int 1)) (AB (mC (.int 2)) (AB (mC (.int 4)) (AB (mC (.int 5)) (AB (mC (.int 8)) (AB (mC (.int 10)) (AB (mC (.int 16)) (AB (mC (.int 20)) (AB (mC (.int 25)) (AB (mC (.int 40)) (AB (mC (.int 50)) (AB (mC (.int 80)) (AB (mC (.int 100)) (AB (mC (.int 3)) (AB (mC (.int 7)) AI)))))))))))))))) (AG f (AB (AD 0) (AB (mC (.int 15)) AI))))
noncomputable def waR(f:List D->M D)(l:Sl->M D)(g:Bool):Sl->M (List D):=(AB (AG f (AB (mOp AM (AD 8) (AD 2)) (AB (AD 4) (AB (AD 5) (AB (AD 6) (AB (mC (.int 0)) (AB l (AB (mC (.int 0)) AI)))))))) (AB (mC (.str "x")) (AB (AD 10) (AB (mC (.bl g)) AI))))
noncomputable def Vo:Sl->M D:=mOp Ep (mC (.int 400)) (AD 9)
theorem Mv:DJ f1 f2 f3 f4=unp (AO (AX (aE f1) (AK 9)) (wA f2 (AO (sIf (Ce (AS (AG f4 (waR f3 Vo true)))) (Ao (mC (.bl false))) A6) (bC 1 (Ao (AG f4 (waR f3 (mOp Ah Vo (mC (.int 1))) false))))))):=rfl
theorem Ws:dcs.map (λc=>wA BQ r (bT c s b n (some (.int t)) none) Z)=dcs.map λc=>r (bT c s b n (some (.int t)) (some (B8 (kd c.1.2) s b c.2.1 c.2.2 t))) Z:=by kernel_rfl
noncomputable def w3:List (Nat×Nat×Nat):=[0,1,2].flatMap λi=>[1,2,3].flatMap λr=>ones.map λo=>(i,r,o)
noncomputable abbrev wT(c:Nat×Nat×Nat)(j m:Nat)(s b:Int)(n:Nat)(I:D):Sl:=bT ((c.1,j),c.2.1,m) s b n (some (.int (nI c.2.2))) (some I)
theorem wR1:w3.map (λc=>waR Bk Vo true (wT c j m s b n I) Z)=w3.map λc=>some ([De (kd c.1) s b c.2.1 0 (nI (400 / c.2.2)) 0,.str "x",I,.bl true],Z):=by kernel_rfl
theorem wR2:w3.map (λc=>waR Bk (mOp Ah Vo (mC (.int 1))) false (wT c j m s b n I) Z)=w3.map λc=>some ([De (kd c.1) s b c.2.1 0 (nI (400 / c.2.2+1)) 0,.str "x",I,.bl false],Z):=by kernel_rfl
theorem Wr:w3.map (λc=>bC 1 r (wT c j m s b n I) Z)=w3.map λc=>if c.2.2=1 then some ((.rt (.bl true),wT c j m s b n I),Z) else r (wT c j m s b n I) Z:=by kernel_rfl
theorem PK(c:Q5)(hc:c∈dcs)(h:Wo (kd c.1.1) s b)(w:WellAt Z n):∃Z',Cg [.ref n,drD c s b] Z=some (.bl true,Z')/\Upd n Z Z':=by
 obtain⟨h1,h2⟩:=G3 hc;have hk:=(MI h1).1;obtain⟨q,w9,e,q0,q1,u⟩:=EJ (b:=15) w (by decide) (by decide);obtain⟨q,rfl⟩:∃q':Nat,q=q':=⟨q.toNat,by omega⟩;refine⟨w9,?_,u⟩;have hq:q∈List.range 15:=List.mem_range.mpr (by omega);have ho:ones.getD q 0∈ones:=by simpa using List.all_eq_true.mp U4 q hq
 have e1:=Aj (U5 (Z:=w9)) q hq;generalize ones.getD q 0=o at *;have hw:(c.1.1,c.2.1,o)∈w3:=by
  refine List.mem_flatMap.mpr ⟨c.1.1,?_,List.mem_flatMap.mpr ⟨c.2.1,?_,AAL.mpr ⟨o,ho,rfl⟩⟩⟩
  ·have:ij6.all (λp=>[0,1,2].contains p.1)=true:=by decide
   simpa using List.all_eq_true.mp this c.1 h1
  ·have:=(EK c.2 h2).1;simp only[AAJ,List.not_mem_nil,or_false];omega
 have key:∃B,DJ CM BQ Bk An (BS 11 [.ref n,drD c s b]) Z=some ((.rt (.bl true),B),w9):=by
  refine⟨wT (c.1.1,c.2.1,o) c.1.2 c.2.2 s b n (B8 (kd c.1.2) s b c.2.1 c.2.2 (nI o)),?_⟩;rw[Mv];refine unp_is.trans ?_;have ea:AX (aE CM) (AK 9) (bT c s b n none none) Z=some ((.next,bT c s b n (some (.int (nI o))) none),w9):=by
   exact Hc (OZ (x:=.lst WQ) rfl (Ex (xs:=[.ref n,.int 15]) rfl e) e1)
  rw[Af ea];refine(Aj (Ws (s:=s) (b:=b) (Z:=w9) (n:=n) (t:=nI o)) c hc).trans ?_;rw[Af (DQ (Aj (wR1 (s:=s) (b:=b) (Z:=w9) (n:=n) (m:=c.2.2) (j:=c.1.2)) _ hw) (show An [De (kd c.1.1) s b c.2.1 0 (nI (400 / o)) 0,.str "x",B8 (kd c.1.2) s b c.2.1 c.2.2 (nI o),.bl true] w9=_ from Lq hk h c.2 h2 ho))];refine(Aj (Wr (s:=s) (b:=b) (Z:=w9) (n:=n) (m:=c.2.2) (j:=c.1.2)) _ hw).trans ?_;by_cases h1:o=1
  ·exact if_pos h1
  ·refine(if_neg h1).trans ?_;exact F2 (Aj (wR2 (s:=s) (b:=b) (Z:=w9) (n:=n) (m:=c.2.2) (j:=c.1.2)) _ hw) (M8 hk h c.2 h2 ho h1)
 obtain⟨B,key⟩:=key;exact B2 rfl key
end
section
variable{s b y:Int}{Z:Mh}{r:BI}{n m:Nat}{I:D}{x11 x12 x13 x14:Option D}
noncomputable abbrev uT(c:Q5)(s b:Int)(n:Nat)(x11 x12 x13 x14:Option D):Sl:=[some (.ref n),some (drD c s b),some (.int c.1.1),some (.int c.1.2),some (.int s),some (.int b),some (.int c.2.1),some (.int c.2.2),some ksD,some (De (kd c.1.1) s b c.2.1 0 9 0),some (B8 (kd c.1.2) s b c.2.1 c.2.2 5),x11,x12,x13,x14]
noncomputable def uA(f1 f2:List D->M D)(r:BI):BI:=(AO (AX (AD 1) (Dh [2,3,4,5,6,7]))
  (AO (AX (AG A0 (AB (mC (.str "safe")) (AB (mC (.str "steady")) (AB (mC (.str "whole")) AI)))) (AK 8))
  (AO (AX (AG f1 (AB (mOp AM (AD 8) (AD 2)) (AB (AD 4) (AB (AD 5) (AB (AD 6) (AB (mC (.int 0)) (AB (mC (.int 9)) (AB (mC (.int 0)) AI)))))))) (AK 9))
  (AO (AX (AG f2 (AB (mOp AM (AD 8) (AD 3)) (AB (AD 4) (AB (AD 5) (AB (AD 6) (AB (AD 7) (AB (mC (.int 5)) AI))))))) (AK 10)) r))))
noncomputable abbrev ifR(f:List D->M D)(ra:Sl->M (List D)):BI:=sIf (Ce (AS (AG f ra))) (Ao (mC (.bl false))) A6
noncomputable def uR(i:Nat)(g:Bool):Sl->M (List D):=(AB (AD 9) (AB (mC (.str "x")) (AB (AD i) (AB (mC (.bl g)) AI))))
noncomputable def uO:Sl->M (List D):=(AB (AD 9) (AB (AD 11) (AB (AD 10) (AB (mC (.bl false)) AI))))
noncomputable def uL(f:List D->M D):BI:=B3 (BC (AG A0 (AB (mC (.str "y")) (AB (mC (.str "")) (AB (AG A0 (AB (mC (.str "x")) AI)) (AB (mC .non) (AB (mC (.int 7)) (AB (AG A4 (AB (mC (.str "x")) AI)) AI)))))))) (AK 11) (ifR f uO)
noncomputable def uS:Sl->M D:=mOp Bq (mOp Ah (AD 4) (mC (.int 1))) (mOp C7 (mC (.int 2)) (AG P6 (AB (mOp BO (AD 4) (mC (.int 10))) AI)))
noncomputable def uB(f:List D->M D)(a b:Sl->M D):Sl->M (List D):=(AB (AD 9) (AB (mC (.str "x")) (AB (AG f (AB (mOp AM (AD 8) (AD 3)) (AB a (AB b (AB (AD 6) (AB (mC (.int 1)) (AB (mC (.int 5)) AI))))))) (AB (mC (.bl false)) AI))))
noncomputable def uN(f:List D->M D):Sl->M D:=mOp EE (mOp Ah (mOp Ah (AD 5) (mC (.int 1))) (AG f (AB (AD 0) (AB (mOp Bq (AD 4) (mC (.int 1))) AI)))) (AD 4)
noncomputable def uW(f2 f3 f4:List D->M D):BI:=(sIf (AS (mOp Hz (AD 2) (mC (.int 0)))) (AO (AX (AG f2 (AB (mOp AM (AD 8) (AG f4 (AB (AD 0) (AB (AD 2) AI)))) (AB (AD 4) (AB (AD 5) (AB (mC (.int 3)) (AB (mC (.int 1)) (AB (mC (.int 5)) AI))))))) (AK 13)) (ifR f3 (uR 13 false))) A6)
noncomputable def uF(f:List D->M D)(r:BI):BI:=AO (AX (AG f (AB (mOp AM (AD 8) (AD 3)) (AB (AD 4) (AB (AD 5) (AB (AG Ps (AB (mC (.int 1)) (AB (mOp Bq (AD 6) (mC (.int 1))) AI))) (AB (AD 7) (AB (mC (.int 5)) AI))))))) (AK 14)) r
noncomputable def uE:Sl->M (List D):=(AB (AD 9) (AB (mC (.str "x")) (AB (AD 14) (AB (mOp BO (AD 6) (mC (.int 1))) AI))))
theorem PL:FI f1 f2 f3 f4=uA f1 f2 (AO (ifR f3 (uR 10 true)) (AO (uL f3) (AO (AX uS (AK 12)) (AO (ifR f3 (uB f2 (AD 12) (mC (.int 0)))) (AO (AX (uN f4) (AK 12)) (AO (ifR f3 (uB f2 (AD 4) (AD 12))) (AO (uW f2 f3 f4) (uF f2 (Ao (AG f3 uE)))))))))):=rfl
theorem W2:dcs.map (λc=>uA Bk BQ r (BS 15 [.ref n,drD c s b]) Z)=dcs.map λc=>r (uT c s b n none none none none) Z:=by kernel_rfl
theorem V9(hc:c.2∈rm9):∀(ds:List D) (x:Option D),(∀d∈ds,d∈odd)->∃x',FJ (AK 11) (ifR An uO) ds (uT c s b n x none none none) Z=some ((.next,uT c s b n x' none none none),Z)
 |[],x,_=>⟨x,rfl⟩
 |d::ds,x,h=>by
  obtain⟨x',e⟩:=V9 hc ds (some d) λd hd=>h d (AAQ _ hd);refine⟨x',?_⟩;show bnd (ifR An uO (uT c s b n (some d) none none none)) _ Z=_;rw[AW (DQ rfl (PY (h d AAP) c.2 hc))];exact e
theorem ZL(hc:c.2∈rm9):∃x',uL An (uT c s b n none none none none) Z=some ((.next,uT c s b n x' none none none),Z):=by
 obtain⟨x',e⟩:=V9 (s:=s) (b:=b) (n:=n) (Z:=Z) hc odd none λ_ h=>h;exact⟨x',e⟩
theorem Wz:[2,3,4,5,6,7,8,9].map (λs=>uS (uT c (nI s) b n x11 none none none) Z)=[2,3,4,5,6,7,8,9].map λs=>some (.int (nI s+1),Z):=by kernel_rfl
theorem ZJ(h1:2<=s)(h2:s<=9):uS (uT c s b n x11 none none none) Z=some (.int (s+1),Z):=by
 obtain⟨s,rfl⟩:∃s':Nat,s=s':=⟨s.toNat,by omega⟩;refine Aj (Wz (b:=b) (n:=n) (Z:=Z) (x11:=x11) (c:=c)) s ?_;have:s=2∨s=3∨s=4∨s=5∨s=6∨s=7∨s=8∨s=9:=by omega
 simpa using this
theorem uB1:dcs.map (λc=>uB BQ (AD 12) (mC (.int 0)) (uT c s b n x11 (some (.int y)) none none) Z)=dcs.map λc=>some ([De (kd c.1.1) s b c.2.1 0 9 0,.str "x",B8 (kd c.1.2) y 0 c.2.1 1 5,.bl false],Z):=by kernel_rfl
theorem uB2:dcs.map (λc=>uB BQ (AD 4) (AD 12) (uT c s b n x11 (some (.int y)) none none) Z)=dcs.map λc=>some ([De (kd c.1.1) s b c.2.1 0 9 0,.str "x",B8 (kd c.1.2) s y c.2.1 1 5,.bl false],Z):=by kernel_rfl
theorem W0:dcs.map (λc=>uF BQ r (uT c s b n x11 x12 x13 none) Z)=dcs.map λc=>r (uT c s b n x11 x12 x13 (some (B8 (kd c.1.2) s b (max 1 (c.2.1-1)) c.2.2 5))) Z:=by kernel_rfl
theorem W1:dcs.map (λc=>uE (uT c s b n x11 x12 x13 (some I)) Z)=dcs.map λc=>some ([De (kd c.1.1) s b c.2.1 0 9 0,.str "x",I,.bl (c.2.1==1)],Z):=by kernel_rfl
theorem ZK(h:Wo (kd c.1.1) s b)(w:WellAt Z n):∃y Z',uN CM (uT c s b n x11 x12 none none) Z=some (.int y,Z')/\0<=y/\y<s/\y≠b/\Upd n Z Z':=by
 obtain⟨_,h1,h2,h3,h4⟩:=h;obtain⟨q,w9,e,q0,q1,u⟩:=EJ (b:=s-1) w (by omega) (by omega);refine⟨(b+1+q) % s,w9,?_,Int.emod_nonneg _ (by omega),Int.emod_lt_of_pos _ (by omega),?_,u⟩
 ·exact OZ (OZ (x:=.int (b+1)) rfl (Ex (xs:=[.ref n,.int (s-1)]) rfl e) rfl) rfl (Se (by omega))
 ·by_cases g:b+1+q<s
  ·rw[Int.emod_eq_of_lt (by omega) g];omega
  ·have z:b+1+q=(b+1+q-s)+s:=by omega
   rw[z,Int.add_emod_right,Int.emod_eq_of_lt (by omega) (by omega)];omega
theorem YO:[0,1,2].map (λi=>AM ksD (.int (nI i)) Z)=[0,1,2].map λi=>some (.str (kd i),Z):=by kernel_rfl
theorem ZI(c:Q5)(hc:c∈dcs)(h:Wo (kd c.1.1) s b)(w:WellAt Z n):∃x' Z',uW BQ An CM (uT c s b n x11 x12 none none) Z=some ((.next,uT c s b n x11 x12 x' none),Z')/\(Z'=Z∨Upd n Z Z'):=by
 obtain⟨h1,h2⟩:=G3 hc;obtain⟨⟨i,j⟩,z⟩:=c;by_cases hi:i=0
 ·subst hi;exact⟨none,Z,rfl,.inl rfl⟩
 have hi3:i<3:=by
  have:ij6.all (λp=>decide (p.1<3))=true:=by decide
  simpa using List.all_eq_true.mp this _ h1
 obtain⟨q,w9,e,q0,q1,u⟩:=EJ (b:=(i:Int)) w (by omega) (by omega);obtain⟨q,rfl⟩:∃q':Nat,q=q':=⟨q.toNat,by omega⟩;refine⟨some (B8 (kd q) s b 3 1 5),w9,?_,.inr u⟩;have et:AS (mOp Hz (AD 2) (mC (.int 0))) (uT ((i,j),z) s b n x11 x12 none none) Z=some (true,Z):=by
  show some (decide ((0:Int)<(i:Int)),Z)=_;rw[AAO (by omega)]
 unfold uW;have e0:∀{m1 m2:BI},sIf (AS (mOp Hz (AD 2) (mC (.int 0)))) m1 m2 (uT ((i,j),z) s b n x11 x12 none none) Z=m1 (uT ((i,j),z) s b n x11 x12 none none) Z:=by
  intro m1 m2;unfold sIf;rw[AW et];rfl
 rw[e0];have kq:mOp AM (AD 8) (AG CM (AB (AD 0) (AB (AD 2) AI))) (uT ((i,j),z) s b n x11 x12 none none) Z=some (.str (kd q),w9):=
  OZ (x:=ksD) rfl (Ex (xs:=[.ref n,.int i]) rfl e) (Aj (YO (Z:=w9)) q (by simp only[AAJ,List.not_mem_nil,or_false];omega))
 have ei:=T1 (Z:=w9) (k:=kd q) (s:=s) (b:=b) (w:=5) (3,1) (by decide);have ea:AX (AG BQ (AB (mOp AM (AD 8) (AG CM (AB (AD 0) (AB (AD 2) AI)))) (AB (AD 4) (AB (AD 5) (AB (mC (.int 3)) (AB (mC (.int 1)) (AB (mC (.int 5)) AI))))))) (AK 13) (uT ((i,j),z) s b n x11 x12 none none) Z=some ((.next,uT ((i,j),z) s b n x11 x12 (some (B8 (kd q) s b 3 1 5)) none),w9):=Hc (Ex (Vq (xs:=[.int s,.int b,.int 3,.int 1,.int 5]) kq rfl) ei);rw[Af ea];refine DQ rfl (M6 (show (kd i,kd q)∈k3 from ?_) h (z.1,3,1) (gz h2).2.2.2.2);clear e ea kq ei et e0 u h w hc hi;have:(i=1/\q=0)∨(i=2/\q=0)∨(i=2/\q=1):=by omega
 rcases this with ⟨rfl,rfl⟩|⟨rfl,rfl⟩|⟨rfl,rfl⟩<;>decide
theorem Qp(c:Q5)(hc:c∈dcs)(h:Wo (kd c.1.1) s b)(w:WellAt Z n):∃Z',Bs [.ref n,drD c s b] Z=some (.bl true,Z')/\Upd n Z Z':=by
 obtain⟨h1,h2⟩:=G3 hc;obtain⟨hk,_,_⟩:=MI h1;obtain⟨z1,_,_,z4',_⟩:=gz h2;have hw:=h;obtain⟨_,s1,s2,b1,b2⟩:=hw;obtain⟨x11,e11⟩:=ZL (s:=s) (b:=b) (n:=n) (Z:=Z) (c:=c) h2;obtain⟨y,w9,ey,y0,y1,y2,u1⟩:=ZK (x11:=x11) (x12:=some (.int (s+1))) h w;obtain⟨x13,u9,ew,u2⟩:=ZI (x11:=x11) (x12:=some (.int y)) c hc h (u1.well w);have u:Upd n Z u9:=by
  rcases u2 with rfl|u2
  ·exact u1
  ·exact u1.trans u2
 refine⟨u9,?_,u⟩;unfold Bs;refine B2 (B:=uT c s b n x11 (some (.int y)) x13 (some (B8 (kd c.1.2) s b (max 1 (c.2.1-1)) c.2.2 5))) rfl ?_;rw[PL];refine(Aj (W2 (s:=s) (b:=b) (n:=n) (Z:=Z)) c hc).trans ?_;rw[Af (DQ rfl (Em hk h (c.2.1,0,c.2.2,0) z1)),Af e11];have es:AX uS (AK 12) (uT c s b n x11 none none none) Z=some ((.next,uT c s b n x11 (some (.int (s+1))) none none),Z):=Hc (ZJ s1 s2);rw[Af es,Af (DQ (Aj (uB1 (s:=s) (b:=b) (n:=n) (Z:=Z) (x11:=x11) (y:=s+1)) c hc) (M7 h (c.2.1,c.2.1,1) z4'))];have en:AX (uN CM) (AK 12) (uT c s b n x11 (some (.int (s+1))) none none) Z=some ((.next,uT c s b n x11 (some (.int y)) none none),w9):=Hc ey;rw[Af en,Af (DQ (Aj (uB2 (s:=s) (b:=b) (n:=n) (Z:=w9) (x11:=x11) (y:=y)) c hc) (Lr h y0 y1 y2 (c.2.1,c.2.1,1) z4')),Af ew];refine(Aj (W0 (s:=s) (b:=b) (n:=n) (Z:=u9) (x11:=x11) (x12:=some (.int y)) (x13:=x13)) c hc).trans ?_;refine F2 (Aj (W1 (s:=s) (b:=b) (n:=n) (Z:=u9) (x11:=x11) (x12:=some (.int y)) (x13:=x13)) c hc) ?_;obtain⟨⟨i,j⟩,rd,m⟩:=c;obtain⟨r1,_,r2⟩:=EK _ h2;have r3:m=1∨m=2∨m=3:=by have r2:(m=1∨m=2)∨m=3:=r2;omega
 rcases r1 with (r1|r1)|r1<;>(have r1:rd=_:=r1;subst r1)
 ·exact Em hk h (1,0,m,0) z1
 ·exact(J3 hk h m r3).1
 ·exact(J3 hk h m r3).2
end
noncomputable def lwB(f1 f2 f3 f4 f5 f6:List D->M D):BI:=(AO (AX (AG f1 (AB (AD 0) (AB (AD 1) AI))) (AK 2))
  (AO (AX (AG f2 (AB (AD 2) AI)) (AK 3))
  (AO (sIf (mOr (Ce (AS (AG f3 (AB (AD 2) (AB (AD 3) AI))))) (Ce (AS (AG f4 (AB (AD 3) AI))))) (Ao (mC (.bl false))) A6)
  (sIf (mOr (Ce (AS (AG f5 (AB (AD 2) (AB (AD 3) AI))))) (Ce (AS (AG f6 (AB (AD 2) (AB (AD 3) AI)))))) (Ao (mC (.bl false))) A6))))
noncomputable def lwE(f1 f2:List D->M D)(f3:List D->M Dx):BI:=(AO (AX (AG f1 (AB (mC (.str "safe")) (AB (mC (.int 2)) (AB (mC (.int 0)) (AB (mC (.int 1)) (AB (mC (.int 0)) (AB (mC (.int 400)) (AB (mC (.int 0)) AI)))))))) (AK 4))
  (AO (AX (AG A4 (AB (mC (.str "whole")) (AB (mC (.int 2)) (AB (mC (.int 0)) (AB (AG A4 AI) (AB (AG A4 (AB (AG A4 (AB (mC (.str "w")) (AB (mC (.int 0)) (AB (AG A4 AI) AI)))) (AB (AG A4 (AB (mC (.str "r")) (AB (mC (.int 0)) (AB (AG A4 (AB (AG A4 (AB (mC (.str "tell")) (AB (AG A4 (AB (mC (.str "num")) (AB (mC (.int 0)) AI))) AI))) AI)) AI)))) AI))) AI)))))) (AK 5))
  (AO (AX (AG f2 (AB (AD 4) (AB (mC (.str "x")) (AB (AD 5) AI)))) (AK 6))
  (AO (sIf (mOr (AS (mOp (GC false) (AD 6) (mC .non))) (AS (mOp BO (AD 6) (mC (.str "other"))))) (Ao (mC (.bl false))) A6)
  (Ao (Dy (mOp BO (mOp AM (AD 6) (mC (.int 3))) (AG A4 AI)) (Dy (mOp BO (A7 1 [] (BC (mOp AM (AD 6) (mC (.int 4)))) (AK 0) BH (mOp AM (AD 0) (mC (.int 1))) A0) (AG A0 (AB (mC (.int 400)) (AB (mC (.int 3)) AI)))) (mOp (GC false) (AG (vals f3) (AB (AD 6) AI)) (mC .non)))))))))
theorem YM:WU f1 f2 f3 f4 f5 f6 f7 f8 f9=AO (B3 (KB (AB (mOp Ah (mC (.int 1)) (AG VG (AB (mC (.int 5)) (AB (AG Ps (AB (mC (.int 0)) (AB (mOp Bq (AG Bc (AB (AD 0) AI)) (mC (.int 1))) AI))) AI)))) AI)) (AK 1) (lwB f1 f2 f3 f4 f5 f6)) (lwE f7 f8 f9):=rfl
section
variable{Z:Mh}{o:Option D}
theorem Vn:N8 (lwE Bk EG AT [o,x1,x2,x3,none,none,none] Z)=true:=by kernel_rfl
theorem Oc(h1:ra B Z=some (xs,Z))(h2:f xs Z=some (.bl true,Z')):Ce (AS (AG f ra)) B Z=some (false,Z'):=by
 have e:AS (AG f ra) B Z=some (true,Z'):=by
  unfold AS;rw[AW (Ex h1 h2)];rfl
 unfold Ce;rw[AW e];rfl
theorem Ya(h1:i<=j)(h2:j<3):(i,j)∈ij6:=by
 have:(i=0/\j=0)∨(i=0/\j=1)∨(i=0/\j=2)∨(i=1/\j=1)∨(i=1/\j=2)∨(i=2/\j=2):=by omega
 rcases this with ⟨rfl,rfl⟩|⟨rfl,rfl⟩|⟨rfl,rfl⟩|⟨rfl,rfl⟩|⟨rfl,rfl⟩|⟨rfl,rfl⟩<;>decide
theorem XM(h1:1<=r)(h2:r<=3)(h3:1<=m)(h4:m<=3):(r,m)∈rm9:=by
 refine List.mem_flatMap.mpr ⟨r,?_,AAL.mpr ⟨m,?_,rfl⟩⟩
 ·simp only[AAJ,List.not_mem_nil,or_false];omega
 ·simp only[AAJ,List.not_mem_nil,or_false];omega
theorem aR{cs:List Int}{k:Nat}(hk:k<1000){x2 x3:Option D}:∃y2 y3 Z',lwB Gy Fs Bs CI DE Cg [some (.scr cs),some (.int k),x2,x3,none,none,none] Z=some ((.next,[some (.scr cs),some (.int k),y2,y3,none,none,none]),Z'):=by
 obtain⟨w9,e1,w1⟩:=Wu (Z:=Z) (cs:=cs) hk;obtain⟨u9,u2,i,j,s,b,r,m,e2,h1,h2,h3,h4,h5,h6,h7,h8,h9,h10,h11⟩:=T4 w1;obtain⟨i,rfl⟩:∃i':Nat,i=i':=⟨i.toNat,by omega⟩;obtain⟨j,rfl⟩:∃i':Nat,j=i':=⟨j.toNat,by omega⟩;obtain⟨r,rfl⟩:∃i':Nat,r=i':=⟨r.toNat,by omega⟩;obtain⟨m,rfl⟩:∃i':Nat,m=i':=⟨m.toNat,by omega⟩;have hij:=Ya (i:=i) (j:=j) (by omega) (by omega);have hc:((i,j),r,m)∈dcs:=List.mem_flatMap.mpr ⟨(i,j),hij,AAL.mpr ⟨(r,m),XM (by omega) (by omega) (by omega) (by omega),rfl⟩⟩;have wo:Wo (kd ((i,j),r,m).1.1) s b:=⟨(MI hij).2.1,h4,h5,h6,h7⟩;have w2:=u2.well w1;obtain⟨j6,e3,u3⟩:=Qp _ hc wo w2;have w3:=u3.well w2;have e4:=Wv (Z:=j6) _ hc wo;obtain⟨m8,e5,u5⟩:=T5 _ hc wo w3;obtain⟨n8,e6,u6⟩:=PK _ hc wo (u5.well w3);refine⟨some (.ref Z.length),some (drD ((i,j),r,m) s b),n8,?_⟩;unfold lwB;rw[Af (Hc (Ex (xs:=[.scr cs,.int k]) rfl e1)),Af (Hc (Ex (xs:=[.ref Z.length]) rfl e2))];have t1:∀{m1:BI},sIf (mOr (Ce (AS (AG Bs (AB (AD 2) (AB (AD 3) AI))))) (Ce (AS (AG CI (AB (AD 3) AI))))) m1 A6 [some (.scr cs),some (.int k),some (.ref Z.length),some (drD ((i,j),r,m) s b),none,none,none] u9=some ((.next,[some (.scr cs),some (.int k),some (.ref Z.length),some (drD ((i,j),r,m) s b),none,none,none]),j6):=
  (Na ((L0 (Oc rfl e3)).trans (Oc rfl e4))).trans rfl
 refine(Af t1).trans ?_;exact(Na ((L0 (Oc rfl e5)).trans (Oc rfl e6))).trans rfl
theorem math:∀cs:List Int,cs.length<=63->∃Z',MP [.scr cs] []=some (.bl true,Z'):=by
 intro cs hc
 suffices h:WP (MP [.scr cs]) [] λr _=>r=.bl true by
  obtain⟨r,Z',e,rfl⟩:=h;exact⟨Z',e⟩
 unfold MP;refine O9 rfl ?_;rw[YM];refine Qj (Ql (N3 ?_));wtm_at "c";refine CN (a:=.int cs.length) (Z':=[]) ?_ ?_
 ·show some (D.int (((cs.map D.int).length:Nat):Int),([]:Mh))=_;rw[AAG]
 wtm_at "c";refine CN (Z':=[]) rfl ?_;wtm_at "c";refine CN (Z':=[]) rfl ?_;wtm_at "c";generalize hj:(1+if (if (cs.length:Int)-1 > 0 then (cs.length:Int)-1 else 0)<5 then (if (cs.length:Int)-1 > 0 then (cs.length:Int)-1 else 0) else 5)=J;have hJ:0<=J/\J<=6:=by
  rw[←hj];generalize (cs.length:Int)-1=x;split<;>split<;>omega
 obtain⟨J,rfl⟩:∃j':Nat,J=j':=⟨J.toNat,by omega⟩;refine⟨J,rfl,by omega,?_⟩;refine Wp (I:=λ_ B _=>∃x1 x2 x3,B=[some (.scr cs),x1,x2,x3,none,none,none]) ?_ ?_ ⟨none,none,none,rfl⟩
 ·rintro k B Z hk ⟨x1,x2,x3,rfl⟩;obtain⟨y2,y3,Z',e⟩:=aR (Z:=Z) (cs:=cs) (k:=k) (by omega) (x2:=x2) (x3:=x3);refine LU (CN (a:=(.next,[some (.scr cs),some (.int k),y2,y3,none,none,none])) e ?_);exact IN ⟨_,_,_,rfl⟩
 ·rintro B Z ⟨x1,x2,x3,rfl⟩;obtain⟨B',Z',e⟩:=IT (Vn (Z:=Z) (o:=some (.scr cs)) (x1:=x1) (x2:=x2) (x3:=x3));exact LV (CN e rfl)
end
end K52
open PySem PySem.W PyProof.Rows
local macro_rules | `(tactic| wtm_at "b")=>`(tactic| (refine' Mi.ao ?qa ?ql ?qc ?qk;(case qa=>k_is);(case ql=>k_is);(case qc=>k_is);(case qk=>k_is)))
local macro_rules | `(tactic| wtm_at "q")=>`(tactic| (refine' Mi.aq ?qa ?qb ?qc ?qd ?qe ?qf;(case qa=>k_is);(case qb=>k_is);(case qc=>k_is);(case qd=>k_is);(case qe=>k_is)))
local macro_rules | `(tactic| wtm_at "t")=>`(tactic| (refine' Mi.al ?qa ?qb ?qc ?qd ?qe ?qf ?qg ?qyh;(case qa=>k_is);(case qb=>k_is);(case qc=>k_is);(case qd=>k_is);(case qe=>k_is);(case qf=>k_is);(case qg=>k_is);(case qyh=>k_is)))
local macro_rules | `(tactic| wtm_at "p")=>`(tactic| (refine' Mi.ai ?qa ?qb ?qc ?qd ?qe ?qf ?qg ?qyh ?qyi ?qj;(case qa=>k_is);(case qb=>k_is);(case qc=>k_is);(case qd=>k_is);(case qe=>k_is);(case qf=>k_is);(case qg=>k_is);(case qyh=>k_is);(case qyi=>k_is);(case qj=>k_is)))
local macro_rules | `(tactic| wtm_at "h")=>`(tactic| (refine' Mi.ZM ?pl ?pe;(case pl=>k_is);(case pe=>rfl)))
set_option maxRecDepth 100000 in
set_option maxHeartbeats 0 in
theorem PySem.Challenge.cw_strongboxes_k52_not_one_upon_another_holds : PySem.Challenge.rw_strongboxes_k52_not_one_upon_another.Holds := by
 w_on;o_law;k_head;(case hw=>w_witness2)
 k_fill
 refine Mi.ZG (k:=17) (l:=PySem.Challenge.rw_strongboxes_k52_not_one_upon_another) rfl rfl (by decide) (λw h Y_=>PySem.W.kIn_of Y_) ?F
 case F=>
  intro w mg fa h KX G hmg;refine' K52.all_mk K52.math ⟨KX,G,?e0,?e1,?e2,?e3,?e4,?e5,?e6,?e7,?e8,?e9,?e10,?e11,?e12,?e13,?e14,?e15,?e16,?e17,?e18,?e19,?e20,?e21,?e22,?e23,?e24,?e25,?e26,?e27,?e28,?e29,?e30,?e31,?e32,?e33,?e34,?e35,?e36,?e37,?e38,?e39,?e40,?e41,?e42,?e43,?e44,?e45,?e46,?e47,?e48,?e49,?e50,?x0,?x1,?x2,?x3,?x4,?x5,?x6,?x7,?x8,?x9,?x10,?x11,?x12,?x13,?x14,?x15,?x16,?x17,?x18,?x19,(PySem.W.mg_none_of KX G ?z0),(PySem.W.mg_none_of KX G ?z1),(PySem.W.mg_none_of KX G ?z2),(PySem.W.mg_none_of KX G ?z3),(PySem.W.mg_none_of KX G ?z4),(PySem.W.mg_none_of KX G ?z5),(PySem.W.mg_none_of KX G ?z6),(PySem.W.mg_none_of KX G ?z7),(PySem.W.mg_none_of KX G ?z8),(PySem.W.mg_none_of KX G ?z9),(PySem.W.mg_none_of KX G ?z10),(PySem.W.mg_none_of KX G ?z11),(PySem.W.mg_none_of KX G ?z12),(PySem.W.mg_none_of KX G ?z13),(PySem.W.mg_none_of KX G ?z14),(PySem.W.mg_none_of KX G ?z15),(PySem.W.mg_none_of KX G ?z16),?gk0,?gk1,?gk2,?gk3,?gk4,?gk5,?gk6,?gk7,?gk8,?gk9,?gk10,?gk11,?gk12,?gk13,?gk14⟩ hmg
  (case e0=>wtm_at "b")
  (case e1=>wtm_at "b")
  (case e2=>wtm_at "b")
  (case e3=>wtm_at "b")
  (case e4=>wtm_at "b")
  (case e5=>wtm_at "b")
  (case e6=>wtm_at "b")
  (case e7=>wtm_at "b")
  (case e8=>wtm_at "b")
  (case e9=>wtm_at "b")
  (case e10=>wtm_at "b")
  (case e11=>wtm_at "b")
  (case e12=>wtm_at "t")
  (case e13=>wtm_at "b")
  (case e14=>wtm_at "p")
  (case e15=>wtm_at "p")
  (case e16=>wtm_at "b")
  (case e17=>wtm_at "b")
  (case e18=>wtm_at "b")
  (case e19=>wtm_at "b")
  (case e20=>wtm_at "b")
  (case e21=>wtm_at "b")
  (case e22=>wtm_at "b")
  (case e23=>wtm_at "b")
  (case e24=>wtm_at "b")
  (case e25=>wtm_at "b")
  (case e26=>wtm_at "b")
  (case e27=>wtm_at "b")
  (case e28=>wtm_at "b")
  (case e29=>wtm_at "b")
  (case e30=>wtm_at "b")
  (case e31=>wtm_at "b")
  (case e32=>wtm_at "b")
  (case e33=>wtm_at "b")
  (case e34=>wtm_at "b")
  (case e35=>wtm_at "b")
  (case e36=>wtm_at "b")
  (case e37=>wtm_at "b")
  (case e38=>wtm_at "b")
  (case e39=>wtm_at "b")
  (case e40=>wtm_at "b")
  (case e41=>wtm_at "b")
  (case e42=>wtm_at "b")
  (case e43=>wtm_at "b")
  (case e44=>wtm_at "b")
  (case e45=>wtm_at "b")
  (case e46=>wtm_at "b")
  (case e47=>wtm_at "b")
  (case e48=>wtm_at "b")
  (case e49=>wtm_at "b")
  (case e50=>wtm_at "q";exact⟨by k_is,by k_is,trivial⟩)
  (case x0=>refine' Xc.cls_mk ?qa;(case qa=>k_is))
  (case x1=>refine' Xc.cls_mk ?qa;(case qa=>k_is))
  (case x2=>refine' Xc.cls_mk ?qa;(case qa=>k_is))
  (case x3=>refine' Xc.cls_mk ?qa;(case qa=>k_is))
  (case x4=>refine' Xc.cls_mk ?qa;(case qa=>k_is))
  (case x5=>refine' Xc.cls_mk ?qa;(case qa=>k_is))
  (case x6=>refine' Xc.cls_mk ?qa;(case qa=>k_is))
  (case x7=>refine' Xc.cls_mk ?qa;(case qa=>k_is))
  (case x8=>refine' Xc.cls_mk ?qa;(case qa=>k_is))
  (case x9=>refine' Xc.ec_mk ?qa ?qb;(case qa=>k_is);(case qb=>k_exc))
  (case x10=>refine' Xc.ec_mk ?qa ?qb;(case qa=>k_is);(case qb=>k_exc))
  (case x11=>refine' Xc.cd_mk ?qa ?qb ?qc ?qd;(case qa=>k_is);(case qb=>k_is);(case qc=>k_is);(case qd=>k_is))
  (case x12=>refine' Xc.cd_mk ?qa ?qb ?qc ?qd;(case qa=>k_is);(case qb=>k_is);(case qc=>k_is);(case qd=>k_is))
  (case x13=>refine' Xc.cd_mk ?qa ?qb ?qc ?qd;(case qa=>k_is);(case qb=>k_is);(case qc=>k_is);(case qd=>k_is))
  (case x14=>refine' Xc.kp_mk ?qa ?qb;(case qa=>k_is);(case qb=>k_is))
  (case x15=>refine' Xc.bl_mk ?qa ?qb ?qc;(case qa=>k_is);(case qb=>k_is);(case qc=>k_is))
  (case x16=>refine' Xc.bl_mk ?qa ?qb ?qc;(case qa=>k_is);(case qb=>k_is);(case qc=>k_is))
  (case x17=>refine' Xc.tbT_mk ?qa ?ql ?qf ?qk;(case qa=>k_is);(case ql=>refine' Xc.NsV.cons ?v ?r;(case v=>k_is);(case r=>refine' Xc.NsV.cons ?v ?r;(case v=>k_is);(case r=>refine' Xc.NsV.cons ?v ?r;(case v=>k_is);(case r=>refine' Xc.NsV.cons ?v ?r;(case v=>k_is);(case r=>refine' Xc.NsV.cons ?v ?r;(case v=>k_is);(case r=>refine' Xc.NsV.cons ?v ?r;(case v=>k_is);(case r=>refine' Xc.NsV.cons ?v ?r;(case v=>k_is);(case r=>exact Xc.NsV.nil))))))));(case qf=>refine' Xc.ea_mk ?u1 ?u2 ?u3 ?u4 ?u5 ?u6 ?u7 ?u8;(case u1=>k_is);(case u2=>k_is);(case u3=>k_is);(case u4=>k_is);(case u5=>k_is);(case u6=>k_is);(case u7=>k_is);(case u8=>k_is));(case qk=>kit_is))
  (case x18=>refine' Xc.tbT_mk ?qa ?ql ?qf ?qk;(case qa=>k_is);(case ql=>refine' Xc.NsV.cons ?v ?r;(case v=>k_is);(case r=>exact Xc.NsV.nil));(case qf=>refine' Xc.ea_mk ?u1 ?u2 ?u3 ?u4 ?u5 ?u6 ?u7 ?u8;(case u1=>k_is);(case u2=>k_is);(case u3=>k_is);(case u4=>k_is);(case u5=>k_is);(case u6=>k_is);(case u7=>k_is);(case u8=>k_is));(case qk=>kit_is))
  (case x19=>refine' Xc.tb_mk ?qa ?qf ?qk;(case qa=>k_is);(case qf=>refine' Xc.ea_mk ?u1 ?u2 ?u3 ?u4 ?u5 ?u6 ?u7 ?u8;(case u1=>k_is);(case u2=>k_is);(case u3=>k_is);(case u4=>k_is);(case u5=>k_is);(case u6=>k_is);(case u7=>k_is);(case u8=>k_is));(case qk=>kit_is))
  (case z0=>k_is)
  (case z1=>k_is)
  (case z2=>k_is)
  (case z3=>k_is)
  (case z4=>k_is)
  (case z5=>k_is)
  (case z6=>k_is)
  (case z7=>k_is)
  (case z8=>k_is)
  (case z9=>k_is)
  (case z10=>k_is)
  (case z11=>k_is)
  (case z12=>k_is)
  (case z13=>k_is)
  (case z14=>k_is)
  (case z15=>k_is)
  (case z16=>k_is)
  (case gk0=>refine' Mi.Dg KX G ?qa;(case qa=>k_is))
  (case gk1=>refine' Mi.Dg KX G ?qa;(case qa=>k_is))
  (case gk2=>refine' Mi.LC KX G ?qa ?ql ?qyh;(case qa=>k_is);(case ql=>wtm_at "h");(case qyh=>decide))
  (case gk3=>refine' Mi.Dg KX G ?qa;(case qa=>k_is))
  (case gk4=>refine' Mi.Dg KX G ?qa;(case qa=>k_is))
  (case gk5=>refine' Mi.Vb KX G ?qa;(case qa=>k_is))
  (case gk6=>refine' Mi.Dg KX G ?qa;(case qa=>k_is))
  (case gk7=>refine' Mi.Dg KX G ?qa;(case qa=>k_is))
  (case gk8=>refine' Mi.Dg KX G ?qa;(case qa=>k_is))
  (case gk9=>refine' Mi.Dg KX G ?qa;(case qa=>k_is))
  (case gk10=>refine' Mi.Dg KX G ?qa;(case qa=>k_is))
  (case gk11=>refine' Mi.LC KX G ?qa ?ql ?qyh;(case qa=>k_is);(case ql=>wtm_at "h");(case qyh=>decide))
  (case gk12=>refine' Mi.LC KX G ?qa ?ql ?qyh;(case qa=>k_is);(case ql=>wtm_at "h");(case qyh=>decide))
  (case gk13=>refine' Mi.VP KX G ?qa ?ql ?qk ?qs ?qT;(case qa=>k_is);(case ql=>k_is);(case qk=>exact⟨⟨_,_,rfl,rfl⟩,⟨⟨_,_,rfl,rfl⟩,⟨⟨_,_,rfl,rfl⟩,⟨⟨_,_,rfl,rfl⟩,⟨⟨_,_,rfl,rfl⟩,⟨⟨_,_,rfl,rfl⟩,⟨⟨_,_,rfl,rfl⟩,trivial⟩⟩⟩⟩⟩⟩⟩);(case qs=>rfl);(case qT=>refine' ⟨_,_,_,_,_,rfl,rfl,rfl,?qt,?qu,?_⟩;(case qt=>wtm_at "h");(case qu=>decide);refine' ⟨_,_,_,_,_,rfl,rfl,rfl,?qt,?qu,?_⟩;(case qt=>wtm_at "h");(case qu=>decide);refine' ⟨_,_,_,_,_,rfl,rfl,rfl,?qt,?qu,?_⟩;(case qt=>wtm_at "h");(case qu=>decide);refine' ⟨_,_,_,_,_,rfl,rfl,rfl,?qt,?qu,?_⟩;(case qt=>wtm_at "h");(case qu=>decide);refine' ⟨_,_,_,_,_,rfl,rfl,rfl,?qt,?qu,?_⟩;(case qt=>wtm_at "h");(case qu=>decide);refine' ⟨_,_,_,_,_,rfl,rfl,rfl,?qt,?qu,?_⟩;(case qt=>wtm_at "h");(case qu=>decide);refine' ⟨_,_,_,_,_,rfl,rfl,rfl,?qt,?qu,?_⟩;(case qt=>wtm_at "h");(case qu=>decide);rfl))
  (case gk14=>refine' Mi.Va KX G ?qa ?ql ?qe ?qyh;(case qa=>k_is);(case ql=>k_is);(case qe=>rfl);(case qyh=>decide))
